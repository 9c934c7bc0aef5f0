import Derived.Test.YtgeedgljabdllaaRows
import Derived.WalkKit
import Derived.ProofKit
import Derived.OpenShut
import Derived.Below
import Derived.Lib.Hide
import Derived.OwnWalk
import Derived.Laws.OwnMore
import Derived.Deep.AppendLies
import Derived.Deep.Onto
import Derived.Deep.QuietTactic
import Derived.BigQuiet
namespace Go.Proofs.Ytgeedgljabdllaa
open Go.ChangeShapes Go.WideShapes Go.ChangeAt Go.RowKit

def inr (n lo hi : Int) : Bool := decide (lo ≤ n ∧ n ≤ hi)
def nth (xs : List Int) (k : Nat) : Int := xs.getD k 0

theorem inr_t {n lo hi : Int} (h : inr n lo hi = true) : lo ≤ n ∧ n ≤ hi := by simpa [inr] using h
theorem inr_f {n lo hi : Int} (h : inr n lo hi = false) : ¬ (lo ≤ n ∧ n ≤ hi) := by simpa [inr] using h

def Rd (w : World) (B : Nat) (A : Option Addr) (n : Nat) (xs : List Int) : Prop :=
  xs.length = n ∧ (0 < n → ∃ b off, A = some ⟨b, off, none⟩ ∧ b < B ∧ ∀ k, k < n → w.cell? ⟨b, off + k, none⟩ = some (.int .i64 (nth xs k)))

theorem Rd.at_ {w : World} {B : Nat} {A : Option Addr} {n : Nat} {xs : List Int} (h : Rd w B A n xs) {k : Nat} (hk : k < n) :
    ∃ b off, A = some ⟨b, off, none⟩ ∧ b < B ∧ w.cell? ⟨b, off + k, none⟩ = some (.int .i64 (nth xs k)) := by
  obtain ⟨b, off, e, hb, hc⟩ := h.2 (by omega)
  exact ⟨b, off, e, hb, hc k hk⟩

theorem int_info : (Try.prog.info? 3).map (fun i => (i.zero, i.size, i.bytes)) = some (some (.int .i64 0), 1, 8) := by kernel_rfl

def vals (xs : List Int) : List Value := xs.map (Value.int .i64)
theorem vals_length (xs : List Int) : (vals xs).length = xs.length := by simp [vals]
theorem vals_get {xs : List Int} {k : Nat} (h : k < xs.length) : (vals xs)[k]? = some (.int .i64 (nth xs k)) := by
  simp [vals, nth, h, List.getD_eq_getElem?_getD]
theorem ext_nth {xs ys : List Int} (hl : xs.length = ys.length) (h : ∀ k, k < xs.length → nth xs k = nth ys k) : xs = ys := by
  apply List.ext_getElem hl
  intro i h1 h2
  have := h i h1
  simpa [nth, List.getD_eq_getElem?_getD, h1, h2] using this

/-- the call's own slice of ints. -/
def Ow (w : World) (lo : Nat) (A : Option Addr) (n c : Nat) (xs : List Int) : Prop := w.ownsRow lo 3 1 (.slice A n c) n (vals xs)

section
variable {w w' : World} {lo : Nat} {A : Option Addr} {n c : Nat} {xs : List Int}
theorem Ow.len (h : Ow w lo A n c xs) : xs.length = n := by have := h.1; simpa [vals] using this
theorem Ow.form (h : Ow w lo A n c xs) (hn : 0 < n) : ∃ g, A = some ⟨g, 0, none⟩ ∧ lo ≤ g ∧ g < w.heap.size := by
  obtain ⟨g, cap, hv, h1, h2⟩ := World.ownsRow.form h hn
  injection hv with hA
  exact ⟨g, hA, h1, h2⟩
theorem Ow.rd (h : Ow w lo A n c xs) : Rd w w.heap.size A n xs := by
  refine ⟨h.len, fun hn => ?_⟩
  obtain ⟨g, rfl, hlo, hg⟩ := h.form hn
  refine ⟨g, 0, rfl, hg, fun k hk => ?_⟩
  have := World.ownsRow.cellAt h k (by omega)
  rw [Nat.zero_add, this]
  exact vals_get (by rw [h.len]; exact hk)
theorem Ow.below (h : Ow w lo A n c xs) (hb : Below w.heap.size w w') : Ow w' lo A n c xs :=
  World.ownsRow.kept h (row := none) ⟨hb.os, hb.tape, hb.output, hb.size, fun k hk _ => hb.block k hk⟩ (by
    cases e : (Value.slice A n c).ownBlock
    · exact .inl rfl
    · exact .inr (by simp))
theorem Ow.mono (h : Ow w lo A n c xs) {lo' : Nat} (hl : lo' ≤ lo) : Ow w lo' A n c xs := World.ownsRow.mono h hl
theorem Rd.below {B : Nat} (h : Rd w B A n xs) (hb : Below B w w') : Rd w' B A n xs :=
  ⟨h.1, fun hn => by
    obtain ⟨b, off, e, hlt, hc⟩ := h.2 hn
    exact ⟨b, off, e, hlt, fun k hk => (hb.cell (p := ⟨b, off + k, none⟩) hlt).trans (hc k hk)⟩⟩
theorem Rd.more {B B' : Nat} (h : Rd w B A n xs) (hB : B ≤ B') : Rd w B' A n xs :=
  ⟨h.1, fun hn => by
    obtain ⟨b, off, e, hlt, hc⟩ := h.2 hn
    exact ⟨b, off, e, by omega, hc⟩⟩
end

theorem below_drewN {B : Nat} {a w : World} (h : Below B a w) (n : Nat) : Below B a (w.drewN n) := ⟨h.os, h.tape, h.output, h.size, h.block⟩
/-- the first k of xs, then 0s, n in all. -/
def part (xs : List Int) (k n : Nat) : List Int := (List.range n).map fun j => if j < k then nth xs j else 0
theorem part_length (xs : List Int) (k n : Nat) : (part xs k n).length = n := by simp [part]
theorem part_zero (xs : List Int) (n : Nat) : vals (part xs 0 n) = List.replicate n (.int .i64 0) := by
  apply List.ext_getElem <;> simp [vals, part]
theorem part_nth (xs : List Int) (k n j : Nat) (h : j < n) : nth (part xs k n) j = if j < k then nth xs j else 0 := by
  simp [nth, part, List.getD_eq_getElem?_getD, h]
theorem part_all (xs : List Int) : part xs xs.length xs.length = xs := by
  apply ext_nth (part_length _ _ _)
  intro k hk
  rw [part_length] at hk
  rw [part_nth _ _ _ _ hk, if_pos hk]
theorem part_set (xs : List Int) (k n : Nat) : (vals (part xs k n)).set k (.int .i64 (nth xs k)) = vals (part xs (k + 1) n) := by
  apply List.ext_getElem
  · simp [vals, part]
  · intro i h1 h2
    simp only [vals, part, List.map_map, List.getElem_set, List.getElem_map, List.getElem_range, Function.comp]
    by_cases e : k = i
    · subst e; simp
    · rw [if_neg e]
      by_cases h : i < k
      · rw [if_pos h, if_pos (by omega)]
      · rw [if_neg h, if_neg (by omega)]

/-- whether two lists of ints are equal: what the walk returns. -/
def same (xs ys : List Int) : Bool := decide (xs = ys)
theorem same_t {xs ys : List Int} {n : Nat} (hx : xs.length = n) (hy : ys.length = n) (h : ∀ k, k < n → nth xs k = nth ys k) : same xs ys = true := by
  subst hx
  simp [same, ext_nth hy.symm h]
theorem same_f {xs ys : List Int} {k : Nat} (h : nth xs k ≠ nth ys k) : same xs ys = false := by
  simp only [same, decide_eq_false_iff_not]; rintro rfl; exact h rfl
theorem same_len {xs ys : List Int} (h : xs.length ≠ ys.length) : same xs ys = false := by
  simp only [same, decide_eq_false_iff_not]; rintro rfl; exact h rfl
theorem same_refl (xs : List Int) : same xs xs = true := by simp [same]
def eqTo (xs ys : List Int) (k : Nat) : Prop := ∀ j, j < k → nth xs j = nth ys j
theorem eqTo_zero {xs ys : List Int} : eqTo xs ys 0 := fun j hj => by omega
theorem eqTo_succ {xs ys : List Int} {k : Nat} (h : eqTo xs ys k) (e : nth xs k = nth ys k) : eqTo xs ys (k + 1) := fun j hj => by
  by_cases he : j = k
  · subst he; exact e
  · exact h j (by omega)

/-- m, m + 1 .. in the first k places, then xs as it was. -/
def marked (xs : List Int) (m : Int) (k n : Nat) : List Int := (List.range n).map fun (j : Nat) => if j < k then m + (j : Int) else nth xs j
theorem marked_length (xs : List Int) (m : Int) (k n : Nat) : (marked xs m k n).length = n := by simp [marked]
theorem marked_nth (xs : List Int) (m : Int) (k n j : Nat) (h : j < n) : nth (marked xs m k n) j = if j < k then m + (j : Int) else nth xs j := by
  simp [nth, marked, List.getD_eq_getElem?_getD, h]
theorem marked_zero (xs : List Int) (m : Int) : marked xs m 0 xs.length = xs := by
  apply ext_nth (marked_length _ _ _ _)
  intro k hk
  rw [marked_length] at hk
  rw [marked_nth _ _ _ _ _ hk, if_neg (by omega)]
theorem marked_set (xs : List Int) (m : Int) (k n : Nat) : (vals (marked xs m k n)).set k (.int .i64 (m + (k : Int))) = vals (marked xs m (k + 1) n) := by
  apply List.ext_getElem
  · simp [vals, marked]
  · intro i h1 h2
    simp only [vals, marked, List.map_map, List.getElem_set, List.getElem_map, List.getElem_range, Function.comp]
    by_cases e : k = i
    · subst e; simp
    · rw [if_neg e]
      by_cases h : i < k
      · rw [if_pos h, if_pos (by omega)]
      · rw [if_neg h, if_neg (by omega)]

/-- m, m + 1 .. -/
def seqI (m : Int) (n : Nat) : List Int := (List.range n).map fun (j : Nat) => m + (j : Int)
theorem seqI_length (m : Int) (n : Nat) : (seqI m n).length = n := by simp [seqI]
theorem seqI_nth {m : Int} {n k : Nat} (h : k < n) : nth (seqI m n) k = m + k := by simp [nth, seqI, List.getD_eq_getElem?_getD, h]
theorem marked_all (xs : List Int) (m : Int) (n : Nat) : marked xs m n n = seqI m n := by
  apply ext_nth (by rw [marked_length, seqI_length])
  intro k hk
  rw [marked_length] at hk
  rw [marked_nth _ _ _ _ _ hk, if_pos hk, seqI_nth hk]

/-- a slice of integers that came in: nil, or a row of 'cap' cells. -/
def IsRow (k : IntKind) (w : World) (a : Option Addr) (len cap : Nat) (zs : List Int) : Prop :=
  (a = none ∧ len = 0 ∧ cap = 0 ∧ zs = []) ∨
  ∃ x, a = some x ∧ len ≤ cap ∧ cap ≤ maxLen ∧ zs.length = cap ∧ (∀ i, i < zs.length → w.cell? (x.add i) = some (.int k (zs.getD i 0))) ∧ ∀ n ∈ zs, (Lit.int k n).wf = true

theorem cell_lt {w : World} {p : Addr} {v : Value} (h : w.cell? p = some v) : p.block < w.heap.size := by
  rcases Nat.lt_or_ge p.block w.heap.size with hlt | hge
  · exact hlt
  · unfold World.cell? at h
    rw [Array.getElem?_eq_none hge] at h
    simp at h

theorem rd_of_row {w : World} {a : Option Addr} {len cap : Nat} {zs : List Int} (h : IsRow .i64 w a len cap zs) : Rd w w.heap.size a len (zs.take len) := by
  rcases h with ⟨rfl, rfl, rfl, rfl⟩ | ⟨x, rfl, hl, hm, hz, hcell, hwz⟩
  · exact ⟨rfl, fun h => absurd h (by omega)⟩
  · refine ⟨by rw [List.length_take, hz]; omega, fun hn => ?_⟩
    obtain ⟨b, off, spot⟩ := x
    have hc0 := hcell 0 (by omega)
    have hspot : spot = none := by simpa [Addr.add] using World.cell?_spot hc0
    subst hspot
    refine ⟨b, off, rfl, by simpa [Addr.add] using cell_lt hc0, fun k hk => ?_⟩
    have := hcell k (by omega)
    have e : (zs.take len).getD k 0 = zs.getD k 0 := by
      simp [List.getD_eq_getElem?_getD, hk]
    unfold nth
    rw [e, ← this]
    unfold Addr.add
    by_cases h0 : k = 0
    · subst h0; simp
    · simp [h0]
theorem wf_bounds {n : Int} (h : (Lit.int .i64 n).wf = true) : -9223372036854775808 ≤ n ∧ n ≤ 9223372036854775807 := by
  simp [Lit.wf, IntKind.min, IntKind.max, IntKind.bits, IntKind.signed] at h
  omega
/-- every element is an int of 64 bits. -/
def B64 (xs : List Int) : Prop := ∀ k, -9223372036854775808 ≤ nth xs k ∧ nth xs k ≤ 9223372036854775807
theorem b64_of {xs : List Int} {n : Nat} (hl : xs.length = n) (h : ∀ k, k < n → -9223372036854775808 ≤ nth xs k ∧ nth xs k ≤ 9223372036854775807) : B64 xs := fun k => by
  by_cases hk : k < n
  · exact h k hk
  · have : nth xs k = 0 := by simp [nth, List.getD_eq_getElem?_getD, List.getElem?_eq_none (by omega : xs.length ≤ k)]
    rw [this]; omega
theorem row_b64 {w : World} {a : Option Addr} {len cap : Nat} {zs : List Int} (h : IsRow .i64 w a len cap zs) : B64 (zs.take len) := by
  refine b64_of rfl fun k hk => ?_
  rcases h with ⟨rfl, rfl, rfl, rfl⟩ | ⟨x, rfl, hl, hm, hz, hcell, hwz⟩
  · simp at hk
  · rw [List.length_take] at hk
    have e : nth (zs.take len) k = zs[k]'(by omega) := by simp [nth, List.getD_eq_getElem?_getD, show k < len by omega, show k < zs.length by omega]
    rw [e]
    exact wf_bounds (hwz _ (List.getElem_mem _))
theorem Rd.alloc {w : World} {B : Nat} {A : Option Addr} {n : Nat} {xs : List Int} (h : Rd w B A n xs) (hB : B ≤ w.heap.size) (o : Obj) : Rd (w.alloc o) B A n xs := h.below ((Below.refl _ _).alloc hB o)
/-- behind a call: the cells of a block that was laid just ahead of it. -/
theorem box_cell {w w1 : World} {cs : Array Value} {t : TypeId} (hb : Below (w.alloc (.cells cs t)).heap.size (w.alloc (.cells cs t)) w1) (i : Nat) : w1.cell? ⟨w.heap.size, i, none⟩ = cs[i]? := by
  rw [hb.cell (p := ⟨w.heap.size, i, none⟩) (by simp)]
  exact cell_of_row _ _ i cs t (0, 0) (heap_alloc_new w _)
theorem box_below {w w1 : World} {o : Obj} (hb : Below (w.alloc o).heap.size (w.alloc o) w1) : Below w.heap.size w w1 :=
  ((Below.refl _ _).alloc (Nat.le_refl _) _).trans (hb.mono (by simp))
/-- g 0, g 1 .. g (k - 1). -/
def mapTo (g : Nat → Int) (k : Nat) : List Int := (List.range k).map g
theorem mapTo_length (g : Nat → Int) (k : Nat) : (mapTo g k).length = k := by simp [mapTo]
theorem mapTo_succ (g : Nat → Int) (k : Nat) : mapTo g (k + 1) = mapTo g k ++ [g k] := by simp [mapTo, List.range_succ]
theorem mapTo_nth {g : Nat → Int} {k n : Nat} (h : k < n) : nth (mapTo g n) k = g k := by simp [nth, mapTo, List.getD_eq_getElem?_getD, h]
/-- the post of a call that hands back a slice of its own that reads xs. -/
def RetSl (w : World) (xs : List Int) (e : Ending) (w' : World) : Prop := ∃ A c, e = .returned (.slice A xs.length c) ∧ Ow w' w.heap.size A xs.length c xs ∧ Below w.heap.size w w'
theorem retSl_mk {w w' : World} {A : Option Addr} {n c : Nat} {xs : List Int} (h : Ow w' w.heap.size A n c xs) (hb : Below w.heap.size w w') : RetSl w xs (.returned (.slice A n c)) w' := by
  obtain rfl := h.len
  exact ⟨A, c, rfl, h, hb⟩
theorem part_all' {xs : List Int} {n : Nat} (h : xs.length = n) : part xs n n = xs := by subst h; exact part_all xs
theorem step {w wi wj : World} (h : Below w.heap.size w wi) (hb : Below wi.heap.size wi wj) : Below w.heap.size w wj := h.trans (hb.mono h.size)
theorem below_own {w w' : World} {A : Option Addr} {n c B : Nat} (hg : w.grownBy w' (Value.slice A n c).ownBlock) (hA : ∀ g, (Value.slice A n c).ownBlock = some g → B ≤ g) (hB : B ≤ w.heap.size) : Below B w w' :=
  (Below.refl B w).grown hg hB hA
theorem Ow.own_lo {w : World} {lo : Nat} {A : Option Addr} {n c : Nat} {xs : List Int} (h : Ow w lo A n c xs) : ∀ g, (Value.slice A n c).ownBlock = some g → lo ≤ g := fun g hg => (World.ownsRow.lt h g hg).1

/-- a slice value of the call's own that reads xs. -/
def OwV (w : World) (lo : Nat) (v : Value) (xs : List Int) : Prop := ∃ A c, v = .slice A xs.length c ∧ Ow w lo A xs.length c xs
theorem Ow.nil_ (w : World) (lo : Nat) : Ow w lo none 0 0 [] := World.ownsRow_nil w lo _ _
theorem Ow.made0 (w : World) (lo : Nat) (h : lo ≤ w.heap.size) : Ow (w.alloc (.cells #[] 3)) lo (some ⟨w.heap.size, 0, none⟩) 0 0 [] := World.ownsRow_made w #[] 0 h (by simp [maxLen]) rfl
theorem vals_append (xs : List Int) (v : Int) : vals (xs ++ [v]) = vals xs ++ [.int .i64 v] := by simp [vals]

theorem made_part {w1 : World} {lo g n : Nat} (xs : List Int) (h : w1.ownsRow lo 3 1 (.slice (some ⟨g, 0, none⟩) n n) n (madeCells (Value.int .i64 0).cells (n * 1)).toList) : Ow w1 lo (some ⟨g, 0, none⟩) n n (part xs 0 n) := by
  have h' := h
  rw [Nat.mul_one] at h'
  unfold Ow
  rw [part_zero, ← toList_madeCells_one]
  exact h'
theorem made_below {w w1 : World} {B : Nat} (hg : w.grownBy w1 none) (hB : B ≤ w.heap.size) : Below B w w1 := (Below.refl _ _).grown hg hB (fun k hk => by cases hk)
theorem Ow.stored {w : World} {lo g n c : Nat} {xs : List Int} (h : Ow w lo (some ⟨g, 0, none⟩) n c xs) (k : Nat) (v : Int) : w.ownsRow lo 3 1 (.slice (some ⟨g, 0, none⟩) n c) n (vals xs) ∧ (w.setCell ⟨g, k, none⟩ (.int .i64 v)).ownsRow lo 3 1 (.slice (some ⟨g, 0, none⟩) n c) n ((vals xs).set k (.int .i64 v)) :=
  ⟨h, (World.ownsRow.stored h k (.int .i64 v)).1⟩
theorem Ow.cell {w : World} {lo g n c : Nat} {xs : List Int} (h : Ow w lo (some ⟨g, 0, none⟩) n c xs) {k : Nat} (hk : k < n) : w.cell? ⟨g, k, none⟩ = some (.int .i64 (nth xs k)) ∧ w.frozen? ⟨g, k, none⟩ = false := by
  refine ⟨?_, World.ownsRow.frozenAt h k⟩
  rw [World.ownsRow.cellAt h k (by omega), vals_get (by rw [h.len]; exact hk)]
/-- 'out = append(out, v)', out the call's own: the walk goes on with a slice that owns one element more. -/
theorem push_int {w : World} {ops : Array Oper} {rest : List Oper} {o : Oper} {a : Act} {Q : Exit → Act → World → Prop} (hgd : o.guard = none) (s x : Operand)
    (ho : o.op = .call { callee := .builtin .append, args := #[s, x], argTypes := #[28, 28] })
    (lo : Nat) (A : Option Addr) (n c : Nat) (xs : List Int) (v : Int) (hs : a.eval s = .slice A n c) (hx : a.eval x = .slice (some ⟨w.heap.size, 0, none⟩) 1 1) (hown : Ow w lo A n c xs) (hn : n ≤ 1099511627776) (hlo : lo ≤ w.heap.size)
    (h : ∀ A' c' w', Ow w' lo A' (n + 1) c' (xs ++ [v]) → (w.alloc (.cells #[.int .i64 v] 3)).grownBy w' (Value.slice A n c).ownBlock → wpList Try.prog ops Q rest (a.put o.dst (.slice A' (n + 1) c')) w') :
    wpList Try.prog ops Q (o :: rest) a (w.alloc (.cells #[.int .i64 v] 3)) := by
  obtain ⟨i0, hi, hz0, hz1, hz2⟩ := info_parts int_info
  refine wpList_append_own (P := Try.prog) _ hgd s x 28 ho lo 3 i0 (.int .i64 0) 1 8 Try.underlying28 hi hz0 hz1 hz2 rfl (by decide) _ n (vals xs) hs (World.ownsRow.alloc hown _) ⟨w.heap.size, 0, none⟩ 1 1 [.int .i64 v] hx rfl ?_ ?_ (by simp only [maxLen]; omega) (by omega) (by simp; omega) ?_
  · intro j u hj
    match j, hj with
    | 0, hj =>
      simp at hj
      subst hj
      simp [Addr.add]
  · intro u hu
    simp at hu
    subst hu
    rfl
  · intro v' w' h2 h3 _
    obtain ⟨g, cap, hv, _, _⟩ := World.ownsRow.form h2 (by omega)
    subst hv
    exact h _ _ _ (by unfold Ow; rw [vals_append]; exact h2) h3
theorem step_push_int {W : World} {ops : Array Oper} {o : Oper} {a : Act} {K : Act → World → Prop} {Q : Exit → Act → World → Prop} {E : Prop} (hgd : o.guard = none) (s x : Operand)
    (ho : o.op = .call { callee := .builtin .append, args := #[s, x], argTypes := #[28, 28] })
    (lo : Nat) (A : Option Addr) (n c : Nat) (xs : List Int) (v : Int) (hs : a.eval s = .slice A n c) (hx : a.eval x = .slice (some ⟨W.heap.size, 0, none⟩) 1 1) (hown : Ow W lo A n c xs) (hn : n ≤ 1099511627776) (hlo : lo ≤ W.heap.size)
    (h : ∀ A' c' w', Ow w' lo A' (n + 1) c' (xs ++ [v]) → (W.alloc (.cells #[.int .i64 v] 3)).grownBy w' (Value.slice A n c).ownBlock → K (a.put o.dst (.slice A' (n + 1) c')) w') :
    if Region.wanted o (yielded ops a.tmps) = true then Oper.wp Try.prog o a (W.alloc (.cells #[.int .i64 v] 3)).drew K Q else E := by
  obtain ⟨i0, hi, hz0, hz1, hz2⟩ := info_parts int_info
  refine step_append_lies (P := Try.prog) _ hgd s x 28 ho lo 3 i0 (.int .i64 0) 1 8 Try.underlying28 hi hz0 hz1 hz2 rfl (by decide) _ n (vals xs) hs (World.ownsRow.drew (World.ownsRow.alloc hown _)) ⟨W.heap.size, 0, none⟩ 1 1 [.int .i64 v] hx rfl (World.news_of_block (cs := #[.int .i64 v]) (t := 3) (fr := (0, 0)) (heap_alloc_new W _)) (by simp [Value.oneCell']) (by omega) (by simp only [maxLen]; omega) (by omega) (by simp; omega) (W.heap.size + 1) (by simp) ?_
  intro g cap w' h2 h3 _ _
  exact h _ _ _ (by unfold Ow; rw [vals_append]; exact h2) ⟨h3.os, h3.tape, h3.output, h3.size, h3.block⟩
theorem push_below {B : Nat} {w0 w w' : World} {lo : Nat} {A : Option Addr} {n c : Nat} {xs : List Int} {o : Obj} (hb : Below B w0 w) (hown : Ow w lo A n c xs) (hlo : B ≤ lo) (hB : B ≤ w.heap.size) (hg : (w.alloc o).grownBy w' (Value.slice A n c).ownBlock) : Below B w0 w' :=
  (hb.alloc hB o).grown hg (by simp; omega) (fun k hk => Nat.le_trans hlo (hown.own_lo k hk))

theorem Ow.own_hi {w : World} {lo : Nat} {A : Option Addr} {n c : Nat} {xs : List Int} (h : Ow w lo A n c xs) : ∀ g, (Value.slice A n c).ownBlock = some g → g < w.heap.size := fun g hg => (World.ownsRow.lt h g hg).2
theorem Ow.kept {w w' : World} {lo : Nat} {A A' : Option Addr} {n c n' c' : Nat} {xs : List Int} (h : Ow w lo A n c xs) (hg : w.grownBy w' (Value.slice A' n' c').ownBlock) (hlt : ∀ g, (Value.slice A' n' c').ownBlock = some g → g < lo) : Ow w' lo A n c xs := by
  refine World.ownsRow.kept h hg ?_
  cases e : (Value.slice A n c).ownBlock with
  | none => exact .inl rfl
  | some g =>
    refine .inr fun he => ?_
    have h1 := h.own_lo g e
    have h2 := hlt g he.symm
    omega

set_option maxRecDepth 20000 in
/-- 'out = append(out, ys...)', out the call's own, ys not nil. -/
theorem push_some {w : World} {ops : Array Oper} {rest : List Oper} {o : Oper} {a : Act} {Q : Exit → Act → World → Prop} (hgd : o.guard = none) (s x : Operand)
    (ho : o.op = .call { callee := .builtin .append, args := #[s, x], argTypes := #[28, 28] })
    (lo : Nat) (A : Option Addr) (n c : Nat) (xs : List Int) (b off m c' B : Nat) (ys : List Int) (hs : a.eval s = .slice A n c) (hx : a.eval x = .slice (some ⟨b, off, none⟩) m c') (hown : Ow w lo A n c xs) (hr : Rd w B (some ⟨b, off, none⟩) m ys)
    (hn : n ≤ 1099511627776) (hm : m ≤ 1099511627776) (hlo : lo ≤ w.heap.size)
    (h : ∀ A' c' w', Ow w' lo A' (n + m) c' (xs ++ ys) → w.grownBy w' (Value.slice A n c).ownBlock → wpList Try.prog ops Q rest (a.put o.dst (.slice A' (n + m) c')) w') :
    wpList Try.prog ops Q (o :: rest) a w := by
  obtain ⟨i0, hi, hz0, hz1, hz2⟩ := info_parts int_info
  refine wpList_append_own (P := Try.prog) _ hgd s x 28 ho lo 3 i0 (.int .i64 0) 1 8 Try.underlying28 hi hz0 hz1 hz2 rfl (by decide) _ n (vals xs) hs hown ⟨b, off, none⟩ m c' (vals ys) hx (by rw [vals_length, hr.1]; omega) ?_ ?_ (by simp only [maxLen]; omega) (by omega) hlo ?_
  · intro j u hj
    have hjl : j < ys.length := Nat.lt_of_lt_of_eq (List.getElem?_eq_some_iff.1 hj).1 (vals_length ys)
    rw [vals_get hjl] at hj
    injection hj with hj
    subst hj
    have hjm : j < m := by rw [← hr.1]; exact hjl
    obtain ⟨b', off', he, _, hc⟩ := hr.at_ hjm
    cases he
    rw [← hc]
    unfold Addr.add
    by_cases h0 : j = 0
    · subst h0; simp
    · simp [h0]
  · intro u hu
    simp only [vals, List.mem_map] at hu
    obtain ⟨y, _, rfl⟩ := hu
    rfl
  · intro v' w' h2 h3 hnil
    have hform : ∃ A' cc, v' = .slice A' (n + m) cc := by
      rcases h2.2 with ⟨rfl, h0⟩ | ⟨g, cap, cur, hv, _⟩
      · exact ⟨none, 0, by rw [h0]⟩
      · exact ⟨_, _, hv⟩
    obtain ⟨A', cc, rfl⟩ := hform
    exact h _ _ _ (by unfold Ow; rw [show vals (xs ++ ys) = vals xs ++ vals ys by simp [vals]]; exact h2) h3
theorem vals_set (xs : List Int) (k : Nat) (v : Int) : (vals xs).set k (.int .i64 v) = vals (xs.set k v) := by simp [vals, List.map_set]
theorem nth_set {xs : List Int} {k j : Nat} {v : Int} (hk : k < xs.length) : nth (xs.set k v) j = if k = j then v else nth xs j := by
  simp only [nth, List.getD_eq_getElem?_getD, List.getElem?_set]
  by_cases e : k = j
  · subst e; simp [hk]
  · simp [e]
end Go.Proofs.Ytgeedgljabdllaa
