import Derived.Test.YtcjdjcpappfkgaaXAdj
import Derived.Test.YtcjdjcpappfkgaaXZero
import Derived.Test.YtcjdjcpappfkgaaBase
import Derived.Maps.AppendAt
import Derived.Deep.RegionHeld3
import Derived.Test.YtcjdjcpappfkgaaPow
import Derived.RegionTactic
import Derived.Laws.Rows
import Derived.Laws.Tables
namespace Go.Proofs.Ytcjdjcpappfkgaa
open Go.ChangeShapes Go.WideShapes Go.ChangeAt Go.RowKit

def sqFits (xs : List Int) (size : Int) : Bool := gv xs size && !clash xs size
def sqSolved (xs : List Int) (size : Int) : Bool := sqFits xs size && (gf xs size == size * size)

theorem cnz_full {xs : List Int} {n : Nat} : cnz xs n = n ↔ ∀ k, k < n → nth xs k ≠ 0 := by
  induction n with
  | zero => simp [cnz]
  | succ n ih =>
    have hle := cnz_le xs n
    constructor
    · intro h
      by_cases e : nth xs n = 0
      · rw [cnz_z e] at h; omega
      · rw [cnz_nz e] at h
        have h' := ih.1 (by omega)
        intro k hk
        by_cases ek : k = n
        · subst ek; exact e
        · exact h' k (by omega)
    · intro h
      rw [cnz_nz (h n (by omega)), ih.2 (fun k hk => h k (by omega))]
theorem solved_iff {xs : List Int} {size : Int} {n : Nat} (hl : xs.length = n) : sqSolved xs size = true ↔ gv xs size = true ∧ clash xs size = false ∧ ∀ k, k < n → nth xs k ≠ 0 := by
  subst hl
  unfold sqSolved sqFits
  simp only [Bool.and_eq_true, Bool.not_eq_true', beq_iff_eq]
  constructor
  · rintro ⟨⟨h1, h2⟩, h3⟩
    refine ⟨h1, h2, ?_⟩
    have := gv_len h1
    unfold gf at h3
    rw [if_pos h1] at h3
    exact cnz_full.1 (by omega)
  · rintro ⟨h1, h2, h3⟩
    refine ⟨⟨h1, h2⟩, ?_⟩
    have := gv_len h1
    unfold gf
    rw [if_pos h1, cnz_full.2 h3]
    omega

/-- in a line of s different values of 1..s every one of them stands. -/
def pigB2 (a b v : Nat) : Bool := (a == 0 || b == 0 || v == 0) || ((a == b) || (a == v || b == v))
theorem pig2 : ∀ a, a < 3 → ∀ b, b < 3 → ∀ v, v < 3 → pigB2 a b v = true := by decide +kernel
def pigB3 (a b c v : Nat) : Bool := (a == 0 || b == 0 || c == 0 || v == 0) || ((a == b || a == c || b == c) || (a == v || b == v || c == v))
theorem pig3 : ∀ a, a < 4 → ∀ b, b < 4 → ∀ c, c < 4 → ∀ v, v < 4 → pigB3 a b c v = true := by decide +kernel
def pigB4 (a b c d v : Nat) : Bool := (a == 0 || b == 0 || c == 0 || d == 0 || v == 0) || ((a == b || a == c || a == d || b == c || b == d || c == d) || (a == v || b == v || c == v || d == v))
theorem pig4 : ∀ a, a < 5 → ∀ b, b < 5 → ∀ c, c < 5 → ∀ d, d < 5 → ∀ v, v < 5 → pigB4 a b c d v = true := by decide +kernel
theorem pig {f : Nat → Int} {s : Nat} (hs : s ∈ [2, 3, 4]) (hf : ∀ i, i < s → 1 ≤ f i ∧ f i ≤ s) (hd : dupTo f s = false) {v : Int} (v1 : 1 ≤ v) (v2 : v ≤ s) : hasTo f s v = true := by
  have hne : ∀ i j, i < j → j < s → f i ≠ f j := by
    intro i j hij hj he
    have : dupTo f s = true := dupTo_iff.2 ⟨i, j, hij, hj, he, by have := hf j hj; omega⟩
    rw [hd] at this; cases this
  have hT : ∀ i, i < s → ((f i).toNat : Int) = f i := fun i hi => Int.toNat_of_nonneg (by have := hf i hi; omega)
  simp at hs
  rw [hasTo_iff]
  rcases hs with rfl | rfl | rfl
  · have b0 := hf 0 (by omega); have b1 := hf 1 (by omega)
    have n01 := hne 0 1 (by omega) (by omega)
    have hp := pig2 (f 0).toNat (by omega) (f 1).toNat (by omega) v.toNat (by omega)
    simp only [pigB2, Bool.or_eq_true, beq_iff_eq] at hp
    have hp' : (f 0).toNat = v.toNat ∨ (f 1).toNat = v.toNat := by omega
    clear hp
    rcases hp' with h | h
    · exact ⟨0, by omega, by omega⟩
    · exact ⟨1, by omega, by omega⟩
  · have b0 := hf 0 (by omega); have b1 := hf 1 (by omega); have b2 := hf 2 (by omega)
    have n01 := hne 0 1 (by omega) (by omega); have n02 := hne 0 2 (by omega) (by omega); have n12 := hne 1 2 (by omega) (by omega)
    have hp := pig3 (f 0).toNat (by omega) (f 1).toNat (by omega) (f 2).toNat (by omega) v.toNat (by omega)
    simp only [pigB3, Bool.or_eq_true, beq_iff_eq] at hp
    have hp' : (f 0).toNat = v.toNat ∨ (f 1).toNat = v.toNat ∨ (f 2).toNat = v.toNat := by omega
    clear hp
    rcases hp' with h | h | h
    · exact ⟨0, by omega, by omega⟩
    · exact ⟨1, by omega, by omega⟩
    · exact ⟨2, by omega, by omega⟩
  · have b0 := hf 0 (by omega); have b1 := hf 1 (by omega); have b2 := hf 2 (by omega); have b3 := hf 3 (by omega)
    have n01 := hne 0 1 (by omega) (by omega); have n02 := hne 0 2 (by omega) (by omega); have n03 := hne 0 3 (by omega) (by omega)
    have n12 := hne 1 2 (by omega) (by omega); have n13 := hne 1 3 (by omega) (by omega); have n23 := hne 2 3 (by omega) (by omega)
    have hp := pig4 (f 0).toNat (by omega) (f 1).toNat (by omega) (f 2).toNat (by omega) (f 3).toNat (by omega) v.toNat (by omega)
    simp only [pigB4, Bool.or_eq_true, beq_iff_eq] at hp
    have hp' : (f 0).toNat = v.toNat ∨ (f 1).toNat = v.toNat ∨ (f 2).toNat = v.toNat ∨ (f 3).toNat = v.toNat := by omega
    clear hp
    rcases hp' with h | h | h | h
    · exact ⟨0, by omega, by omega⟩
    · exact ⟨1, by omega, by omega⟩
    · exact ⟨2, by omega, by omega⟩
    · exact ⟨3, by omega, by omega⟩

/-- xs comes before ys: at the first place where they differ its value is less. -/
def lexlt (n : Nat) (xs ys : List Int) : Prop := ∃ k, k < n ∧ (∀ j, j < k → nth xs j = nth ys j) ∧ nth xs k < nth ys k
theorem sols_prefix {size : Int} : ∀ (f : Nat) (xs : List Int) (p : Nat) (y : List Int), y ∈ sols size f xs p → p + f ≤ xs.length → ∀ k, k < p → nth y k = nth xs k := by
  intro f
  induction f with
  | zero => intro xs p y hy _ k _; simp [sols] at hy; subst hy; rfl
  | succ f ih =>
    intro xs p y hy hl
    refine solsFrom_all (P := fun y => ∀ k, k < p → nth y k = nth xs k) _ _ (fun u y _ _ hy k hk => ?_) y hy
    rw [ih _ _ _ hy (by rw [List.length_set]; omega) k (by omega), nth_set (by omega), if_neg (by omega)]
theorem sols_at {size : Int} {f : Nat} {xs : List Int} {p : Nat} {u : Int} {y : List Int} (hy : y ∈ sols size f (xs.set p u) (p + 1)) (hl : p + 1 + f ≤ xs.length) : nth y p = u := by
  rw [sols_prefix f _ _ y hy (by rw [List.length_set]; omega) p (by omega), nth_set (by omega), if_pos rfl]
theorem sols_sorted {size : Int} (n : Nat) : ∀ (f : Nat) (xs : List Int) (p : Nat), p + f = n → xs.length = n → List.Pairwise (lexlt n) (sols size f xs p) := by
  intro f
  induction f with
  | zero => intro xs p _ _; simp [sols]
  | succ f ih =>
    intro xs p hp hl
    simp only [sols]
    have key : ∀ (r v : Nat), List.Pairwise (lexlt n) (solsFrom (fun ys => sols size f ys (p + 1)) xs size p r v) := by
      intro r
      induction r with
      | zero => intro v; simp [solsFrom]
      | succ r ihr =>
        intro v
        simp only [solsFrom]
        rw [List.pairwise_append]
        refine ⟨?_, ihr (v + 1), ?_⟩
        · split
          · exact List.Pairwise.nil
          · exact ih _ _ (by omega) (by rw [List.length_set]; exact hl)
        · intro a ha b hb
          have ha' : a ∈ sols size f (xs.set p (v : Int)) (p + 1) := by
            split at ha
            · simp at ha
            · exact ha
          refine solsFrom_all (P := fun b => lexlt n a b) _ _ (fun u b h1 _ hb => ?_) b hb
          refine ⟨p, by omega, fun j hj => ?_, ?_⟩
          · rw [sols_prefix f _ _ a ha' (by rw [List.length_set]; omega) j (by omega), sols_prefix f _ _ b hb (by rw [List.length_set]; omega) j (by omega), nth_set (by omega), nth_set (by omega), if_neg (by omega), if_neg (by omega)]
          · rw [sols_at ha' (by omega), sols_at hb (by omega)]
            omega
    exact key _ _
theorem sols_clash {size : Int} : ∀ (f : Nat) (xs : List Int) (p : Nat) (y : List Int), y ∈ sols size (f + 1) xs p → clash y size = false := by
  intro f
  induction f with
  | zero =>
    intro xs p y hy
    simp only [sols] at hy
    have key : ∀ (r v : Nat), y ∈ solsFrom (fun ys => [ys]) xs size p r v → clash y size = false := by
      intro r
      induction r with
      | zero => intro v h; simp [solsFrom] at h
      | succ r ihr =>
        intro v h
        simp only [solsFrom, List.mem_append] at h
        rcases h with h | h
        · by_cases hc : clash (xs.set p (v : Int)) size = true
          · rw [if_pos hc] at h; simp at h
          · rw [if_neg hc] at h
            simp at h
            subst h
            simpa using hc
        · exact ihr _ h
    exact key _ _ hy
  | succ f ih =>
    intro xs p y hy
    rw [sols] at hy
    exact solsFrom_all (P := fun y => clash y size = false) _ _ (fun u y _ _ hy => ih _ _ _ hy) y hy
theorem sols_pos {size : Int} : ∀ (f : Nat) (xs : List Int) (p : Nat) (y : List Int), y ∈ sols size f xs p → p + f ≤ xs.length → (∀ k, k < p → 1 ≤ nth xs k) → ∀ k, k < p + f → 1 ≤ nth y k := by
  intro f
  induction f with
  | zero => intro xs p y hy _ h k hk; simp [sols] at hy; subst hy; exact h k (by omega)
  | succ f ih =>
    intro xs p y hy hl h
    refine solsFrom_all (P := fun y => ∀ k, k < p + (f + 1) → 1 ≤ nth y k) _ _ (fun u y h1 _ hy k hk => ?_) y hy
    refine ih _ _ _ hy (by rw [List.length_set]; omega) (fun j hj => ?_) k (by omega)
    rw [nth_set (by omega)]
    split
    · omega
    · exact h j (by omega)
theorem sols_solved {size : Int} {n : Nat} (h2 : 2 ≤ size) (h4 : size ≤ 4) (hn : (n : Int) = size * size) {y : List Int} (hy : y ∈ sols size n (zeros n) 0) : y.length = n ∧ sqSolved y size = true := by
  have hl : y.length = n := by rw [sols_length size _ _ _ _ hy, zeros_length]
  obtain ⟨q4, q16⟩ := sq_bd h2 h4
  obtain ⟨m, rfl⟩ : ∃ m, n = m + 1 := ⟨n - 1, by omega⟩
  refine ⟨hl, (solved_iff hl).2 ⟨?_, sols_clash m _ _ _ hy, fun k hk => ?_⟩⟩
  · exact okAll_gv hl hn h2 h4 (sols_ok (by omega) _ _ _ _ (okAll_zeros (by omega) _) _ hy)
  · have := sols_pos _ _ _ _ hy (by rw [zeros_length]; omega) (fun k hk => absurd hk (by omega)) k (by omega)
    omega
end Go.Proofs.Ytcjdjcpappfkgaa
namespace Go.Proofs.Ytcjdjcpappfkgaa
open Go.ChangeShapes Go.WideShapes Go.ChangeAt Go.RowKit

/-- push_int, and where the new slice lies: where the old one lay, or in a block of its own. -/
theorem push_int_at {w : World} {ops : Array Oper} {rest : List Oper} {o : Oper} {a : Act} {Q : Exit → Act → World → Prop} (hgd : o.guard = none) (s x : Operand)
    (ho : o.op = .call { callee := .builtin .append, args := #[s, x], argTypes := #[22, 22] })
    (lo : Nat) (A : Option Addr) (n c : Nat) (xs : List Int) (v : Int) (hs : a.eval s = .slice A n c) (hx : a.eval x = .slice (some ⟨w.heap.size, 0, none⟩) 1 1) (hown : Ow w lo A n c xs) (hn : n ≤ 1099511627776) (hlo : lo ≤ w.heap.size)
    (h : ∀ A' c' w', Ow w' lo A' (n + 1) c' (xs ++ [v]) → (w.alloc (.cells #[.int .i64 v] 3)).grownBy w' (Value.slice A n c).ownBlock → (∀ g, (Value.slice A' (n + 1) c').ownBlock = some g → (Value.slice A n c).ownBlock = some g ∨ w.heap.size < g) → wpList Try.prog ops Q rest (a.put o.dst (.slice A' (n + 1) c')) w') :
    wpList Try.prog ops Q (o :: rest) a (w.alloc (.cells #[.int .i64 v] 3)) := by
  obtain ⟨i0, hi, hz0, hz1, hz2⟩ := info_parts int_info
  refine Go.wpList_append_own_at (P := Try.prog) _ hgd s x 22 ho lo 3 i0 (.int .i64 0) 1 8 Try.underlying22 hi hz0 hz1 hz2 rfl (by decide) _ n (vals xs) hs (World.ownsRow.alloc hown _) ⟨w.heap.size, 0, none⟩ 1 1 [.int .i64 v] hx rfl ?_ ?_ (by simp only [maxLen]; omega) (by omega) (by simp; omega) ?_
  · intro j u hj
    match j, hj with
    | 0, hj =>
      simp at hj
      subst hj
      simp [Addr.add]
  · intro u hu
    simp at hu
    subst hu
    rfl
  · intro v' w' h2 h3 _ h5
    obtain ⟨g, cap, hv, _, _⟩ := World.ownsRow.form h2 (by omega)
    subst hv
    refine h _ _ _ (by unfold Ow; rw [vals_append]; exact h2) h3 (fun g' hg' => ?_)
    rcases h5 with h5 | h5
    · left; rw [← h5]; exact hg'
    · right
      rw [h5] at hg'
      simp at hg'
      omega
theorem Ow.kept_ne {w w' : World} {lo : Nat} {A A' : Option Addr} {n c n' c' : Nat} {xs : List Int} (h : Ow w lo A n c xs) (hg : w.grownBy w' (Value.slice A' n' c').ownBlock) (hne : ∀ g, (Value.slice A n c).ownBlock = some g → (Value.slice A' n' c').ownBlock ≠ some g) : Ow w' lo A n c xs := by
  refine World.ownsRow.kept h hg ?_
  cases e : (Value.slice A n c).ownBlock with
  | none => exact .inl rfl
  | some g => exact .inr (fun he => hne g e he.symm)
end Go.Proofs.Ytcjdjcpappfkgaa
namespace Go.Proofs.Ytcjdjcpappfkgaa
open Go.ChangeShapes Go.WideShapes Go.ChangeAt Go.RowKit

theorem gv_okAll {xs : List Int} {size : Int} {n : Nat} (hg : gv xs size = true) (hl : xs.length = n) : okAll xs size n := fun k hk => gv_nth hg (by rw [hl]; exact hk)

def sqOfG (size : Int) (k : Nat) : Int := ((k : Int) / size + (k : Int)) % size + 1
def sqOfL (size : Int) : List Int := if inr size 2 4 = true then mapTo (sqOfG size) (size * size).toNat else []

def missTo (has : Int → Bool) : Nat → List Int
  | 0 => []
  | v + 1 => missTo has v ++ (if has ((v : Int) + 1) = true then [] else [(v : Int) + 1])
def missL (xs : List Int) (size line : Int) : List Int := if (gv xs size && lineOk size line) = true then missTo (hasTo (lineV xs size line) size.toNat) size.toNat else []
theorem missTo_length (has : Int → Bool) (v : Nat) : (missTo has v).length ≤ v := by
  induction v with
  | zero => simp [missTo]
  | succ v ih => simp only [missTo, List.length_append]; split <;> simp <;> omega
theorem missL_length (xs : List Int) (size line : Int) : (missL xs size line).length ≤ 4 := by
  unfold missL
  split
  · next h =>
    simp only [Bool.and_eq_true] at h
    have := gv_size h.1
    have := missTo_length (hasTo (lineV xs size line) size.toNat) size.toNat
    omega
  · simp
end Go.Proofs.Ytcjdjcpappfkgaa
namespace Go.Proofs.Ytcjdjcpappfkgaa
open Go.ChangeShapes Go.WideShapes Go.ChangeAt Go.RowKit

/-- a whole array read at an operation that is guarded, and wanted. -/
theorem wpList_load_row_w {P : Program} {ops : Array Oper} {rest : List Oper} {o : Oper} {a : Act} {w : World} {Q : Exit → Act → World → Prop} (hw : Region.wanted o (yielded ops a.tmps) = true) (ty : TypeId) (x : Operand) (ho : o.op = .load ty x)
    (g : Nat) (hx : a.eval x = .pointer (some ⟨g, 0, none⟩)) (t : TypeId) (cs : Array Value) (fr : Nat × Nat) (d : TypeDesc) (hg : w.heap[g]? = some (.cells cs t fr))
    (hu : P.underlying ty = some d) (hd : (match d with | .struct _ | .array _ _ => true | _ => false) = true) (hi : (P.info? ty).map (·.size) = some cs.size)
    (h : wpList P ops Q rest (a.put o.dst (.agg cs)) w) : wpList P ops Q (o :: rest) a w :=
  wpList_step fun K hK => by simp only [hw, if_true]; exact wp_load_row ty x ho g hx t cs fr d hg hu hd hi (hK _ _ h)
/-- the cells of the program's masks, one a line, and its size. -/
def mcells (M : Nat → Nat) (s : Int) : Array Value := #[.int .i64 (M 0), .int .i64 (M 1), .int .i64 (M 2), .int .i64 (M 3), .int .i64 (M 4), .int .i64 (M 5), .int .i64 (M 6), .int .i64 (M 7), .int .i64 s]
theorem mcells_size (M : Nat → Nat) (s : Int) : (mcells M s).size = 9 := rfl
theorem mcell_at (M : Nat → Nat) (s : Int) {l : Nat} (hl : l < 8) : (mcells M s)[l]? = some (.int .i64 (M l)) := by
  have : l = 0 ∨ l = 1 ∨ l = 2 ∨ l = 3 ∨ l = 4 ∨ l = 5 ∨ l = 6 ∨ l = 7 := by omega
  rcases this with rfl | rfl | rfl | rfl | rfl | rfl | rfl | rfl <;> rfl
theorem mbox_cell (M : Nat → Nat) (s : Int) (w : World) {l : Nat} (hl : l < 8) : (w.alloc (.cells (mcells M s) 63)).cell? ⟨w.heap.size, l, none⟩ = some (.int .i64 (M l)) :=
  (cell_of_row _ _ l _ _ (0, 0) (heap_alloc_new w _)).trans (mcell_at M s hl)
theorem mbox_size (M : Nat → Nat) (s : Int) (w : World) : (w.alloc (.cells (mcells M s) 63)).cell? ⟨w.heap.size, 8, none⟩ = some (.int .i64 s) :=
  (cell_of_row _ _ 8 _ _ (0, 0) (heap_alloc_new w _)).trans rfl
theorem linesThrough_any (s cell : Int) (w : World) (h2 : 2 ≤ s) (h4 : s ≤ 4) (c0 : 0 ≤ cell) (c1 : cell < 16) :
    Calls Try.prog 66 #[.int .i64 s, .int .i64 cell] w fun e w' => e = .returned (.tuple #[.int .i64 (cell / s), .int .i64 (s + cell % s)]) ∧ Below w.heap.size w w' := by
  have q0 : 0 ≤ cell / s := Int.ediv_nonneg c0 (by omega)
  have q1 : cell / s ≤ cell := Int.ediv_le_self _ c0
  have r0 : 0 ≤ cell % s := Int.emod_nonneg _ (by omega)
  have r1 : cell % s < s := Int.emod_lt_of_pos _ (by omega)
  have e1 : cell.tmod s = cell % s := Int.tmod_eq_emod_of_nonneg c0
  have e2 : cell.tdiv s = cell / s := Int.tdiv_eq_ediv_of_nonneg c0
  have e3 : IntKind.i64.wrap (cell / s) = cell / s := IntWalk.i64_in _ (by omega)
  have e4 : IntKind.i64.wrap (s + cell % s) = s + cell % s := IntWalk.i64_in _ (by omega)
  have hz : (s == 0) = false := by simp; omega
  go_enter Try.func66, Try.ntmps66
  go_wp2
  go_quiet (fail)
  go_wp2
  go_ret2
  exact ⟨rfl, below_drewN (Below.refl _ _) _⟩

theorem or_pow (a v : Nat) (ha : a < 32) (hv : v ≤ 4) : bits .or .i64 (a : Int) (wrap64 (2 ^ v)) = ((a ||| 2 ^ v : Nat) : Int) := by
  have hlt : 2 ^ v < 2 ^ 5 := Nat.pow_lt_pow_right (by omega) (by omega)
  rw [pow_int]
  generalize 2 ^ v = p at *
  rw [IntWalk.wrap64_in _ ⟨by omega, by omega⟩, i64_or_nat _ _ (by omega) (by omega)]
theorem or_lt (a v : Nat) (ha : a < 32) (hv : v ≤ 4) : a ||| 2 ^ v < 32 :=
  Nat.or_lt_two_pow (n := 5) ha (Nat.pow_lt_pow_right (by omega) (by omega))
theorem has_any (M : Nat → Nat) (s : Int) (l v : Nat) (w : World) (hl : l < 8) (v4 : v ≤ 4) (hm : M l < 32) :
    Calls Try.prog 67 #[.agg (mcells M s), .int .i64 l, .int .i64 v] w fun e w' => e = .returned (.bool ((M l).testBit v)) ∧ Below w.heap.size w w' := by
  have hc := mbox_cell M s w hl
  have hl8 : (l : Int) < 8 := by omega
  have ha := Lib.hid (and_pow (M l) v hm v4)
  go_enter Try.func67, Try.ntmps67
  go_wp2
  go_quiet (fail)
  go_wp2
  go_ret
  exact ⟨by rw [← ha.out]; rfl, below_drewN ((Below.refl _ _).alloc (Nat.le_refl _) _) _⟩

def mput (M : Nat → Nat) (l v : Nat) : Nat → Nat := fun j => if j = l then M j ||| 2 ^ v else M j
theorem mput_lt {M : Nat → Nat} {l v : Nat} (hm : ∀ l, l < 8 → M l < 32) (hv : v ≤ 4) : ∀ j, j < 8 → mput M l v j < 32 := fun j hj => by
  unfold mput
  split
  · exact or_lt _ _ (hm j hj) hv
  · exact hm j hj
theorem mcells_set (M : Nat → Nat) (s : Int) {l v : Nat} (hl : l < 8) : (mcells M s).setIfInBounds l (.int .i64 ((M l ||| 2 ^ v : Nat) : Int)) = mcells (mput M l v) s := by
  have : l = 0 ∨ l = 1 ∨ l = 2 ∨ l = 3 ∨ l = 4 ∨ l = 5 ∨ l = 6 ∨ l = 7 := by omega
  rcases this with rfl | rfl | rfl | rfl | rfl | rfl | rfl | rfl <;> rfl
/-- the masks lie in block g. -/
def MBox (w : World) (g : Nat) (M : Nat → Nat) (s : Int) : Prop := w.heap[g]? = some (.cells (mcells M s) 63)
theorem MBox.cell {w : World} {g : Nat} {M : Nat → Nat} {s : Int} (h : MBox w g M s) {l : Nat} (hl : l < 8) : w.cell? ⟨g, l, none⟩ = some (.int .i64 (M l)) :=
  (cell_of_row _ _ l _ _ (0, 0) h).trans (mcell_at M s hl)
theorem MBox.size_ {w : World} {g : Nat} {M : Nat → Nat} {s : Int} (h : MBox w g M s) : w.cell? ⟨g, 8, none⟩ = some (.int .i64 s) :=
  (cell_of_row _ _ 8 _ _ (0, 0) h).trans rfl
theorem MBox.frozen {w : World} {g : Nat} {M : Nat → Nat} {s : Int} (h : MBox w g M s) (l : Nat) : w.frozen? ⟨g, l, none⟩ = false := by
  unfold World.frozen?
  rw [show w.heap[g]? = _ from h]
  simp
theorem MBox.set {w : World} {g : Nat} {M : Nat → Nat} {s : Int} (h : MBox w g M s) {l v : Nat} (hl : l < 8) : MBox (w.setCell ⟨g, l, none⟩ (.int .i64 ((M l ||| 2 ^ v : Nat) : Int))) g (mput M l v) s := by
  unfold MBox
  rw [heap_setCell_same w g l _ _ _ h, ← mcells_set M s hl]
theorem MBox.below {w w' : World} {g B : Nat} {M : Nat → Nat} {s : Int} (h : MBox w g M s) (hg : g < B) (hb : Below B w w') : MBox w' g M s := (hb.block g hg).trans h
theorem MBox.other {w : World} {g g' k : Nat} {v : Value} {M : Nat → Nat} {s : Int} (h : MBox w g M s) (hne : g ≠ g') : MBox (w.setCell ⟨g', k, none⟩ v) g M s := (heap_setCell_other w _ g v hne).trans h
theorem MBox.stored {w : World} {g : Nat} {M M' : Nat → Nat} {s s' : Int} (h : MBox w g M s) : MBox (w.setRow g (mcells M' s')) g M' s' := setRow_heap w g _ _ _ _ h
theorem setRow_below {B g : Nat} {w w' : World} {cs : Array Value} (h : Below B w w') (hg : B ≤ g) : Below B w (w'.setRow g cs) :=
  h.trans ⟨rfl, rfl, rfl, by simp, fun k hk => by unfold World.setRow; simp only [Array.getElem?_modify]; rw [if_neg (by omega)]⟩
theorem mone (M : Nat → Nat) (s : Int) : (mcells M s).all (·.oneCell') = true := by simp [mcells, Value.oneCell']
theorem linesThrough_rc (s : Int) (cell r c : Nat) (w : World) (h2 : 2 ≤ s) (h4 : s ≤ 4) (c1 : cell < 16) (hr : (cell : Int) / s = (r : Int)) (hc : s + (cell : Int) % s = (c : Int)) :
    Calls Try.prog 66 #[.int .i64 s, .int .i64 cell] w fun e w' => e = .returned (.tuple #[.int .i64 r, .int .i64 c]) ∧ Below w.heap.size w w' := by
  rw [← hr, ← hc]
  exact linesThrough_any s cell w h2 h4 (by omega) (by omega)
theorem with_any (M : Nat → Nat) (s : Int) (cell r c v : Nat) (w : World) (h2 : 2 ≤ s) (h4 : s ≤ 4) (hr : (cell : Int) / s = (r : Int)) (hc : s + (cell : Int) % s = (c : Int)) (r8 : r < 8) (c8 : c < 8) (c2 : cell < 16) (v4 : v ≤ 4) (hm : ∀ l, l < 8 → M l < 32) :
    Calls Try.prog 61 #[.agg (mcells M s), .int .i64 cell, .int .i64 v] w fun e w' => e = .returned (.agg (mcells (mput (mput M r v) c v) s)) ∧ Below w.heap.size w w' := by
  have hg0 : ∀ o, ((w.alloc (.cells (mcells M s) 63)).alloc o).heap[w.heap.size]? = some (.cells (mcells M s) 63) := fun o => by rw [heap_alloc_old _ _ (by simp)]; exact heap_alloc_new w _
  have hz0 : ∀ u : World, MBox (u.alloc (.cells #[.int .i64 0, .int .i64 0, .int .i64 0, .int .i64 0, .int .i64 0, .int .i64 0, .int .i64 0, .int .i64 0, .int .i64 0] 63)) u.heap.size (fun _ => 0) 0 := fun u => heap_alloc_new u _
  have Hz0 := Lib.hid hz0; clear hz0
  have hi9 : (Try.prog.info? 63).map (·.size) = some (mcells M s).size := by rw [mcells_size]; kernel_rfl
  have Hg0 := Lib.hid hg0; clear hg0
  have Hi9 := Lib.hid hi9; clear hi9
  have Hr := Lib.hid hr; clear hr
  have Hc := Lib.hid hc; clear hc
  go_enter Try.func61, Try.ntmps61
  have hs8 : ∀ o, ((w.alloc (.cells (mcells M s) 63)).alloc o).cell? ⟨w.heap.size, 8, none⟩ = some (.int .i64 s) := fun o => MBox.size_ (Hg0.out o)
  go_wp2_with (go_at_call 66; refine (linesThrough_rc s cell r c _ h2 h4 c2 Hr.out Hc.out).mono ?_; rintro e w1 ⟨rfl, hb1⟩)
  have hx1 : MBox w1 w.heap.size M s := MBox.below (Hg0.out _) (by simp; omega) hb1
  have hy1 : MBox w1 (w.heap.size + 1) (fun _ => 0) 0 := MBox.below (by have := Hz0.out (w.alloc (.cells (mcells M s) 63)); rwa [World.size_alloc] at this) (by simp) hb1
  have hsz1 : w.heap.size + 2 ≤ w1.heap.size := by have := hb1.size; simp at this; omega
  have hB1 : Below w.heap.size w w1 := (((Below.refl _ _).alloc (Nat.le_refl _) _).alloc (by simp) _).trans (hb1.mono (by simp; omega))
  have hk1 := hx1.cell r8
  have hf1 := hx1.frozen r
  have hr8 : (r : Int) < 8 := by omega
  have hc8 : (c : Int) < 8 := by omega
  have ho1 := or_pow (M r) v (hm r r8) v4
  go_region
  go_wp2
  obtain ⟨w2, hw2⟩ : ∃ w2, w2 = (w1.setCell ⟨w.heap.size, r, none⟩ (.int .i64 ((M r ||| 2 ^ v : Nat) : Int))).drew := ⟨_, rfl⟩
  rw [← hw2]
  have hx2 : MBox w2 w.heap.size (mput M r v) s := by rw [hw2]; exact hx1.set r8
  have hy2 : MBox w2 (w.heap.size + 1) (fun _ => 0) 0 := by rw [hw2]; exact hy1.other (by omega)
  have hsz2 : w.heap.size + 2 ≤ w2.heap.size := by rw [hw2]; simp; omega
  have hB2 : Below w.heap.size w w2 := by rw [hw2]; exact below_drewN (hB1.setCell (Nat.le_refl _) _) 1
  clear hw2 hk1 hf1 ho1
  have hk2 := hx2.cell c8
  have hf2 := hx2.frozen c
  have ho2 := or_pow (mput M r v c) v (mput_lt hm v4 c c8) v4
  have hx3 := hx2.set (v := v) c8
  have hsz3 : w.heap.size + 1 < ((w2.setCell ⟨w.heap.size, c, none⟩ (.int .i64 ((mput M r v c ||| 2 ^ v : Nat) : Int))).drew).heap.size := by simp; omega
  have hB3 := below_drewN (Below.setCell (p := (⟨w.heap.size, c, none⟩ : Addr)) hB2 (Nat.le_refl _) (.int .i64 ((mput M r v c ||| 2 ^ v : Nat) : Int))) 1
  have Hx3 := Lib.hid hx3; clear hx3
  have hy3 := hy2.other (k := c) (v := (.int .i64 ((mput M r v c ||| 2 ^ v : Nat) : Int))) (show w.heap.size + 1 ≠ w.heap.size by omega)
  have Hy3 := Lib.hid hy3; clear hy3
  have Hi9' : Hid ((Try.prog.info? 63).map (·.size) = some (mcells (mput (mput M r v) c v) s).size) := Hi9
  go_region
  go_wp2_with (first | (refine wpList_load_row rfl 63 _ rfl w.heap.size rfl 63 (mcells (mput (mput M r v) c v) s) (0, 0) _ Hx3.out Try.underlying63 rfl Hi9'.out ?_) | (refine wpList_store_row rfl 63 _ _ rfl (w.heap.size + 1) (mcells (mput (mput M r v) c v) s) rfl rfl 63 (mcells (fun _ => 0) 0) Hy3.out Hi9'.out rfl (mone _ _) ?_))
  refine bodyPost_ret (v := .agg (mcells (mput (mput M r v) c v) s)) (results_cell_row (by rfl) _ _ (w.heap.size + 1) 63 _ (0, 0) _ rfl (MBox.stored Hy3.out) Try.underlying63 rfl Hi9'.out) rfl ⟨rfl, setRow_below hB3 (by omega)⟩

theorem meets_any (M : Nat → Nat) (s : Int) (cell r c v : Nat) (w : World) (h2 : 2 ≤ s) (h4 : s ≤ 4) (hr : (cell : Int) / s = (r : Int)) (hc : s + (cell : Int) % s = (c : Int)) (r8 : r < 8) (c8 : c < 8) (c2 : cell < 16) (v4 : v ≤ 4) (hm : ∀ l, l < 8 → M l < 32) :
    Calls Try.prog 60 #[.agg (mcells M s), .int .i64 cell, .int .i64 v] w fun e w' => e = .returned (.bool ((M r).testBit v || (M c).testBit v)) ∧ Below w.heap.size w w' := by
  have hi9 : (Try.prog.info? 63).map (·.size) = some (mcells M s).size := by rw [mcells_size]; kernel_rfl
  have Hi9 := Lib.hid hi9; clear hi9
  have Hr := Lib.hid hr; clear hr
  have Hc := Lib.hid hc; clear hc
  have Hm1 := Lib.hid (hm r r8)
  have Hm2 := Lib.hid (hm c c8)
  have Hg0 := Lib.hid (heap_alloc_new w (.cells (mcells M s) 63))
  have hB0 : Below w.heap.size w (w.alloc (.cells (mcells M s) 63)) := (Below.refl _ _).alloc (Nat.le_refl _) _
  have hs8 := MBox.size_ Hg0.out
  cases hbr : (M r).testBit v
  all_goals
    go_enter Try.func60, Try.ntmps60
    go_wp2_with (first | (refine wpList_load_row rfl 63 _ rfl w.heap.size rfl 63 (mcells M s) (0, 0) _ hx1.out Try.underlying63 rfl Hi9.out ?_) | (go_at_call 66; refine (linesThrough_rc s cell r c _ h2 h4 c2 Hr.out Hc.out).mono ?_; rintro e w1 ⟨rfl, hb1⟩; have hx1 := Lib.hid (MBox.below Hg0.out (by simp) hb1); have hB1 := step hB0 hb1; clear hb1))
    refine (has_any M s r v _ r8 v4 Hm1.out).mono ?_
    rintro e w2 ⟨rfl, hb2⟩
    have hx2 := Lib.hid (MBox.below hx1.out (by have := hB1.size; have := hx1.out; exact (Array.getElem?_eq_some_iff.1 this).1) hb2)
    have hB2 := step hB1 hb2
    clear hb2
    go_wp2_with (first | (refine wpList_load_row_w rfl 63 _ rfl w.heap.size rfl 63 (mcells M s) (0, 0) _ hx2.out Try.underlying63 rfl Hi9.out ?_) | (go_at_call 67; refine (has_any M s c v _ c8 v4 Hm2.out).mono ?_; rintro e w3 ⟨rfl, hb3⟩; have hB3 := step hB2 hb3; clear hb3))
    go_ret
    exact ⟨rfl, by assumption⟩
end Go.Proofs.Ytcjdjcpappfkgaa
