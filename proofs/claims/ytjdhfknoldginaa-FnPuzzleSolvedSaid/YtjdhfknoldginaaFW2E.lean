import Derived.Test.YtjdhfknoldginaaFRS
import Derived.Shelf.RegionOpen
import Derived.Test.YtjdhfknoldginaaFNa
import Derived.Deep.RegionHeld3
import Derived.Test.YtjdhfknoldginaaBase
import Derived.Maps.AppendAt
import Derived.Test.YtjdhfknoldginaaFPow
import Derived.RegionTactic
import Derived.Laws.Rows
import Derived.Laws.Tables
set_option maxRecDepth 8000
namespace Go.Proofs.Ytjdhfknoldginaa
open Go.ChangeShapes Go.WideShapes Go.ChangeAt Go.RowKit Go.Shelf
attribute [local go_sem] Oper.semAt_some
theorem part_put (xs : List Int) (k n : Nat) (hk : k < n) : (part xs k n).set k (nth xs k) = part xs (k + 1) n := by
  apply ext_nth (by simp [part_length])
  intro j hj
  rw [List.length_set, part_length] at hj
  rw [part_nth _ _ _ _ hj]
  by_cases e : j = k
  · subst e; rw [nth_set_same (by rw [part_length]; exact hk), if_pos (by omega)]
  · rw [nth_set_ne (fun e' => e e'.symm), part_nth _ _ _ _ hj]
    by_cases h : j < k
    · rw [if_pos h, if_pos (by omega)]
    · rw [if_neg h, if_neg (by omega)]
theorem part_zero_ (xs : List Int) (n : Nat) : part xs 0 n = zeros n := by
  apply ext_nth (by simp [part_length, zeros])
  intro j hj
  rw [part_length] at hj
  rw [part_nth _ _ _ _ hj, if_neg (by omega)]
  simp [zeros, nth, List.getD_eq_getElem?_getD, hj]
set_option maxHeartbeats 1000000 in
theorem possible_any (A : Option Addr) (c nc : Nat) (k v : Int) (Av : Option Addr) (cv n B : Nat) (vs : List Int) (s : Nat) (w : World) (hv : Rd w B Av n vs) (hB : B ≤ w.heap.size) (n1 : 1 ≤ n) (n4 : n ≤ 4) (hs : s ∈ [2, 3, 4]) (hsm : ∀ i, i < n → 0 ≤ nth vs i ∧ nth vs i ≤ 4)
    (hk : k = 1 ∨ k = 2 ∨ k = 3 ∨ k = 4 ∨ k = 5) (h2 : k = 1 ∨ k = 2 ∨ k = 3 ∨ 2 ≤ n) :
    Calls Try.prog 57 #[.agg #[.int .i64 k, .slice A nc c, .int .i64 v], .slice Av n cv, .int .i64 s] w fun e w' => e = .returned (.bool (!((allW (emL vs s) n []).filter (holdsB k v)).isEmpty)) ∧ Below w.heap.size w w' := by
  have hlen := hv.1
  have hpm : ∀ i, i < n → nth (emL vs s) i = ((emN vs s i : Nat) : Int) := fun i hi => by
    unfold emL
    rw [mapTo_nth (by omega)]
    simp [emG]
  have hms : ∀ i, i < n → 0 ≤ nth (emL vs s) i ∧ nth (emL vs s) i < 32 := fun i hi => by
    have := emN_lt (j := i) hs (hsm i hi).1 (hsm i hi).2
    rw [hpm i hi]; omega
  obtain ⟨W1, hW1⟩ : ∃ W1, w.alloc (.cells #[.int .i64 k, .slice A nc c, .int .i64 v] 36) = W1 := ⟨_, rfl⟩
  have hx1 := rbox_new w k A nc c v 36
  rw [hW1] at hx1
  have hb1 : Below w.heap.size w W1 := by rw [← hW1]; exact (Below.refl _ _).alloc (Nat.le_refl _) _
  have hs1 : W1.heap.size = w.heap.size + 1 := by rw [← hW1]; simp
  obtain ⟨W2, hW2⟩ : ∃ W2, W1.alloc (.cells #[.bool false] 4) = W2 := ⟨_, rfl⟩
  have hb2 : Below W1.heap.size W1 W2 := by rw [← hW2]; exact (Below.refl _ _).alloc (Nat.le_refl _) _
  have hs2 : W2.heap.size = w.heap.size + 1 + 1 := by rw [← hW2]; simp [hs1]
  have hx2 := hx1.below (by omega) hb2
  have hc2 : W2.heap[w.heap.size + 1]? = some (.cells #[.bool false] 4) := by rw [← hW2, ← hs1]; exact heap_alloc_new _ _
  have hbW2 : Below w.heap.size w W2 := hb1.trans (hb2.mono (by omega))
  have HB2 := Lib.hid hbW2
  have HX2 := Lib.hid hx2
  have HC2 := Lib.hid hc2
  have HOM := Lib.hid (fun (w' : World) (hb : Below w.heap.size w w') => openMasks_any Av cv n B vs s w' (hv.below (hb.mono hB)) (Nat.le_trans hB hb.size) (by omega) hs hsm)
  have Hel := Lib.hid (emL_len_ (s := s) hlen)
  have HV := Lib.hid (fun (w' : World) (hb : Below w.heap.size w w') => hv.below (hb.mono hB))
  have HPM := Lib.hid hpm
  have HMS := Lib.hid hms
  have HLEN := Lib.hid hlen
  have HSM := Lib.hid hsm
  have HS2 := Lib.hid hs2
  clear hbW2 hx2 hc2 hx1 hb1 hb2 hpm hms hlen hsm
  refine (callsIn_wide (n := 9)).1 ?_
  refine callsIn_of_wp_marks Try.func57 rfl trivial ?_ rfl
  simp only [Try.ntmps57, List.size_toArray, List.length_cons, List.length_nil, Nat.reduceAdd, Nat.reduceSub, Array.replicate_succ, Array.replicate_zero, List.push_toArray, List.append_toArray, List.nil_append, List.cons_append]
  have hmx : Try.prog.follows .mixedOrders = true := by kernel_rfl
  obtain ⟨x0, x1, x2⟩ := id HX2.out
  gi_wp2
  first | (gi_region_with_o (first
    | ((try refine ⟨trivial, ?_⟩); gi_at_call 71; refine (callsIn_wide.2 (HOM.out _ (by first | exact HB2.out | exact HB2.out.drew))).mono ?_; rintro e w3 ⟨A3, c3, rfl, ho3, hb3⟩; rw [Hel.out] at ho3 ⊢; have hb3' : Below W2.heap.size W2 w3 := (by first | exact hb3 | exact ((Below.refl _ _).drew).trans hb3); obtain ⟨y0, y1, y2⟩ := HX2.out.below (by rw [HS2.out]; omega) hb3')
    | ((try refine ⟨trivial, ?_⟩); gi_at_call 70; refine (callsIn_wide.2 (waysToHold_any A c nc k v A3 n c3 _ hk)).mono ?_; rintro e w5 ⟨MB, RB, rfl, hmb, hrb, hb5⟩))) | fail
  all_goals
    gi_wp2
    have hbw : Below w.heap.size w w3 := step HB2.out hb3'
    have hl5 : w.heap.size + 1 < w5.heap.size := by have := hb5.size; have := hb3'.size; omega
    have hrow5 : w5.heap[w.heap.size + 1]? = some (.cells #[.bool false] 4) := (hb5.block _ (by have := hb3'.size; omega)).trans ((hb3'.block _ (by omega)).trans HC2.out)
    have hbase : WBase MB RB w5.heap.size k A nc c v A3 n c3 (emL vs s) w5 := ⟨hmb, hrb, ?mask, Nat.le_refl _⟩
    case mask =>
      have h5 := (ho3.below hb5).rd
      exact ⟨emL_len_ HLEN.out, fun hn => by
        obtain ⟨b, off, e, hl, hc⟩ := h5.2 hn
        exact ⟨b, off, e, cell_lt (hc 0 hn), hc⟩⟩
    have hMB := cell_lt hmb
    have hRB := cell_lt hrb
    have HBW := Lib.hid (hbw.trans (hb5.mono (by have := hbw.size; omega)))
    refine range_skip 9 (by rfl) (enters_of Try.func76 (by kernel_rfl) rfl) (ways_seq MB RB w5.heap.size k A nc c v A3 n c3 (emL vs s) n1 n4 HMS.out hk h2)
      (fun pre X => pre = [] ∧ WBase MB RB w5.heap.size k A nc c v A3 n c3 (emL vs s) X ∧ X.heap[w.heap.size + 1]? = some (.cells #[.bool false] 4) ∧ Below w.heap.size w X)
      (fun cc X => cc = .ret ∧ ((allW (emL vs s) n []).filter (holdsB k v)).isEmpty = false ∧ X.heap[w.heap.size + 1]? = some (.cells #[.bool true] 4) ∧ Below w.heap.size w X)
      (fun pre X h => h.2.1)
      (fun pre X Y h hb => ⟨h.1, h.2.1.below hb (by omega) (by omega) (by omega), (hb.block _ hl5).trans h.2.2.1, h.2.2.2.trans (hb.mono (by omega))⟩)
      (fun cc X Y h hb => ⟨h.1, h.2.1, (hb.block _ hl5).trans h.2.2.1, h.2.2.2.trans (hb.mono (by omega))⟩)
      ⟨rfl, hbase, hrow5, HBW.out⟩ ?body ?done ?stop
    case body =>
      rintro l pre x X b n' c' ⟨rfl, hbX, hrX, hBX⟩ hx hbb hrd
      have hne : ((allW (emL vs s) n []).filter (holdsB k v)).isEmpty = false := by
        cases e : (allW (emL vs s) n []).filter (holdsB k v)
        · rw [e] at hx; cases hx
        · rfl
      clear hx
      simp only [List.setIfInBounds_toArray, List.set_cons_zero, List.set_cons_succ]
      have hcX := cell_of_row _ _ 0 _ _ (0, 0) hrX
      have hfX := frozen_of_row _ _ 0 _ _ hrX
      gi_wp2
      exact ⟨Mid.setCell _ _ _ _ _ hl5, rfl, heap_setCell_same X (w.heap.size + 1) 0 _ _ (.bool true) hrX, hBX.setCell (p := ⟨w.heap.size + 1, 0, none⟩) (by show w.heap.size ≤ w.heap.size + 1; omega) _⟩
    case done =>
      rintro D W hD ⟨he, hbX, hrX, hBX⟩ hK
      have hcX := cell_of_row _ _ 0 _ _ (0, 0) hrX
      have hfX := frozen_of_row _ _ 0 _ _ hrX
      gi_wp2
      have hK2 : (W.setCell ⟨w.heap.size + 1, 0, none⟩ (.bool false)).heap[D]? = some (.deferred (some [])) := (heap_setCell_other W ⟨w.heap.size + 1, 0, none⟩ D _ (fun e => by dsimp only at e; omega)).trans hK
      refine ⟨by simp, .inl ⟨_, _, rfl, run_takeDeferred hK2, ?_⟩⟩
      have hrow6 := (World.putObj_heap_other (o := .deferred none) (by omega : w.heap.size + 1 ≠ D)).trans (heap_setCell_same W (w.heap.size + 1) 0 _ _ (.bool false) hrX)
      have hc6 := cell_of_row _ _ 0 _ _ (0, 0) hrow6
      refine ⟨.bool false, ?_, rfl, (hBX.setCell (p := ⟨w.heap.size + 1, 0, none⟩) (by show w.heap.size ≤ w.heap.size + 1; omega) _).trans (below_put _ (by omega) hK2)⟩
      simp at hc6
      simp [results, Try.f57, go_sem, hc6]
    case stop =>
      rintro D cc W hD ⟨rfl, hne, hrX, hBX⟩ hK
      gi_wp2
      refine ⟨by simp, .inl ⟨_, _, rfl, run_takeDeferred hK, ?_⟩⟩
      have hrow6 := (World.putObj_heap_other (o := .deferred none) (by omega : w.heap.size + 1 ≠ D)).trans hrX
      have hc6 := cell_of_row _ _ 0 _ _ (0, 0) hrow6
      refine ⟨.bool true, ?_, rfl, hBX.trans (below_put _ (by omega) hK)⟩
      simp at hc6
      simp [results, Try.f57, go_sem, hc6]
end Go.Proofs.Ytjdhfknoldginaa
set_option maxRecDepth 8000
namespace Go.Proofs.Ytjdhfknoldginaa
open Go.ChangeShapes Go.WideShapes Go.ChangeAt Go.RowKit
end Go.Proofs.Ytjdhfknoldginaa
namespace Go.Proofs.Ytjdhfknoldginaa
open Go.ChangeShapes Go.WideShapes Go.ChangeAt Go.RowKit

/-- push_int, and where the new slice lies: where the old one lay, or in a block of its own. -/
theorem push_int_at {w : World} {ops : Array Oper} {rest : List Oper} {o : Oper} {a : Act} {Q : Exit → Act → World → Prop} (hgd : o.guard = none) (s x : Operand)
    (ho : o.op = .call { callee := .builtin .append, args := #[s, x], argTypes := #[23, 23] })
    (lo : Nat) (A : Option Addr) (n c : Nat) (xs : List Int) (v : Int) (hs : a.eval s = .slice A n c) (hx : a.eval x = .slice (some ⟨w.heap.size, 0, none⟩) 1 1) (hown : Ow w lo A n c xs) (hn : n ≤ 1099511627776) (hlo : lo ≤ w.heap.size)
    (h : ∀ A' c' w', Ow w' lo A' (n + 1) c' (xs ++ [v]) → (w.alloc (.cells #[.int .i64 v] 3)).grownBy w' (Value.slice A n c).ownBlock → (∀ g, (Value.slice A' (n + 1) c').ownBlock = some g → (Value.slice A n c).ownBlock = some g ∨ w.heap.size < g) → wpList Try.prog ops Q rest (a.put o.dst (.slice A' (n + 1) c')) w') :
    wpList Try.prog ops Q (o :: rest) a (w.alloc (.cells #[.int .i64 v] 3)) := by
  obtain ⟨i0, hi, hz0, hz1, hz2⟩ := info_parts int_info
  refine Go.wpList_append_own_at (P := Try.prog) _ hgd s x 23 ho lo 3 i0 (.int .i64 0) 1 8 Try.underlying23 hi hz0 hz1 hz2 rfl (by decide) _ n (vals xs) hs (World.ownsRow.alloc hown _) ⟨w.heap.size, 0, none⟩ 1 1 [.int .i64 v] hx rfl ?_ ?_ (by simp only [maxLen]; omega) (by omega) (by simp; omega) ?_
  · intro j u hj
    match j, hj with
    | 0, hj =>
      simp at hj
      subst hj
      simp [Addr.add]
  · intro u hu
    simp at hu
    subst hu
    rfl
  · intro v' w' h2 h3 _ h5
    obtain ⟨g, cap, hv, _, _⟩ := World.ownsRow.form h2 (by omega)
    subst hv
    refine h _ _ _ (by unfold Ow; rw [vals_append]; exact h2) h3 (fun g' hg' => ?_)
    rcases h5 with h5 | h5
    · left; rw [← h5]; exact hg'
    · right
      rw [h5] at hg'
      simp at hg'
      omega
theorem Ow.kept_ne {w w' : World} {lo : Nat} {A A' : Option Addr} {n c n' c' : Nat} {xs : List Int} (h : Ow w lo A n c xs) (hg : w.grownBy w' (Value.slice A' n' c').ownBlock) (hne : ∀ g, (Value.slice A n c).ownBlock = some g → (Value.slice A' n' c').ownBlock ≠ some g) : Ow w' lo A n c xs := by
  refine World.ownsRow.kept h hg ?_
  cases e : (Value.slice A n c).ownBlock with
  | none => exact .inl rfl
  | some g => exact .inr (fun he => hne g e he.symm)
end Go.Proofs.Ytjdhfknoldginaa
namespace Go.Proofs.Ytjdhfknoldginaa
open Go.ChangeShapes Go.WideShapes Go.ChangeAt Go.RowKit

theorem gv_okAll {xs : List Int} {size : Int} {n : Nat} (hg : gv xs size = true) (hl : xs.length = n) : okAll xs size n := fun k hk => gv_nth hg (by rw [hl]; exact hk)

def sqOfG (size : Int) (k : Nat) : Int := ((k : Int) / size + (k : Int)) % size + 1
def sqOfL (size : Int) : List Int := if inr size 2 4 = true then mapTo (sqOfG size) (size * size).toNat else []

def missTo (has : Int → Bool) : Nat → List Int
  | 0 => []
  | v + 1 => missTo has v ++ (if has ((v : Int) + 1) = true then [] else [(v : Int) + 1])
def missL (xs : List Int) (size line : Int) : List Int := if (gv xs size && lineOk size line) = true then missTo (hasTo (lineV xs size line) size.toNat) size.toNat else []
theorem missTo_length (has : Int → Bool) (v : Nat) : (missTo has v).length ≤ v := by
  induction v with
  | zero => simp [missTo]
  | succ v ih => simp only [missTo, List.length_append]; split <;> simp <;> omega
theorem missL_length (xs : List Int) (size line : Int) : (missL xs size line).length ≤ 4 := by
  unfold missL
  split
  · next h =>
    simp only [Bool.and_eq_true] at h
    have := gv_size h.1
    have := missTo_length (hasTo (lineV xs size line) size.toNat) size.toNat
    omega
  · simp
end Go.Proofs.Ytjdhfknoldginaa
namespace Go.Proofs.Ytjdhfknoldginaa
open Go.ChangeShapes Go.WideShapes Go.ChangeAt Go.RowKit

/-- a whole array read at an operation that is guarded, and wanted. -/
theorem wpList_load_row_w {P : Program} {ops : Array Oper} {rest : List Oper} {o : Oper} {a : Act} {w : World} {Q : Exit → Act → World → Prop} (hw : Region.wanted o (yielded ops a.tmps) = true) (ty : TypeId) (x : Operand) (ho : o.op = .load ty x)
    (g : Nat) (hx : a.eval x = .pointer (some ⟨g, 0, none⟩)) (t : TypeId) (cs : Array Value) (fr : Nat × Nat) (d : TypeDesc) (hg : w.heap[g]? = some (.cells cs t fr))
    (hu : P.underlying ty = some d) (hd : (match d with | .struct _ | .array _ _ => true | _ => false) = true) (hi : (P.info? ty).map (·.size) = some cs.size)
    (h : wpList P ops Q rest (a.put o.dst (.agg cs)) w) : wpList P ops Q (o :: rest) a w :=
  wpList_step fun K hK => by simp only [hw, if_true]; exact wp_load_row ty x ho g hx t cs fr d hg hu hd hi (hK _ _ h)
/-- the cells of the program's masks, one a line, and its size. -/
def mcells (M : Nat → Nat) (s : Int) : Array Value := #[.int .i64 (M 0), .int .i64 (M 1), .int .i64 (M 2), .int .i64 (M 3), .int .i64 (M 4), .int .i64 (M 5), .int .i64 (M 6), .int .i64 (M 7), .int .i64 s]
theorem mcells_size (M : Nat → Nat) (s : Int) : (mcells M s).size = 9 := rfl
theorem mcell_at (M : Nat → Nat) (s : Int) {l : Nat} (hl : l < 8) : (mcells M s)[l]? = some (.int .i64 (M l)) := by
  have : l = 0 ∨ l = 1 ∨ l = 2 ∨ l = 3 ∨ l = 4 ∨ l = 5 ∨ l = 6 ∨ l = 7 := by omega
  rcases this with rfl | rfl | rfl | rfl | rfl | rfl | rfl | rfl <;> rfl
theorem mbox_cell (M : Nat → Nat) (s : Int) (w : World) {l : Nat} (hl : l < 8) : (w.alloc (.cells (mcells M s) 46)).cell? ⟨w.heap.size, l, none⟩ = some (.int .i64 (M l)) :=
  (cell_of_row _ _ l _ _ (0, 0) (heap_alloc_new w _)).trans (mcell_at M s hl)
theorem mbox_size (M : Nat → Nat) (s : Int) (w : World) : (w.alloc (.cells (mcells M s) 46)).cell? ⟨w.heap.size, 8, none⟩ = some (.int .i64 s) :=
  (cell_of_row _ _ 8 _ _ (0, 0) (heap_alloc_new w _)).trans rfl
theorem linesThrough_any (s cell : Int) (w : World) (h2 : 2 ≤ s) (h4 : s ≤ 4) (c0 : 0 ≤ cell) (c1 : cell < 16) :
    Calls Try.prog 60 #[.int .i64 s, .int .i64 cell] w fun e w' => e = .returned (.tuple #[.int .i64 (cell / s), .int .i64 (s + cell % s)]) ∧ Below w.heap.size w w' := by
  have q0 : 0 ≤ cell / s := Int.ediv_nonneg c0 (by omega)
  have q1 : cell / s ≤ cell := Int.ediv_le_self _ c0
  have r0 : 0 ≤ cell % s := Int.emod_nonneg _ (by omega)
  have r1 : cell % s < s := Int.emod_lt_of_pos _ (by omega)
  have e1 : cell.tmod s = cell % s := Int.tmod_eq_emod_of_nonneg c0
  have e2 : cell.tdiv s = cell / s := Int.tdiv_eq_ediv_of_nonneg c0
  have e3 : IntKind.i64.wrap (cell / s) = cell / s := IntWalk.i64_in _ (by omega)
  have e4 : IntKind.i64.wrap (s + cell % s) = s + cell % s := IntWalk.i64_in _ (by omega)
  have hz : (s == 0) = false := by simp; omega
  go_enter Try.func60, Try.ntmps60
  go_wp2
  go_quiet (fail)
  go_wp2
  go_ret2
  exact ⟨rfl, below_drewN (Below.refl _ _) _⟩

theorem or_pow (a v : Nat) (ha : a < 32) (hv : v ≤ 4) : bits .or .i64 (a : Int) (wrap64 (2 ^ v)) = ((a ||| 2 ^ v : Nat) : Int) := by
  have hlt : 2 ^ v < 2 ^ 5 := Nat.pow_lt_pow_right (by omega) (by omega)
  rw [pow_int]
  generalize 2 ^ v = p at *
  rw [IntWalk.wrap64_in _ ⟨by omega, by omega⟩, i64_or_nat _ _ (by omega) (by omega)]
theorem or_lt (a v : Nat) (ha : a < 32) (hv : v ≤ 4) : a ||| 2 ^ v < 32 :=
  Nat.or_lt_two_pow (n := 5) ha (Nat.pow_lt_pow_right (by omega) (by omega))
theorem has_any (M : Nat → Nat) (s : Int) (l v : Nat) (w : World) (hl : l < 8) (v4 : v ≤ 4) (hm : M l < 32) :
    Calls Try.prog 61 #[.agg (mcells M s), .int .i64 l, .int .i64 v] w fun e w' => e = .returned (.bool ((M l).testBit v)) ∧ Below w.heap.size w w' := by
  have hc := mbox_cell M s w hl
  have hl8 : (l : Int) < 8 := by omega
  have ha := Lib.hid (and_pow (M l) v hm v4)
  go_enter Try.func61, Try.ntmps61
  go_wp2
  go_quiet (fail)
  go_wp2
  go_ret
  exact ⟨by rw [← ha.out]; rfl, below_drewN ((Below.refl _ _).alloc (Nat.le_refl _) _) _⟩

def mput (M : Nat → Nat) (l v : Nat) : Nat → Nat := fun j => if j = l then M j ||| 2 ^ v else M j
theorem mput_lt {M : Nat → Nat} {l v : Nat} (hm : ∀ l, l < 8 → M l < 32) (hv : v ≤ 4) : ∀ j, j < 8 → mput M l v j < 32 := fun j hj => by
  unfold mput
  split
  · exact or_lt _ _ (hm j hj) hv
  · exact hm j hj
theorem mcells_set (M : Nat → Nat) (s : Int) {l v : Nat} (hl : l < 8) : (mcells M s).setIfInBounds l (.int .i64 ((M l ||| 2 ^ v : Nat) : Int)) = mcells (mput M l v) s := by
  have : l = 0 ∨ l = 1 ∨ l = 2 ∨ l = 3 ∨ l = 4 ∨ l = 5 ∨ l = 6 ∨ l = 7 := by omega
  rcases this with rfl | rfl | rfl | rfl | rfl | rfl | rfl | rfl <;> rfl
/-- the masks lie in block g. -/
def MBox (w : World) (g : Nat) (M : Nat → Nat) (s : Int) : Prop := w.heap[g]? = some (.cells (mcells M s) 46)
theorem MBox.cell {w : World} {g : Nat} {M : Nat → Nat} {s : Int} (h : MBox w g M s) {l : Nat} (hl : l < 8) : w.cell? ⟨g, l, none⟩ = some (.int .i64 (M l)) :=
  (cell_of_row _ _ l _ _ (0, 0) h).trans (mcell_at M s hl)
theorem MBox.size_ {w : World} {g : Nat} {M : Nat → Nat} {s : Int} (h : MBox w g M s) : w.cell? ⟨g, 8, none⟩ = some (.int .i64 s) :=
  (cell_of_row _ _ 8 _ _ (0, 0) h).trans rfl
theorem MBox.frozen {w : World} {g : Nat} {M : Nat → Nat} {s : Int} (h : MBox w g M s) (l : Nat) : w.frozen? ⟨g, l, none⟩ = false := by
  unfold World.frozen?
  rw [show w.heap[g]? = _ from h]
  simp
theorem MBox.set {w : World} {g : Nat} {M : Nat → Nat} {s : Int} (h : MBox w g M s) {l v : Nat} (hl : l < 8) : MBox (w.setCell ⟨g, l, none⟩ (.int .i64 ((M l ||| 2 ^ v : Nat) : Int))) g (mput M l v) s := by
  unfold MBox
  rw [heap_setCell_same w g l _ _ _ h, ← mcells_set M s hl]
theorem MBox.below {w w' : World} {g B : Nat} {M : Nat → Nat} {s : Int} (h : MBox w g M s) (hg : g < B) (hb : Below B w w') : MBox w' g M s := (hb.block g hg).trans h
theorem MBox.other {w : World} {g g' k : Nat} {v : Value} {M : Nat → Nat} {s : Int} (h : MBox w g M s) (hne : g ≠ g') : MBox (w.setCell ⟨g', k, none⟩ v) g M s := (heap_setCell_other w _ g v hne).trans h
theorem MBox.stored {w : World} {g : Nat} {M M' : Nat → Nat} {s s' : Int} (h : MBox w g M s) : MBox (w.setRow g (mcells M' s')) g M' s' := setRow_heap w g _ _ _ _ h
theorem setRow_below {B g : Nat} {w w' : World} {cs : Array Value} (h : Below B w w') (hg : B ≤ g) : Below B w (w'.setRow g cs) :=
  h.trans ⟨rfl, rfl, rfl, by simp, fun k hk => by unfold World.setRow; simp only [Array.getElem?_modify]; rw [if_neg (by omega)]⟩
theorem mone (M : Nat → Nat) (s : Int) : (mcells M s).all (·.oneCell') = true := by simp [mcells, Value.oneCell']
theorem linesThrough_rc (s : Int) (cell r c : Nat) (w : World) (h2 : 2 ≤ s) (h4 : s ≤ 4) (c1 : cell < 16) (hr : (cell : Int) / s = (r : Int)) (hc : s + (cell : Int) % s = (c : Int)) :
    Calls Try.prog 60 #[.int .i64 s, .int .i64 cell] w fun e w' => e = .returned (.tuple #[.int .i64 r, .int .i64 c]) ∧ Below w.heap.size w w' := by
  rw [← hr, ← hc]
  exact linesThrough_any s cell w h2 h4 (by omega) (by omega)
theorem with_any (M : Nat → Nat) (s : Int) (cell r c v : Nat) (w : World) (h2 : 2 ≤ s) (h4 : s ≤ 4) (hr : (cell : Int) / s = (r : Int)) (hc : s + (cell : Int) % s = (c : Int)) (r8 : r < 8) (c8 : c < 8) (c2 : cell < 16) (v4 : v ≤ 4) (hm : ∀ l, l < 8 → M l < 32) :
    Calls Try.prog 46 #[.agg (mcells M s), .int .i64 cell, .int .i64 v] w fun e w' => e = .returned (.agg (mcells (mput (mput M r v) c v) s)) ∧ Below w.heap.size w w' := by
  have hg0 : ∀ o, ((w.alloc (.cells (mcells M s) 46)).alloc o).heap[w.heap.size]? = some (.cells (mcells M s) 46) := fun o => by rw [heap_alloc_old _ _ (by simp)]; exact heap_alloc_new w _
  have hz0 : ∀ u : World, MBox (u.alloc (.cells #[.int .i64 0, .int .i64 0, .int .i64 0, .int .i64 0, .int .i64 0, .int .i64 0, .int .i64 0, .int .i64 0, .int .i64 0] 46)) u.heap.size (fun _ => 0) 0 := fun u => heap_alloc_new u _
  have Hz0 := Lib.hid hz0; clear hz0
  have hi9 : (Try.prog.info? 46).map (·.size) = some (mcells M s).size := by rw [mcells_size]; kernel_rfl
  have Hg0 := Lib.hid hg0; clear hg0
  have Hi9 := Lib.hid hi9; clear hi9
  have Hr := Lib.hid hr; clear hr
  have Hc := Lib.hid hc; clear hc
  go_enter Try.func46, Try.ntmps46
  have hs8 : ∀ o, ((w.alloc (.cells (mcells M s) 46)).alloc o).cell? ⟨w.heap.size, 8, none⟩ = some (.int .i64 s) := fun o => MBox.size_ (Hg0.out o)
  go_wp2_with (go_at_call 60; refine (linesThrough_rc s cell r c _ h2 h4 c2 Hr.out Hc.out).mono ?_; rintro e w1 ⟨rfl, hb1⟩)
  have hx1 : MBox w1 w.heap.size M s := MBox.below (Hg0.out _) (by simp; omega) hb1
  have hy1 : MBox w1 (w.heap.size + 1) (fun _ => 0) 0 := MBox.below (by have := Hz0.out (w.alloc (.cells (mcells M s) 46)); rwa [World.size_alloc] at this) (by simp) hb1
  have hsz1 : w.heap.size + 2 ≤ w1.heap.size := by have := hb1.size; simp at this; omega
  have hB1 : Below w.heap.size w w1 := (((Below.refl _ _).alloc (Nat.le_refl _) _).alloc (by simp) _).trans (hb1.mono (by simp; omega))
  have hk1 := hx1.cell r8
  have hf1 := hx1.frozen r
  have hr8 : (r : Int) < 8 := by omega
  have hc8 : (c : Int) < 8 := by omega
  have ho1 := or_pow (M r) v (hm r r8) v4
  go_region
  go_wp2
  obtain ⟨w2, hw2⟩ : ∃ w2, w2 = (w1.setCell ⟨w.heap.size, r, none⟩ (.int .i64 ((M r ||| 2 ^ v : Nat) : Int))).drew := ⟨_, rfl⟩
  rw [← hw2]
  have hx2 : MBox w2 w.heap.size (mput M r v) s := by rw [hw2]; exact hx1.set r8
  have hy2 : MBox w2 (w.heap.size + 1) (fun _ => 0) 0 := by rw [hw2]; exact hy1.other (by omega)
  have hsz2 : w.heap.size + 2 ≤ w2.heap.size := by rw [hw2]; simp; omega
  have hB2 : Below w.heap.size w w2 := by rw [hw2]; exact below_drewN (hB1.setCell (Nat.le_refl _) _) 1
  clear hw2 hk1 hf1 ho1
  have hk2 := hx2.cell c8
  have hf2 := hx2.frozen c
  have ho2 := or_pow (mput M r v c) v (mput_lt hm v4 c c8) v4
  have hx3 := hx2.set (v := v) c8
  have hsz3 : w.heap.size + 1 < ((w2.setCell ⟨w.heap.size, c, none⟩ (.int .i64 ((mput M r v c ||| 2 ^ v : Nat) : Int))).drew).heap.size := by simp; omega
  have hB3 := below_drewN (Below.setCell (p := (⟨w.heap.size, c, none⟩ : Addr)) hB2 (Nat.le_refl _) (.int .i64 ((mput M r v c ||| 2 ^ v : Nat) : Int))) 1
  have Hx3 := Lib.hid hx3; clear hx3
  have hy3 := hy2.other (k := c) (v := (.int .i64 ((mput M r v c ||| 2 ^ v : Nat) : Int))) (show w.heap.size + 1 ≠ w.heap.size by omega)
  have Hy3 := Lib.hid hy3; clear hy3
  have Hi9' : Hid ((Try.prog.info? 46).map (·.size) = some (mcells (mput (mput M r v) c v) s).size) := Hi9
  go_region
  go_wp2_with (first | (refine wpList_load_row rfl 46 _ rfl w.heap.size rfl 46 (mcells (mput (mput M r v) c v) s) (0, 0) _ Hx3.out Try.underlying46 rfl Hi9'.out ?_) | (refine wpList_store_row rfl 46 _ _ rfl (w.heap.size + 1) (mcells (mput (mput M r v) c v) s) rfl rfl 46 (mcells (fun _ => 0) 0) Hy3.out Hi9'.out rfl (mone _ _) ?_))
  refine bodyPost_ret (v := .agg (mcells (mput (mput M r v) c v) s)) (results_cell_row (by rfl) _ _ (w.heap.size + 1) 46 _ (0, 0) _ rfl (MBox.stored Hy3.out) Try.underlying46 rfl Hi9'.out) rfl ⟨rfl, setRow_below hB3 (by omega)⟩

theorem meets_any (M : Nat → Nat) (s : Int) (cell r c v : Nat) (w : World) (h2 : 2 ≤ s) (h4 : s ≤ 4) (hr : (cell : Int) / s = (r : Int)) (hc : s + (cell : Int) % s = (c : Int)) (r8 : r < 8) (c8 : c < 8) (c2 : cell < 16) (v4 : v ≤ 4) (hm : ∀ l, l < 8 → M l < 32) :
    Calls Try.prog 45 #[.agg (mcells M s), .int .i64 cell, .int .i64 v] w fun e w' => e = .returned (.bool ((M r).testBit v || (M c).testBit v)) ∧ Below w.heap.size w w' := by
  have hi9 : (Try.prog.info? 46).map (·.size) = some (mcells M s).size := by rw [mcells_size]; kernel_rfl
  have Hi9 := Lib.hid hi9; clear hi9
  have Hr := Lib.hid hr; clear hr
  have Hc := Lib.hid hc; clear hc
  have Hm1 := Lib.hid (hm r r8)
  have Hm2 := Lib.hid (hm c c8)
  have Hg0 := Lib.hid (heap_alloc_new w (.cells (mcells M s) 46))
  have hB0 : Below w.heap.size w (w.alloc (.cells (mcells M s) 46)) := (Below.refl _ _).alloc (Nat.le_refl _) _
  have hs8 := MBox.size_ Hg0.out
  cases hbr : (M r).testBit v
  all_goals
    go_enter Try.func45, Try.ntmps45
    go_wp2_with (first | (refine wpList_load_row rfl 46 _ rfl w.heap.size rfl 46 (mcells M s) (0, 0) _ hx1.out Try.underlying46 rfl Hi9.out ?_) | (go_at_call 60; refine (linesThrough_rc s cell r c _ h2 h4 c2 Hr.out Hc.out).mono ?_; rintro e w1 ⟨rfl, hb1⟩; have hx1 := Lib.hid (MBox.below Hg0.out (by simp) hb1); have hB1 := step hB0 hb1; clear hb1))
    refine (has_any M s r v _ r8 v4 Hm1.out).mono ?_
    rintro e w2 ⟨rfl, hb2⟩
    have hx2 := Lib.hid (MBox.below hx1.out (by have := hB1.size; have := hx1.out; exact (Array.getElem?_eq_some_iff.1 this).1) hb2)
    have hB2 := step hB1 hb2
    clear hb2
    go_wp2_with (first | (refine wpList_load_row_w rfl 46 _ rfl w.heap.size rfl 46 (mcells M s) (0, 0) _ hx2.out Try.underlying46 rfl Hi9.out ?_) | (go_at_call 61; refine (has_any M s c v _ c8 v4 Hm2.out).mono ?_; rintro e w3 ⟨rfl, hb3⟩; have hB3 := step hB2 hb3; clear hb3))
    go_ret
    exact ⟨rfl, by assumption⟩
end Go.Proofs.Ytjdhfknoldginaa
namespace Go.Proofs.Ytjdhfknoldginaa
open Go.ChangeShapes Go.WideShapes Go.ChangeAt Go.RowKit

/-- the program's masks behind the first k cells. -/
def lmask (xs : List Int) (s : Nat) : Nat → (Nat → Nat)
  | 0 => fun _ => 0
  | k + 1 => if nth xs k = 0 then lmask xs s k else mput (mput (lmask xs s k) (k / s) (nth xs k).toNat) (s + k % s) (nth xs k).toNat
def twice (xs : List Int) (s : Nat) : Nat → Bool
  | 0 => false
  | k + 1 => if nth xs k = 0 then twice xs s k else twice xs s k || ((lmask xs s k (k / s)).testBit (nth xs k).toNat || (lmask xs s k (s + k % s)).testBit (nth xs k).toNat)
/-- a cell lies in a line. -/
def onL (s l i : Nat) : Bool := i / s == l || s + i % s == l
theorem lmask_lt {xs : List Int} {s n : Nat} (hs : (s : Int) ≤ 4) (hok : okAll xs s n) : ∀ k, k ≤ n → ∀ l, l < 8 → lmask xs s k l < 32 := by
  intro k
  induction k with
  | zero => intro _ l _; simp [lmask]
  | succ k ih =>
    intro hk l hl
    have hv := hok k (by omega)
    simp only [lmask]
    split
    · exact ih (by omega) l hl
    · exact mput_lt (mput_lt (ih (by omega)) (by omega)) (by omega) l hl
theorem mput_test (M : Nat → Nat) (l u j v : Nat) : (mput M l u j).testBit v = ((M j).testBit v || (j == l && u == v)) := by
  unfold mput
  by_cases h : j = l
  · rw [if_pos h, Nat.testBit_or, Nat.testBit_two_pow]
    subst h
    rw [Bool.eq_iff_iff]
    simp
  · rw [if_neg h]
    simp [h]
theorem lmask_test {xs : List Int} {s n : Nat} (hok : okAll xs s n) (l v : Nat) : ∀ k, k ≤ n → ((lmask xs s k l).testBit v = true ↔ 0 < v ∧ ∃ i, i < k ∧ onL s l i = true ∧ nth xs i = (v : Int)) := by
  intro k
  induction k with
  | zero => intro _; simp [lmask]
  | succ k ih =>
    intro hk
    have hv := hok k (by omega)
    have ih := ih (by omega)
    simp only [lmask]
    by_cases hz : nth xs k = 0
    · rw [if_pos hz, ih]
      constructor
      · rintro ⟨h0, i, hi, h1, h2⟩; exact ⟨h0, i, by omega, h1, h2⟩
      · rintro ⟨h0, i, hi, h1, h2⟩
        have : i ≠ k := by rintro rfl; omega
        exact ⟨h0, i, by omega, h1, h2⟩
    · rw [if_neg hz, mput_test, mput_test, Bool.or_eq_true, Bool.or_eq_true, ih]
      simp only [Bool.and_eq_true, beq_iff_eq]
      constructor
      · rintro ((⟨h0, i, hi, h1, h2⟩ | ⟨h1, h2⟩) | ⟨h1, h2⟩)
        · exact ⟨h0, i, by omega, h1, h2⟩
        · exact ⟨by omega, k, by omega, by simp [onL, h1], by omega⟩
        · exact ⟨by omega, k, by omega, by simp [onL, h1], by omega⟩
      · rintro ⟨h0, i, hi, h1, h2⟩
        by_cases e : i = k
        · subst e
          simp only [onL, Bool.or_eq_true, beq_iff_eq] at h1
          rcases h1 with h1 | h1
          · exact .inl (.inr ⟨h1.symm, by omega⟩)
          · exact .inr ⟨h1.symm, by omega⟩
        · exact .inl (.inl ⟨h0, i, by omega, h1, h2⟩)
theorem onL_adj : ∀ s ∈ [2, 3, 4], ∀ i, i < s * s → ∀ j, j < s * s → adj s i j = (i != j && (onL s (j / s) i || onL s (s + j % s) i)) := by decide +kernel
theorem twice_iff {xs : List Int} {s n : Nat} (hs : s ∈ [2, 3, 4]) (hn : n = s * s) (hok : okAll xs s n) : ∀ k, k ≤ n → (twice xs s k = true ↔ ∃ i j, i < j ∧ j < k ∧ adj s i j = true ∧ nth xs i = nth xs j ∧ 0 < nth xs j) := by
  intro k
  induction k with
  | zero => intro _; simp [twice]
  | succ k ih =>
    intro hk
    have hv := hok k (by omega)
    have ih := ih (by omega)
    simp only [twice]
    by_cases hz : nth xs k = 0
    · rw [if_pos hz, ih]
      constructor
      · rintro ⟨i, j, h1, h2, h3, h4, h5⟩; exact ⟨i, j, h1, by omega, h3, h4, h5⟩
      · rintro ⟨i, j, h1, h2, h3, h4, h5⟩
        have : j ≠ k := by rintro rfl; omega
        exact ⟨i, j, h1, by omega, h3, h4, h5⟩
    · rw [if_neg hz, Bool.or_eq_true, Bool.or_eq_true, ih, lmask_test hok _ _ k (by omega), lmask_test hok _ _ k (by omega)]
      constructor
      · rintro (⟨i, j, h1, h2, h3⟩ | (⟨h0, i, hi, h1, h2⟩ | ⟨h0, i, hi, h1, h2⟩))
        · exact ⟨i, j, h1, by omega, h3⟩
        · refine ⟨i, k, hi, by omega, ?_, by omega, by omega⟩
          rw [onL_adj s hs i (by omega) k (by omega), h1]
          simp; omega
        · refine ⟨i, k, hi, by omega, ?_, by omega, by omega⟩
          rw [onL_adj s hs i (by omega) k (by omega), h1]
          simp; omega
      · rintro ⟨i, j, h1, h2, h3, h4, h5⟩
        by_cases e : j = k
        · subst e
          rw [onL_adj s hs i (by omega) j (by omega)] at h3
          simp only [Bool.and_eq_true, Bool.or_eq_true] at h3
          rcases h3.2 with h | h
          · exact .inr (.inl ⟨by omega, i, h1, h, by omega⟩)
          · exact .inr (.inr ⟨by omega, i, h1, h, by omega⟩)
        · exact .inl ⟨i, j, h1, by omega, h3, h4, h5⟩
theorem adj_symm : ∀ s ∈ [2, 3, 4], ∀ i, i < s * s → ∀ j, j < s * s → adj s i j = adj s j i ∧ (adj s i j = true → i ≠ j) := by decide +kernel
theorem twice_clash {xs : List Int} {s n : Nat} (hs : s ∈ [2, 3, 4]) (hn : n = s * s) (hok : okAll xs s n) : twice xs s n = clash xs s := by
  rw [Bool.eq_iff_iff, clash_iff hs, twice_iff hs hn hok n (Nat.le_refl _)]
  constructor
  · rintro ⟨i, j, h1, h2, h3, h4, h5⟩; exact ⟨i, j, by omega, by omega, h3, h4, h5⟩
  · rintro ⟨i, j, h1, h2, h3, h4, h5⟩
    have hne := (adj_symm s hs i h1 j h2).2 h3
    rcases Nat.lt_or_ge i j with h | h
    · exact ⟨i, j, h, by omega, h3, h4, h5⟩
    · exact ⟨j, i, by omega, by omega, by rw [← (adj_symm s hs i h1 j h2).1]; exact h3, h4.symm, by omega⟩
def onLine (s l i : Nat) : Bool := (List.range s).any fun a => (lineAt (s : Nat) (l : Nat) a).toNat == i
theorem onL_line : ∀ s ∈ [2, 3, 4], ∀ l, l < 2 * s → ∀ i, i < s * s → onL s l i = onLine s l i := by decide +kernel
theorem line_lt : ∀ s ∈ [2, 3, 4], ∀ l, l < 2 * s → ∀ a, a < s → (lineAt (s : Nat) (l : Nat) a).toNat < s * s := by decide +kernel
theorem lmask_has {xs : List Int} {s n : Nat} (hs : s ∈ [2, 3, 4]) (hn : n = s * s) (hok : okAll xs s n) {l v : Nat} (hl : l < 2 * s) (hv : 0 < v) : (lmask xs s n l).testBit v = hasTo (lineV xs s l) s (v : Int) := by
  rw [Bool.eq_iff_iff, lmask_test hok l v n (Nat.le_refl _), hasTo_iff]
  constructor
  · rintro ⟨_, i, hi, h1, h2⟩
    rw [onL_line s hs l hl i (by omega)] at h1
    simp only [onLine, List.any_eq_true, List.mem_range, beq_iff_eq] at h1
    obtain ⟨a, ha, e⟩ := h1
    exact ⟨a, ha, by unfold lineV; rw [e]; exact h2⟩
  · rintro ⟨a, ha, h⟩
    have hlt := line_lt s hs l hl a ha
    refine ⟨hv, _, by omega, ?_, h⟩
    rw [onL_line s hs l hl _ hlt]
    simp only [onLine, List.any_eq_true, List.mem_range, beq_iff_eq]
    exact ⟨a, ha, rfl⟩
theorem full_bits : ∀ M, M < 32 → ∀ s ∈ [2, 3, 4], (M = 2 ^ (s + 1) - 2 ↔ ∀ v, v < 5 → M.testBit v = (Nat.blt 0 v && Nat.ble v s)) := by decide +kernel
theorem lmask_zero {xs : List Int} {s n : Nat} (hok : okAll xs s n) (l : Nat) {v : Nat} (hv : v = 0 ∨ s < v) : (lmask xs s n l).testBit v = false := by
  cases h : (lmask xs s n l).testBit v
  · rfl
  · rw [lmask_test hok l v n (Nat.le_refl _)] at h
    obtain ⟨h0, i, hi, _, h2⟩ := h
    have := hok i hi
    omega
theorem lmask_full {xs : List Int} {s n : Nat} (hs : s ∈ [2, 3, 4]) (hn : n = s * s) (hok : okAll xs s n) {l : Nat} (hl : l < 2 * s) : lmask xs s n l = 2 ^ (s + 1) - 2 ↔ ∀ v, 1 ≤ v → v ≤ s → hasTo (lineV xs s l) s (v : Int) = true := by
  have hs4 : s ≤ 4 := by simp at hs; omega
  rw [full_bits _ (lmask_lt (by omega) hok n (Nat.le_refl _) l (by omega)) s hs]
  constructor
  · intro h v h1 h2
    rw [← lmask_has hs hn hok hl (by omega), h v (by omega)]
    simp [Nat.blt_eq]; omega
  · intro h v h5
    by_cases hv : v = 0 ∨ s < v
    · rw [lmask_zero hok l hv]
      rcases hv with rfl | hv
      · rfl
      · have : Nat.ble v s = false := by
          cases e : Nat.ble v s
          · rfl
          · have := Nat.le_of_ble_eq_true e; omega
        rw [this, Bool.and_false]
    · rw [lmask_has hs hn hok hl (by omega), h v (by omega) (by omega)]
      have h1 : Nat.blt 0 v = true := by rw [Nat.blt_eq]; omega
      have h2 : Nat.ble v s = true := Nat.ble_eq_true_of_le (by omega)
      rw [h1, h2]; rfl
/-- where every value of 1..s stands among s values of 0..s, none is 0 and no two are equal. -/
def hasN (L : List Nat) (v : Nat) : Bool := L.contains v
def revB (L : List Nat) (s : Nat) : Bool := (List.range s).any (fun v => !L.contains (v + 1)) || (L.all (fun a => a != 0) && decide L.Nodup)
theorem rev2 : ∀ a, a < 3 → ∀ b, b < 3 → revB [a, b] 2 = true := by decide +kernel
theorem rev3 : ∀ a, a < 4 → ∀ b, b < 4 → ∀ c, c < 4 → revB [a, b, c] 3 = true := by decide +kernel
theorem rev4 : ∀ a, a < 5 → ∀ b, b < 5 → ∀ c, c < 5 → ∀ d, d < 5 → revB [a, b, c, d] 4 = true := by decide +kernel
theorem rev_all {f : Nat → Int} {s : Nat} (hs : s ∈ [2, 3, 4]) (hf : ∀ i, i < s → 0 ≤ f i ∧ f i ≤ s) : revB ((List.range s).map fun i => (f i).toNat) s = true := by
  simp at hs
  rcases hs with rfl | rfl | rfl
  · exact rev2 _ (by have := hf 0 (by omega); show (f 0).toNat < 3; omega) _ (by have := hf 1 (by omega); show (f 1).toNat < 3; omega)
  · exact rev3 _ (by have := hf 0 (by omega); show (f 0).toNat < 4; omega) _ (by have := hf 1 (by omega); show (f 1).toNat < 4; omega) _ (by have := hf 2 (by omega); show (f 2).toNat < 4; omega)
  · exact rev4 _ (by have := hf 0 (by omega); show (f 0).toNat < 5; omega) _ (by have := hf 1 (by omega); show (f 1).toNat < 5; omega) _ (by have := hf 2 (by omega); show (f 2).toNat < 5; omega) _ (by have := hf 3 (by omega); show (f 3).toNat < 5; omega)
theorem rev {f : Nat → Int} {s : Nat} (hs : s ∈ [2, 3, 4]) (hf : ∀ i, i < s → 0 ≤ f i ∧ f i ≤ s) (hall : ∀ v : Nat, 1 ≤ v → v ≤ s → hasTo f s (v : Int) = true) : dupTo f s = false ∧ ∀ i, i < s → f i ≠ 0 := by
  have h := rev_all hs hf
  simp only [revB, Bool.or_eq_true, Bool.and_eq_true, List.any_eq_true, List.mem_range, List.all_eq_true, decide_eq_true_eq] at h
  rcases h with ⟨v, hv, h⟩ | ⟨h0, hd⟩
  · exfalso
    have := hall (v + 1) (by omega) (by omega)
    rw [hasTo_iff] at this
    obtain ⟨i, hi, e⟩ := this
    have hm : (v + 1) ∈ (List.range s).map fun i => (f i).toNat := List.mem_map.2 ⟨i, List.mem_range.2 hi, by omega⟩
    have := List.contains_iff_mem.2 hm
    rw [this] at h
    simp at h
  · refine ⟨?_, fun i hi e => ?_⟩
    · cases hc : dupTo f s
      · rfl
      · rw [dupTo_iff] at hc
        obtain ⟨i, j, hij, hj, he, _⟩ := hc
        have := List.pairwise_map.1 hd
        rw [List.pairwise_iff_getElem] at this
        have h9 := this i j (by simp; omega) (by simp; omega) hij
        simp only [List.getElem_range] at h9
        omega
    · have := h0 (f i).toNat (List.mem_map.2 ⟨i, List.mem_range.2 hi, rfl⟩)
      rw [e] at this
      simp at this
theorem row_of : ∀ s ∈ [2, 3, 4], ∀ k, k < s * s → k / s < 2 * s ∧ k % s < s ∧ (lineAt (s : Nat) ((k / s : Nat) : Int) (k % s)).toNat = k := by decide +kernel
theorem solved_masks {xs : List Int} {s n : Nat} (hs : s ∈ [2, 3, 4]) (hn : n = s * s) (hl : xs.length = n) (hg : gv xs s = true) (hok : okAll xs s n) : sqSolved xs s = true ↔ ∀ l, l < 2 * s → lmask xs s n l = 2 ^ (s + 1) - 2 := by
  have hf : ∀ l, l < 2 * s → ∀ i, i < s → 0 ≤ lineV xs s l i ∧ lineV xs s l i ≤ s := fun l hl' i hi => hok _ (by rw [hn]; exact line_lt s hs l hl' i hi)
  rw [solved_iff hl]
  constructor
  · rintro ⟨_, hc, hz⟩ l hl'
    rw [lmask_full hs hn hok hl']
    intro v v1 v2
    refine pig hs (fun i hi => ?_) ?_ (by omega) (by omega)
    · have h1 := hf l hl' i hi
      have h2 := hz (lineAt (s : Nat) (l : Nat) i).toNat (by rw [hn]; exact line_lt s hs l hl' i hi)
      unfold lineV at *
      omega
    · cases hd : dupTo (lineV xs s l) s
      · rfl
      · have : clash xs s = true := clash_at (l := l) (by omega) (by rw [Int.toNat_natCast]; exact hd)
        rw [hc] at this; cases this
  · intro h
    have key : ∀ l, l < 2 * s → dupTo (lineV xs s l) s = false ∧ ∀ i, i < s → lineV xs s l i ≠ 0 := fun l hl' => rev hs (hf l hl') (fun v v1 v2 => (lmask_full hs hn hok hl').1 (h l hl') v v1 v2)
    refine ⟨hg, ?_, fun k hk => ?_⟩
    · cases hc : clash xs s
      · rfl
      · rw [clash, clashTo_iff] at hc
        obtain ⟨l, hl', hd⟩ := hc
        rw [Int.toNat_natCast, (key l (by omega)).1] at hd
        cases hd
    · obtain ⟨h1, h2, h3⟩ := row_of s hs k (by omega)
      have := (key _ h1).2 _ h2
      unfold lineV at this
      rw [h3] at this
      exact this
end Go.Proofs.Ytjdhfknoldginaa
namespace Go.Proofs.Ytjdhfknoldginaa
open Go.ChangeShapes Go.WideShapes Go.ChangeAt Go.RowKit

theorem results_cell_tmp {P : Program} {fn : Func} {p q : Tmp} {ty : TypeId} (h : fn.results = #[.cell p ty, .tmp q]) (tmps : Array Value) (w : World) (g : Nat) (t : TypeId) (cs : Array Value) (fr : Nat × Nat) (d : TypeDesc) (b : Value)
    (hp : tmps.getD p undef = .pointer (some ⟨g, 0, none⟩)) (hq : tmps.getD q undef = b) (hg : w.heap[g]? = some (.cells cs t fr))
    (hu : P.underlying ty = some d) (hd : (match d with | .struct _ | .array _ _ => true | _ => false) = true) (hi : (P.info? ty).map (·.size) = some cs.size) :
    (results fn tmps).run P w = .ok (.tuple #[.agg cs, b]) w := by
  have hp' : tmps[p]?.getD undef = .pointer (some ⟨g, 0, none⟩) := by simpa using hp
  have hq' : tmps[q]?.getD undef = b := by simpa using hq
  simp [results, h, hp', hq', asAddr, run_loadVar_row w g t ty cs fr d hg hu hd hi]
theorem MBox.lt {w : World} {g : Nat} {M : Nat → Nat} {s : Int} (h : MBox w g M s) : g < w.heap.size := (Array.getElem?_eq_some_iff.1 h).1
theorem MBox.row_other {w : World} {g g' : Nat} {cs : Array Value} {M : Nat → Nat} {s : Int} (h : MBox w g M s) (hne : g ≠ g') : MBox (w.setRow g' cs) g M s := by
  unfold MBox World.setRow
  simp only [Array.getElem?_modify]
  rw [if_neg (fun e => hne e.symm)]
  exact h
theorem lmask_z {xs : List Int} {s k : Nat} (h : nth xs k = 0) : lmask xs s (k + 1) = lmask xs s k ∧ twice xs s (k + 1) = twice xs s k := by simp [lmask, twice, h]
theorem lmask_nz {xs : List Int} {s k v : Nat} (h : nth xs k = (v : Int)) (hv : v ≠ 0) : lmask xs s (k + 1) = mput (mput (lmask xs s k) (k / s) v) (s + k % s) v ∧ twice xs s (k + 1) = (twice xs s k || ((lmask xs s k (k / s)).testBit v || (lmask xs s k (s + k % s)).testBit v)) := by
  have h0 : nth xs k ≠ 0 := by omega
  have e : (nth xs k).toNat = v := by omega
  simp only [lmask, twice]
  rw [if_neg h0, if_neg h0, e]
  exact ⟨rfl, rfl⟩
theorem rc_lt : ∀ s ∈ [2, 3, 4], ∀ k, k < s * s → k / s < 8 ∧ s + k % s < 8 := by decide +kernel

theorem lines_any (A : Option Addr) (c n B s : Nat) (xs : List Int) (w : World) (h : Rd w B A n xs) (hB : B ≤ w.heap.size) (hs : s ∈ [2, 3, 4]) (hn : n = s * s) (hok : Hid (okAll xs s n)) :
    Calls Try.prog 25 #[.agg #[.slice A n c, .int .i64 s]] w fun e w' => e = .returned (.tuple #[.agg (mcells (lmask xs s n) s), .bool (twice xs s n)]) ∧ Below w.heap.size w w' := by
  have hs2 : 2 ≤ s := by simp at hs; omega
  have hs4 : s ≤ 4 := by simp at hs; omega
  have hn16 : n ≤ 16 := by simp at hs; rcases hs with rfl | rfl | rfl <;> omega
  have Hn := Lib.hid hn; clear hn
  have hi9 : ∀ M : Nat → Nat, (Try.prog.info? 46).map (·.size) = some (mcells M s).size := fun M => by rw [mcells_size]; kernel_rfl
  have Hi9 := Lib.hid hi9; clear hi9
  have hone : ∀ M : Nat → Nat, (mcells M s).all (·.oneCell') = true := fun M => mone M s
  have Hone := Lib.hid hone; clear hone
  go_enter Try.func25, Try.ntmps25
  go_wp2
  go_loopw [5, 14] (fun t i wr => ∃ k : Nat, k ≤ n ∧ i = .int .i64 k ∧ t = .bool (twice xs s k) ∧ Hid (MBox wr (w.heap.size + 1 + 1) (lmask xs s k) s) ∧ Hid (MBox wr (w.heap.size + 1) (fun _ => 0) 0) ∧ Below w.heap.size w wr) (fun _ i _ => n - (intOf i).toNat)
  case atStart =>
    refine ⟨0, Nat.zero_le _, rfl, rfl, Lib.hid ?_, Lib.hid ?_, (((Below.refl _ _).alloc (Nat.le_refl _) _).alloc (by simp) _).alloc (by simp; omega) _⟩
    · have := heap_alloc_new ((w.alloc (Obj.cells #[Value.slice A n c, Value.int IntKind.i64 ↑s] 43)).alloc (Obj.cells (mcells (fun _ => 0) 0) 46)) (.cells (mcells (fun _ => 0) s) 46)
      simp only [World.size_alloc] at this
      exact this
    · have := heap_alloc_new (w.alloc (Obj.cells #[Value.slice A n c, Value.int IntKind.i64 ↑s] 43)) (.cells (mcells (fun _ => 0) 0) 46)
      simp only [World.size_alloc] at this
      exact (heap_alloc_old _ _ (by simp)).trans this
  case round =>
    obtain ⟨k, hk, rfl, rfl, hx, hy, hB0⟩ := hrel
    by_cases hlt : k < n
    · obtain ⟨b, off, rfl, hbB, hck⟩ := (h.below (hB0.mono hB)).at_ hlt
      obtain ⟨x0, x4⟩ := hok.out k hlt
      obtain ⟨v, hv⟩ := Int.eq_ofNat_of_zero_le x0
      have hv4 : v ≤ 4 := by omega
      obtain ⟨hr8, hc8⟩ := rc_lt s hs k (by have := Hn.out; omega)
      have Hr : Hid ((k : Int) / (s : Int) = ((k / s : Nat) : Int)) := Lib.hid (by simp)
      have Hc : Hid ((s : Int) + (k : Int) % (s : Int) = ((s + k % s : Nat) : Int)) := Lib.hid (by simp)
      have Hm := Lib.hid (lmask_lt (xs := xs) (by omega : (s : Int) ≤ 4) hok.out k hk)
      by_cases hz : v = 0
      · subst hz
        obtain ⟨e1, e2⟩ := lmask_z (s := s) hv
        have E1 := Lib.hid e1; have E2 := Lib.hid e2; clear e1 e2
        go_wp2
        go_roundw
        case rel => exact ⟨k + 1, by omega, by go_num, by rw [E2.out], by rw [E1.out]; exact hx, hy, hB0⟩
        case measure => simp [intOf]; omega
      · obtain ⟨e1, e2⟩ := lmask_nz (s := s) hv hz
        have E1 := Lib.hid e1; have E2 := Lib.hid e2; clear e1 e2
        have hz1 : ((v : Int) == 0) = false := by simp; omega
        cases ht : twice xs s k
        · go_wp2_with (first | (refine wpList_load_row_w rfl 46 _ rfl (w.heap.size + 1 + 1) rfl 46 (mcells (lmask xs s k) s) (0, 0) _ hx.out Try.underlying46 rfl (Hi9.out _) ?_) | (go_at_call 45; refine (meets_any (lmask xs s k) s k (k / s) (s + k % s) v _ (by omega) (by omega) Hr.out Hc.out hr8 hc8 (by omega) hv4 Hm.out).mono ?_; rintro e w1 ⟨rfl, hb1⟩; have hx1 := Lib.hid (MBox.below hx.out hx.out.lt hb1); have hy1 := Lib.hid (MBox.below hy.out hy.out.lt hb1); have hB1 := step hB0 hb1; clear hb1) | (refine wpList_load_row rfl 46 _ rfl (w.heap.size + 1 + 1) rfl 46 (mcells (lmask xs s k) s) (0, 0) _ hx1.out Try.underlying46 rfl (Hi9.out _) ?_) | (go_at_call 46; refine (with_any (lmask xs s k) s k (k / s) (s + k % s) v _ (by omega) (by omega) Hr.out Hc.out hr8 hc8 (by omega) hv4 Hm.out).mono ?_; rintro e w2 ⟨rfl, hb2⟩; have hx2 := Lib.hid (MBox.below hx1.out hx1.out.lt hb2); have hy2 := Lib.hid (MBox.below hy1.out hy1.out.lt hb2); have hB2 := step hB1 hb2; clear hb2) | (refine wpList_store_row rfl 46 _ _ rfl (w.heap.size + 1 + 1) (mcells (mput (mput (lmask xs s k) (k / s) v) (s + k % s) v) s) rfl rfl 46 (mcells (lmask xs s k) s) hx2.out (Hi9.out _) rfl (Hone.out _) ?_))
          have hxe := Lib.hid (MBox.stored (M' := mput (mput (lmask xs s k) (k / s) v) (s + k % s) v) (s' := s) hx2.out)
          have hye := Lib.hid (MBox.row_other (cs := mcells (mput (mput (lmask xs s k) (k / s) v) (s + k % s) v) s) hy2.out (show w.heap.size + 1 ≠ w.heap.size + 1 + 1 by omega))
          have hBe := setRow_below (g := w.heap.size + 1 + 1) (cs := mcells (mput (mput (lmask xs s k) (k / s) v) (s + k % s) v) s) hB2 (by omega)
          rw [ht] at E2
          go_roundw
          case rel => exact ⟨k + 1, by omega, by go_num, by rw [E2.out]; rfl, by rw [E1.out]; exact hxe, hye, hBe⟩
          case measure => simp [intOf]; omega
        · go_wp2_with (first | (refine wpList_load_row rfl 46 _ rfl (w.heap.size + 1 + 1) rfl 46 (mcells (lmask xs s k) s) (0, 0) _ hx.out Try.underlying46 rfl (Hi9.out _) ?_) | (go_at_call 46; refine (with_any (lmask xs s k) s k (k / s) (s + k % s) v _ (by omega) (by omega) Hr.out Hc.out hr8 hc8 (by omega) hv4 Hm.out).mono ?_; rintro e w2 ⟨rfl, hb2⟩; have hx2 := Lib.hid (MBox.below hx.out hx.out.lt hb2); have hy2 := Lib.hid (MBox.below hy.out hy.out.lt hb2); have hB2 := step hB0 hb2; clear hb2) | (refine wpList_store_row rfl 46 _ _ rfl (w.heap.size + 1 + 1) (mcells (mput (mput (lmask xs s k) (k / s) v) (s + k % s) v) s) rfl rfl 46 (mcells (lmask xs s k) s) hx2.out (Hi9.out _) rfl (Hone.out _) ?_))
          have hxe := Lib.hid (MBox.stored (M' := mput (mput (lmask xs s k) (k / s) v) (s + k % s) v) (s' := s) hx2.out)
          have hye := Lib.hid (MBox.row_other (cs := mcells (mput (mput (lmask xs s k) (k / s) v) (s + k % s) v) s) hy2.out (show w.heap.size + 1 ≠ w.heap.size + 1 + 1 by omega))
          have hBe := setRow_below (g := w.heap.size + 1 + 1) (cs := mcells (mput (mput (lmask xs s k) (k / s) v) (s + k % s) v) s) hB2 (by omega)
          rw [ht] at E2
          go_roundw
          case rel => exact ⟨k + 1, by omega, by go_num, by rw [E2.out]; rfl, by rw [E1.out]; exact hxe, hye, hBe⟩
          case measure => simp [intOf]; omega
    · obtain rfl : k = n := by omega
      have hxf := Lib.hid (MBox.stored (M' := lmask xs s k) (s' := s) hy.out)
      have hBe := setRow_below (g := w.heap.size + 1) (cs := mcells (lmask xs s k) s) hB0 (by omega)
      go_wp2_with (first | (refine wpList_load_row rfl 46 _ rfl (w.heap.size + 1 + 1) rfl 46 (mcells (lmask xs s k) s) (0, 0) _ hx.out Try.underlying46 rfl (Hi9.out _) ?_) | (refine wpList_store_row rfl 46 _ _ rfl (w.heap.size + 1) (mcells (lmask xs s k) s) rfl rfl 46 (mcells (fun _ => 0) 0) hy.out (Hi9.out _) rfl (Hone.out _) ?_))
      refine bodyPost_ret (v := .tuple #[.agg (mcells (lmask xs s k) s), .bool (twice xs s k)]) (results_cell_tmp (by rfl) _ _ (w.heap.size + 1) 46 _ (0, 0) _ _ rfl rfl hxf.out Try.underlying46 rfl (Hi9.out _)) rfl ⟨rfl, hBe⟩
end Go.Proofs.Ytjdhfknoldginaa
namespace Go.Proofs.Ytjdhfknoldginaa
open Go.ChangeShapes Go.WideShapes Go.ChangeAt Go.RowKit

/- what the program's own functions of chapter 2 must be shown to do. -/
def ISquareFits : Prop := ∀ (A : Option Addr) (c n B : Nat) (xs : List Int) (size : Int) (w : World), Rd w B A n xs → B ≤ w.heap.size → n ≤ 1099511627776 →
    Calls Try.prog 9 #[.slice A n c, .int .i64 size] w fun e w' => e = .returned (.bool (sqFits xs size)) ∧ Below w.heap.size w w'
def ISquareSolved : Prop := ∀ (A : Option Addr) (c n B : Nat) (xs : List Int) (size : Int) (w : World), Rd w B A n xs → B ≤ w.heap.size → n ≤ 1099511627776 →
    Calls Try.prog 15 #[.slice A n c, .int .i64 size] w fun e w' => e = .returned (.bool (sqSolved xs size)) ∧ Below w.heap.size w w'
theorem sqOfL_length (size : Int) : (sqOfL size).length ≤ 16 := by
  unfold sqOfL
  split
  · next h =>
    obtain ⟨h2, h4⟩ := inr_t h
    have := sq_bd h2 h4
    rw [mapTo_length]; omega
  · simp
end Go.Proofs.Ytjdhfknoldginaa
