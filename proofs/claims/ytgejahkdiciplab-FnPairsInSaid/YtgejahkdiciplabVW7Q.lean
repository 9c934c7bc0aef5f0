import Derived.Test.YtgejahkdiciplabVI6M
import Derived.Test.YtgejahkdiciplabVPr
import Derived.RegionTactic
import Derived.Laws.Rows
import Derived.Laws.Tables
import Derived.Test.YtgejahkdiciplabQ4S
import Derived.Test.YtgejahkdiciplabBase
import Derived.Test.YtgejahkdiciplabOwn
import Derived.Lib.SliceRun
import Derived.Test.YtgejahkdiciplabVI3V
import Derived.Test.YtgejahkdiciplabVPuzB
import Derived.Deep.CutRange
import Derived.Deep.CutBlock
import Derived.Test.YtgejahkdiciplabVDNP
import Derived.Test.YtgejahkdiciplabVNa
set_option maxRecDepth 8000
namespace Go.Proofs.Ytgejahkdiciplab
open Go.ChangeShapes Go.WideShapes Go.ChangeAt Go.RowKit
/-! OnesCount of any number below 32, and the program's pairMask. -/
theorem ones64_odd (M : Nat) (h : M < 32) (he : M % 2 = 1) (w : World) : Calls Try.prog 119 #[.int .u64 M] w fun e w' => e = .returned (.int .i64 (Lib.onesCount M : Nat)) ∧ w = w' := by
  have : M = 1 ∨ M = 3 ∨ M = 5 ∨ M = 7 ∨ M = 9 ∨ M = 11 ∨ M = 13 ∨ M = 15 ∨ M = 17 ∨ M = 19 ∨ M = 21 ∨ M = 23 ∨ M = 25 ∨ M = 27 ∨ M = 29 ∨ M = 31 := by omega
  rcases this with rfl | rfl | rfl | rfl | rfl | rfl | rfl | rfl | rfl | rfl | rfl | rfl | rfl | rfl | rfl | rfl
  all_goals
    go_enter Try.func119, Try.ntmps119
    go_wp2
    go_ret
    exact ⟨by kernel_rfl, rfl⟩
theorem ones_all (M : Nat) (h : M < 32) (w : World) : Calls Try.prog 110 #[.int .u64 M] w fun e w' => e = .returned (.int .i64 (Lib.onesCount M : Nat)) ∧ w = w' := by
  by_cases he : M % 2 = 0
  · exact ones_any M h he w
  · go_enter Try.func110, Try.ntmps110
    go_wp2_with (go_at_call 119; refine (ones64_odd M h (by omega) _).mono ?_; rintro e w' ⟨rfl, rfl⟩)
    go_ret
    exact ⟨rfl, rfl⟩
theorem pairMask_any (M : Nat) (h : M < 32) (w : World) : Calls Try.prog 95 #[.int .i64 M] w fun e w' => e = .returned (.bool (two M)) ∧ w = w' := by
  have hl := ones_lt M h
  have Ho := Lib.hid (fun w => ones_all M h w)
  have Ht := Lib.hid (show two M = decide (((Lib.onesCount M : Nat) : Int) = 2) by
    rw [two, Bool.eq_iff_iff, beq_iff_eq, decide_eq_true_eq]; omega)
  obtain ⟨p, hp⟩ : ∃ p, Lib.onesCount M = p := ⟨_, rfl⟩
  rw [hp] at Ho Ht hl
  clear hp
  go_enter Try.func95, Try.ntmps95
  go_wp2_with (go_at_call 110; refine (Ho.out _).mono ?_; rintro e w' ⟨rfl, rfl⟩)
  go_ret
  exact ⟨by rw [Ht.out]; rfl, rfl⟩
end Go.Proofs.Ytgejahkdiciplab
namespace Go.Proofs.Ytgejahkdiciplab
open Go.ChangeShapes Go.WideShapes Go.ChangeAt Go.RowKit

/-- a whole array read at an operation that is guarded, and wanted. -/
theorem wpList_load_row_w {P : Program} {ops : Array Oper} {rest : List Oper} {o : Oper} {a : Act} {w : World} {Q : Exit → Act → World → Prop} (hw : Region.wanted o (yielded ops a.tmps) = true) (ty : TypeId) (x : Operand) (ho : o.op = .load ty x)
    (g : Nat) (hx : a.eval x = .pointer (some ⟨g, 0, none⟩)) (t : TypeId) (cs : Array Value) (fr : Nat × Nat) (d : TypeDesc) (hg : w.heap[g]? = some (.cells cs t fr))
    (hu : P.underlying ty = some d) (hd : (match d with | .struct _ | .array _ _ => true | _ => false) = true) (hi : (P.info? ty).map (·.size) = some cs.size)
    (h : wpList P ops Q rest (a.put o.dst (.agg cs)) w) : wpList P ops Q (o :: rest) a w :=
  wpList_step fun K hK => by simp only [hw, if_true]; exact wp_load_row ty x ho g hx t cs fr d hg hu hd hi (hK _ _ h)
/-- the cells of the program's masks, one a line, and its size. -/
def mcells (M : Nat → Nat) (s : Int) : Array Value := #[.int .i64 (M 0), .int .i64 (M 1), .int .i64 (M 2), .int .i64 (M 3), .int .i64 (M 4), .int .i64 (M 5), .int .i64 (M 6), .int .i64 (M 7), .int .i64 s]
theorem mcells_size (M : Nat → Nat) (s : Int) : (mcells M s).size = 9 := rfl
theorem mcell_at (M : Nat → Nat) (s : Int) {l : Nat} (hl : l < 8) : (mcells M s)[l]? = some (.int .i64 (M l)) := by
  have : l = 0 ∨ l = 1 ∨ l = 2 ∨ l = 3 ∨ l = 4 ∨ l = 5 ∨ l = 6 ∨ l = 7 := by omega
  rcases this with rfl | rfl | rfl | rfl | rfl | rfl | rfl | rfl <;> rfl
theorem mbox_cell (M : Nat → Nat) (s : Int) (w : World) {l : Nat} (hl : l < 8) : (w.alloc (.cells (mcells M s) 59)).cell? ⟨w.heap.size, l, none⟩ = some (.int .i64 (M l)) :=
  (cell_of_row _ _ l _ _ (0, 0) (heap_alloc_new w _)).trans (mcell_at M s hl)
theorem mbox_size (M : Nat → Nat) (s : Int) (w : World) : (w.alloc (.cells (mcells M s) 59)).cell? ⟨w.heap.size, 8, none⟩ = some (.int .i64 s) :=
  (cell_of_row _ _ 8 _ _ (0, 0) (heap_alloc_new w _)).trans rfl
theorem linesThrough_any (s cell : Int) (w : World) (h2 : 2 ≤ s) (h4 : s ≤ 4) (c0 : 0 ≤ cell) (c1 : cell < 16) :
    Calls Try.prog 105 #[.int .i64 s, .int .i64 cell] w fun e w' => e = .returned (.tuple #[.int .i64 (cell / s), .int .i64 (s + cell % s)]) ∧ Below w.heap.size w w' := by
  have q0 : 0 ≤ cell / s := Int.ediv_nonneg c0 (by omega)
  have q1 : cell / s ≤ cell := Int.ediv_le_self _ c0
  have r0 : 0 ≤ cell % s := Int.emod_nonneg _ (by omega)
  have r1 : cell % s < s := Int.emod_lt_of_pos _ (by omega)
  have e1 : cell.tmod s = cell % s := Int.tmod_eq_emod_of_nonneg c0
  have e2 : cell.tdiv s = cell / s := Int.tdiv_eq_ediv_of_nonneg c0
  have e3 : IntKind.i64.wrap (cell / s) = cell / s := IntWalk.i64_in _ (by omega)
  have e4 : IntKind.i64.wrap (s + cell % s) = s + cell % s := IntWalk.i64_in _ (by omega)
  have hz : (s == 0) = false := by simp; omega
  go_enter Try.func105, Try.ntmps105
  go_wp2
  go_quiet (fail)
  go_wp2
  go_ret2
  exact ⟨rfl, below_drewN (Below.refl _ _) _⟩

theorem or_pow (a v : Nat) (ha : a < 32) (hv : v ≤ 4) : bits .or .i64 (a : Int) (wrap64 (2 ^ v)) = ((a ||| 2 ^ v : Nat) : Int) := by
  have hlt : 2 ^ v < 2 ^ 5 := Nat.pow_lt_pow_right (by omega) (by omega)
  rw [pow_int]
  generalize 2 ^ v = p at *
  rw [IntWalk.wrap64_in _ ⟨by omega, by omega⟩, i64_or_nat _ _ (by omega) (by omega)]
theorem or_lt (a v : Nat) (ha : a < 32) (hv : v ≤ 4) : a ||| 2 ^ v < 32 :=
  Nat.or_lt_two_pow (n := 5) ha (Nat.pow_lt_pow_right (by omega) (by omega))
theorem has_any (M : Nat → Nat) (s : Int) (l v : Nat) (w : World) (hl : l < 8) (v4 : v ≤ 4) (hm : M l < 32) :
    Calls Try.prog 106 #[.agg (mcells M s), .int .i64 l, .int .i64 v] w fun e w' => e = .returned (.bool ((M l).testBit v)) ∧ Below w.heap.size w w' := by
  have hc := mbox_cell M s w hl
  have hl8 : (l : Int) < 8 := by omega
  have ha := Lib.hid (and_pow (M l) v hm v4)
  go_enter Try.func106, Try.ntmps106
  go_wp2
  go_quiet (fail)
  go_wp2
  go_ret
  exact ⟨by rw [← ha.out]; rfl, below_drewN ((Below.refl _ _).alloc (Nat.le_refl _) _) _⟩

def mput (M : Nat → Nat) (l v : Nat) : Nat → Nat := fun j => if j = l then M j ||| 2 ^ v else M j
theorem mput_lt {M : Nat → Nat} {l v : Nat} (hm : ∀ l, l < 8 → M l < 32) (hv : v ≤ 4) : ∀ j, j < 8 → mput M l v j < 32 := fun j hj => by
  unfold mput
  split
  · exact or_lt _ _ (hm j hj) hv
  · exact hm j hj
theorem mcells_set (M : Nat → Nat) (s : Int) {l v : Nat} (hl : l < 8) : (mcells M s).setIfInBounds l (.int .i64 ((M l ||| 2 ^ v : Nat) : Int)) = mcells (mput M l v) s := by
  have : l = 0 ∨ l = 1 ∨ l = 2 ∨ l = 3 ∨ l = 4 ∨ l = 5 ∨ l = 6 ∨ l = 7 := by omega
  rcases this with rfl | rfl | rfl | rfl | rfl | rfl | rfl | rfl <;> rfl
/-- the masks lie in block g. -/
def MBox (w : World) (g : Nat) (M : Nat → Nat) (s : Int) : Prop := w.heap[g]? = some (.cells (mcells M s) 59)
theorem MBox.cell {w : World} {g : Nat} {M : Nat → Nat} {s : Int} (h : MBox w g M s) {l : Nat} (hl : l < 8) : w.cell? ⟨g, l, none⟩ = some (.int .i64 (M l)) :=
  (cell_of_row _ _ l _ _ (0, 0) h).trans (mcell_at M s hl)
theorem MBox.size_ {w : World} {g : Nat} {M : Nat → Nat} {s : Int} (h : MBox w g M s) : w.cell? ⟨g, 8, none⟩ = some (.int .i64 s) :=
  (cell_of_row _ _ 8 _ _ (0, 0) h).trans rfl
theorem MBox.frozen {w : World} {g : Nat} {M : Nat → Nat} {s : Int} (h : MBox w g M s) (l : Nat) : w.frozen? ⟨g, l, none⟩ = false := by
  unfold World.frozen?
  rw [show w.heap[g]? = _ from h]
  simp
theorem MBox.set {w : World} {g : Nat} {M : Nat → Nat} {s : Int} (h : MBox w g M s) {l v : Nat} (hl : l < 8) : MBox (w.setCell ⟨g, l, none⟩ (.int .i64 ((M l ||| 2 ^ v : Nat) : Int))) g (mput M l v) s := by
  unfold MBox
  rw [heap_setCell_same w g l _ _ _ h, ← mcells_set M s hl]
theorem MBox.below {w w' : World} {g B : Nat} {M : Nat → Nat} {s : Int} (h : MBox w g M s) (hg : g < B) (hb : Below B w w') : MBox w' g M s := (hb.block g hg).trans h
theorem MBox.other {w : World} {g g' k : Nat} {v : Value} {M : Nat → Nat} {s : Int} (h : MBox w g M s) (hne : g ≠ g') : MBox (w.setCell ⟨g', k, none⟩ v) g M s := (heap_setCell_other w _ g v hne).trans h
theorem MBox.stored {w : World} {g : Nat} {M M' : Nat → Nat} {s s' : Int} (h : MBox w g M s) : MBox (w.setRow g (mcells M' s')) g M' s' := setRow_heap w g _ _ _ _ h
theorem setRow_below {B g : Nat} {w w' : World} {cs : Array Value} (h : Below B w w') (hg : B ≤ g) : Below B w (w'.setRow g cs) :=
  h.trans ⟨rfl, rfl, rfl, by simp, fun k hk => by unfold World.setRow; simp only [Array.getElem?_modify]; rw [if_neg (by omega)]⟩
theorem mone (M : Nat → Nat) (s : Int) : (mcells M s).all (·.oneCell') = true := by simp [mcells, Value.oneCell']
theorem linesThrough_rc (s : Int) (cell r c : Nat) (w : World) (h2 : 2 ≤ s) (h4 : s ≤ 4) (c1 : cell < 16) (hr : (cell : Int) / s = (r : Int)) (hc : s + (cell : Int) % s = (c : Int)) :
    Calls Try.prog 105 #[.int .i64 s, .int .i64 cell] w fun e w' => e = .returned (.tuple #[.int .i64 r, .int .i64 c]) ∧ Below w.heap.size w w' := by
  rw [← hr, ← hc]
  exact linesThrough_any s cell w h2 h4 (by omega) (by omega)
theorem with_any (M : Nat → Nat) (s : Int) (cell r c v : Nat) (w : World) (h2 : 2 ≤ s) (h4 : s ≤ 4) (hr : (cell : Int) / s = (r : Int)) (hc : s + (cell : Int) % s = (c : Int)) (r8 : r < 8) (c8 : c < 8) (c2 : cell < 16) (v4 : v ≤ 4) (hm : ∀ l, l < 8 → M l < 32) :
    Calls Try.prog 87 #[.agg (mcells M s), .int .i64 cell, .int .i64 v] w fun e w' => e = .returned (.agg (mcells (mput (mput M r v) c v) s)) ∧ Below w.heap.size w w' := by
  have hg0 : ∀ o, ((w.alloc (.cells (mcells M s) 59)).alloc o).heap[w.heap.size]? = some (.cells (mcells M s) 59) := fun o => by rw [heap_alloc_old _ _ (by simp)]; exact heap_alloc_new w _
  have hz0 : ∀ u : World, MBox (u.alloc (.cells #[.int .i64 0, .int .i64 0, .int .i64 0, .int .i64 0, .int .i64 0, .int .i64 0, .int .i64 0, .int .i64 0, .int .i64 0] 59)) u.heap.size (fun _ => 0) 0 := fun u => heap_alloc_new u _
  have Hz0 := Lib.hid hz0; clear hz0
  have hi9 : (Try.prog.info? 59).map (·.size) = some (mcells M s).size := by rw [mcells_size]; kernel_rfl
  have Hg0 := Lib.hid hg0; clear hg0
  have Hi9 := Lib.hid hi9; clear hi9
  have Hr := Lib.hid hr; clear hr
  have Hc := Lib.hid hc; clear hc
  go_enter Try.func87, Try.ntmps87
  have hs8 : ∀ o, ((w.alloc (.cells (mcells M s) 59)).alloc o).cell? ⟨w.heap.size, 8, none⟩ = some (.int .i64 s) := fun o => MBox.size_ (Hg0.out o)
  go_wp2_with (go_at_call 105; refine (linesThrough_rc s cell r c _ h2 h4 c2 Hr.out Hc.out).mono ?_; rintro e w1 ⟨rfl, hb1⟩)
  have hx1 : MBox w1 w.heap.size M s := MBox.below (Hg0.out _) (by simp; omega) hb1
  have hy1 : MBox w1 (w.heap.size + 1) (fun _ => 0) 0 := MBox.below (by have := Hz0.out (w.alloc (.cells (mcells M s) 59)); rwa [World.size_alloc] at this) (by simp) hb1
  have hsz1 : w.heap.size + 2 ≤ w1.heap.size := by have := hb1.size; simp at this; omega
  have hB1 : Below w.heap.size w w1 := (((Below.refl _ _).alloc (Nat.le_refl _) _).alloc (by simp) _).trans (hb1.mono (by simp; omega))
  have hk1 := hx1.cell r8
  have hf1 := hx1.frozen r
  have hr8 : (r : Int) < 8 := by omega
  have hc8 : (c : Int) < 8 := by omega
  have ho1 := or_pow (M r) v (hm r r8) v4
  go_region
  go_wp2
  obtain ⟨w2, hw2⟩ : ∃ w2, w2 = (w1.setCell ⟨w.heap.size, r, none⟩ (.int .i64 ((M r ||| 2 ^ v : Nat) : Int))).drew := ⟨_, rfl⟩
  rw [← hw2]
  have hx2 : MBox w2 w.heap.size (mput M r v) s := by rw [hw2]; exact hx1.set r8
  have hy2 : MBox w2 (w.heap.size + 1) (fun _ => 0) 0 := by rw [hw2]; exact hy1.other (by omega)
  have hsz2 : w.heap.size + 2 ≤ w2.heap.size := by rw [hw2]; simp; omega
  have hB2 : Below w.heap.size w w2 := by rw [hw2]; exact below_drewN (hB1.setCell (Nat.le_refl _) _) 1
  clear hw2 hk1 hf1 ho1
  have hk2 := hx2.cell c8
  have hf2 := hx2.frozen c
  have ho2 := or_pow (mput M r v c) v (mput_lt hm v4 c c8) v4
  have hx3 := hx2.set (v := v) c8
  have hsz3 : w.heap.size + 1 < ((w2.setCell ⟨w.heap.size, c, none⟩ (.int .i64 ((mput M r v c ||| 2 ^ v : Nat) : Int))).drew).heap.size := by simp; omega
  have hB3 := below_drewN (Below.setCell (p := (⟨w.heap.size, c, none⟩ : Addr)) hB2 (Nat.le_refl _) (.int .i64 ((mput M r v c ||| 2 ^ v : Nat) : Int))) 1
  have Hx3 := Lib.hid hx3; clear hx3
  have hy3 := hy2.other (k := c) (v := (.int .i64 ((mput M r v c ||| 2 ^ v : Nat) : Int))) (show w.heap.size + 1 ≠ w.heap.size by omega)
  have Hy3 := Lib.hid hy3; clear hy3
  have Hi9' : Hid ((Try.prog.info? 59).map (·.size) = some (mcells (mput (mput M r v) c v) s).size) := Hi9
  go_region
  go_wp2_with (first | (refine wpList_load_row rfl 59 _ rfl w.heap.size rfl 59 (mcells (mput (mput M r v) c v) s) (0, 0) _ Hx3.out Try.underlying59 rfl Hi9'.out ?_) | (refine wpList_store_row rfl 59 _ _ rfl (w.heap.size + 1) (mcells (mput (mput M r v) c v) s) rfl rfl 59 (mcells (fun _ => 0) 0) Hy3.out Hi9'.out rfl (mone _ _) ?_))
  refine bodyPost_ret (v := .agg (mcells (mput (mput M r v) c v) s)) (results_cell_row (by rfl) _ _ (w.heap.size + 1) 59 _ (0, 0) _ rfl (MBox.stored Hy3.out) Try.underlying59 rfl Hi9'.out) rfl ⟨rfl, setRow_below hB3 (by omega)⟩

theorem meets_any (M : Nat → Nat) (s : Int) (cell r c v : Nat) (w : World) (h2 : 2 ≤ s) (h4 : s ≤ 4) (hr : (cell : Int) / s = (r : Int)) (hc : s + (cell : Int) % s = (c : Int)) (r8 : r < 8) (c8 : c < 8) (c2 : cell < 16) (v4 : v ≤ 4) (hm : ∀ l, l < 8 → M l < 32) :
    Calls Try.prog 86 #[.agg (mcells M s), .int .i64 cell, .int .i64 v] w fun e w' => e = .returned (.bool ((M r).testBit v || (M c).testBit v)) ∧ Below w.heap.size w w' := by
  have hi9 : (Try.prog.info? 59).map (·.size) = some (mcells M s).size := by rw [mcells_size]; kernel_rfl
  have Hi9 := Lib.hid hi9; clear hi9
  have Hr := Lib.hid hr; clear hr
  have Hc := Lib.hid hc; clear hc
  have Hm1 := Lib.hid (hm r r8)
  have Hm2 := Lib.hid (hm c c8)
  have Hg0 := Lib.hid (heap_alloc_new w (.cells (mcells M s) 59))
  have hB0 : Below w.heap.size w (w.alloc (.cells (mcells M s) 59)) := (Below.refl _ _).alloc (Nat.le_refl _) _
  have hs8 := MBox.size_ Hg0.out
  cases hbr : (M r).testBit v
  all_goals
    go_enter Try.func86, Try.ntmps86
    go_wp2_with (first | (refine wpList_load_row rfl 59 _ rfl w.heap.size rfl 59 (mcells M s) (0, 0) _ hx1.out Try.underlying59 rfl Hi9.out ?_) | (go_at_call 105; refine (linesThrough_rc s cell r c _ h2 h4 c2 Hr.out Hc.out).mono ?_; rintro e w1 ⟨rfl, hb1⟩; have hx1 := Lib.hid (MBox.below Hg0.out (by simp) hb1); have hB1 := step hB0 hb1; clear hb1))
    refine (has_any M s r v _ r8 v4 Hm1.out).mono ?_
    rintro e w2 ⟨rfl, hb2⟩
    have hx2 := Lib.hid (MBox.below hx1.out (by have := hB1.size; have := hx1.out; exact (Array.getElem?_eq_some_iff.1 this).1) hb2)
    have hB2 := step hB1 hb2
    clear hb2
    go_wp2_with (first | (refine wpList_load_row_w rfl 59 _ rfl w.heap.size rfl 59 (mcells M s) (0, 0) _ hx2.out Try.underlying59 rfl Hi9.out ?_) | (go_at_call 106; refine (has_any M s c v _ c8 v4 Hm2.out).mono ?_; rintro e w3 ⟨rfl, hb3⟩; have hB3 := step hB2 hb3; clear hb3))
    go_ret
    exact ⟨rfl, by assumption⟩
end Go.Proofs.Ytgejahkdiciplab
set_option maxRecDepth 8000
namespace Go.Proofs.Ytgejahkdiciplab
open Go.ChangeShapes Go.WideShapes Go.ChangeAt Go.RowKit
/-! How many cells of a line have each mask: the program's array of 32 counts. -/
def up1 (C : Nat → Nat) (j : Nat) : Nat → Nat := fun i => if i = j then C i + 1 else C i
theorem cN_up (v : Nat → Nat) (k : Nat) : (fun x => cN v x (k + 1)) = up1 (fun x => cN v x k) (v k) := by
  funext x
  simp only [cN, up1]
  by_cases h : v k = x
  · rw [if_pos h, if_pos h.symm]
  · rw [if_neg h, if_neg (fun e => h e.symm)]
def kcells (C : Nat → Nat) : Array Value := #[.int .i64 (C 0), .int .i64 (C 1), .int .i64 (C 2), .int .i64 (C 3), .int .i64 (C 4), .int .i64 (C 5), .int .i64 (C 6), .int .i64 (C 7), .int .i64 (C 8), .int .i64 (C 9), .int .i64 (C 10), .int .i64 (C 11), .int .i64 (C 12), .int .i64 (C 13), .int .i64 (C 14), .int .i64 (C 15), .int .i64 (C 16), .int .i64 (C 17), .int .i64 (C 18), .int .i64 (C 19), .int .i64 (C 20), .int .i64 (C 21), .int .i64 (C 22), .int .i64 (C 23), .int .i64 (C 24), .int .i64 (C 25), .int .i64 (C 26), .int .i64 (C 27), .int .i64 (C 28), .int .i64 (C 29), .int .i64 (C 30), .int .i64 (C 31)]
theorem kcells_size (C : Nat → Nat) : (kcells C).size = 32 := rfl
theorem kcell_at (C : Nat → Nat) : ∀ {l : Nat}, l < 32 → (kcells C)[l]? = some (.int .i64 (C l))
  | 0, _ => rfl
  | 1, _ => rfl
  | 2, _ => rfl
  | 3, _ => rfl
  | 4, _ => rfl
  | 5, _ => rfl
  | 6, _ => rfl
  | 7, _ => rfl
  | 8, _ => rfl
  | 9, _ => rfl
  | 10, _ => rfl
  | 11, _ => rfl
  | 12, _ => rfl
  | 13, _ => rfl
  | 14, _ => rfl
  | 15, _ => rfl
  | 16, _ => rfl
  | 17, _ => rfl
  | 18, _ => rfl
  | 19, _ => rfl
  | 20, _ => rfl
  | 21, _ => rfl
  | 22, _ => rfl
  | 23, _ => rfl
  | 24, _ => rfl
  | 25, _ => rfl
  | 26, _ => rfl
  | 27, _ => rfl
  | 28, _ => rfl
  | 29, _ => rfl
  | 30, _ => rfl
  | 31, _ => rfl
  | n + 32, h => absurd h (by omega)
theorem kcells_set (C : Nat → Nat) : ∀ {l : Nat}, l < 32 → (kcells C).setIfInBounds l (.int .i64 ((C l + 1 : Nat) : Int)) = kcells (up1 C l)
  | 0, _ => rfl
  | 1, _ => rfl
  | 2, _ => rfl
  | 3, _ => rfl
  | 4, _ => rfl
  | 5, _ => rfl
  | 6, _ => rfl
  | 7, _ => rfl
  | 8, _ => rfl
  | 9, _ => rfl
  | 10, _ => rfl
  | 11, _ => rfl
  | 12, _ => rfl
  | 13, _ => rfl
  | 14, _ => rfl
  | 15, _ => rfl
  | 16, _ => rfl
  | 17, _ => rfl
  | 18, _ => rfl
  | 19, _ => rfl
  | 20, _ => rfl
  | 21, _ => rfl
  | 22, _ => rfl
  | 23, _ => rfl
  | 24, _ => rfl
  | 25, _ => rfl
  | 26, _ => rfl
  | 27, _ => rfl
  | 28, _ => rfl
  | 29, _ => rfl
  | 30, _ => rfl
  | 31, _ => rfl
  | n + 32, h => absurd h (by omega)
theorem kone (C : Nat → Nat) : (kcells C).all (·.oneCell') = true := by simp [kcells, Value.oneCell']
/-- the counts lie in block g. -/
def KBox (w : World) (g : Nat) (C : Nat → Nat) : Prop := w.heap[g]? = some (.cells (kcells C) 73)
section
variable {w w' : World} {g : Nat} {C : Nat → Nat}
theorem KBox.lt (h : KBox w g C) : g < w.heap.size := (Array.getElem?_eq_some_iff.1 h).1
theorem KBox.cell (h : KBox w g C) {l : Nat} (hl : l < 32) : w.cell? ⟨g, l, none⟩ = some (.int .i64 (C l)) :=
  (cell_of_row _ _ l _ _ (0, 0) h).trans (kcell_at C hl)
theorem KBox.frozen (h : KBox w g C) (l : Nat) : w.frozen? ⟨g, l, none⟩ = false := by
  unfold World.frozen?
  rw [show w.heap[g]? = _ from h]
  simp
theorem KBox.set (h : KBox w g C) {l : Nat} (hl : l < 32) : KBox (w.setCell ⟨g, l, none⟩ (.int .i64 ((C l : Int) + 1))) g (up1 C l) := by
  show KBox (w.setCell ⟨g, l, none⟩ (.int .i64 ((C l + 1 : Nat) : Int))) g (up1 C l)
  unfold KBox
  rw [heap_setCell_same w g l _ _ _ h, ← kcells_set C hl]
theorem KBox.below {B : Nat} (h : KBox w g C) (hg : g < B) (hb : Below B w w') : KBox w' g C := (hb.block g hg).trans h
theorem KBox.other {g' k : Nat} {v : Value} (h : KBox w g C) (hne : g ≠ g') : KBox (w.setCell ⟨g', k, none⟩ v) g C := (heap_setCell_other w _ g v hne).trans h
theorem KBox.stored {C' : Nat → Nat} (h : KBox w g C) : KBox (w.setRow g (kcells C')) g C' := setRow_heap w g _ _ _ _ h
end
theorem kinfo (C : Nat → Nat) : (Try.prog.info? 73).map (·.size) = some (kcells C).size := by rw [kcells_size]; kernel_rfl
def kzero : Array Value := #[.int .i64 0, .int .i64 0, .int .i64 0, .int .i64 0, .int .i64 0, .int .i64 0, .int .i64 0, .int .i64 0, .int .i64 0, .int .i64 0, .int .i64 0, .int .i64 0, .int .i64 0, .int .i64 0, .int .i64 0, .int .i64 0, .int .i64 0, .int .i64 0, .int .i64 0, .int .i64 0, .int .i64 0, .int .i64 0, .int .i64 0, .int .i64 0, .int .i64 0, .int .i64 0, .int .i64 0, .int .i64 0, .int .i64 0, .int .i64 0, .int .i64 0, .int .i64 0]
theorem kzero_is : kzero = kcells (fun _ => 0) := rfl
def kstart (w : World) : World := (w.alloc (.cells kzero 73)).alloc (.cells kzero 73)
theorem kstart_facts (w : World) : KBox (kstart w) (w.heap.size + 1) (fun _ => 0) ∧ KBox (kstart w) w.heap.size (fun _ => 0) ∧ Below w.heap.size w (kstart w) := by
  unfold kstart
  rw [kzero_is]
  refine ⟨?_, ?_, ((Below.refl _ _).alloc (Nat.le_refl _) _).alloc (by simp) _⟩
  · have := heap_alloc_new (w.alloc (Obj.cells (kcells (fun _ => 0)) 73)) (.cells (kcells (fun _ => 0)) 73)
    simp only [World.size_alloc] at this
    exact this
  · exact (heap_alloc_old _ _ (by simp)).trans (heap_alloc_new w _)
set_option maxHeartbeats 1000000 in
theorem countsOf_any (A : Option Addr) (c n B : Nat) (xs : List Int) (v : Nat → Nat) (w : World) (h : Rd w B A n xs) (hB : B ≤ w.heap.size) (hn : n ≤ 4) (hv : Hid (∀ k, k < n → nth xs k = (v k : Nat) ∧ v k < 32)) :
    Calls Try.prog 62 #[.slice A n c] w fun e w' => e = .returned (.agg (kcells fun x => cN v x n)) ∧ Below w.heap.size w w' := by
  have Hi := Lib.hid (fun C => kinfo C)
  have Hone := Lib.hid (fun C => kone C)
  obtain ⟨hx0, hy0, hb0⟩ := kstart_facts w
  obtain ⟨w0, hw0⟩ : ∃ w0, kstart w = w0 := ⟨_, rfl⟩
  rw [hw0] at hx0 hy0 hb0
  have Hw := Lib.hid (show (w.alloc (.cells #[.int .i64 0, .int .i64 0, .int .i64 0, .int .i64 0, .int .i64 0, .int .i64 0, .int .i64 0, .int .i64 0, .int .i64 0, .int .i64 0, .int .i64 0, .int .i64 0, .int .i64 0, .int .i64 0, .int .i64 0, .int .i64 0, .int .i64 0, .int .i64 0, .int .i64 0, .int .i64 0, .int .i64 0, .int .i64 0, .int .i64 0, .int .i64 0, .int .i64 0, .int .i64 0, .int .i64 0, .int .i64 0, .int .i64 0, .int .i64 0, .int .i64 0, .int .i64 0] 73)).alloc (.cells #[.int .i64 0, .int .i64 0, .int .i64 0, .int .i64 0, .int .i64 0, .int .i64 0, .int .i64 0, .int .i64 0, .int .i64 0, .int .i64 0, .int .i64 0, .int .i64 0, .int .i64 0, .int .i64 0, .int .i64 0, .int .i64 0, .int .i64 0, .int .i64 0, .int .i64 0, .int .i64 0, .int .i64 0, .int .i64 0, .int .i64 0, .int .i64 0, .int .i64 0, .int .i64 0, .int .i64 0, .int .i64 0, .int .i64 0, .int .i64 0, .int .i64 0, .int .i64 0] 73) = w0 from hw0)
  clear hw0
  go_enter Try.func62, Try.ntmps62
  go_wp2
  rw [Hw.out]
  clear Hw
  go_loopw [8] (fun i wr => ∃ k : Nat, k ≤ n ∧ i = .int .i64 k ∧ Hid (KBox wr (w.heap.size + 1) (fun x => cN v x k)) ∧ Hid (KBox wr w.heap.size (fun _ => 0)) ∧ Below w.heap.size w wr) (fun i _ => n - (intOf i).toNat)
  case atStart => exact ⟨0, Nat.zero_le _, rfl, Lib.hid hx0, Lib.hid hy0, hb0⟩
  case round =>
    obtain ⟨k, hk, rfl, hx, hy, hb⟩ := hrel
    by_cases hlt : k < n
    · obtain ⟨b, off, rfl, hbB, hck⟩ := (h.below (hb.mono hB)).at_ hlt
      obtain ⟨e1, e2⟩ := hv.out k hlt
      rw [e1] at hck
      obtain ⟨u, hu⟩ : ∃ u, v k = u := ⟨_, rfl⟩
      have hstep := Lib.hid (cN_up v k)
      rw [hu] at hck e2 hstep
      have hl := cN_le v u k
      obtain ⟨q, hq⟩ : ∃ q, cN v u k = q := ⟨_, rfl⟩
      rw [hq] at hl
      have hk1 := hx.out.cell e2
      have hf1 := hx.out.frozen u
      have hs := hx.out.set e2
      simp only [hq] at hk1 hs
      have hs' := Lib.hid hs
      have huI : (u : Int) < 32 := by omega
      clear hs hu hq e1
      go_wp2
      go_roundw
      case rel => exact ⟨k + 1, by omega, by go_num, Lib.hid (by rw [hstep.out]; exact hs'.out), Lib.hid (hy.out.other (by omega)), hb.setCell (p := (⟨w.heap.size + 1, u, none⟩ : Addr)) (by simp) _⟩
      case measure => simp [intOf]; omega
    · obtain rfl : k = n := by omega
      have hxf := Lib.hid (KBox.stored (C' := fun x => cN v x k) hy.out)
      have hBe := setRow_below (g := w.heap.size) (cs := kcells (fun x => cN v x k)) hb (Nat.le_refl _)
      go_wp2_with (first | (refine wpList_load_row rfl 73 _ rfl (w.heap.size + 1) rfl 73 (kcells (fun x => cN v x k)) (0, 0) _ hx.out Try.underlying73 rfl (Hi.out _) ?_) | (refine wpList_store_row rfl 73 _ _ rfl w.heap.size (kcells (fun x => cN v x k)) rfl rfl 73 (kcells (fun _ => 0)) hy.out (Hi.out _) rfl (Hone.out _) ?_))
      refine bodyPost_ret (v := .agg (kcells (fun x => cN v x k))) (results_cell_row (by rfl) _ _ w.heap.size 73 _ (0, 0) _ rfl hxf.out Try.underlying73 rfl (Hi.out _)) rfl ⟨rfl, hBe⟩
end Go.Proofs.Ytgejahkdiciplab
set_option maxRecDepth 8000
namespace Go.Proofs.Ytgejahkdiciplab
open Go.ChangeShapes Go.WideShapes Go.ChangeAt Go.RowKit
theorem kidx (C : Nat → Nat) (w : World) : ∀ {l : Nat}, l < 32 → (Instr.index 73 (.agg (kcells C)) (.int .i64 ((l : Nat) : Int))).run Try.prog w = .ok (.int .i64 (C l)) w
  | 0, _ => by kernel_rfl
  | 1, _ => by kernel_rfl
  | 2, _ => by kernel_rfl
  | 3, _ => by kernel_rfl
  | 4, _ => by kernel_rfl
  | 5, _ => by kernel_rfl
  | 6, _ => by kernel_rfl
  | 7, _ => by kernel_rfl
  | 8, _ => by kernel_rfl
  | 9, _ => by kernel_rfl
  | 10, _ => by kernel_rfl
  | 11, _ => by kernel_rfl
  | 12, _ => by kernel_rfl
  | 13, _ => by kernel_rfl
  | 14, _ => by kernel_rfl
  | 15, _ => by kernel_rfl
  | 16, _ => by kernel_rfl
  | 17, _ => by kernel_rfl
  | 18, _ => by kernel_rfl
  | 19, _ => by kernel_rfl
  | 20, _ => by kernel_rfl
  | 21, _ => by kernel_rfl
  | 22, _ => by kernel_rfl
  | 23, _ => by kernel_rfl
  | 24, _ => by kernel_rfl
  | 25, _ => by kernel_rfl
  | 26, _ => by kernel_rfl
  | 27, _ => by kernel_rfl
  | 28, _ => by kernel_rfl
  | 29, _ => by kernel_rfl
  | 30, _ => by kernel_rfl
  | 31, _ => by kernel_rfl
  | n + 32, h => absurd h (by omega)
theorem kbox_new (w : World) (C : Nat → Nat) : KBox (w.alloc (.cells (kcells C) 73)) w.heap.size C := heap_alloc_new w _
theorem prF_le {C : Nat → Nat} (hC : ∀ x, C x ≤ 4) (K : Nat) : prF C K ≤ 6 * K := by
  induction K with
  | zero => exact Nat.le_refl _
  | succ K ih =>
    simp only [prF]
    split
    · have h := hC K
      have : C K * (C K - 1) / 2 ≤ 6 := by
        have : C K = 0 ∨ C K = 1 ∨ C K = 2 ∨ C K = 3 ∨ C K = 4 := by omega
        rcases this with e | e | e | e | e <;> rw [e] <;> decide
      omega
    · omega
set_option maxHeartbeats 4000000 in
theorem pairs_any (C : Nat → Nat) (w : World) (hC : ∀ x, C x ≤ 4) :
    Calls Try.prog 68 #[.agg (kcells C)] w fun e w' => e = .returned (.int .i64 (prF C 32 : Nat)) ∧ Below w.heap.size w w' := by
  have hx0 := Lib.hid (kbox_new w C)
  have hb0 : Below w.heap.size w (w.alloc (.cells (kcells C) 73)) := (Below.refl _ _).alloc (Nat.le_refl _) _
  have Hi := Lib.hid (kinfo C)
  have HP := Lib.hid (fun K w' (h : K < 32) => pairMask_any K h w')
  have Hidx0 := Lib.hid (fun w' (l : Nat) (h : l < 32) => kidx C w' h)
  obtain ⟨V, hV⟩ : ∃ V, V = Value.agg (kcells C) := ⟨_, rfl⟩
  have Hidx : Hid (∀ (w' : World) (l : Nat), l < 32 → (Instr.index 73 V (.int .i64 ((l : Nat) : Int))).run Try.prog w' = .ok (.int .i64 (C l)) w') := Lib.hid (by rw [hV]; exact Hidx0.out)
  have HV := Lib.hid hV
  clear hV Hidx0
  go_enter Try.func68, Try.ntmps68
  go_wp2_with (refine wpList_load_row rfl 73 _ rfl w.heap.size rfl 73 (kcells C) (0, 0) _ hx0.out Try.underlying73 rfl Hi.out ?_; rw [← HV.out])
  go_loopw [3, 7] (fun q i wr => ∃ k : Nat, k ≤ 32 ∧ i = .int .i64 k ∧ q = .int .i64 (prF C k : Nat) ∧ Below w.heap.size w wr) (fun _ i _ => 32 - (intOf i).toNat)
  case atStart => exact ⟨0, Nat.zero_le _, rfl, rfl, hb0⟩
  case round =>
    obtain ⟨k, hk, rfl, rfl, hb⟩ := hrel
    have hle := prF_le hC k
    by_cases hlt : k < 32
    · have hlI : (k : Int) < 32 := by omega
      have hix := Hidx.out wr k hlt
      have h4 := hC k
      obtain ⟨p, hp⟩ : ∃ p, prF C k = p := ⟨_, rfl⟩
      rw [hp] at hle
      cases h2 : two k
      · have Hs := Lib.hid (show prF C (k + 1) = p by simp only [prF]; rw [if_neg (by rw [h2]; simp), hp])
        rw [hp]
        clear hp
        go_wp2_with (go_at_call 95; refine (HP.out k _ hlt).mono ?_; rintro e w3 ⟨rfl, rfl⟩; rw [h2])
        go_roundw
        case rel => exact ⟨k + 1, by omega, by go_num, by rw [Hs.out], hb⟩
        case measure => simp [intOf]; omega
      · have Hs := Lib.hid (show prF C (k + 1) = p + C k * (C k - 1) / 2 by simp only [prF]; rw [if_pos h2, hp])
        obtain ⟨q, hq⟩ : ∃ q, C k = q := ⟨_, rfl⟩
        rw [hq] at h4 Hs hix
        rw [hp]
        clear hp hq
        have hcs : q = 0 ∨ q = 1 ∨ q = 2 ∨ q = 3 ∨ q = 4 := by omega
        rcases hcs with rfl | rfl | rfl | rfl | rfl
        all_goals
          go_wp2_with (go_at_call 95; refine (HP.out k _ hlt).mono ?_; rintro e w3 ⟨rfl, rfl⟩; rw [h2])
          go_roundw
          case rel => exact ⟨k + 1, by omega, by go_num, by rw [Hs.out]; simp, hb⟩
          case measure => simp [intOf]; omega
    · obtain rfl : k = 32 := by omega
      go_wp2
      go_ret
      exact ⟨rfl, hb⟩
end Go.Proofs.Ytgejahkdiciplab
set_option maxRecDepth 8000
namespace Go.Proofs.Ytgejahkdiciplab
open Go.ChangeShapes Go.WideShapes Go.ChangeAt Go.RowKit
set_option maxHeartbeats 8000000 in
theorem taken_any (C : Nat → Nat) (x : Nat) (w : World) (hC : ∀ x, C x ≤ 4) :
    Calls Try.prog 63 #[.agg (kcells C), .int .i64 x] w fun e w' => e = .returned (.int .i64 (tkF C x 32 : Nat)) ∧ Below w.heap.size w w' := by
  have hx0 := Lib.hid (kbox_new w C)
  have hb0 : Below w.heap.size w (w.alloc (.cells (kcells C) 73)) := (Below.refl _ _).alloc (Nat.le_refl _) _
  have Hi := Lib.hid (kinfo C)
  have HP := Lib.hid (fun K w' (h : K < 32) => pairMask_any K h w')
  have Hidx0 := Lib.hid (fun w' (l : Nat) (h : l < 32) => kidx C w' h)
  obtain ⟨V, hV⟩ : ∃ V, V = Value.agg (kcells C) := ⟨_, rfl⟩
  have Hidx : Hid (∀ (w' : World) (l : Nat), l < 32 → (Instr.index 73 V (.int .i64 ((l : Nat) : Int))).run Try.prog w' = .ok (.int .i64 (C l)) w') := Lib.hid (by rw [hV]; exact Hidx0.out)
  have HV := Lib.hid hV
  clear hV Hidx0
  go_enter Try.func63, Try.ntmps63
  go_wp2_with (refine wpList_load_row rfl 73 _ rfl w.heap.size rfl 73 (kcells C) (0, 0) _ hx0.out Try.underlying73 rfl Hi.out ?_; rw [← HV.out])
  go_loopw [5, 9] (fun q i wr => ∃ k : Nat, k ≤ 32 ∧ i = .int .i64 k ∧ q = .int .i64 (tkF C x k : Nat) ∧ Below w.heap.size w wr) (fun _ i _ => 32 - (intOf i).toNat)
  case atStart => exact ⟨0, Nat.zero_le _, rfl, rfl, hb0⟩
  case round =>
    obtain ⟨k, hk, rfl, rfl, hb⟩ := hrel
    have hle := tkF_lt C x k (by omega)
    by_cases hlt : k < 32
    · have hlI : (k : Int) < 32 := by omega
      have hix := Hidx.out wr k hlt
      have h4 := hC k
      obtain ⟨p, hp⟩ : ∃ p, tkF C x k = p := ⟨_, rfl⟩
      have hor := i64_or_nat p k (by omega) (by omega)
      rw [hp] at hle
      obtain ⟨q, hq⟩ : ∃ q, C k = q := ⟨_, rfl⟩
      have htk : tkC C x k = (two k && (decide (2 < q) || (q == 2 && k != x))) := by rw [← hq]; rfl
      have Hs := Lib.hid (show tkF C x (k + 1) = if (two k && (decide (2 < q) || (q == 2 && k != x))) = true then p ||| k else p by simp only [tkF]; rw [htk, hp])
      rw [hq] at h4 hix
      rw [hp]
      clear hp hq htk
      cases h2 : two k
      · have Hs' := Lib.hid (show tkF C x (k + 1) = p by rw [Hs.out, h2]; rfl)
        clear hor
        go_wp2_with (go_at_call 95; refine (HP.out k _ hlt).mono ?_; rintro e w3 ⟨rfl, rfl⟩; rw [h2])
        go_roundw
        case rel => exact ⟨k + 1, by omega, by go_num, by rw [Hs'.out], hb⟩
        case measure => simp [intOf]; omega
      · by_cases hq2 : 2 < q
        · have hI : (2 : Int) < (q : Int) := by omega
          have Hs' := Lib.hid (show tkF C x (k + 1) = p ||| k by rw [Hs.out, h2]; simp [hq2])
          clear Hs
          go_wp2_with (go_at_call 95; refine (HP.out k _ hlt).mono ?_; rintro e w3 ⟨rfl, rfl⟩; rw [h2])
          go_roundw
          case rel => exact ⟨k + 1, by omega, by go_num, by rw [Hs'.out], hb⟩
          case measure => simp [intOf]; omega
        · have hI : ¬ (2 : Int) < (q : Int) := by omega
          by_cases hqe : q = 2
          · have hq2I : (q : Int) = 2 := by omega
            rw [hq2I] at hix
            clear hI hq2I
            by_cases hkx : k = x
            · have hne : ((k : Int) != (x : Int)) = false := by simp; omega
              have Hs' := Lib.hid (show tkF C x (k + 1) = p by rw [Hs.out, h2]; simp [hq2, hkx])
              clear Hs hor hqe hkx hq2
              go_wp2_with (go_at_call 95; refine (HP.out k _ hlt).mono ?_; rintro e w3 ⟨rfl, rfl⟩; rw [h2])
              go_roundw
              case rel => exact ⟨k + 1, by omega, by go_num, by rw [Hs'.out], hb⟩
              case measure => simp [intOf]; omega
            · have hne : ((k : Int) != (x : Int)) = true := by simp; omega
              have Hs' := Lib.hid (show tkF C x (k + 1) = p ||| k by rw [Hs.out, h2]; simp [hqe, hkx])
              clear Hs hqe hkx hq2
              go_wp2_with (go_at_call 95; refine (HP.out k _ hlt).mono ?_; rintro e w3 ⟨rfl, rfl⟩; rw [h2])
              go_roundw
              case rel => exact ⟨k + 1, by omega, by go_num, by rw [Hs'.out], hb⟩
              case measure => simp [intOf]; omega
          · have hq01 : (q : Int) = 0 ∨ (q : Int) = 1 := by omega
            have Hs' := Lib.hid (show tkF C x (k + 1) = p by rw [Hs.out, h2]; simp [hq2, hqe])
            clear Hs hor hI hq2 hqe
            rcases hq01 with e01 | e01
            all_goals
              rw [e01] at hix
              clear e01
              go_wp2_with (go_at_call 95; refine (HP.out k _ hlt).mono ?_; rintro e w3 ⟨rfl, rfl⟩; rw [h2])
              go_roundw
              case rel => exact ⟨k + 1, by omega, by go_num, by rw [Hs'.out], hb⟩
              case measure => simp [intOf]; omega
    · obtain rfl : k = 32 := by omega
      go_wp2
      go_ret
      exact ⟨rfl, hb⟩
end Go.Proofs.Ytgejahkdiciplab
set_option maxRecDepth 8000
namespace Go.Proofs.Ytgejahkdiciplab
open Go.ChangeShapes Go.WideShapes Go.ChangeAt Go.RowKit
/-! slices.Clone of ints. -/
theorem clone_any (A : Option Addr) (n c B : Nat) (xs : List Int) (w : World) (h : Rd w B A n xs) (hB : B ≤ w.heap.size) (hn : 0 < n) (hm : n ≤ 1099511627776) :
    Calls Try.prog 60 #[.slice A n c] w fun e w' => ∃ A' c', e = .returned (.slice A' n c') ∧ Ow w' w.heap.size A' n c' xs ∧ Below w.heap.size w w' := by
  obtain ⟨b, off, rfl, _, _⟩ := h.at_ hn
  have hb0 : Below w.heap.size w (w.alloc (.cells #[] 3)) := (Below.refl _ _).alloc (Nat.le_refl _) _
  have HO := Lib.hid (Ow.made0 w w.heap.size (Nat.le_refl _))
  have HR := Lib.hid (h.below (hb0.mono hB))
  have hsO : w.heap.size ≤ (w.alloc (.cells #[] 3)).heap.size := by simp
  have hcmp := fun w' => Lib.run_eql_slice_nil (P := Try.prog) w' 23 3 (some ⟨b, off, none⟩) n c 0 0 Try.underlying23
  go_enter Try.func60, Try.ntmps60
  go_wp2_with (at_builtin; (refine push_new rfl (.tmp 5) (.tmp 6) rfl w.heap.size (some ⟨w.heap.size, 0, none⟩) (some ⟨b, off, none⟩) n c B xs rfl rfl HO.out HR.out hm hsO ?_); intro A1 c1 w1 ho1 hg1; have hb1 := hb0.grown hg1 hb0.size (fun k hk => HO.out.own_lo k hk))
  go_ret
  exact ⟨_, _, rfl, ho1, hb1⟩
end Go.Proofs.Ytgejahkdiciplab
set_option maxRecDepth 8000
namespace Go.Proofs.Ytgejahkdiciplab
open Go.ChangeShapes Go.WideShapes Go.ChangeAt Go.RowKit
/-! the third technique of the program, and its pairs of a line. -/
def prI (m : List Int) (s line : Int) : Int := if (mvd m s && lineOk s line) = true then (prA m s line s.toNat : Nat) else -1
theorem below_ud7 {w w2 : World} (h : Below w.drew.heap.size w.drew w2) : Below w.heap.size w w2 := ⟨h.os, h.tape, h.output, h.size, h.block⟩
theorem line_in7 {s u : Nat} (hs : s ∈ [2, 3, 4]) (hu : u < 2 * s) : ∀ j, j < s → ∃ q : Nat, lineAt s u j = (q : Int) ∧ lcN s u j = q ∧ q < s * s := by
  intro j hj
  have h := line_at hs hu j hj
  have h0 : 0 ≤ lineAt s u j := by
    simp at hs
    by_cases hx : (u : Int) < (s : Int)
    · rw [lineAt_row hx]
      rcases hs with rfl | rfl | rfl <;> omega
    · rw [lineAt_col hx]
      rcases hs with rfl | rfl | rfl <;> omega
  exact ⟨(lineAt s u j).toNat, by omega, rfl, h⟩
theorem lineTo_small {s u : Nat} (hs : s ∈ [2, 3, 4]) (hu : u < 2 * s) : ∀ i, i < s → 0 ≤ nth (lineTo s u s) i ∧ nth (lineTo s u s) i < ((s * s : Nat) : Int) := fun i hi => by
  obtain ⟨q, e, _, hq⟩ := line_in7 hs hu i hi
  rw [lineTo_nth hi, e]
  omega
theorem pks_line {m : List Int} {s u : Nat} {S : Int} (hm : mvd m S = true) : ∀ k, k < s → nth (pks m (lineTo s u s) s) k = (lv m s u k : Nat) ∧ lv m s u k < 32 := fun k hk => by
  refine ⟨?_, lv_lt hm k⟩
  unfold pks
  rw [mapTo_nth hk, lineTo_nth hk]
  exact lv_int hm k
theorem lineCells_line {f : Nat} {s u : Nat} {w : World} (hs : s ∈ [2, 3, 4]) (hu : u < 2 * s) (h : Calls Try.prog f #[.int .i64 s, .int .i64 u] w (RetSl w (lineL s u))) :
    Calls Try.prog f #[.int .i64 s, .int .i64 u] w fun e w'' => ∃ A3 c3, e = .returned (.slice A3 s c3) ∧ Ow w'' w.heap.size A3 s c3 (lineTo s u s) ∧ Below w.heap.size w w'' := by
  refine h.mono ?_
  rintro e w'' ⟨A3, c3, rfl, ho3, hb3⟩
  have e1 : lineL s u = lineTo s u s := by
    have : lineOk s u = true := by simp [lineOk, inr]; simp at hs; omega
    simp [lineL, this]
  rw [e1, lineTo_length] at ho3
  rw [e1, lineTo_length]
  exact ⟨A3, c3, rfl, ho3, hb3⟩
theorem lineOk_nat {s : Nat} {line : Int} (h : lineOk s line = true) : ∃ u : Nat, line = u ∧ u < 2 * s := by
  simp only [lineOk, Bool.and_eq_true] at h
  obtain ⟨a, b⟩ := inr_t h.2
  obtain ⟨u, rfl⟩ := Int.eq_ofNat_of_zero_le a
  exact ⟨u, rfl, by omega⟩
set_option maxHeartbeats 1000000 in
theorem implPairsIn (A : Option Addr) (c n B : Nat) (m : List Int) (size line : Int) (w : World) (h : Rd w B A n m) (hm64 : B64 m) (hBm : B ≤ w.heap.size) (hm : n ≤ 1099511627776) (hsb : -9223372036854775808 ≤ size ∧ size ≤ 9223372036854775807) :
    Calls Try.prog 29 #[.slice A n c, .int .i64 size, .int .i64 line] w fun e w' => e = .returned (.int .i64 (prI m size line)) ∧ Below w.heap.size w w' := by
  have hlen := Lib.hid h.1
  have HV := Lib.hid (implMasksValid A c n B m size w h hm64 hBm hm hsb)
  cases hv : mvd m size
  · have HL := Lib.hid (show prI m size line = -1 by simp [prI, hv])
    go_enter Try.func29, Try.ntmps29
    go_wp2_with (go_at_call 59; refine HV.out.mono ?_; rintro e w1 ⟨rfl, hb1⟩; rw [hv])
    go_ret
    exact ⟨by rw [HL.out]; rfl, hb1⟩
  · have HLV := Lib.hid (fun w' => lineValid_any size line w')
    cases hlo : lineOk size line
    · have HL := Lib.hid (show prI m size line = -1 by simp [prI, hlo])
      go_enter Try.func29, Try.ntmps29
      go_wp2_with (first | (go_at_call 59; refine HV.out.mono ?_; rintro e w1 ⟨rfl, hb1⟩; rw [hv]) | (go_at_call 67; refine (HLV.out _).mono ?_; rintro e w2 ⟨rfl, rfl⟩; rw [hlo]))
      go_ret
      exact ⟨by rw [HL.out]; rfl, hb1⟩
    · obtain ⟨⟨s2, s4⟩, hsq, hn16, hrng⟩ := mvd_at hv
      obtain ⟨s, rfl⟩ := Int.eq_ofNat_of_zero_le (by omega : 0 ≤ size)
      obtain ⟨u, rfl, hu⟩ := lineOk_nat hlo
      have hs : s ∈ [2, 3, 4] := by simp; omega
      have hn : n = s * s := by rw [← hlen.out]; exact len_of hs hv
      have HL := Lib.hid (show prI m s u = (prF (fun x => cN (lv m s u) x s) 32 : Nat) by rw [prI, hv, hlo, Int.toNat_natCast, prA_is hv]; rfl)
      have HLc := Lib.hid (fun w' => lineCells_line hs hu (implLineCells s u w' ⟨by omega, by omega⟩))
      have HPk := Lib.hid (fun w' (hb : Below w.heap.size w w') A3 c3 (ho : Ow w' w.heap.size A3 s c3 (lineTo s u s)) => implPick A c n B m A3 c3 s w'.heap.size (lineTo s u s) w' (h.below (hb.mono hBm)) ho.rd (Nat.le_trans hBm hb.size) (Nat.le_refl _) (by omega) (by rw [hn]; exact lineTo_small hs hu))
      have HCo := Lib.hid (fun w' A4 c4 (hr : Rd w' w'.heap.size A4 s (pks m (lineTo s u s) s)) => countsOf_any A4 c4 s w'.heap.size _ (lv m s u) w' hr (Nat.le_refl _) (by omega) (Lib.hid (pks_line hv)))
      have HPr := Lib.hid (fun w' => pairs_any (fun x => cN (lv m s u) x s) w' (fun x => by have := cN_le (lv m s u) x s; omega))
      have Hpl := Lib.hid (show (pks m (lineTo s u s) s).length = s from mapTo_length _ _)
      clear hsq hn16 hrng hn hs
      go_enter Try.func29, Try.ntmps29
      go_wp2_with (first
        | (go_at_call 59; refine HV.out.mono ?_; rintro e w1 ⟨rfl, hb1⟩; rw [hv])
        | (go_at_call 67; refine (HLV.out _).mono ?_; rintro e w2 ⟨rfl, rfl⟩; rw [hlo])
        | (go_at_call 61; refine (HLc.out _).mono ?_; rintro e w3 ⟨A3, c3, rfl, ho3, hb3⟩; have hb13 := step hb1 hb3; have ho3' := ho3.mono hb1.size)
        | (go_at_call 56; refine (HPk.out _ hb13 _ _ ho3').mono ?_; rintro e w4 ⟨A4, c4, rfl, ho4, hb4⟩; rw [Hpl.out] at ho4 ⊢; have hb14 := step hb13 hb4; have hr4 := ho4.rd)
        | (go_at_call 62; refine (HCo.out _ _ _ hr4).mono ?_; rintro e w5 ⟨rfl, hb5⟩; have hb15 := step hb14 hb5)
        | (go_at_call 68; refine (HPr.out _).mono ?_; rintro e w6 ⟨rfl, hb6⟩; have hb16 := step hb15 hb6))
      go_ret
      exact ⟨by rw [HL.out]; rfl, hb16⟩
end Go.Proofs.Ytgejahkdiciplab
set_option maxRecDepth 8000
namespace Go.Proofs.Ytgejahkdiciplab
open Go.ChangeShapes Go.WideShapes Go.ChangeAt Go.RowKit
theorem npL_gU {m : List Int} {s : Nat} (hs : s ∈ [2, 3, 4]) (hm : mvd m s = true) : npL m s = gU m s (2 * s) := by
  unfold npL
  rw [if_pos hm, Int.toNat_natCast, gU_is hs hm _ (Nat.le_refl _)]
theorem gU_sub {m : List Int} {s : Nat} (hs : s ∈ [2, 3, 4]) (hm : mvd m s = true) (u : Nat) (hu : u ≤ 2 * s) : Sub (gU m s u) m := by
  rw [gU_is hs hm u hu]; exact pU_sub hm u
theorem an_sub32 {x : Int} {y : Nat} (hx : 0 ≤ x ∧ x ≤ 30 ∧ x.tmod 2 = 0) (hy : y < 32) : 0 ≤ bits .andNot .i64 x y ∧ bits .andNot .i64 x y ≤ x ∧ (bits .andNot .i64 x y).tmod 2 = 0 := by
  obtain ⟨a, rfl⟩ := Int.eq_ofNat_of_zero_le hx.1
  obtain ⟨q1, q2, q3⟩ := an_key a (by omega) y hy
  exact ⟨q1, q2, q3 (by have := hx.2.2; rw [Int.tmod_eq_emod_of_nonneg (by omega)] at this; omega)⟩
theorem gL_sub {m o : List Int} {s u : Nat} {S : Int} {C : Nat → Nat} (hm : mvd m S = true) (h : Sub o m) (k : Nat) : Sub (gL m s u C o k) m := by
  induction k with
  | zero => exact h
  | succ k ih =>
    simp only [gL]
    exact ih.put fun hk => by
      obtain ⟨h1, h2⟩ := ih.at_ hm hk
      obtain ⟨q1, q2, q3⟩ := an_sub32 h1 (tkF_lt C (lv m s u k) 32 (Nat.le_refl _))
      exact ⟨q1, by omega, q3⟩
/-- what each operation of the store yields, in whatever order they go. -/
def npG (g q n cc bm om c : Nat) (C : Nat → Nat) (X : Int) (y tk : Nat) (z : Int) : Nat → Value → Prop
  | 0, v => v = .slice (some ⟨g, 0, none⟩) n cc
  | 1, v => v = .int .i64 q
  | 2, v => v = .pointer (some ⟨g, q, none⟩)
  | 3, v => v = .int .i64 X
  | 4, v => v = .agg (kcells C)
  | 5, v => v = .slice (some ⟨bm, om, none⟩) n c
  | 6, v => v = .int .i64 q
  | 7, v => v = .pointer (some ⟨bm, om + q, none⟩)
  | 8, v => v = .int .i64 y
  | 9, v => v = .int .i64 tk
  | 10, v => v = .int .i64 z
  | 11, v => v = .pointer (some ⟨g, q, none⟩)
  | _, _ => True
/-- the whole array that the counts are, read. -/
theorem kload (C : Nat → Nat) (g : Nat) (w : World) (h : KBox w g C) : (Instr.loadAt 73 (.pointer (some ⟨g, 0, none⟩))).run Try.prog w = .ok (.agg (kcells C)) w := by
  simp only [Instr.loadAt, Instr.sureAddr, Sem.run_bind, Sem.run_pure, Result.andThen_ok, run_loadVar_row w g 73 73 (kcells C) (0, 0) _ h Try.underlying73 rfl (kinfo C)]
theorem kput (w : World) (C : Nat → Nat) (W : World) (h : (w.alloc (.cells #[.int .i64 0, .int .i64 0, .int .i64 0, .int .i64 0, .int .i64 0, .int .i64 0, .int .i64 0, .int .i64 0, .int .i64 0, .int .i64 0, .int .i64 0, .int .i64 0, .int .i64 0, .int .i64 0, .int .i64 0, .int .i64 0, .int .i64 0, .int .i64 0, .int .i64 0, .int .i64 0, .int .i64 0, .int .i64 0, .int .i64 0, .int .i64 0, .int .i64 0, .int .i64 0, .int .i64 0, .int .i64 0, .int .i64 0, .int .i64 0, .int .i64 0, .int .i64 0] 73)).setRow w.heap.size (kcells C) = W) : KBox W w.heap.size C ∧ Below w.heap.size w W := by
  rw [← h]
  exact ⟨setRow_heap _ _ _ _ _ _ (heap_alloc_new w (.cells (kcells fun _ => 0) 73)), setRow_below ((Below.refl _ _).alloc (Nat.le_refl _) _) (Nat.le_refl _)⟩
theorem kz_new (w : World) : (w.alloc (.cells #[.int .i64 0, .int .i64 0, .int .i64 0, .int .i64 0, .int .i64 0, .int .i64 0, .int .i64 0, .int .i64 0, .int .i64 0, .int .i64 0, .int .i64 0, .int .i64 0, .int .i64 0, .int .i64 0, .int .i64 0, .int .i64 0, .int .i64 0, .int .i64 0, .int .i64 0, .int .i64 0, .int .i64 0, .int .i64 0, .int .i64 0, .int .i64 0, .int .i64 0, .int .i64 0, .int .i64 0, .int .i64 0, .int .i64 0, .int .i64 0, .int .i64 0, .int .i64 0] 73)).heap[w.heap.size]? = some (.cells (kcells fun _ => 0) 73 (0, 0)) := heap_alloc_new w (.cells (kcells fun _ => 0) 73)
set_option maxHeartbeats 2000000 in
theorem implNarrowPairs (A : Option Addr) (c n B : Nat) (m : List Int) (size : Int) (w : World) (h : Rd w B A n m) (hm64 : B64 m) (hBm : B ≤ w.heap.size) (hm : n ≤ 1099511627776) (hsb : -9223372036854775808 ≤ size ∧ size ≤ 9223372036854775807) :
    Calls Try.prog 25 #[.slice A n c, .int .i64 size] w (RetSl w (npL m size)) := by
  have hlen := Lib.hid h.1
  have HV := Lib.hid (implMasksValid A c n B m size w h hm64 hBm hm hsb)
  cases hv : mvd m size
  · have HL := Lib.hid (show npL m size = [] by simp [npL, hv])
    go_enter Try.func25, Try.ntmps25
    go_wp2_with (go_at_call 59; refine HV.out.mono ?_; rintro e w1 ⟨rfl, hb1⟩; rw [hv])
    go_ret
    rw [HL.out]
    exact ⟨_, _, rfl, Ow.nil_ _ _, hb1⟩
  · obtain ⟨⟨s2, s4⟩, hsq, hn16, _⟩ := mvd_at hv
    obtain ⟨s, rfl⟩ := Int.eq_ofNat_of_zero_le (by omega : 0 ≤ size)
    have hs : s ∈ [2, 3, 4] := by simp; omega
    have hn : n = s * s := by rw [← hlen.out]; exact len_of hs hv
    have hn0 : 0 < n := by
      simp at hs
      rcases hs with rfl | rfl | rfl <;> omega
    have Hs := Lib.hid hs
    have Hn := Lib.hid hn
    have Hv := Lib.hid hv
    have hs2' : 2 ≤ s := by omega
    have hs4' : s ≤ 4 := by omega
    have HCl := Lib.hid (fun w' (hb : Below w.heap.size w w') => clone_any A n c B m w' (h.below (hb.mono hBm)) (Nat.le_trans hBm hb.size) hn0 hm)
    have HF := Lib.hid (npL_gU hs hv)
    obtain ⟨T, hT⟩ : ∃ T, T = 2 * s := ⟨_, rfl⟩
    rw [← hT] at HF
    have HT := Lib.hid hT
    have hT8 : T ≤ 8 := by omega
    clear hs hn hT hsq hn16
    go_enter Try.func25, Try.ntmps25
    go_wp2_with (first
      | (go_at_call 59; refine HV.out.mono ?_; rintro e w1 ⟨rfl, hb1⟩; rw [Hv.out])
      | (go_at_call 60; refine (HCl.out _ hb1).mono ?_; rintro e w2 ⟨Ac, cc, rfl, ho2, hb2⟩; have hb12 := step hb1 hb2))
    have ho3 := ho2.mono hb1.size
    obtain ⟨g, rfl, hgl, hgw⟩ := ho3.form hn0
    go_loopw [19] (fun i wr => ∃ u : Nat, u ≤ T ∧ i = .int .i64 u ∧ Ow wr w.heap.size (some ⟨g, 0, none⟩) n cc (gU m s u) ∧ Below w.heap.size w wr) (fun i _ => T - (intOf i).toNat)
    case atStart => exact ⟨0, Nat.zero_le _, rfl, ho3, hb12⟩
    case round =>
      clear ho2 ho3 hb12 hb1 hb2
      obtain ⟨u, hu, rfl, ho, hb⟩ := hrel
      by_cases hlt : u < T
      · have hltI : (u : Int) < 2 * (s : Int) := by have := HT.out; omega
        have hu2 := Lib.hid (show u < 2 * s by have := HT.out; omega)
        have HLc := Lib.hid (lineCells_line Hs.out hu2.out (implLineCells s u wr ⟨by omega, by omega⟩))
        have HPk := Lib.hid (fun w' (hb : Below w.heap.size w w') A3 c3 (ho : Ow w' w.heap.size A3 s c3 (lineTo s u s)) => implPick A c n B m A3 c3 s w'.heap.size (lineTo s u s) w' (h.below (hb.mono hBm)) ho.rd (Nat.le_trans hBm hb.size) (Nat.le_refl _) (by omega) (by rw [Hn.out]; exact lineTo_small Hs.out hu2.out))
        have HCo := Lib.hid (fun w' A4 c4 (hr : Rd w' w'.heap.size A4 s (pks m (lineTo s u s) s)) => countsOf_any A4 c4 s w'.heap.size _ (lv m s u) w' hr (Nat.le_refl _) (by omega) (Lib.hid (pks_line Hv.out)))
        obtain ⟨C, hC⟩ : ∃ C : Nat → Nat, C = fun x => cN (lv m s u) x s := ⟨_, rfl⟩
        have hC4 := Lib.hid (show ∀ x, C x ≤ 4 by rw [hC]; intro x; exact Nat.le_trans (cN_le (lv m s u) x s) hs4')
        have HG := Lib.hid (show gU m s (u + 1) = gL m s u C (gU m s u) s by rw [hC]; rfl)
        rw [← hC] at HCo
        have Hi := Lib.hid (kinfo C)
        have Hone := Lib.hid (kone C)
        have Hz := Lib.hid (fun w' => kz_new w')
        have Hpl := Lib.hid (show (pks m (lineTo s u s) s).length = s from mapTo_length _ _)
        have hat := Lib.hid (line_in7 Hs.out hu2.out)
        rw [← Hn.out] at hat
        have Hsub := Lib.hid (fun k => gL_sub (s := s) (u := u) (C := C) Hv.out (gU_sub Hs.out Hv.out u (by have := hu2.out; omega)) k)
        clear hC
        go_wp2_with (first
          | (go_at_call 61; refine HLc.out.mono ?_; rintro e w3 ⟨A3, c3, rfl, ho3', hb3⟩; have hb13 := step hb hb3; have ho3 := ho3'.mono hb.size; have ho3g := ho3'.mono (show g + 1 ≤ wr.heap.size from ho.own_hi g rfl); clear ho3'; have hoA := ho.below hb3)
          | (go_at_call 56; refine (HPk.out _ hb13 _ _ ho3).mono ?_; rintro e w4 ⟨A4, c4, rfl, ho4, hb4⟩; rw [Hpl.out] at ho4 ⊢; have hb14 := step hb13 hb4; have hr4 := ho4.rd; have ho34 := ho3g.below hb4; have hoB := hoA.below hb4)
          | (go_at_call 62; refine (HCo.out _ _ _ hr4).mono ?_; rintro e w5 ⟨rfl, hb5⟩; have hb15 := step hb14 hb5; have ho35 := ho34.below hb5; have hoC := hoB.below hb5; have hw5 := hb15.size; have hgw5 := hoC.own_hi g rfl)
          | (refine wpList_store_row rfl 73 _ _ rfl w5.heap.size (kcells C) rfl rfl 73 (kcells fun _ => 0) (Hz.out w5) Hi.out rfl Hone.out ?_; generalize hW5 : World.setRow _ _ _ = W5; obtain ⟨hkb0, hbW⟩ := kput w5 C W5 hW5; clear hW5; obtain ⟨gk, hgk⟩ : ∃ gk, w5.heap.size = gk := ⟨_, rfl⟩; have hkb := Lib.hid hkb0; clear hkb0; have hb16 := step hb15 hbW; have ho36 := ho35.below hbW; have hoD := hoC.below hbW; rw [hgk] at hkb ⊢; rw [hgk] at hgw5))
        go_loopw [31] (fun i wr => ∃ k : Nat, k ≤ s ∧ i = .int .i64 k ∧ Ow wr w.heap.size (some ⟨g, 0, none⟩) n cc (gL m s u C (gU m s u) k) ∧ Ow wr (g + 1) A3 s c3 (lineTo s u s) ∧ Hid (KBox wr gk C) ∧ Below w.heap.size w wr) (fun i _ => s - (intOf i).toNat)
        case atStart => exact ⟨0, Nat.zero_le _, rfl, hoD, ho36, hkb, hb16⟩
        case round =>
          clear hoD ho36 hkb hb16
          obtain ⟨k, hk, rfl, hoN, hoL, hkb, hbN⟩ := hrel
          by_cases hks : k < s
          · obtain ⟨q, hq, hqc, hqn⟩ := hat.out k hks
            obtain ⟨g3, rfl, _, _⟩ := hoL.form (by omega)
            obtain ⟨hcl, _⟩ := hoL.cell hks
            rw [lineTo_nth hks, hq] at hcl
            obtain ⟨bm, offm, hA, hbmB, hcm⟩ := (h.below (hbN.mono hBm)).at_ hqn
            subst hA
            obtain ⟨hcn, hfn⟩ := hoN.cell hqn
            have hvq := lv_int (S := (s : Int)) (u := (u : Int)) Hv.out k
            rw [hqc] at hvq
            rw [hvq] at hcm
            have hv32 := lv_lt (S := (s : Int)) (u := (u : Int)) Hv.out k
            have HTk := Lib.hid (fun w' => taken_any C (lv m s u k) w' hC4.out)
            obtain ⟨X, hX⟩ : ∃ X, nth (gL m s u C (gU m s u) k) q = X := ⟨_, rfl⟩
            obtain ⟨y, hy⟩ : ∃ y, lv m s u k = y := ⟨_, rfl⟩
            obtain ⟨tk, htk⟩ : ∃ tk, tkF C y 32 = tk := ⟨_, rfl⟩
            obtain ⟨z, hz⟩ : ∃ z, bits .andNot .i64 X (tk : Int) = z := ⟨_, rfl⟩
            have HG1 := Lib.hid (show gL m s u C (gU m s u) (k + 1) = (gL m s u C (gU m s u) k).set q z by simp only [gL]; rw [hqc, hX, hy, htk, hz])
            rw [hX] at hcn
            rw [hy] at hcm hv32 HTk
            rw [htk] at HTk
            have Hz' := Lib.hid hz
            have hgN := hoN.own_hi g rfl
            have hgkN := hkb.out.lt
            have hqI : (q : Int) < (n : Int) := by omega
            have hbmN : bm < wr.heap.size := Nat.lt_of_lt_of_le hbmB (Nat.le_trans hBm hbN.size)
            have HoN := Lib.hid hoN
            have HoL := Lib.hid hoL
            clear hX hy htk hz hoN hoL hvq
            go_wp2
            refine wp_region_dsS [35, 36, 37, 38, 39, 40, 41, 42, 43, 44, 45, 46] (fun j v _ => npG g q n cc bm offm c C X y tk z j v) (fun w1 w2 => Below w1.heap.size w1 w2) (fun _ _ _ => True) (fun _ _ => True) (fun _ => trivial) (below_drewN (Below.refl _ _) 1) (fun _ _ h h' => step h h') (by kernel_rfl) (by kernel_rfl) (by simp) (fun _ _ _ _ _ _ _ _ h => h) ?step ?last
            case step =>
              intro i o a w' K D hD hcl2 hi hoo hrel hfr hpre hC hK
              have e0 : a.eval (.tmp 0) = .slice (some ⟨bm, offm, none⟩) n c := hfr 0 (by simp)
              have e5 : a.eval (.tmp 5) = .slice (some ⟨g, 0, none⟩) n cc := hfr 5 (by simp)
              have e8 : a.eval (.tmp 8) = .pointer (some ⟨gk, 0, none⟩) := hfr 8 (by simp)
              have e10 : a.eval (.tmp 10) = .int .i64 q := hfr 10 (by simp)
              have hkeep : ∀ (v : Value), npG g q n cc bm offm c C X y tk z i v → K (a.put o.dst v) w' := fun v hv => hK v w' (Below.refl _ _) trivial (fun j _ _ h => h) hv
              have hkw : KBox w' gk C := hkb.out.below hgkN hrel
              have hcn' : w'.cell? ⟨g, q, none⟩ = some (.int .i64 X) := (hrel.cell (p := ⟨g, q, none⟩) hgN).trans hcn
              have hcm' : w'.cell? ⟨bm, offm + q, none⟩ = some (.int .i64 y) := (hrel.cell (p := ⟨bm, offm + q, none⟩) hbmN).trans hcm
              have hi12 : i < 12 := hi
              have : i = 0 ∨ i = 1 ∨ i = 2 ∨ i = 3 ∨ i = 4 ∨ i = 5 ∨ i = 6 ∨ i = 7 ∨ i = 8 ∨ i = 9 ∨ i = 10 ∨ i = 11 := by omega
              rcases this with rfl | rfl | rfl | rfl | rfl | rfl | rfl | rfl | rfl | rfl | rfl | rfl
              all_goals
                simp only [List.getElem?_toArray, List.getElem?_cons_zero, List.getElem?_cons_succ, Option.some.injEq] at hoo
                subst hoo
              · refine oper_val (v := .slice (some ⟨g, 0, none⟩) n cc) (w' := w') ?_ (hkeep _ rfl)
                unfold execOp
                simp only [e5]
                go_simp
              · refine oper_val (v := .int .i64 q) (w' := w') ?_ (hkeep _ rfl)
                unfold execOp
                simp only [e10]
                go_simp
              · have p0 : a.eval (.tmp 35) = .slice (some ⟨g, 0, none⟩) n cc := hpre ⟨0, .data⟩ (by simp) rfl
                have p1 : a.eval (.tmp 36) = .int .i64 q := hpre ⟨1, .data⟩ (by simp) rfl
                refine oper_val (v := .pointer (some ⟨g, q, none⟩)) (w' := w') ?_ (hkeep _ rfl)
                unfold execOp
                simp only [p0, p1]
                go_simp
              · have p2 : a.eval (.tmp 37) = .pointer (some ⟨g, q, none⟩) := hpre ⟨2, .data⟩ (by simp) rfl
                refine oper_val (v := .int .i64 X) (w' := w') ?_ (hkeep _ rfl)
                unfold execOp
                simp only [p2]
                go_simp
              · refine oper_val (v := .agg (kcells C)) (w' := w') ?_ (hkeep _ rfl)
                unfold execOp
                simp only [e8, kload C gk w' hkw, Sem.run_bind, Result.andThen_ok, Sem.run_pure]
              · refine oper_val (v := .slice (some ⟨bm, offm, none⟩) n c) (w' := w') ?_ (hkeep _ rfl)
                unfold execOp
                simp only [e0]
                go_simp
              · refine oper_val (v := .int .i64 q) (w' := w') ?_ (hkeep _ rfl)
                unfold execOp
                simp only [e10]
                go_simp
              · have p0 : a.eval (.tmp 40) = .slice (some ⟨bm, offm, none⟩) n c := hpre ⟨5, .data⟩ (by simp) rfl
                have p1 : a.eval (.tmp 41) = .int .i64 q := hpre ⟨6, .data⟩ (by simp) rfl
                refine oper_val (v := .pointer (some ⟨bm, offm + q, none⟩)) (w' := w') ?_ (hkeep _ rfl)
                unfold execOp
                simp only [p0, p1]
                go_simp
              · have p2 : a.eval (.tmp 42) = .pointer (some ⟨bm, offm + q, none⟩) := hpre ⟨7, .data⟩ (by simp) rfl
                refine oper_val (v := .int .i64 y) (w' := w') ?_ (hkeep _ rfl)
                unfold execOp
                simp only [p2]
                go_simp
              · have p0 : a.eval (.tmp 39) = .agg (kcells C) := hpre ⟨4, .data⟩ (by simp) rfl
                have p1 : a.eval (.tmp 43) = .int .i64 y := hpre ⟨8, .data⟩ (by simp) rfl
                refine oper_call (f := 63) (args := #[.agg (kcells C), .int .i64 y]) ?_ (HTk.out w') ?_
                · unfold execOp
                  go_simp
                  exact ⟨by simpa [Act.eval] using p0, by simpa [Act.eval] using p1⟩
                · rintro e w8 ⟨rfl, hb8⟩
                  exact ⟨_, rfl, hK _ w8 hb8 trivial (fun j _ _ h => h) rfl⟩
              · have p0 : a.eval (.tmp 38) = .int .i64 X := hpre ⟨3, .data⟩ (by simp) rfl
                have p1 : a.eval (.tmp 44) = .int .i64 tk := hpre ⟨9, .data⟩ (by simp) rfl
                refine oper_val (v := .int .i64 z) (w' := w') ?_ (hkeep _ rfl)
                unfold execOp
                simp only [p0, p1]
                go_simp
                exact Hz'.out
              · have p0 : a.eval (.tmp 35) = .slice (some ⟨g, 0, none⟩) n cc := hpre ⟨0, .data⟩ (by simp) rfl
                have p1 : a.eval (.tmp 36) = .int .i64 q := hpre ⟨1, .data⟩ (by simp) rfl
                refine oper_val (v := .pointer (some ⟨g, q, none⟩)) (w' := w') ?_ (hkeep _ rfl)
                unfold execOp
                simp only [p0, p1]
                go_simp
            case last =>
              intro o a w5 hoo hrel hdef htm hfr hpre
              simp only [List.length_cons, List.length_nil, Nat.reduceAdd, List.getElem?_toArray, List.getElem?_cons_zero, List.getElem?_cons_succ, Option.some.injEq] at hoo
              subst hoo
              have g0 : a.tmps.getD 35 undef = .slice (some ⟨g, 0, none⟩) n cc := hpre 0 (by simp)
              have g1 : a.tmps.getD 36 undef = .int .i64 q := hpre 1 (by simp)
              have g2 : a.tmps.getD 37 undef = .pointer (some ⟨g, q, none⟩) := hpre 2 (by simp)
              have g3 : a.tmps.getD 38 undef = .int .i64 X := hpre 3 (by simp)
              have g4 : a.tmps.getD 39 undef = .agg (kcells C) := hpre 4 (by simp)
              have g5 : a.tmps.getD 40 undef = .slice (some ⟨bm, offm, none⟩) n c := hpre 5 (by simp)
              have g6 : a.tmps.getD 41 undef = .int .i64 q := hpre 6 (by simp)
              have g7 : a.tmps.getD 42 undef = .pointer (some ⟨bm, offm + q, none⟩) := hpre 7 (by simp)
              have g8 : a.tmps.getD 43 undef = .int .i64 y := hpre 8 (by simp)
              have g9 : a.tmps.getD 44 undef = .int .i64 tk := hpre 9 (by simp)
              have g10 : a.tmps.getD 45 undef = .int .i64 z := hpre 10 (by simp)
              have g11 : a.tmps.getD 46 undef = .pointer (some ⟨g, q, none⟩) := hpre 11 (by simp)
              have h45 : a.eval (.tmp 45) = .int .i64 z := g10
              have h46 : a.eval (.tmp 46) = .pointer (some ⟨g, q, none⟩) := g11
              have ho5 := HoN.out.below hrel
              obtain ⟨hc5, hf5⟩ := ho5.cell hqn
              have hop := Lib.hid (ho5.putN q z)
              have hb5 := Lib.hid (Below.setCell (p := (⟨g, q, none⟩ : Addr)) (hbN.trans (hrel.mono hbN.size)) hgl (.int .i64 z))
              have hL5 := Lib.hid (HoL.out.below hrel)
              have hk5 := Lib.hid (hkb.out.below hgkN hrel)
              refine ⟨w5.setCell ⟨g, q, none⟩ (.int .i64 z), ?_, ?_⟩
              · unfold execOp
                simp only [h45, h46]
                go_simp
              · have key := htm
                simp only [List.foldl_cons, List.foldl_nil, g0, g1, g2, g3, g4, g5, g6, g7, g8, g9, g10, g11, List.setIfInBounds_toArray, List.set_cons_succ, List.set_cons_zero] at key
                clear htm hfr hpre g0 g1 g2 g3 g4 g5 g6 g7 g8 g9 g10 g11 h45 h46
                obtain ⟨tm, df⟩ := a
                dsimp only at key hdef
                subst key hdef
                clear hc5 hf5 ho5
                go_wp2
                go_roundw
                case rel => exact ⟨k + 1, by omega, by go_num, by rw [HG1.out]; exact hop.out, hL5.out.far grown_set (fun b hb e => by have h1 := hL5.out.own_lo b hb; injection e with e; omega), Lib.hid (hk5.out.other (by omega)), hb5.out⟩
                case measure => simp [intOf]; omega
          · obtain rfl : k = s := by omega
            go_wp2
            go_roundw
            case rel => exact ⟨u + 1, by omega, by go_num, by rw [HG.out]; exact hoN, hbN⟩
            case measure => simp [intOf]; omega
      · obtain rfl : u = T := by omega
        have hgeI : ¬ (u : Int) < 2 * (s : Int) := by have := HT.out; omega
        go_wp2
        go_ret
        rw [HF.out]
        exact retSl_mk ho hb
end Go.Proofs.Ytgejahkdiciplab
set_option maxRecDepth 8000
namespace Go.Proofs.Ytgejahkdiciplab
open Go.ChangeShapes Go.WideShapes Go.ChangeAt Go.RowKit
/-- what the operations of the test yield. -/
def prG (eb : Bool) (a b s c1 qa qb n c g3 bb off : Nat) (X Y : Int) (l : Nat) (j : Nat) (v : Value) : Prop :=
  if (16 ≤ j ∧ j ≤ 25) ∧ eb = false then v = undef else match j with
  | 0 | 7 | 16 => v = .slice (some ⟨bb, off, none⟩) n c
  | 1 | 8 | 17 => v = .slice (some ⟨g3, 0, none⟩) s c1
  | 2 | 18 => v = .int .i64 a
  | 3 | 19 => v = .pointer (some ⟨g3, a, none⟩)
  | 4 | 20 => v = .int .i64 qa
  | 5 | 21 => v = .pointer (some ⟨bb, off + qa, none⟩)
  | 6 | 22 => v = .int .i64 X
  | 9 => v = .int .i64 b
  | 10 => v = .pointer (some ⟨g3, b, none⟩)
  | 11 => v = .int .i64 qb
  | 12 => v = .pointer (some ⟨bb, off + qb, none⟩)
  | 13 => v = .int .i64 Y
  | 14 | 15 => v = .bool eb
  | 23 => ∃ A5 c5, v = .slice A5 l c5
  | 24 => v = .int .i64 (l : Int)
  | 25 => v = .bool (l == 2)
  | 26 => v = .bool (eb && l == 2)
  | _ => True
theorem l2_int (l : Nat) : ((l : Int) == 2) = (l == 2) := by
  rw [Bool.eq_iff_iff, beq_iff_eq, beq_iff_eq]; omega
set_option maxHeartbeats 8000000 in
theorem specPairsIn (A : Option Addr) (c n B : Nat) (m : List Int) (size line : Int) (w : World) (h : Rd w B A n m) (hBm : B ≤ w.heap.size) (hm : n ≤ 1099511627776) (hsb : -9223372036854775808 ≤ size ∧ size ≤ 9223372036854775807) (hlb : -9223372036854775808 ≤ line ∧ line ≤ 9223372036854775807) :
    Calls Try.prog 33 #[.slice A n c, .int .i64 size, .int .i64 line] w fun e w' => e = .returned (.int .i64 (prI m size line)) ∧ Below w.heap.size w w' := by
  have hlen := Lib.hid h.1
  have HV := Lib.hid (fun w' (hb : Below w.heap.size w w') => specMasksValid A c n B m size w' (h.below (hb.mono hBm)) (Nat.le_trans hBm hb.size) hm hsb)
  cases hlo : lineOk size line
  · have HL := Lib.hid (show prI m size line = -1 by simp [prI, hlo])
    have HLc := Lib.hid (specLineCells size line w hlb)
    have hz : (lineL size line).length = 0 := by simp [lineL, hlo]
    go_enter Try.func33, Try.ntmps33
    cases hv : mvd m size
    all_goals
      go_wp2_with (first | (go_at_call 65; refine HLc.out.mono ?_; rintro e w1 ⟨A1, c1, rfl, ho1, hb1⟩; rw [hz]) | (go_at_call 28; refine (HV.out _ hb1).mono ?_; rintro e w2 ⟨rfl, hb2⟩; rw [hv]))
      go_ret
      exact ⟨by rw [HL.out]; rfl, step hb1 hb2⟩
  · obtain ⟨s, rfl, hs, u, rfl, hu⟩ : ∃ s : Nat, size = s ∧ s ∈ [2, 3, 4] ∧ ∃ u : Nat, line = u ∧ u < 2 * s := by
      have h1 := hlo
      simp only [lineOk, Bool.and_eq_true] at h1
      obtain ⟨a, b⟩ := inr_t h1.1
      obtain ⟨s, rfl⟩ := Int.eq_ofNat_of_zero_le (by omega : 0 ≤ size)
      obtain ⟨u, e, hu⟩ := lineOk_nat hlo
      exact ⟨s, rfl, by simp; omega, u, e, hu⟩
    have hs2 : 2 ≤ s := by simp at hs; omega
    have hs4 : s ≤ 4 := by simp at hs; omega
    have hz : ((s : Int) == 0) = false := by simp; omega
    have HLc := Lib.hid (lineCells_line hs hu (specLineCells s u w hlb))
    cases hv : mvd m s
    · have HL := Lib.hid (show prI m s u = -1 by simp [prI, hv])
      go_enter Try.func33, Try.ntmps33
      go_wp2_with (first | (go_at_call 65; refine HLc.out.mono ?_; rintro e w1 ⟨A1, c1, rfl, ho1, hb1⟩) | (go_at_call 28; refine (HV.out _ hb1).mono ?_; rintro e w2 ⟨rfl, hb2⟩; rw [hv]))
      go_ret
      exact ⟨by rw [HL.out]; rfl, step hb1 hb2⟩
    · have HL := Lib.hid (show prI m s u = (prA m s u s : Nat) by rw [prI, hv, hlo, Int.toNat_natCast]; rfl)
      have hn : n = s * s := by rw [← hlen.out]; exact len_of hs hv
      have hat := Lib.hid (line_in7 hs hu)
      rw [← hn] at hat
      have Hrng := Lib.hid (mvd_b64' hv)
      have hle := Lib.hid (fun a (_ : a ≤ s) => prA_le (m := m) (S := s) (u := u) a)
      have Hmv := Lib.hid (fun k w' => specMaskValues (nth m k) w' (Hrng.out k))
      clear hn
      go_enter Try.func33, Try.ntmps33
      go_wp2_with (first | (go_at_call 65; refine HLc.out.mono ?_; rintro e w1 ⟨A1, c1, rfl, ho1, hb1⟩) | (go_at_call 28; refine (HV.out _ hb1).mono ?_; rintro e w2 ⟨rfl, hb2⟩; rw [hv]))
      have hb12 := step hb1 hb2
      have ho2 := (ho1.below hb2)
      go_loopg [8, 9] s (fun gk q i wr => ∃ a : Nat, a ≤ s ∧ gk = s - a ∧ i = .int .i64 a ∧ q = .int .i64 (prA m s u a : Nat) ∧ Ow wr w.heap.size A1 s c1 (lineTo s u s) ∧ Below w.heap.size w wr)
      case atStart => exact ⟨0, Nat.zero_le _, rfl, rfl, rfl, ho2, hb12⟩
      case round =>
        clear ho1 ho2 hb12 hb1 hb2
        obtain ⟨a, ha, hgk0, rfl, rfl, ho, hb⟩ := hrel
        have hpa := hle.out a ha
        have hpa16 : a * (a - 1) ≤ 4 * 3 := Nat.mul_le_mul (by omega) (by omega)
        by_cases hlt : a < s
        · have hltI : (a : Int) < (s : Int) := by omega
          obtain ⟨p, hp⟩ : ∃ p, prA m s u a = p := ⟨_, rfl⟩
          have Hp := Lib.hid (show prA m s u (a + 1) = p + prB m s u a a by simp only [prA]; rw [hp])
          rw [hp] at hpa ⊢
          clear hp
          obtain ⟨qa, hqa, hqc, hqn⟩ := hat.out a hlt
          go_wp2
          go_loopg [8, 10] a (fun gk q i wr => ∃ b : Nat, b ≤ a ∧ gk = a - b ∧ i = .int .i64 b ∧ q = .int .i64 ((p + prB m s u a b : Nat) : Int) ∧ Ow wr w.heap.size A1 s c1 (lineTo s u s) ∧ Below w.heap.size w wr)
          case atStart => exact ⟨0, Nat.zero_le _, rfl, rfl, rfl, ho, hb⟩
          case round =>
            clear ho hb
            obtain ⟨b, hb', hgk, rfl, rfl, ho, hb⟩ := hrel
            have hpb := prB_le (m := m) (S := s) (u := u) (a := a) b
            by_cases hba : b < a
            · have hbI : (b : Int) < (a : Int) := by omega
              obtain ⟨qb, hqb, hqd, hqbn⟩ := hat.out b (by omega)
              obtain ⟨g3, rfl, hg3l, hg3w⟩ := ho.form (by omega)
              have Ho := Lib.hid ho
              have Hca := Lib.hid (show ∀ w', Below wr.heap.size wr w' → w'.cell? ⟨g3, a, none⟩ = some (.int .i64 qa) from fun w' hb' => by
                obtain ⟨hca, _⟩ := (ho.below hb').cell hlt
                rw [lineTo_nth hlt, hqa] at hca
                exact hca)
              have Hcb := Lib.hid (show ∀ w', Below wr.heap.size wr w' → w'.cell? ⟨g3, b, none⟩ = some (.int .i64 qb) from fun w' hb' => by
                obtain ⟨hcb, _⟩ := (ho.below hb').cell (show b < s by omega)
                rw [lineTo_nth (show b < s by omega), hqb] at hcb
                exact hcb)
              obtain ⟨bb, off, hA, hbB, hck⟩ := (h.below (hb.mono hBm)).at_ hqn
              subst hA
              obtain ⟨bb2, off2, hA2, _, hck2⟩ := (h.below (hb.mono hBm)).at_ hqbn
              cases hA2
              obtain ⟨t, ht⟩ : ∃ t, prB m s u a b = t := ⟨_, rfl⟩
              obtain ⟨X, hX⟩ : ∃ X, nth m qa = X := ⟨_, rfl⟩
              obtain ⟨Y, hY⟩ : ∃ Y, nth m qb = Y := ⟨_, rfl⟩
              obtain ⟨l, hl⟩ : ∃ l, (maskVals X).length = l := ⟨_, rfl⟩
              have Hs := Lib.hid (show prB m s u a (b + 1) = if (X == Y && l == 2) = true then t + 1 else t by
                simp only [prB]
                rw [hqc, hqd, ht, hX, hY, hl]
                simp only [Bool.and_eq_true, beq_iff_eq])
              have HMv : Hid (∀ w', Calls Try.prog 66 #[.int .i64 X] w' fun e w'' => ∃ A5 c5, e = .returned (.slice A5 l c5) ∧ Below w'.heap.size w' w'') := Lib.hid (fun w' => (show Calls Try.prog 66 #[.int .i64 X] w' (RetSl w' (maskVals X)) by rw [← hX]; exact Hmv.out qa w').mono (by rintro e w'' ⟨A5, c5, rfl, _, hb5⟩; exact ⟨A5, c5, by rw [hl], hb5⟩))
              rw [hX] at hck
              rw [hY] at hck2
              rw [ht] at hpb ⊢
              have hbbw : bb < wr.heap.size := Nat.lt_of_lt_of_le hbB (Nat.le_trans hBm hb.size)
              have hltN : a < s := hlt
              have hbs : b < s := by omega
              have hbsI : (b : Int) < (s : Int) := by omega
              have hqI : (qa : Int) < (n : Int) := by omega
              have hqbI : (qb : Int) < (n : Int) := by omega
              obtain ⟨eb, heb⟩ : ∃ eb, (X == Y) = eb := ⟨_, rfl⟩
              have Heb := Lib.hid heb
              rw [heb] at Hs
              clear ht hqa hqb hqc hqd hX hY hl ho heb
              go_upto_region 11 with fail
              go_cut [59] from 33 to 59 (fun tv wx => tv = .bool (eb && l == 2) ∧ Below wr.heap.size wr wx)
              case first =>
                refine wp_region_dsT [33, 34, 35, 36, 37, 38, 39, 40, 41, 42, 43, 44, 45, 46, 47, 48, 49, 50, 51, 52, 53, 54, 55, 56, 57, 58, 59] (fun j v _ => prG eb a b s c1 qa qb n c g3 bb off X Y l j v) (fun w1 w2 => Below w1.heap.size w1 w2) (fun _ _ _ => True) (fun _ _ => True) (fun _ => trivial) (below_drewN (Below.refl _ _) 1) (fun _ _ h h' => step h h') (fun j => if j = 15 then some eb else none) (by kernel_rfl) (by kernel_rfl) (by simp) ?gy ?skip (fun _ _ _ _ _ _ _ _ h => h) ?step ?fin
                case gy =>
                  intro i o j bq hi hoo hgd v w' hg
                  have hi26 : i < 27 := hi
                  have hj : j = 15 := by
                    have : i = 0 ∨ i = 1 ∨ i = 2 ∨ i = 3 ∨ i = 4 ∨ i = 5 ∨ i = 6 ∨ i = 7 ∨ i = 8 ∨ i = 9 ∨ i = 10 ∨ i = 11 ∨ i = 12 ∨ i = 13 ∨ i = 14 ∨ i = 15 ∨ i = 16 ∨ i = 17 ∨ i = 18 ∨ i = 19 ∨ i = 20 ∨ i = 21 ∨ i = 22 ∨ i = 23 ∨ i = 24 ∨ i = 25 ∨ i = 26 := by omega
                    rcases this with rfl | rfl | rfl | rfl | rfl | rfl | rfl | rfl | rfl | rfl | rfl | rfl | rfl | rfl | rfl | rfl | rfl | rfl | rfl | rfl | rfl | rfl | rfl | rfl | rfl | rfl | rfl
                    all_goals
                      simp only [List.getElem?_toArray, List.getElem?_cons_zero, List.getElem?_cons_succ, Option.some.injEq] at hoo
                      subst hoo
                      cases hgd <;> rfl
                  subst hj
                  have hv : v = .bool eb := hg
                  rw [hv]
                  rfl
                case skip =>
                  intro i o w' hi hoo hw
                  have hi26 : i < 27 := hi
                  have : i = 0 ∨ i = 1 ∨ i = 2 ∨ i = 3 ∨ i = 4 ∨ i = 5 ∨ i = 6 ∨ i = 7 ∨ i = 8 ∨ i = 9 ∨ i = 10 ∨ i = 11 ∨ i = 12 ∨ i = 13 ∨ i = 14 ∨ i = 15 ∨ i = 16 ∨ i = 17 ∨ i = 18 ∨ i = 19 ∨ i = 20 ∨ i = 21 ∨ i = 22 ∨ i = 23 ∨ i = 24 ∨ i = 25 ∨ i = 26 := by omega
                  rcases this with rfl | rfl | rfl | rfl | rfl | rfl | rfl | rfl | rfl | rfl | rfl | rfl | rfl | rfl | rfl | rfl | rfl | rfl | rfl | rfl | rfl | rfl | rfl | rfl | rfl | rfl | rfl
                  all_goals
                    simp only [List.getElem?_toArray, List.getElem?_cons_zero, List.getElem?_cons_succ, Option.some.injEq] at hoo
                    subst hoo
                    first
                    | (simp [wantG] at hw; done)
                    | (have he : eb = false := by cases eb <;> simp [wantG] at hw ⊢
                       subst he
                       rfl)
                case step =>
                  intro i o a' w' K D hD hcl2 hi hoo hwant hrel hfr hpre hC hK
                  have e0 : a'.eval (.tmp 0) = .slice (some ⟨bb, off, none⟩) n c := hfr 0 (by simp)
                  have e7 : a'.eval (.tmp 7) = .slice (some ⟨g3, 0, none⟩) s c1 := hfr 7 (by simp)
                  have e9 : a'.eval (.tmp 9) = .int .i64 a := hfr 9 (by simp)
                  have e10 : a'.eval (.tmp 10) = .int .i64 b := hfr 10 (by simp)
                  have hkeep : ∀ (v : Value), prG eb a b s c1 qa qb n c g3 bb off X Y l i v → K (a'.put o.dst v) w' := fun v hv => hK v w' (Below.refl _ _) trivial (fun j _ _ h => h) hv
                  have hca := Hca.out w' hrel
                  have hcb := Hcb.out w' hrel
                  have hcx : w'.cell? ⟨bb, off + qa, none⟩ = some (.int .i64 X) := (hrel.cell (p := ⟨bb, off + qa, none⟩) hbbw).trans hck
                  have hcy : w'.cell? ⟨bb, off + qb, none⟩ = some (.int .i64 Y) := (hrel.cell (p := ⟨bb, off + qb, none⟩) hbbw).trans hck2
                  have hi26 : i < 27 := hi
                  have : i = 0 ∨ i = 1 ∨ i = 2 ∨ i = 3 ∨ i = 4 ∨ i = 5 ∨ i = 6 ∨ i = 7 ∨ i = 8 ∨ i = 9 ∨ i = 10 ∨ i = 11 ∨ i = 12 ∨ i = 13 ∨ i = 14 ∨ i = 15 ∨ i = 16 ∨ i = 17 ∨ i = 18 ∨ i = 19 ∨ i = 20 ∨ i = 21 ∨ i = 22 ∨ i = 23 ∨ i = 24 ∨ i = 25 ∨ i = 26 := by omega
                  rcases this with rfl | rfl | rfl | rfl | rfl | rfl | rfl | rfl | rfl | rfl | rfl | rfl | rfl | rfl | rfl | rfl | rfl | rfl | rfl | rfl | rfl | rfl | rfl | rfl | rfl | rfl | rfl
                  all_goals
                    simp only [List.getElem?_toArray, List.getElem?_cons_zero, List.getElem?_cons_succ, Option.some.injEq] at hoo
                    subst hoo
                  · refine oper_val (v := .slice (some ⟨bb, off, none⟩) n c) (w' := w') ?_ (hkeep _ rfl)
                    unfold execOp
                    simp only [e0]
                    go_simp
                  · refine oper_val (v := .slice (some ⟨g3, 0, none⟩) s c1) (w' := w') ?_ (hkeep _ rfl)
                    unfold execOp
                    simp only [e7]
                    go_simp
                  · refine oper_val (v := .int .i64 a) (w' := w') ?_ (hkeep _ rfl)
                    unfold execOp
                    simp only [e9]
                    go_simp
                  · have p1 : a'.eval (.tmp 34) = .slice (some ⟨g3, 0, none⟩) s c1 := hpre ⟨1, .data⟩ (by simp) rfl
                    have p2 : a'.eval (.tmp 35) = .int .i64 a := hpre ⟨2, .data⟩ (by simp) rfl
                    refine oper_val (v := .pointer (some ⟨g3, a, none⟩)) (w' := w') ?_ (hkeep _ rfl)
                    unfold execOp
                    simp only [p1, p2]
                    go_simp
                  · have p1 : a'.eval (.tmp 36) = .pointer (some ⟨g3, a, none⟩) := hpre ⟨3, .data⟩ (by simp) rfl
                    refine oper_val (v := .int .i64 qa) (w' := w') ?_ (hkeep _ rfl)
                    unfold execOp
                    simp only [p1]
                    go_simp
                  · have p1 : a'.eval (.tmp 33) = .slice (some ⟨bb, off, none⟩) n c := hpre ⟨0, .data⟩ (by simp) rfl
                    have p2 : a'.eval (.tmp 37) = .int .i64 qa := hpre ⟨4, .data⟩ (by simp) rfl
                    refine oper_val (v := .pointer (some ⟨bb, off + qa, none⟩)) (w' := w') ?_ (hkeep _ rfl)
                    unfold execOp
                    simp only [p1, p2]
                    go_simp
                  · have p1 : a'.eval (.tmp 38) = .pointer (some ⟨bb, off + qa, none⟩) := hpre ⟨5, .data⟩ (by simp) rfl
                    refine oper_val (v := .int .i64 X) (w' := w') ?_ (hkeep _ rfl)
                    unfold execOp
                    simp only [p1]
                    go_simp
                  · refine oper_val (v := .slice (some ⟨bb, off, none⟩) n c) (w' := w') ?_ (hkeep _ rfl)
                    unfold execOp
                    simp only [e0]
                    go_simp
                  · refine oper_val (v := .slice (some ⟨g3, 0, none⟩) s c1) (w' := w') ?_ (hkeep _ rfl)
                    unfold execOp
                    simp only [e7]
                    go_simp
                  · refine oper_val (v := .int .i64 b) (w' := w') ?_ (hkeep _ rfl)
                    unfold execOp
                    simp only [e10]
                    go_simp
                  · have p1 : a'.eval (.tmp 41) = .slice (some ⟨g3, 0, none⟩) s c1 := hpre ⟨8, .data⟩ (by simp) rfl
                    have p2 : a'.eval (.tmp 42) = .int .i64 b := hpre ⟨9, .data⟩ (by simp) rfl
                    refine oper_val (v := .pointer (some ⟨g3, b, none⟩)) (w' := w') ?_ (hkeep _ rfl)
                    unfold execOp
                    simp only [p1, p2]
                    go_simp
                  · have p1 : a'.eval (.tmp 43) = .pointer (some ⟨g3, b, none⟩) := hpre ⟨10, .data⟩ (by simp) rfl
                    refine oper_val (v := .int .i64 qb) (w' := w') ?_ (hkeep _ rfl)
                    unfold execOp
                    simp only [p1]
                    go_simp
                  · have p1 : a'.eval (.tmp 40) = .slice (some ⟨bb, off, none⟩) n c := hpre ⟨7, .data⟩ (by simp) rfl
                    have p2 : a'.eval (.tmp 44) = .int .i64 qb := hpre ⟨11, .data⟩ (by simp) rfl
                    refine oper_val (v := .pointer (some ⟨bb, off + qb, none⟩)) (w' := w') ?_ (hkeep _ rfl)
                    unfold execOp
                    simp only [p1, p2]
                    go_simp
                  · have p1 : a'.eval (.tmp 45) = .pointer (some ⟨bb, off + qb, none⟩) := hpre ⟨12, .data⟩ (by simp) rfl
                    refine oper_val (v := .int .i64 Y) (w' := w') ?_ (hkeep _ rfl)
                    unfold execOp
                    simp only [p1]
                    go_simp
                  · have p1 : a'.eval (.tmp 39) = .int .i64 X := hpre ⟨6, .data⟩ (by simp) rfl
                    have p2 : a'.eval (.tmp 46) = .int .i64 Y := hpre ⟨13, .data⟩ (by simp) rfl
                    refine oper_val (v := .bool eb) (w' := w') ?_ (hkeep _ rfl)
                    unfold execOp
                    simp only [p1, p2]
                    go_simp
                    exact Heb.out
                  · have p1 : a'.eval (.tmp 47) = .bool eb := hpre ⟨14, .data⟩ (by simp) rfl
                    refine oper_val (v := .bool eb) (w' := w') ?_ (hkeep _ rfl)
                    unfold execOp
                    simp only [p1]
                    go_simp
                  · have he : eb = true := by cases eb <;> simp [wantG] at hwant ⊢
                    subst he
                    refine oper_val (v := .slice (some ⟨bb, off, none⟩) n c) (w' := w') ?_ (hkeep _ rfl)
                    unfold execOp
                    simp only [e0]
                    go_simp
                  · have he : eb = true := by cases eb <;> simp [wantG] at hwant ⊢
                    subst he
                    refine oper_val (v := .slice (some ⟨g3, 0, none⟩) s c1) (w' := w') ?_ (hkeep _ rfl)
                    unfold execOp
                    simp only [e7]
                    go_simp
                  · have he : eb = true := by cases eb <;> simp [wantG] at hwant ⊢
                    subst he
                    refine oper_val (v := .int .i64 a) (w' := w') ?_ (hkeep _ rfl)
                    unfold execOp
                    simp only [e9]
                    go_simp
                  · have he : eb = true := by cases eb <;> simp [wantG] at hwant ⊢
                    subst he
                    have p1 : a'.eval (.tmp 50) = .slice (some ⟨g3, 0, none⟩) s c1 := hpre ⟨17, .data⟩ (by simp) rfl
                    have p2 : a'.eval (.tmp 51) = .int .i64 a := hpre ⟨18, .data⟩ (by simp) rfl
                    refine oper_val (v := .pointer (some ⟨g3, a, none⟩)) (w' := w') ?_ (hkeep _ rfl)
                    unfold execOp
                    simp only [p1, p2]
                    go_simp
                  · have he : eb = true := by cases eb <;> simp [wantG] at hwant ⊢
                    subst he
                    have p1 : a'.eval (.tmp 52) = .pointer (some ⟨g3, a, none⟩) := hpre ⟨19, .data⟩ (by simp) rfl
                    refine oper_val (v := .int .i64 qa) (w' := w') ?_ (hkeep _ rfl)
                    unfold execOp
                    simp only [p1]
                    go_simp
                  · have he : eb = true := by cases eb <;> simp [wantG] at hwant ⊢
                    subst he
                    have p1 : a'.eval (.tmp 49) = .slice (some ⟨bb, off, none⟩) n c := hpre ⟨16, .data⟩ (by simp) rfl
                    have p2 : a'.eval (.tmp 53) = .int .i64 qa := hpre ⟨20, .data⟩ (by simp) rfl
                    refine oper_val (v := .pointer (some ⟨bb, off + qa, none⟩)) (w' := w') ?_ (hkeep _ rfl)
                    unfold execOp
                    simp only [p1, p2]
                    go_simp
                  · have he : eb = true := by cases eb <;> simp [wantG] at hwant ⊢
                    subst he
                    have p1 : a'.eval (.tmp 54) = .pointer (some ⟨bb, off + qa, none⟩) := hpre ⟨21, .data⟩ (by simp) rfl
                    refine oper_val (v := .int .i64 X) (w' := w') ?_ (hkeep _ rfl)
                    unfold execOp
                    simp only [p1]
                    go_simp
                  · have he : eb = true := by cases eb <;> simp [wantG] at hwant ⊢
                    subst he
                    have p1 : a'.eval (.tmp 55) = .int .i64 X := hpre ⟨22, .data⟩ (by simp) rfl
                    refine oper_call (f := 66) (args := #[.int .i64 X]) ?_ (HMv.out w') ?_
                    · unfold execOp
                      go_simp
                      exact by simpa [Act.eval] using p1
                    · rintro e w8 ⟨A5, c5, rfl, hb8⟩
                      exact ⟨_, rfl, hK _ w8 hb8 trivial (fun j _ _ h => h) ⟨A5, c5, rfl⟩⟩
                  · have he : eb = true := by cases eb <;> simp [wantG] at hwant ⊢
                    subst he
                    obtain ⟨A5, c5, p1⟩ : ∃ A5 c5, a'.eval (.tmp 56) = .slice A5 l c5 := hpre ⟨23, .data⟩ (by simp) rfl
                    have p1' : a'.tmps[56]?.getD undef = .slice A5 l c5 := by simpa [Act.eval] using p1
                    refine oper_val (v := .int .i64 (l : Int)) (w' := w') ?_ (hkeep _ rfl)
                    unfold execOp
                    go_simp
                  · have he : eb = true := by cases eb <;> simp [wantG] at hwant ⊢
                    subst he
                    have p1 : a'.eval (.tmp 57) = .int .i64 (l : Int) := hpre ⟨24, .data⟩ (by simp) rfl
                    refine oper_val (v := .bool (l == 2)) (w' := w') ?_ (hkeep _ rfl)
                    unfold execOp
                    simp only [p1]
                    go_simp
                    exact l2_int l
                  · have p1 : a'.eval (.tmp 48) = .bool eb := hpre ⟨15, .data⟩ (by simp) rfl
                    cases eb
                    · refine oper_val (v := .bool false) (w' := w') ?_ (hkeep _ rfl)
                      unfold execOp
                      simp only [p1]
                      rfl
                    · have p2 : a'.eval (.tmp 58) = .bool (l == 2) := hpre ⟨25, .data⟩ (by simp) rfl
                      refine oper_val (v := .bool (l == 2)) (w' := w') ?_ (hkeep _ rfl)
                      unfold execOp
                      simp only [p1, p2]
                      rfl
                case fin =>
                  intro a' w5 hrel hdef htm hpre
                  obtain ⟨v33, g33⟩ : ∃ v, a'.tmps.getD 33 undef = v := ⟨_, rfl⟩
                  obtain ⟨v34, g34⟩ : ∃ v, a'.tmps.getD 34 undef = v := ⟨_, rfl⟩
                  obtain ⟨v35, g35⟩ : ∃ v, a'.tmps.getD 35 undef = v := ⟨_, rfl⟩
                  obtain ⟨v36, g36⟩ : ∃ v, a'.tmps.getD 36 undef = v := ⟨_, rfl⟩
                  obtain ⟨v37, g37⟩ : ∃ v, a'.tmps.getD 37 undef = v := ⟨_, rfl⟩
                  obtain ⟨v38, g38⟩ : ∃ v, a'.tmps.getD 38 undef = v := ⟨_, rfl⟩
                  obtain ⟨v39, g39⟩ : ∃ v, a'.tmps.getD 39 undef = v := ⟨_, rfl⟩
                  obtain ⟨v40, g40⟩ : ∃ v, a'.tmps.getD 40 undef = v := ⟨_, rfl⟩
                  obtain ⟨v41, g41⟩ : ∃ v, a'.tmps.getD 41 undef = v := ⟨_, rfl⟩
                  obtain ⟨v42, g42⟩ : ∃ v, a'.tmps.getD 42 undef = v := ⟨_, rfl⟩
                  obtain ⟨v43, g43⟩ : ∃ v, a'.tmps.getD 43 undef = v := ⟨_, rfl⟩
                  obtain ⟨v44, g44⟩ : ∃ v, a'.tmps.getD 44 undef = v := ⟨_, rfl⟩
                  obtain ⟨v45, g45⟩ : ∃ v, a'.tmps.getD 45 undef = v := ⟨_, rfl⟩
                  obtain ⟨v46, g46⟩ : ∃ v, a'.tmps.getD 46 undef = v := ⟨_, rfl⟩
                  obtain ⟨v47, g47⟩ : ∃ v, a'.tmps.getD 47 undef = v := ⟨_, rfl⟩
                  obtain ⟨v48, g48⟩ : ∃ v, a'.tmps.getD 48 undef = v := ⟨_, rfl⟩
                  obtain ⟨v49, g49⟩ : ∃ v, a'.tmps.getD 49 undef = v := ⟨_, rfl⟩
                  obtain ⟨v50, g50⟩ : ∃ v, a'.tmps.getD 50 undef = v := ⟨_, rfl⟩
                  obtain ⟨v51, g51⟩ : ∃ v, a'.tmps.getD 51 undef = v := ⟨_, rfl⟩
                  obtain ⟨v52, g52⟩ : ∃ v, a'.tmps.getD 52 undef = v := ⟨_, rfl⟩
                  obtain ⟨v53, g53⟩ : ∃ v, a'.tmps.getD 53 undef = v := ⟨_, rfl⟩
                  obtain ⟨v54, g54⟩ : ∃ v, a'.tmps.getD 54 undef = v := ⟨_, rfl⟩
                  obtain ⟨v55, g55⟩ : ∃ v, a'.tmps.getD 55 undef = v := ⟨_, rfl⟩
                  obtain ⟨v56, g56⟩ : ∃ v, a'.tmps.getD 56 undef = v := ⟨_, rfl⟩
                  obtain ⟨v57, g57⟩ : ∃ v, a'.tmps.getD 57 undef = v := ⟨_, rfl⟩
                  obtain ⟨v58, g58⟩ : ∃ v, a'.tmps.getD 58 undef = v := ⟨_, rfl⟩
                  have g59 : a'.tmps.getD 59 undef = .bool (eb && l == 2) := hpre 26 (by simp)
                  have key := htm
                  simp only [List.foldl_cons, List.foldl_nil, g33, g34, g35, g36, g37, g38, g39, g40, g41, g42, g43, g44, g45, g46, g47, g48, g49, g50, g51, g52, g53, g54, g55, g56, g57, g58, g59, List.setIfInBounds_toArray, List.set_cons_succ, List.set_cons_zero] at key
                  clear htm hpre g33 g34 g35 g36 g37 g38 g39 g40 g41 g42 g43 g44 g45 g46 g47 g48 g49 g50 g51 g52 g53 g54 g55 g56 g57 g58 g59
                  obtain ⟨tm, df⟩ := a'
                  dsimp only at key hdef
                  subst key hdef
                  go_wp2
                  go_meet
                  case rel => exact ⟨rfl, hrel⟩
              case rest =>
                obtain ⟨rfl, hbx⟩ := hcut
                have ho5 := Ho.out.below hbx
                have hb5 := step hb hbx
                cases hcc : (eb && l == 2)
                · have Hs' := Lib.hid (show prB m s u a (b + 1) = t by rw [Hs.out, hcc]; rfl)
                  clear hcc
                  go_wp2
                  go_roundg (a - (b + 1))
                  case measure => omega
                  case rel => exact ⟨b + 1, by omega, rfl, by go_num, by rw [Hs'.out], ho5, hb5⟩
                · have Hs' := Lib.hid (show prB m s u a (b + 1) = t + 1 by rw [Hs.out, hcc]; rfl)
                  clear hcc
                  go_wp2
                  go_roundg (a - (b + 1))
                  case measure => omega
                  case rel => exact ⟨b + 1, by omega, rfl, by go_num, by rw [Hs'.out]; rfl, ho5, hb5⟩
            · obtain rfl : b = a := by omega
              go_wp2
              go_roundg (s - (b + 1))
              case measure => omega
              case rel => exact ⟨b + 1, by omega, rfl, by go_num, by rw [Hp.out], ho, hb⟩
        · obtain rfl : a = s := by omega
          go_wp2
          go_ret
          exact ⟨by rw [HL.out]; rfl, hb⟩
end Go.Proofs.Ytgejahkdiciplab
set_option maxRecDepth 8000
namespace Go.Proofs.Ytgejahkdiciplab
open Go.ChangeShapes Go.WideShapes Go.ChangeAt Go.RowKit
theorem np_b64 {m : List Int} {s : Int} (hm : mvd m s = true) : B64 (npL m s) := fun k => by
  by_cases hk : k < m.length
  · obtain ⟨⟨x0, x1, _⟩, _⟩ := (np_sub hm).at_ hm hk
    omega
  · rw [show nth (npL m s) k = 0 by
      have := (np_sub hm).1
      simp [nth, List.getD_eq_getElem?_getD, List.getElem?_eq_none (show (npL m s).length ≤ k by omega)]]
    omega
/-- the pairs of the first lines together. -/
def prS (m : List Int) (s : Nat) : Nat → Nat
  | 0 => 0
  | u + 1 => prS m s u + prA m s u s
theorem prS_zero {m : List Int} {s : Nat} : ∀ {T : Nat}, prS m s T = 0 → ∀ l : Nat, l < T → prA m s l s = 0 := by
  intro T
  induction T with
  | zero => intro _ l h; omega
  | succ T ih =>
    intro h l hl
    simp only [prS] at h
    by_cases e : l = T
    · subst e; omega
    · exact ih (by omega) l (by omega)
theorem prS_le {m : List Int} {s : Nat} (hs : s ≤ 4) (T : Nat) : prS m s T ≤ 6 * T := by
  induction T with
  | zero => exact Nat.le_refl _
  | succ T ih =>
    simp only [prS]
    have h1 := prA_le (m := m) (S := s) (u := T) s
    have h2 : s * (s - 1) ≤ 4 * 3 := Nat.mul_le_mul hs (by omega)
    omega
set_option maxHeartbeats 4000000 in
theorem narrowPairs_walk (A : Option Addr) (c n : Nat) (bs : List Int) (w : World) (h : Code_ w A n c bs) :
    Calls Try.prog 6 #[.slice A n c] w fun e w' => e = .returned (.bool true) ∧ Below w.heap.size w w' := by
  by_cases hn : n ≤ 1048576
  · go_enter Try.func6, Try.ntmps6
    go_wp2_with fail
    refine (draw_DrawNarrowPairs _ _ _ _ _ h).mono ?_
    rintro e w1 ⟨s, A1, n1, c1, xs, rfl, s1, s5, n16, hnc, hcm, hrd, hsm, hlo, hb1⟩
    have hlen := hrd.1
    have hx64 := Lib.hid (smallM_b64 hsm.out hlen)
    have hsb : -9223372036854775808 ≤ s ∧ s ≤ 9223372036854775807 := by omega
    have hln : (npL xs s).length ≤ 16 := by
      by_cases hv : mvd xs s = true
      · have := (np_sub hv).1; omega
      · simp [npL, hv]
    obtain ⟨nl, hnl⟩ : ∃ nl, (npL xs s).length = nl := ⟨_, rfl⟩
    rw [hnl] at hln
    have Hnl := Lib.hid hnl
    go_wp2_with fail
    refine (implNarrowPairs A1 c1 n1 _ xs s w1 hrd hx64.out (Nat.le_refl _) (by omega) hsb).mono ?_
    rintro e w2 ⟨A2, c2, rfl, ho2, hb2⟩
    rw [Hnl.out] at ho2 ⊢
    have h02 := step hb1 hb2
    go_wp2_with fail
    refine (specNarrowPairs A1 c1 n1 _ xs s w2 (hrd.below hb2) hb2.size (by omega) hsb).mono ?_
    rintro e w3 ⟨A3, c3, rfl, ho3, hb3⟩
    rw [Hnl.out] at ho3 ⊢
    have h03 := step h02 hb3
    have h13 := step hb2 hb3
    have hr2 := ho2.rd.below hb3
    go_wp2_with fail
    refine (sameInts_any _ _ _ _ _ _ _ _ _ _ _ hr2 ho3.rd (by omega)).mono ?_
    rintro e w4 ⟨rfl, hb4⟩
    rw [show same (npL xs s) (npL xs s) = true by simp [same]]
    have h04 := step h03 hb4
    have h14 := step h13 hb4
    have hr4 := hrd.below h14
    have hx4 := hr2.below (hb4.mono hb3.size)
    have hB4 := h14.size
    have h24 := step hb3 hb4
    have HV := Lib.hid (specMasksValid A1 c1 n1 _ xs s w4 hr4 hB4 (by omega) hsb)
    cases hv : mvd xs s
    · have hz : nl = 0 := by rw [← Hnl.out]; simp [npL, hv]
      subst hz
      go_wp2_with (first
        | (go_at_call 28; refine HV.out.mono ?_; rintro e w5 ⟨rfl, hb5⟩; rw [hv]; have h05 := step h04 hb5)
        | (go_at_call 13; (with_reducible refine (alive_any _).mono ?_); rintro e w6 ⟨rfl, hb6⟩))
      go_ret
      exact ⟨rfl, step h05 hb6⟩
    · obtain ⟨⟨s2, s4⟩, hl, _, _⟩ := mvd_at hv
      obtain ⟨t, rfl⟩ := Int.eq_ofNat_of_zero_le (by omega : 0 ≤ s)
      have hne : n1 = nl := by rw [← Hnl.out, (np_sub hv).1, hlen]
      subst hne
      have Hwi := Lib.hid (np_wi hv)
      have Hkp := Lib.hid (fun (q : Nat) (hq : sqSolved (sqn t q) t = true) (hh : mhB xs t (sqn t q) = true) => np_keeps hv hq hh)
      have h64 := Lib.hid (np_b64 hv)
      have Hv := Lib.hid hv
      have HPr := Lib.hid (fun (u : Nat) (hu : u < 2 * t) w' (hb : Below w1.heap.size w1 w') => (show Calls Try.prog 29 #[.slice A1 n1 c1, .int .i64 t, .int .i64 u] w' (fun e w'' => e = .returned (.int .i64 (prA xs t u t : Nat)) ∧ Below w'.heap.size w' w'') by
        have hlo : lineOk t u = true := by simp [lineOk, inr]; omega
        have := implPairsIn A1 c1 n1 w1.heap.size xs t u w' (hrd.below hb) hx64.out hb.size (by omega) hsb
        rw [show prI xs t u = (prA xs t u t : Nat) by rw [prI, hv, hlo, Int.toNat_natCast]; rfl] at this
        exact this))
      have HA := Lib.hid (fun (u : Nat) => (show prA xs t u t ≤ 6 by
        have h1 := prA_le (m := xs) (S := t) (u := u) t
        have h2 : t * (t - 1) ≤ 4 * 3 := Nat.mul_le_mul (by omega) (by omega)
        omega))
      obtain ⟨T, hT⟩ : ∃ T, T = 2 * t := ⟨_, rfl⟩
      have HT := Lib.hid hT
      have hT8 : T ≤ 8 := by omega
      have t4 : t ≤ 4 := by omega
      clear hl hsm hT
      go_wp2_with (go_at_call 28; refine HV.out.mono ?_; rintro e w5 ⟨rfl, hb5⟩; rw [hv]; have h05 := step h04 hb5; have h15 := step h14 hb5; have h25 := step h24 hb5)
      have hr5 := hr4.below (hb5.mono hB4)
      have hx5 := hx4.below (hb5.mono h24.size)
      have hsz15 := h15.size
      have hsz25 := h25.size
      go_loopw [6, 7] (fun q i wr => ∃ u : Nat, u ≤ T ∧ i = .int .i64 u ∧ q = .int .i64 (prS xs t u : Nat) ∧ Below w.heap.size w wr ∧ Below w1.heap.size w1 wr ∧ Below w5.heap.size w5 wr) (fun _ i _ => T - (intOf i).toNat)
      case atStart => exact ⟨0, Nat.zero_le _, rfl, rfl, h05, h15, Below.refl _ _⟩
      case round =>
        obtain ⟨u, hu, rfl, rfl, hb, hbA, hbB⟩ := hrel
        have hps := prS_le (m := xs) (s := t) t4 u
        by_cases hlt : u < T
        · have hltI : (u : Int) < 2 * (t : Int) := by have := HT.out; omega
          have hps6 := HA.out u
          have Hs := Lib.hid (show prS xs t (u + 1) = prS xs t u + prA xs t u t from rfl)
          have HP := Lib.hid (HPr.out u (by have := HT.out; omega) wr hbA)
          obtain ⟨p, hp⟩ : ∃ p, prS xs t u = p := ⟨_, rfl⟩
          obtain ⟨q, hq⟩ : ∃ q, prA xs t u t = q := ⟨_, rfl⟩
          rw [hp] at hps Hs ⊢
          rw [hq] at hps6 Hs HP
          clear hp hq
          go_wp2_with (go_at_call 29; refine HP.out.mono ?_; rintro e w6 ⟨rfl, hb6⟩)
          go_roundw
          case rel => exact ⟨u + 1, by omega, by go_num, by rw [Hs.out]; rfl, step hb hb6, step hbA hb6, step hbB hb6⟩
          case measure => simp [intOf]; omega
        · obtain rfl : u = T := by omega
          have hgeI : ¬ (u : Int) < 2 * (t : Int) := by have := HT.out; omega
          have hr6 := hr5.below (hbB.mono hsz15)
          have hx6 := hx5.below (hbB.mono hsz25)
          have hz15 := Nat.le_trans hsz15 hbB.size
          have hz25 := Nat.le_trans hsz25 hbB.size
          by_cases hp0 : prS xs t u = 0
          · have hsame := Lib.hid (np_none hv (fun l hl => prS_zero hp0 l (by have := HT.out; simp at hl; omega)))
            rw [hp0]
            go_wp2_with (first
              | (go_at_call 30; refine (within_any A2 A1 c2 c1 n1 n1 _ _ (npL xs t) xs _ hx6 hr6 rfl Hwi (by omega)).mono ?_; rintro e w6 ⟨rfl, hb6⟩; have h06 := step hb hb6; have hr7 := hr6.below (hb6.mono hz15); have hx7 := hx6.below (hb6.mono hz25); have hy15 := Nat.le_trans hz15 hb6.size; have hy25 := Nat.le_trans hz25 hb6.size)
              | (go_at_call 31; refine (keeps_any A1 A2 c1 c2 n1 n1 w1.heap.size w2.heap.size xs (npL xs t) t _ hr7 hx7 hy15 hy25 (by omega) (by omega) h64.out s2 s4 Hkp).mono ?_; rintro e w7 ⟨rfl, hb7⟩; have h07 := step h06 hb7; have hr8 := hr7.below (hb7.mono hy15); have hx8 := hx7.below (hb7.mono hy25))
              | (go_at_call 26; refine (sameInts_any _ _ _ _ _ _ _ _ _ _ _ hx8 hr8 (by omega)).mono ?_; rintro e w8 ⟨rfl, hb8⟩; rw [hsame.out, show same xs xs = true by simp [same]]))
            go_ret
            exact ⟨rfl, step h07 hb8⟩
          · have hpI : (0 : Int) < ((prS xs t u : Nat) : Int) := by omega
            obtain ⟨p, hp⟩ : ∃ p, prS xs t u = p := ⟨_, rfl⟩
            rw [hp] at hpI ⊢
            clear hp0 hp
            go_wp2_with (first
              | (go_at_call 30; refine (within_any A2 A1 c2 c1 n1 n1 _ _ (npL xs t) xs _ hx6 hr6 rfl Hwi (by omega)).mono ?_; rintro e w6 ⟨rfl, hb6⟩; have h06 := step hb hb6; have hr7 := hr6.below (hb6.mono hz15); have hx7 := hx6.below (hb6.mono hz25); have hy15 := Nat.le_trans hz15 hb6.size; have hy25 := Nat.le_trans hz25 hb6.size)
              | (go_at_call 31; refine (keeps_any A1 A2 c1 c2 n1 n1 w1.heap.size w2.heap.size xs (npL xs t) t _ hr7 hx7 hy15 hy25 (by omega) (by omega) h64.out s2 s4 Hkp).mono ?_; rintro e w7 ⟨rfl, hb7⟩; have h07 := step h06 hb7))
            go_ret
            exact ⟨rfl, h07⟩
  · go_enter Try.func6, Try.ntmps6
    go_wp2
    go_ret
    exact ⟨rfl, Below.refl _ _⟩
end Go.Proofs.Ytgejahkdiciplab
set_option maxRecDepth 8000
namespace Go.Proofs.Ytgejahkdiciplab
open Go.ChangeShapes Go.WideShapes Go.ChangeAt Go.RowKit
/-- so many sixes. -/
def sixes (k : Nat) : List Int := List.replicate k 6
theorem sixes_push (k : Nat) : sixes k ++ [6] = sixes (k + 1) := by
  unfold sixes
  rw [List.replicate_succ']
theorem sixes_len (k : Nat) : (sixes k).length = k := by simp [sixes]
theorem sixes_b64 (k : Nat) : B64 (sixes k) := fun j => by
  have : nth (sixes k) j = 6 ∨ nth (sixes k) j = 0 := by
    simp only [nth, sixes, List.getD_eq_getElem?_getD, List.getElem?_replicate]
    split
    · exact .inl rfl
    · exact .inr rfl
  omega
def sixP (s : Nat) : Bool := mvd (sixes (s * s)) s && (List.range (2 * s)).all fun u => prA (sixes (s * s)) s u s == s * (s - 1) / 2
theorem sixP_all : sixP 2 = true ∧ sixP 3 = true ∧ sixP 4 = true := by decide +kernel
theorem six_pr {s u : Nat} (hs : s ∈ [2, 3, 4]) (hu : u < 2 * s) : prI (sixes (s * s)) s u = (s * (s - 1) / 2 : Nat) := by
  have h : sixP s = true := by
    simp at hs
    rcases hs with rfl | rfl | rfl
    · exact sixP_all.1
    · exact sixP_all.2.1
    · exact sixP_all.2.2
  simp only [sixP, Bool.and_eq_true, List.all_eq_true, List.mem_range, beq_iff_eq] at h
  have hlo : lineOk s u = true := by simp [lineOk, inr]; simp at hs; omega
  rw [prI, h.1, hlo, Int.toNat_natCast, h.2 u hu]
  rfl
set_option maxHeartbeats 4000000 in
theorem pairsIn_walk (A : Option Addr) (c n : Nat) (bs : List Int) (w : World) (h : Code_ w A n c bs) :
    Calls Try.prog 7 #[.slice A n c] w fun e w' => e = .returned (.bool true) ∧ Below w.heap.size w w' := by
  by_cases hn : n ≤ 1048576
  · go_enter Try.func7, Try.ntmps7
    go_wp2_with fail
    refine (draw_DrawPairsIn _ _ _ _ _ h).mono ?_
    rintro e w1 ⟨s, A1, n1, c1, xs, l, rfl, ⟨l1, l8⟩, _, hrd, hsm, n16, s1, s5, hb1⟩
    have hlen := hrd.1
    have hx64 := Lib.hid (smallM_b64 hsm.out hlen)
    have hsb : -9223372036854775808 ≤ s ∧ s ≤ 9223372036854775807 := by omega
    have hlb : -9223372036854775808 ≤ l ∧ l ≤ 9223372036854775807 := by omega
    go_wp2_with fail
    refine (implPairsIn A1 c1 n1 _ xs s l w1 hrd hx64.out (Nat.le_refl _) (by omega) hsb).mono ?_
    rintro e w2 ⟨rfl, hb2⟩
    have h02 := step hb1 hb2
    go_wp2_with fail
    refine (specPairsIn A1 c1 n1 _ xs s l w2 (hrd.below hb2) hb2.size (by omega) hsb hlb).mono ?_
    rintro e w3 ⟨rfl, hb3⟩
    have h03 := step h02 hb3
    have hne : (prI xs s l != prI xs s l) = false := by simp
    cases hv : (mvd xs s && lineOk s l)
    · have hz : prI xs s l = -1 := by simp only [prI]; rw [if_neg (by rw [hv]; simp)]
      rw [hz] at hne ⊢
      go_wp2_with (go_at_call 13; (with_reducible refine (alive_any _).mono ?_); rintro e w6 ⟨rfl, hb6⟩)
      go_ret
      exact ⟨rfl, step h03 hb6⟩
    · obtain ⟨hv1, hlo⟩ := Bool.and_eq_true_iff.1 hv
      obtain ⟨⟨s2, s4⟩, _, _, _⟩ := mvd_at hv1
      have hs3 : s = 2 ∨ s = 3 ∨ s = 4 := by omega
      have Hv := Lib.hid hv
      clear s2 s4 hv hv1 hsm s1 s5
      rcases hs3 with rfl | rfl | rfl
      · obtain ⟨u, rfl, hu⟩ := lineOk_nat (s := 2) hlo
        obtain ⟨p, hp⟩ : ∃ p, prA xs 2 u 2 = p := ⟨_, rfl⟩
        have hpe : prI xs 2 u = (p : Nat) := by
          simp only [prI]
          rw [if_pos Hv.out]
          exact congrArg _ hp
        have hle : p ≤ 1 := by
          have := prA_le (m := xs) (S := 2) (u := u) 2
          omega
        have HS := Lib.hid (show prI (sixes 4) 2 u = 1 from six_pr (s := 2) (by simp) hu)
        rw [hpe] at hne ⊢
        have hp0 : ¬ ((p : Int) < 0) := by omega
        have hpI : (p : Int) ≤ 1 := by omega
        have hmade : Ow (w3.alloc (.cells #[] 3)) w3.heap.size (some ⟨w3.heap.size, 0, none⟩) 0 0 (sixes 0) := Ow.made0 _ _ (Nat.le_refl _)
        have hbm : Below w3.heap.size w3 (w3.alloc (.cells #[] 3)) := (Below.refl _ _).alloc (Nat.le_refl _) _
        clear hpe hp hle hlo Hv
        go_wp2
        go_loopw [7, 8] (fun v i wr => ∃ (k : Nat) (A' : Option Addr) (c' : Nat), k ≤ 4 ∧ i = .int .i64 k ∧ v = .slice A' k c' ∧ Ow wr w3.heap.size A' k c' (sixes k) ∧ Below w3.heap.size w3 wr) (fun _ i _ => 4 - (intOf i).toNat)
        case atStart => exact ⟨0, _, 0, Nat.zero_le _, rfl, rfl, hmade, hbm⟩
        case round =>
          obtain ⟨k, A', c', hk, rfl, rfl, ho, hb⟩ := hrel
          have hsz := hb.size
          by_cases hlt : k < 4
          · have hltI : (k : Int) < 4 := by omega
            go_wp2_with (at_builtin; refine push_int rfl (.tmp 43) (.tmp 44) rfl w3.heap.size A' k c' (sixes k) 6 rfl rfl ho (by omega) hsz ?_; intro A4 c4 w4 ho4 hg4)
            have hb4 := push_below hb ho (Nat.le_refl _) hsz hg4
            rw [sixes_push] at ho4
            go_roundw
            case rel => exact ⟨k + 1, A4, c4, by omega, by go_num, rfl, ho4, hb4⟩
            case measure => simp [intOf]; omega
          · obtain rfl : k = 4 := by omega
            have HC := Lib.hid (implPairsIn A' c' 4 wr.heap.size (sixes 4) 2 u wr ho.rd (sixes_b64 _) (Nat.le_refl _) (by omega) hsb)
            rw [HS.out] at HC
            have h0r := step h03 hb
            go_wp2_with (go_at_call 29; refine HC.out.mono ?_; rintro e w6 ⟨rfl, hb6⟩)
            go_ret
            exact ⟨rfl, step h0r hb6⟩
      · obtain ⟨u, rfl, hu⟩ := lineOk_nat (s := 3) hlo
        obtain ⟨p, hp⟩ : ∃ p, prA xs 3 u 3 = p := ⟨_, rfl⟩
        have hpe : prI xs 3 u = (p : Nat) := by
          simp only [prI]
          rw [if_pos Hv.out]
          exact congrArg _ hp
        have hle : p ≤ 3 := by
          have := prA_le (m := xs) (S := 3) (u := u) 3
          omega
        have HS := Lib.hid (show prI (sixes 9) 3 u = 3 from six_pr (s := 3) (by simp) hu)
        rw [hpe] at hne ⊢
        have hp0 : ¬ ((p : Int) < 0) := by omega
        have hpI : (p : Int) ≤ 3 := by omega
        have hmade : Ow (w3.alloc (.cells #[] 3)) w3.heap.size (some ⟨w3.heap.size, 0, none⟩) 0 0 (sixes 0) := Ow.made0 _ _ (Nat.le_refl _)
        have hbm : Below w3.heap.size w3 (w3.alloc (.cells #[] 3)) := (Below.refl _ _).alloc (Nat.le_refl _) _
        clear hpe hp hle hlo Hv
        go_wp2
        go_loopw [7, 8] (fun v i wr => ∃ (k : Nat) (A' : Option Addr) (c' : Nat), k ≤ 9 ∧ i = .int .i64 k ∧ v = .slice A' k c' ∧ Ow wr w3.heap.size A' k c' (sixes k) ∧ Below w3.heap.size w3 wr) (fun _ i _ => 9 - (intOf i).toNat)
        case atStart => exact ⟨0, _, 0, Nat.zero_le _, rfl, rfl, hmade, hbm⟩
        case round =>
          obtain ⟨k, A', c', hk, rfl, rfl, ho, hb⟩ := hrel
          have hsz := hb.size
          by_cases hlt : k < 9
          · have hltI : (k : Int) < 9 := by omega
            go_wp2_with (at_builtin; refine push_int rfl (.tmp 43) (.tmp 44) rfl w3.heap.size A' k c' (sixes k) 6 rfl rfl ho (by omega) hsz ?_; intro A4 c4 w4 ho4 hg4)
            have hb4 := push_below hb ho (Nat.le_refl _) hsz hg4
            rw [sixes_push] at ho4
            go_roundw
            case rel => exact ⟨k + 1, A4, c4, by omega, by go_num, rfl, ho4, hb4⟩
            case measure => simp [intOf]; omega
          · obtain rfl : k = 9 := by omega
            have HC := Lib.hid (implPairsIn A' c' 9 wr.heap.size (sixes 9) 3 u wr ho.rd (sixes_b64 _) (Nat.le_refl _) (by omega) hsb)
            rw [HS.out] at HC
            have h0r := step h03 hb
            go_wp2_with (go_at_call 29; refine HC.out.mono ?_; rintro e w6 ⟨rfl, hb6⟩)
            go_ret
            exact ⟨rfl, step h0r hb6⟩
      · obtain ⟨u, rfl, hu⟩ := lineOk_nat (s := 4) hlo
        obtain ⟨p, hp⟩ : ∃ p, prA xs 4 u 4 = p := ⟨_, rfl⟩
        have hpe : prI xs 4 u = (p : Nat) := by
          simp only [prI]
          rw [if_pos Hv.out]
          exact congrArg _ hp
        have hle : p ≤ 6 := by
          have := prA_le (m := xs) (S := 4) (u := u) 4
          omega
        have HS := Lib.hid (show prI (sixes 16) 4 u = 6 from six_pr (s := 4) (by simp) hu)
        rw [hpe] at hne ⊢
        have hp0 : ¬ ((p : Int) < 0) := by omega
        have hpI : (p : Int) ≤ 6 := by omega
        have hmade : Ow (w3.alloc (.cells #[] 3)) w3.heap.size (some ⟨w3.heap.size, 0, none⟩) 0 0 (sixes 0) := Ow.made0 _ _ (Nat.le_refl _)
        have hbm : Below w3.heap.size w3 (w3.alloc (.cells #[] 3)) := (Below.refl _ _).alloc (Nat.le_refl _) _
        clear hpe hp hle hlo Hv
        go_wp2
        go_loopw [7, 8] (fun v i wr => ∃ (k : Nat) (A' : Option Addr) (c' : Nat), k ≤ 16 ∧ i = .int .i64 k ∧ v = .slice A' k c' ∧ Ow wr w3.heap.size A' k c' (sixes k) ∧ Below w3.heap.size w3 wr) (fun _ i _ => 16 - (intOf i).toNat)
        case atStart => exact ⟨0, _, 0, Nat.zero_le _, rfl, rfl, hmade, hbm⟩
        case round =>
          obtain ⟨k, A', c', hk, rfl, rfl, ho, hb⟩ := hrel
          have hsz := hb.size
          by_cases hlt : k < 16
          · have hltI : (k : Int) < 16 := by omega
            go_wp2_with (at_builtin; refine push_int rfl (.tmp 43) (.tmp 44) rfl w3.heap.size A' k c' (sixes k) 6 rfl rfl ho (by omega) hsz ?_; intro A4 c4 w4 ho4 hg4)
            have hb4 := push_below hb ho (Nat.le_refl _) hsz hg4
            rw [sixes_push] at ho4
            go_roundw
            case rel => exact ⟨k + 1, A4, c4, by omega, by go_num, rfl, ho4, hb4⟩
            case measure => simp [intOf]; omega
          · obtain rfl : k = 16 := by omega
            have HC := Lib.hid (implPairsIn A' c' 16 wr.heap.size (sixes 16) 4 u wr ho.rd (sixes_b64 _) (Nat.le_refl _) (by omega) hsb)
            rw [HS.out] at HC
            have h0r := step h03 hb
            go_wp2_with (go_at_call 29; refine HC.out.mono ?_; rintro e w6 ⟨rfl, hb6⟩)
            go_ret
            exact ⟨rfl, step h0r hb6⟩
  · go_enter Try.func7, Try.ntmps7
    go_wp2
    go_ret
    exact ⟨rfl, Below.refl _ _⟩
end Go.Proofs.Ytgejahkdiciplab
