import Derived.Test.YtoejpodchlepiaaYSol
import Derived.Test.YtoejpodchlepiaaYDrawH
import Derived.RegionTactic
import Derived.Laws.Rows
import Derived.Laws.Tables
import Derived.Test.YtoejpodchlepiaaYC2
namespace Go.Proofs.Ytoejpodchlepiaa
open Go.ChangeShapes Go.WideShapes Go.ChangeAt Go.RowKit

/-- a whole array read at an operation that is guarded, and wanted. -/
theorem wpList_load_row_w {P : Program} {ops : Array Oper} {rest : List Oper} {o : Oper} {a : Act} {w : World} {Q : Exit → Act → World → Prop} (hw : Region.wanted o (yielded ops a.tmps) = true) (ty : TypeId) (x : Operand) (ho : o.op = .load ty x)
    (g : Nat) (hx : a.eval x = .pointer (some ⟨g, 0, none⟩)) (t : TypeId) (cs : Array Value) (fr : Nat × Nat) (d : TypeDesc) (hg : w.heap[g]? = some (.cells cs t fr))
    (hu : P.underlying ty = some d) (hd : (match d with | .struct _ | .array _ _ => true | _ => false) = true) (hi : (P.info? ty).map (·.size) = some cs.size)
    (h : wpList P ops Q rest (a.put o.dst (.agg cs)) w) : wpList P ops Q (o :: rest) a w :=
  wpList_step fun K hK => by simp only [hw, if_true]; exact wp_load_row ty x ho g hx t cs fr d hg hu hd hi (hK _ _ h)
/-- the cells of the program's masks, one a line, and its size. -/
def mcells (M : Nat → Nat) (s : Int) : Array Value := #[.int .i64 (M 0), .int .i64 (M 1), .int .i64 (M 2), .int .i64 (M 3), .int .i64 (M 4), .int .i64 (M 5), .int .i64 (M 6), .int .i64 (M 7), .int .i64 s]
theorem mcells_size (M : Nat → Nat) (s : Int) : (mcells M s).size = 9 := rfl
theorem mcell_at (M : Nat → Nat) (s : Int) {l : Nat} (hl : l < 8) : (mcells M s)[l]? = some (.int .i64 (M l)) := by
  have : l = 0 ∨ l = 1 ∨ l = 2 ∨ l = 3 ∨ l = 4 ∨ l = 5 ∨ l = 6 ∨ l = 7 := by omega
  rcases this with rfl | rfl | rfl | rfl | rfl | rfl | rfl | rfl <;> rfl
theorem mbox_cell (M : Nat → Nat) (s : Int) (w : World) {l : Nat} (hl : l < 8) : (w.alloc (.cells (mcells M s) 98)).cell? ⟨w.heap.size, l, none⟩ = some (.int .i64 (M l)) :=
  (cell_of_row _ _ l _ _ (0, 0) (heap_alloc_new w _)).trans (mcell_at M s hl)
theorem mbox_size (M : Nat → Nat) (s : Int) (w : World) : (w.alloc (.cells (mcells M s) 98)).cell? ⟨w.heap.size, 8, none⟩ = some (.int .i64 s) :=
  (cell_of_row _ _ 8 _ _ (0, 0) (heap_alloc_new w _)).trans rfl
theorem linesThrough_any (s cell : Int) (w : World) (h2 : 2 ≤ s) (h4 : s ≤ 4) (c0 : 0 ≤ cell) (c1 : cell < 16) :
    Calls Try.prog 144 #[.int .i64 s, .int .i64 cell] w fun e w' => e = .returned (.tuple #[.int .i64 (cell / s), .int .i64 (s + cell % s)]) ∧ Below w.heap.size w w' := by
  have q0 : 0 ≤ cell / s := Int.ediv_nonneg c0 (by omega)
  have q1 : cell / s ≤ cell := Int.ediv_le_self _ c0
  have r0 : 0 ≤ cell % s := Int.emod_nonneg _ (by omega)
  have r1 : cell % s < s := Int.emod_lt_of_pos _ (by omega)
  have e1 : cell.tmod s = cell % s := Int.tmod_eq_emod_of_nonneg c0
  have e2 : cell.tdiv s = cell / s := Int.tdiv_eq_ediv_of_nonneg c0
  have e3 : IntKind.i64.wrap (cell / s) = cell / s := IntWalk.i64_in _ (by omega)
  have e4 : IntKind.i64.wrap (s + cell % s) = s + cell % s := IntWalk.i64_in _ (by omega)
  have hz : (s == 0) = false := by simp; omega
  go_enter Try.func144, Try.ntmps144
  go_wp2
  go_quiet (fail)
  go_wp2
  go_ret2
  exact ⟨rfl, below_drewN (Below.refl _ _) _⟩

theorem or_pow (a v : Nat) (ha : a < 32) (hv : v ≤ 4) : bits .or .i64 (a : Int) (wrap64 (2 ^ v)) = ((a ||| 2 ^ v : Nat) : Int) := by
  have hlt : 2 ^ v < 2 ^ 5 := Nat.pow_lt_pow_right (by omega) (by omega)
  rw [pow_int]
  generalize 2 ^ v = p at *
  rw [IntWalk.wrap64_in _ ⟨by omega, by omega⟩, i64_or_nat _ _ (by omega) (by omega)]
theorem or_lt (a v : Nat) (ha : a < 32) (hv : v ≤ 4) : a ||| 2 ^ v < 32 :=
  Nat.or_lt_two_pow (n := 5) ha (Nat.pow_lt_pow_right (by omega) (by omega))
theorem has_any (M : Nat → Nat) (s : Int) (l v : Nat) (w : World) (hl : l < 8) (v4 : v ≤ 4) (hm : M l < 32) :
    Calls Try.prog 145 #[.agg (mcells M s), .int .i64 l, .int .i64 v] w fun e w' => e = .returned (.bool ((M l).testBit v)) ∧ Below w.heap.size w w' := by
  have hc := mbox_cell M s w hl
  have hl8 : (l : Int) < 8 := by omega
  have ha := Lib.hid (and_pow (M l) v hm v4)
  go_enter Try.func145, Try.ntmps145
  go_wp2
  go_quiet (fail)
  go_wp2
  go_ret
  exact ⟨by rw [← ha.out]; rfl, below_drewN ((Below.refl _ _).alloc (Nat.le_refl _) _) _⟩

def mput (M : Nat → Nat) (l v : Nat) : Nat → Nat := fun j => if j = l then M j ||| 2 ^ v else M j
theorem mput_lt {M : Nat → Nat} {l v : Nat} (hm : ∀ l, l < 8 → M l < 32) (hv : v ≤ 4) : ∀ j, j < 8 → mput M l v j < 32 := fun j hj => by
  unfold mput
  split
  · exact or_lt _ _ (hm j hj) hv
  · exact hm j hj
theorem mcells_set (M : Nat → Nat) (s : Int) {l v : Nat} (hl : l < 8) : (mcells M s).setIfInBounds l (.int .i64 ((M l ||| 2 ^ v : Nat) : Int)) = mcells (mput M l v) s := by
  have : l = 0 ∨ l = 1 ∨ l = 2 ∨ l = 3 ∨ l = 4 ∨ l = 5 ∨ l = 6 ∨ l = 7 := by omega
  rcases this with rfl | rfl | rfl | rfl | rfl | rfl | rfl | rfl <;> rfl
/-- the masks lie in block g. -/
def MBox (w : World) (g : Nat) (M : Nat → Nat) (s : Int) : Prop := w.heap[g]? = some (.cells (mcells M s) 98)
theorem MBox.cell {w : World} {g : Nat} {M : Nat → Nat} {s : Int} (h : MBox w g M s) {l : Nat} (hl : l < 8) : w.cell? ⟨g, l, none⟩ = some (.int .i64 (M l)) :=
  (cell_of_row _ _ l _ _ (0, 0) h).trans (mcell_at M s hl)
theorem MBox.size_ {w : World} {g : Nat} {M : Nat → Nat} {s : Int} (h : MBox w g M s) : w.cell? ⟨g, 8, none⟩ = some (.int .i64 s) :=
  (cell_of_row _ _ 8 _ _ (0, 0) h).trans rfl
theorem MBox.frozen {w : World} {g : Nat} {M : Nat → Nat} {s : Int} (h : MBox w g M s) (l : Nat) : w.frozen? ⟨g, l, none⟩ = false := by
  unfold World.frozen?
  rw [show w.heap[g]? = _ from h]
  simp
theorem MBox.set {w : World} {g : Nat} {M : Nat → Nat} {s : Int} (h : MBox w g M s) {l v : Nat} (hl : l < 8) : MBox (w.setCell ⟨g, l, none⟩ (.int .i64 ((M l ||| 2 ^ v : Nat) : Int))) g (mput M l v) s := by
  unfold MBox
  rw [heap_setCell_same w g l _ _ _ h, ← mcells_set M s hl]
theorem MBox.below {w w' : World} {g B : Nat} {M : Nat → Nat} {s : Int} (h : MBox w g M s) (hg : g < B) (hb : Below B w w') : MBox w' g M s := (hb.block g hg).trans h
theorem MBox.other {w : World} {g g' k : Nat} {v : Value} {M : Nat → Nat} {s : Int} (h : MBox w g M s) (hne : g ≠ g') : MBox (w.setCell ⟨g', k, none⟩ v) g M s := (heap_setCell_other w _ g v hne).trans h
theorem MBox.stored {w : World} {g : Nat} {M M' : Nat → Nat} {s s' : Int} (h : MBox w g M s) : MBox (w.setRow g (mcells M' s')) g M' s' := setRow_heap w g _ _ _ _ h
theorem setRow_below {B g : Nat} {w w' : World} {cs : Array Value} (h : Below B w w') (hg : B ≤ g) : Below B w (w'.setRow g cs) :=
  h.trans ⟨rfl, rfl, rfl, by simp, fun k hk => by unfold World.setRow; simp only [Array.getElem?_modify]; rw [if_neg (by omega)]⟩
theorem mone (M : Nat → Nat) (s : Int) : (mcells M s).all (·.oneCell') = true := by simp [mcells, Value.oneCell']
theorem linesThrough_rc (s : Int) (cell r c : Nat) (w : World) (h2 : 2 ≤ s) (h4 : s ≤ 4) (c1 : cell < 16) (hr : (cell : Int) / s = (r : Int)) (hc : s + (cell : Int) % s = (c : Int)) :
    Calls Try.prog 144 #[.int .i64 s, .int .i64 cell] w fun e w' => e = .returned (.tuple #[.int .i64 r, .int .i64 c]) ∧ Below w.heap.size w w' := by
  rw [← hr, ← hc]
  exact linesThrough_any s cell w h2 h4 (by omega) (by omega)
theorem with_any (M : Nat → Nat) (s : Int) (cell r c v : Nat) (w : World) (h2 : 2 ≤ s) (h4 : s ≤ 4) (hr : (cell : Int) / s = (r : Int)) (hc : s + (cell : Int) % s = (c : Int)) (r8 : r < 8) (c8 : c < 8) (c2 : cell < 16) (v4 : v ≤ 4) (hm : ∀ l, l < 8 → M l < 32) :
    Calls Try.prog 130 #[.agg (mcells M s), .int .i64 cell, .int .i64 v] w fun e w' => e = .returned (.agg (mcells (mput (mput M r v) c v) s)) ∧ Below w.heap.size w w' := by
  have hg0 : ∀ o, ((w.alloc (.cells (mcells M s) 98)).alloc o).heap[w.heap.size]? = some (.cells (mcells M s) 98) := fun o => by rw [heap_alloc_old _ _ (by simp)]; exact heap_alloc_new w _
  have hz0 : ∀ u : World, MBox (u.alloc (.cells #[.int .i64 0, .int .i64 0, .int .i64 0, .int .i64 0, .int .i64 0, .int .i64 0, .int .i64 0, .int .i64 0, .int .i64 0] 98)) u.heap.size (fun _ => 0) 0 := fun u => heap_alloc_new u _
  have Hz0 := Lib.hid hz0; clear hz0
  have hi9 : (Try.prog.info? 98).map (·.size) = some (mcells M s).size := by rw [mcells_size]; kernel_rfl
  have Hg0 := Lib.hid hg0; clear hg0
  have Hi9 := Lib.hid hi9; clear hi9
  have Hr := Lib.hid hr; clear hr
  have Hc := Lib.hid hc; clear hc
  go_enter Try.func130, Try.ntmps130
  have hs8 : ∀ o, ((w.alloc (.cells (mcells M s) 98)).alloc o).cell? ⟨w.heap.size, 8, none⟩ = some (.int .i64 s) := fun o => MBox.size_ (Hg0.out o)
  go_wp2_with (go_at_call 144; refine (linesThrough_rc s cell r c _ h2 h4 c2 Hr.out Hc.out).mono ?_; rintro e w1 ⟨rfl, hb1⟩)
  have hx1 : MBox w1 w.heap.size M s := MBox.below (Hg0.out _) (by simp; omega) hb1
  have hy1 : MBox w1 (w.heap.size + 1) (fun _ => 0) 0 := MBox.below (by have := Hz0.out (w.alloc (.cells (mcells M s) 98)); rwa [World.size_alloc] at this) (by simp) hb1
  have hsz1 : w.heap.size + 2 ≤ w1.heap.size := by have := hb1.size; simp at this; omega
  have hB1 : Below w.heap.size w w1 := (((Below.refl _ _).alloc (Nat.le_refl _) _).alloc (by simp) _).trans (hb1.mono (by simp; omega))
  have hk1 := hx1.cell r8
  have hf1 := hx1.frozen r
  have hr8 : (r : Int) < 8 := by omega
  have hc8 : (c : Int) < 8 := by omega
  have ho1 := or_pow (M r) v (hm r r8) v4
  go_region
  go_wp2
  obtain ⟨w2, hw2⟩ : ∃ w2, w2 = (w1.setCell ⟨w.heap.size, r, none⟩ (.int .i64 ((M r ||| 2 ^ v : Nat) : Int))).drew := ⟨_, rfl⟩
  rw [← hw2]
  have hx2 : MBox w2 w.heap.size (mput M r v) s := by rw [hw2]; exact hx1.set r8
  have hy2 : MBox w2 (w.heap.size + 1) (fun _ => 0) 0 := by rw [hw2]; exact hy1.other (by omega)
  have hsz2 : w.heap.size + 2 ≤ w2.heap.size := by rw [hw2]; simp; omega
  have hB2 : Below w.heap.size w w2 := by rw [hw2]; exact below_drewN (hB1.setCell (Nat.le_refl _) _) 1
  clear hw2 hk1 hf1 ho1
  have hk2 := hx2.cell c8
  have hf2 := hx2.frozen c
  have ho2 := or_pow (mput M r v c) v (mput_lt hm v4 c c8) v4
  have hx3 := hx2.set (v := v) c8
  have hsz3 : w.heap.size + 1 < ((w2.setCell ⟨w.heap.size, c, none⟩ (.int .i64 ((mput M r v c ||| 2 ^ v : Nat) : Int))).drew).heap.size := by simp; omega
  have hB3 := below_drewN (Below.setCell (p := (⟨w.heap.size, c, none⟩ : Addr)) hB2 (Nat.le_refl _) (.int .i64 ((mput M r v c ||| 2 ^ v : Nat) : Int))) 1
  have Hx3 := Lib.hid hx3; clear hx3
  have hy3 := hy2.other (k := c) (v := (.int .i64 ((mput M r v c ||| 2 ^ v : Nat) : Int))) (show w.heap.size + 1 ≠ w.heap.size by omega)
  have Hy3 := Lib.hid hy3; clear hy3
  have Hi9' : Hid ((Try.prog.info? 98).map (·.size) = some (mcells (mput (mput M r v) c v) s).size) := Hi9
  go_region
  go_wp2_with (first | (refine wpList_load_row rfl 98 _ rfl w.heap.size rfl 98 (mcells (mput (mput M r v) c v) s) (0, 0) _ Hx3.out Try.underlying98 rfl Hi9'.out ?_) | (refine wpList_store_row rfl 98 _ _ rfl (w.heap.size + 1) (mcells (mput (mput M r v) c v) s) rfl rfl 98 (mcells (fun _ => 0) 0) Hy3.out Hi9'.out rfl (mone _ _) ?_))
  refine bodyPost_ret (v := .agg (mcells (mput (mput M r v) c v) s)) (results_cell_row (by rfl) _ _ (w.heap.size + 1) 98 _ (0, 0) _ rfl (MBox.stored Hy3.out) Try.underlying98 rfl Hi9'.out) rfl ⟨rfl, setRow_below hB3 (by omega)⟩

theorem meets_any (M : Nat → Nat) (s : Int) (cell r c v : Nat) (w : World) (h2 : 2 ≤ s) (h4 : s ≤ 4) (hr : (cell : Int) / s = (r : Int)) (hc : s + (cell : Int) % s = (c : Int)) (r8 : r < 8) (c8 : c < 8) (c2 : cell < 16) (v4 : v ≤ 4) (hm : ∀ l, l < 8 → M l < 32) :
    Calls Try.prog 129 #[.agg (mcells M s), .int .i64 cell, .int .i64 v] w fun e w' => e = .returned (.bool ((M r).testBit v || (M c).testBit v)) ∧ Below w.heap.size w w' := by
  have hi9 : (Try.prog.info? 98).map (·.size) = some (mcells M s).size := by rw [mcells_size]; kernel_rfl
  have Hi9 := Lib.hid hi9; clear hi9
  have Hr := Lib.hid hr; clear hr
  have Hc := Lib.hid hc; clear hc
  have Hm1 := Lib.hid (hm r r8)
  have Hm2 := Lib.hid (hm c c8)
  have Hg0 := Lib.hid (heap_alloc_new w (.cells (mcells M s) 98))
  have hB0 : Below w.heap.size w (w.alloc (.cells (mcells M s) 98)) := (Below.refl _ _).alloc (Nat.le_refl _) _
  have hs8 := MBox.size_ Hg0.out
  cases hbr : (M r).testBit v
  all_goals
    go_enter Try.func129, Try.ntmps129
    go_wp2_with (first | (refine wpList_load_row rfl 98 _ rfl w.heap.size rfl 98 (mcells M s) (0, 0) _ hx1.out Try.underlying98 rfl Hi9.out ?_) | (go_at_call 144; refine (linesThrough_rc s cell r c _ h2 h4 c2 Hr.out Hc.out).mono ?_; rintro e w1 ⟨rfl, hb1⟩; have hx1 := Lib.hid (MBox.below Hg0.out (by simp) hb1); have hB1 := step hB0 hb1; clear hb1))
    refine (has_any M s r v _ r8 v4 Hm1.out).mono ?_
    rintro e w2 ⟨rfl, hb2⟩
    have hx2 := Lib.hid (MBox.below hx1.out (by have := hB1.size; have := hx1.out; exact (Array.getElem?_eq_some_iff.1 this).1) hb2)
    have hB2 := step hB1 hb2
    clear hb2
    go_wp2_with (first | (refine wpList_load_row_w rfl 98 _ rfl w.heap.size rfl 98 (mcells M s) (0, 0) _ hx2.out Try.underlying98 rfl Hi9.out ?_) | (go_at_call 145; refine (has_any M s c v _ c8 v4 Hm2.out).mono ?_; rintro e w3 ⟨rfl, hb3⟩; have hB3 := step hB2 hb3; clear hb3))
    go_ret
    exact ⟨rfl, by assumption⟩
end Go.Proofs.Ytoejpodchlepiaa
namespace Go.Proofs.Ytoejpodchlepiaa
open Go.ChangeShapes Go.WideShapes Go.ChangeAt Go.RowKit

/-- the program's masks behind the first k cells. -/
def lmask (xs : List Int) (s : Nat) : Nat → (Nat → Nat)
  | 0 => fun _ => 0
  | k + 1 => if nth xs k = 0 then lmask xs s k else mput (mput (lmask xs s k) (k / s) (nth xs k).toNat) (s + k % s) (nth xs k).toNat
def twice (xs : List Int) (s : Nat) : Nat → Bool
  | 0 => false
  | k + 1 => if nth xs k = 0 then twice xs s k else twice xs s k || ((lmask xs s k (k / s)).testBit (nth xs k).toNat || (lmask xs s k (s + k % s)).testBit (nth xs k).toNat)
/-- a cell lies in a line. -/
def onL (s l i : Nat) : Bool := i / s == l || s + i % s == l
theorem lmask_lt {xs : List Int} {s n : Nat} (hs : (s : Int) ≤ 4) (hok : okAll xs s n) : ∀ k, k ≤ n → ∀ l, l < 8 → lmask xs s k l < 32 := by
  intro k
  induction k with
  | zero => intro _ l _; simp [lmask]
  | succ k ih =>
    intro hk l hl
    have hv := hok k (by omega)
    simp only [lmask]
    split
    · exact ih (by omega) l hl
    · exact mput_lt (mput_lt (ih (by omega)) (by omega)) (by omega) l hl
theorem mput_test (M : Nat → Nat) (l u j v : Nat) : (mput M l u j).testBit v = ((M j).testBit v || (j == l && u == v)) := by
  unfold mput
  by_cases h : j = l
  · rw [if_pos h, Nat.testBit_or, Nat.testBit_two_pow]
    subst h
    rw [Bool.eq_iff_iff]
    simp
  · rw [if_neg h]
    simp [h]
theorem lmask_test {xs : List Int} {s n : Nat} (hok : okAll xs s n) (l v : Nat) : ∀ k, k ≤ n → ((lmask xs s k l).testBit v = true ↔ 0 < v ∧ ∃ i, i < k ∧ onL s l i = true ∧ nth xs i = (v : Int)) := by
  intro k
  induction k with
  | zero => intro _; simp [lmask]
  | succ k ih =>
    intro hk
    have hv := hok k (by omega)
    have ih := ih (by omega)
    simp only [lmask]
    by_cases hz : nth xs k = 0
    · rw [if_pos hz, ih]
      constructor
      · rintro ⟨h0, i, hi, h1, h2⟩; exact ⟨h0, i, by omega, h1, h2⟩
      · rintro ⟨h0, i, hi, h1, h2⟩
        have : i ≠ k := by rintro rfl; omega
        exact ⟨h0, i, by omega, h1, h2⟩
    · rw [if_neg hz, mput_test, mput_test, Bool.or_eq_true, Bool.or_eq_true, ih]
      simp only [Bool.and_eq_true, beq_iff_eq]
      constructor
      · rintro ((⟨h0, i, hi, h1, h2⟩ | ⟨h1, h2⟩) | ⟨h1, h2⟩)
        · exact ⟨h0, i, by omega, h1, h2⟩
        · exact ⟨by omega, k, by omega, by simp [onL, h1], by omega⟩
        · exact ⟨by omega, k, by omega, by simp [onL, h1], by omega⟩
      · rintro ⟨h0, i, hi, h1, h2⟩
        by_cases e : i = k
        · subst e
          simp only [onL, Bool.or_eq_true, beq_iff_eq] at h1
          rcases h1 with h1 | h1
          · exact .inl (.inr ⟨h1.symm, by omega⟩)
          · exact .inr ⟨h1.symm, by omega⟩
        · exact .inl (.inl ⟨h0, i, by omega, h1, h2⟩)
theorem onL_adj : ∀ s ∈ [2, 3, 4], ∀ i, i < s * s → ∀ j, j < s * s → adj s i j = (i != j && (onL s (j / s) i || onL s (s + j % s) i)) := by decide +kernel
theorem twice_iff {xs : List Int} {s n : Nat} (hs : s ∈ [2, 3, 4]) (hn : n = s * s) (hok : okAll xs s n) : ∀ k, k ≤ n → (twice xs s k = true ↔ ∃ i j, i < j ∧ j < k ∧ adj s i j = true ∧ nth xs i = nth xs j ∧ 0 < nth xs j) := by
  intro k
  induction k with
  | zero => intro _; simp [twice]
  | succ k ih =>
    intro hk
    have hv := hok k (by omega)
    have ih := ih (by omega)
    simp only [twice]
    by_cases hz : nth xs k = 0
    · rw [if_pos hz, ih]
      constructor
      · rintro ⟨i, j, h1, h2, h3, h4, h5⟩; exact ⟨i, j, h1, by omega, h3, h4, h5⟩
      · rintro ⟨i, j, h1, h2, h3, h4, h5⟩
        have : j ≠ k := by rintro rfl; omega
        exact ⟨i, j, h1, by omega, h3, h4, h5⟩
    · rw [if_neg hz, Bool.or_eq_true, Bool.or_eq_true, ih, lmask_test hok _ _ k (by omega), lmask_test hok _ _ k (by omega)]
      constructor
      · rintro (⟨i, j, h1, h2, h3⟩ | (⟨h0, i, hi, h1, h2⟩ | ⟨h0, i, hi, h1, h2⟩))
        · exact ⟨i, j, h1, by omega, h3⟩
        · refine ⟨i, k, hi, by omega, ?_, by omega, by omega⟩
          rw [onL_adj s hs i (by omega) k (by omega), h1]
          simp; omega
        · refine ⟨i, k, hi, by omega, ?_, by omega, by omega⟩
          rw [onL_adj s hs i (by omega) k (by omega), h1]
          simp; omega
      · rintro ⟨i, j, h1, h2, h3, h4, h5⟩
        by_cases e : j = k
        · subst e
          rw [onL_adj s hs i (by omega) j (by omega)] at h3
          simp only [Bool.and_eq_true, Bool.or_eq_true] at h3
          rcases h3.2 with h | h
          · exact .inr (.inl ⟨by omega, i, h1, h, by omega⟩)
          · exact .inr (.inr ⟨by omega, i, h1, h, by omega⟩)
        · exact .inl ⟨i, j, h1, by omega, h3, h4, h5⟩
theorem adj_symm : ∀ s ∈ [2, 3, 4], ∀ i, i < s * s → ∀ j, j < s * s → adj s i j = adj s j i ∧ (adj s i j = true → i ≠ j) := by decide +kernel
theorem twice_clash {xs : List Int} {s n : Nat} (hs : s ∈ [2, 3, 4]) (hn : n = s * s) (hok : okAll xs s n) : twice xs s n = clash xs s := by
  rw [Bool.eq_iff_iff, clash_iff hs, twice_iff hs hn hok n (Nat.le_refl _)]
  constructor
  · rintro ⟨i, j, h1, h2, h3, h4, h5⟩; exact ⟨i, j, by omega, by omega, h3, h4, h5⟩
  · rintro ⟨i, j, h1, h2, h3, h4, h5⟩
    have hne := (adj_symm s hs i h1 j h2).2 h3
    rcases Nat.lt_or_ge i j with h | h
    · exact ⟨i, j, h, by omega, h3, h4, h5⟩
    · exact ⟨j, i, by omega, by omega, by rw [← (adj_symm s hs i h1 j h2).1]; exact h3, h4.symm, by omega⟩
def onLine (s l i : Nat) : Bool := (List.range s).any fun a => (lineAt (s : Nat) (l : Nat) a).toNat == i
theorem onL_line : ∀ s ∈ [2, 3, 4], ∀ l, l < 2 * s → ∀ i, i < s * s → onL s l i = onLine s l i := by decide +kernel
theorem line_lt : ∀ s ∈ [2, 3, 4], ∀ l, l < 2 * s → ∀ a, a < s → (lineAt (s : Nat) (l : Nat) a).toNat < s * s := by decide +kernel
theorem lmask_has {xs : List Int} {s n : Nat} (hs : s ∈ [2, 3, 4]) (hn : n = s * s) (hok : okAll xs s n) {l v : Nat} (hl : l < 2 * s) (hv : 0 < v) : (lmask xs s n l).testBit v = hasTo (lineV xs s l) s (v : Int) := by
  rw [Bool.eq_iff_iff, lmask_test hok l v n (Nat.le_refl _), hasTo_iff]
  constructor
  · rintro ⟨_, i, hi, h1, h2⟩
    rw [onL_line s hs l hl i (by omega)] at h1
    simp only [onLine, List.any_eq_true, List.mem_range, beq_iff_eq] at h1
    obtain ⟨a, ha, e⟩ := h1
    exact ⟨a, ha, by unfold lineV; rw [e]; exact h2⟩
  · rintro ⟨a, ha, h⟩
    have hlt := line_lt s hs l hl a ha
    refine ⟨hv, _, by omega, ?_, h⟩
    rw [onL_line s hs l hl _ hlt]
    simp only [onLine, List.any_eq_true, List.mem_range, beq_iff_eq]
    exact ⟨a, ha, rfl⟩
theorem full_bits : ∀ M, M < 32 → ∀ s ∈ [2, 3, 4], (M = 2 ^ (s + 1) - 2 ↔ ∀ v, v < 5 → M.testBit v = (Nat.blt 0 v && Nat.ble v s)) := by decide +kernel
theorem lmask_zero {xs : List Int} {s n : Nat} (hok : okAll xs s n) (l : Nat) {v : Nat} (hv : v = 0 ∨ s < v) : (lmask xs s n l).testBit v = false := by
  cases h : (lmask xs s n l).testBit v
  · rfl
  · rw [lmask_test hok l v n (Nat.le_refl _)] at h
    obtain ⟨h0, i, hi, _, h2⟩ := h
    have := hok i hi
    omega
theorem lmask_full {xs : List Int} {s n : Nat} (hs : s ∈ [2, 3, 4]) (hn : n = s * s) (hok : okAll xs s n) {l : Nat} (hl : l < 2 * s) : lmask xs s n l = 2 ^ (s + 1) - 2 ↔ ∀ v, 1 ≤ v → v ≤ s → hasTo (lineV xs s l) s (v : Int) = true := by
  have hs4 : s ≤ 4 := by simp at hs; omega
  rw [full_bits _ (lmask_lt (by omega) hok n (Nat.le_refl _) l (by omega)) s hs]
  constructor
  · intro h v h1 h2
    rw [← lmask_has hs hn hok hl (by omega), h v (by omega)]
    simp [Nat.blt_eq]; omega
  · intro h v h5
    by_cases hv : v = 0 ∨ s < v
    · rw [lmask_zero hok l hv]
      rcases hv with rfl | hv
      · rfl
      · have : Nat.ble v s = false := by
          cases e : Nat.ble v s
          · rfl
          · have := Nat.le_of_ble_eq_true e; omega
        rw [this, Bool.and_false]
    · rw [lmask_has hs hn hok hl (by omega), h v (by omega) (by omega)]
      have h1 : Nat.blt 0 v = true := by rw [Nat.blt_eq]; omega
      have h2 : Nat.ble v s = true := Nat.ble_eq_true_of_le (by omega)
      rw [h1, h2]; rfl
/-- where every value of 1..s stands among s values of 0..s, none is 0 and no two are equal. -/
def hasN (L : List Nat) (v : Nat) : Bool := L.contains v
def revB (L : List Nat) (s : Nat) : Bool := (List.range s).any (fun v => !L.contains (v + 1)) || (L.all (fun a => a != 0) && decide L.Nodup)
theorem rev2 : ∀ a, a < 3 → ∀ b, b < 3 → revB [a, b] 2 = true := by decide +kernel
theorem rev3 : ∀ a, a < 4 → ∀ b, b < 4 → ∀ c, c < 4 → revB [a, b, c] 3 = true := by decide +kernel
theorem rev4 : ∀ a, a < 5 → ∀ b, b < 5 → ∀ c, c < 5 → ∀ d, d < 5 → revB [a, b, c, d] 4 = true := by decide +kernel
theorem rev_all {f : Nat → Int} {s : Nat} (hs : s ∈ [2, 3, 4]) (hf : ∀ i, i < s → 0 ≤ f i ∧ f i ≤ s) : revB ((List.range s).map fun i => (f i).toNat) s = true := by
  simp at hs
  rcases hs with rfl | rfl | rfl
  · exact rev2 _ (by have := hf 0 (by omega); show (f 0).toNat < 3; omega) _ (by have := hf 1 (by omega); show (f 1).toNat < 3; omega)
  · exact rev3 _ (by have := hf 0 (by omega); show (f 0).toNat < 4; omega) _ (by have := hf 1 (by omega); show (f 1).toNat < 4; omega) _ (by have := hf 2 (by omega); show (f 2).toNat < 4; omega)
  · exact rev4 _ (by have := hf 0 (by omega); show (f 0).toNat < 5; omega) _ (by have := hf 1 (by omega); show (f 1).toNat < 5; omega) _ (by have := hf 2 (by omega); show (f 2).toNat < 5; omega) _ (by have := hf 3 (by omega); show (f 3).toNat < 5; omega)
theorem rev {f : Nat → Int} {s : Nat} (hs : s ∈ [2, 3, 4]) (hf : ∀ i, i < s → 0 ≤ f i ∧ f i ≤ s) (hall : ∀ v : Nat, 1 ≤ v → v ≤ s → hasTo f s (v : Int) = true) : dupTo f s = false ∧ ∀ i, i < s → f i ≠ 0 := by
  have h := rev_all hs hf
  simp only [revB, Bool.or_eq_true, Bool.and_eq_true, List.any_eq_true, List.mem_range, List.all_eq_true, decide_eq_true_eq] at h
  rcases h with ⟨v, hv, h⟩ | ⟨h0, hd⟩
  · exfalso
    have := hall (v + 1) (by omega) (by omega)
    rw [hasTo_iff] at this
    obtain ⟨i, hi, e⟩ := this
    have hm : (v + 1) ∈ (List.range s).map fun i => (f i).toNat := List.mem_map.2 ⟨i, List.mem_range.2 hi, by omega⟩
    have := List.contains_iff_mem.2 hm
    rw [this] at h
    simp at h
  · refine ⟨?_, fun i hi e => ?_⟩
    · cases hc : dupTo f s
      · rfl
      · rw [dupTo_iff] at hc
        obtain ⟨i, j, hij, hj, he, _⟩ := hc
        have := List.pairwise_map.1 hd
        rw [List.pairwise_iff_getElem] at this
        have h9 := this i j (by simp; omega) (by simp; omega) hij
        simp only [List.getElem_range] at h9
        omega
    · have := h0 (f i).toNat (List.mem_map.2 ⟨i, List.mem_range.2 hi, rfl⟩)
      rw [e] at this
      simp at this
theorem row_of : ∀ s ∈ [2, 3, 4], ∀ k, k < s * s → k / s < 2 * s ∧ k % s < s ∧ (lineAt (s : Nat) ((k / s : Nat) : Int) (k % s)).toNat = k := by decide +kernel
theorem solved_masks {xs : List Int} {s n : Nat} (hs : s ∈ [2, 3, 4]) (hn : n = s * s) (hl : xs.length = n) (hg : gv xs s = true) (hok : okAll xs s n) : sqSolved xs s = true ↔ ∀ l, l < 2 * s → lmask xs s n l = 2 ^ (s + 1) - 2 := by
  have hf : ∀ l, l < 2 * s → ∀ i, i < s → 0 ≤ lineV xs s l i ∧ lineV xs s l i ≤ s := fun l hl' i hi => hok _ (by rw [hn]; exact line_lt s hs l hl' i hi)
  rw [solved_iff hl]
  constructor
  · rintro ⟨_, hc, hz⟩ l hl'
    rw [lmask_full hs hn hok hl']
    intro v v1 v2
    refine pig hs (fun i hi => ?_) ?_ (by omega) (by omega)
    · have h1 := hf l hl' i hi
      have h2 := hz (lineAt (s : Nat) (l : Nat) i).toNat (by rw [hn]; exact line_lt s hs l hl' i hi)
      unfold lineV at *
      omega
    · cases hd : dupTo (lineV xs s l) s
      · rfl
      · have : clash xs s = true := clash_at (l := l) (by omega) (by rw [Int.toNat_natCast]; exact hd)
        rw [hc] at this; cases this
  · intro h
    have key : ∀ l, l < 2 * s → dupTo (lineV xs s l) s = false ∧ ∀ i, i < s → lineV xs s l i ≠ 0 := fun l hl' => rev hs (hf l hl') (fun v v1 v2 => (lmask_full hs hn hok hl').1 (h l hl') v v1 v2)
    refine ⟨hg, ?_, fun k hk => ?_⟩
    · cases hc : clash xs s
      · rfl
      · rw [clash, clashTo_iff] at hc
        obtain ⟨l, hl', hd⟩ := hc
        rw [Int.toNat_natCast, (key l (by omega)).1] at hd
        cases hd
    · obtain ⟨h1, h2, h3⟩ := row_of s hs k (by omega)
      have := (key _ h1).2 _ h2
      unfold lineV at this
      rw [h3] at this
      exact this
end Go.Proofs.Ytoejpodchlepiaa
