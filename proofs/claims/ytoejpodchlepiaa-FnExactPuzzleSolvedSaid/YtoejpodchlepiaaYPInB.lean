import Derived.Test.YtoejpodchlepiaaYOwnL
import Derived.Test.YtoejpodchlepiaaYRInts
import Derived.Deep.MidRow
import Derived.Deep.RegionHeld3
set_option maxRecDepth 8000
namespace Go.Proofs.Ytoejpodchlepiaa
open Go.ChangeShapes Go.WideShapes Go.ChangeAt Go.RowKit

theorem OwR.far {w w' : World} {lo n c : Nat} {A : Option Addr} {rs : List RuleM} {row : Option Nat} (h : OwR w lo (.slice A n c) rs n) (hg : w.grownBy w' row) (hr : ∀ g, row = some g → g < lo) : OwR w' lo (.slice A n c) rs n := by
  obtain ⟨vs, hown, hin⟩ := h
  refine ⟨vs, World.ownsRow.kept hown hg (by
    cases e : (Value.slice A n c).ownBlock with
    | none => exact .inl rfl
    | some g => exact .inr (fun he => by have h1 := (World.ownsRow.lt hown g e).1; have h2 := hr g he.symm; omega)), fun i hi => ?_⟩
  obtain ⟨A', c', e0, e1, e2, e3, e4, e5⟩ := hin i hi
  exact ⟨A', c', e0, e1, e2, e3.far hg (fun g hgg e => by have h1 := e3.own_lo g hgg; have h2 := hr g e; omega), e4, e5⟩
theorem lt_set5 {a : Nat} {w : World} {p : Addr} {v : Value} (h : a < w.heap.size) : a < (w.setCell p v).heap.size := by rw [World.size_setCell]; exact h
theorem grown_row {w : World} {g : Nat} {cs : Array Value} : w.grownBy (w.setRow g cs) (some g) :=
  ⟨rfl, rfl, rfl, by simp, fun k hk hne => by unfold World.setRow; simp only [Array.getElem?_modify]; rw [if_neg (fun e => hne (by rw [e]))]⟩
theorem OwR.mono {w : World} {lo lo' n : Nat} {v : Value} {rs : List RuleM} (h : OwR w lo v rs n) (hl : lo' ≤ lo) : OwR w lo' v rs n := by
  obtain ⟨vs, hown, hin⟩ := h
  refine ⟨vs, World.ownsRow.mono hown hl, fun i hi => ?_⟩
  obtain ⟨A', c', e0, e1, e2, e3, e4, e5⟩ := hin i hi
  exact ⟨A', c', e0, e1, e2, e3.mono hl, e4, e5⟩
set_option maxHeartbeats 1000000 in
theorem specOwnPuzzle (s : Int) (Ag : Option Addr) (n cg Bg : Nat) (gi : List Int) (Ar : Option Addr) (nr cr Br : Nat) (rs : List RuleM) (w : World) (hg : Rd w Bg Ag n gi) (hBg : Bg ≤ w.heap.size) (hm : n ≤ 1099511627776) (hr : RdRs w Br Ar nr rs) (hBr : Br ≤ w.heap.size) (hmr : nr ≤ 1099511627775) :
    Calls Try.prog 140 #[.agg #[.int .i64 s, .slice Ag n cg, .slice Ar nr cr]] w fun e w' => ∃ A1 c1 A2 c2, e = .returned (.agg #[.int .i64 s, .slice A1 n c1, .slice A2 nr c2]) ∧ Ow w' w.heap.size A1 n c1 gi ∧ OwR w' w.heap.size (.slice A2 nr c2) rs nr ∧ Below w.heap.size w w' := by
  have Hone := Lib.hid puz_one
  have Hi := Lib.hid puz_info
  have hx0 := pbox_new w s Ag n cg Ar nr cr 48
  have hb0 : Below w.heap.size w (w.alloc (.cells #[.int .i64 s, .slice Ag n cg, .slice Ar nr cr] 48)) := (Below.refl _ _).alloc (Nat.le_refl _) _
  have hs0 : w.heap.size < (w.alloc (.cells #[.int .i64 s, .slice Ag n cg, .slice Ar nr cr] 48)).heap.size := by simp
  obtain ⟨V, hV⟩ : ∃ V, V = ((w.alloc (.cells #[.int .i64 s, .slice Ag n cg, .slice Ar nr cr] 48)).alloc (.cells #[.int .i64 0, .slice none 0 0, .slice none 0 0] 48)).alloc (.cells #[.int .i64 s, .slice Ag n cg, .slice Ar nr cr] 48) := ⟨_, rfl⟩
  have hbV : Below w.heap.size w V := by rw [hV]; exact (hb0.alloc hb0.size _).alloc (by simp; omega) _
  have hsV : V.heap.size = w.heap.size + 1 + 1 + 1 := by rw [hV]; simp
  have hv2 : V.heap[w.heap.size + 1 + 1]? = some (.cells #[.int .i64 s, .slice Ag n cg, .slice Ar nr cr] 48) := by
    have := heap_alloc2_new (w.alloc (.cells #[.int .i64 s, .slice Ag n cg, .slice Ar nr cr] 48)) (.cells #[.int .i64 0, .slice none 0 0, .slice none 0 0] 48) (.cells #[.int .i64 s, .slice Ag n cg, .slice Ar nr cr] 48)
    rw [World.size_alloc] at this
    rw [hV]
    exact this
  have hv1 : V.heap[w.heap.size + 1]? = some (.cells #[.int .i64 0, .slice none 0 0, .slice none 0 0] 48) := by
    have := heap_alloc2_old (w.alloc (.cells #[.int .i64 s, .slice Ag n cg, .slice Ar nr cr] 48)) (.cells #[.int .i64 0, .slice none 0 0, .slice none 0 0] 48) (.cells #[.int .i64 s, .slice Ag n cg, .slice Ar nr cr] 48)
    rw [World.size_alloc] at this
    rw [hV]
    exact this
  have hv0 : V.cell? ⟨w.heap.size, 2, none⟩ = some (.slice Ar nr cr) := by
    rw [hV]
    exact (hx0.below hs0 (((Below.refl _ _).alloc (Nat.le_refl _) _).alloc (by simp) _)).2.2
  have HO : Hid (Ow (V.alloc (.cells #[] 3)) (w.heap.size + 1 + 1 + 1) (some ⟨w.heap.size + 1 + 1 + 1, 0, none⟩) 0 0 []) := Lib.hid (by
    have := Ow.made0 V (w.heap.size + 1 + 1 + 1) (by omega)
    rw [hsV] at this
    exact this)
  have hbO : Below V.heap.size V (V.alloc (.cells #[] 3)) := (Below.refl _ _).alloc (Nat.le_refl _) _
  have hwV : w.heap.size ≤ V.heap.size := by omega
  have HR := Lib.hid ((hg.below (hbV.mono hBg)).below (hbO.mono (Nat.le_trans hBg hwV)))
  have hsO : w.heap.size + 1 + 1 + 1 ≤ (V.alloc (.cells #[] 3)).heap.size := by simp; omega
  have hwV0 : w.heap.size < V.heap.size := by omega
  have hwV1 : w.heap.size + 1 < V.heap.size := by omega
  have hwV2 : w.heap.size + 1 + 1 < V.heap.size := by omega
  have hne12 : w.heap.size + 1 ≠ w.heap.size + 1 + 1 := by omega
  have hne02 : w.heap.size ≠ w.heap.size + 1 + 1 := by omega
  have hle2 : w.heap.size ≤ w.heap.size + 1 + 1 := by omega
  have HS := Lib.hid (fun w' (hb : Below w.heap.size w w') => specOwnRules Ar nr cr Br rs w' (hr.below (hb.mono hBr)) (Nat.le_trans hBr hb.size) hmr)
  have HV := Lib.hid hV
  clear hV
  go_enter Try.func140, Try.ntmps140
  go_wp2_with (first
    | (at_builtin; (rw [← HV.out]); (refine push_new rfl (.tmp 5) (.tmp 7) rfl (w.heap.size + 1 + 1 + 1) (some ⟨w.heap.size + 1 + 1 + 1, 0, none⟩) Ag n cg Bg gi rfl rfl HO.out HR.out hm hsO ?_); intro A1 c1 w1 ho1 hg1; have hbw1 : Below V.heap.size V w1 := hbO.grown hg1 hbO.size (fun k hk => Nat.le_trans (Nat.le_of_eq hsV) (HO.out.own_lo k hk)); have hs1 := Nat.le_trans (Nat.le_of_lt hwV2) hbw1.size; have f1 := (hbw1.block (w.heap.size + 1) hwV1).trans hv1; have f2 := (hbw1.block (w.heap.size + 1 + 1) hwV2).trans hv2; have f0 := (hbw1.cell (p := ⟨w.heap.size, 2, none⟩) hwV0).trans hv0; have g1 := (heap_setCell_other w1 ⟨w.heap.size + 1 + 1, 1, none⟩ (w.heap.size + 1) (.slice A1 n c1) hne12).trans f1; have g2 : (w1.setCell ⟨w.heap.size + 1 + 1, 1, none⟩ (.slice A1 n c1)).heap[w.heap.size + 1 + 1]? = some (.cells #[.int .i64 s, .slice A1 n c1, .slice Ar nr cr] 48) := heap_setCell_same w1 (w.heap.size + 1 + 1) 1 _ _ (.slice A1 n c1) f2; (have fz := frozen_of_row w1 (w.heap.size + 1 + 1) 1 _ _ f2); have m1 : w1.cell? ⟨w.heap.size + 1 + 1, 1, none⟩ = some (.slice Ag n cg) := cell_of_row _ _ 1 _ _ (0, 0) f2; have g0 := (cell_other5 (k := 1) (v := .slice A1 n c1) hne02).trans f0; have l1 : w.heap.size + 1 < (w1.setCell ⟨w.heap.size + 1 + 1, 1, none⟩ (.slice A1 n c1)).heap.size := lt_set5 (Nat.lt_of_lt_of_le hwV1 hbw1.size); have l2 : w.heap.size + 1 + 1 < (w1.setCell ⟨w.heap.size + 1 + 1, 1, none⟩ (.slice A1 n c1)).heap.size := lt_set5 (Nat.lt_of_lt_of_le hwV2 hbw1.size); have hB2 := (hbV.trans (hbw1.mono hwV)).setCell hle2 (.slice A1 n c1) (p := ⟨w.heap.size + 1 + 1, 1, none⟩))
    | (go_at_call 149; (refine (HS.out _ hB2).mono ?_); rintro e w3 ⟨A2, c2, rfl, ho2, hb3⟩; have h1 := (hb3.block (w.heap.size + 1) l1).trans g1; have h2 := (hb3.block (w.heap.size + 1 + 1) l2).trans g2; have fz3 := frozen_of_row w3 (w.heap.size + 1 + 1) 2 _ _ h2; have m5 : w3.cell? ⟨w.heap.size + 1 + 1, 0, none⟩ = some (.int .i64 s) := cell_of_row _ _ 0 _ _ (0, 0) h2; have m6 : w3.cell? ⟨w.heap.size + 1 + 1, 1, none⟩ = some (.slice A1 n c1) := cell_of_row _ _ 1 _ _ (0, 0) h2; have m7 : w3.cell? ⟨w.heap.size + 1 + 1, 2, none⟩ = some (.slice Ar nr cr) := cell_of_row _ _ 2 _ _ (0, 0) h2; have i1 := (heap_setCell_other w3 ⟨w.heap.size + 1 + 1, 2, none⟩ (w.heap.size + 1) (.slice A2 nr c2) hne12).trans h1; have i2 : (w3.setCell ⟨w.heap.size + 1 + 1, 2, none⟩ (.slice A2 nr c2)).heap[w.heap.size + 1 + 1]? = some (.cells #[.int .i64 s, .slice A1 n c1, .slice A2 nr c2] 48) := heap_setCell_same w3 (w.heap.size + 1 + 1) 2 _ _ (.slice A2 nr c2) h2; have k5 : (w3.setCell ⟨w.heap.size + 1 + 1, 2, none⟩ (.slice A2 nr c2)).cell? ⟨w.heap.size + 1 + 1, 0, none⟩ = some (.int .i64 s) := cell_of_row _ _ 0 _ _ (0, 0) i2; have k6 : (w3.setCell ⟨w.heap.size + 1 + 1, 2, none⟩ (.slice A2 nr c2)).cell? ⟨w.heap.size + 1 + 1, 1, none⟩ = some (.slice A1 n c1) := cell_of_row _ _ 1 _ _ (0, 0) i2; have k7 : (w3.setCell ⟨w.heap.size + 1 + 1, 2, none⟩ (.slice A2 nr c2)).cell? ⟨w.heap.size + 1 + 1, 2, none⟩ = some (.slice A2 nr c2) := cell_of_row _ _ 2 _ _ (0, 0) i2)
    | (refine wpList_store_row rfl 48 _ _ rfl (w.heap.size + 1) #[.int .i64 s, .slice A1 n c1, .slice A2 nr c2] rfl rfl 48 #[.int .i64 0, .slice none 0 0, .slice none 0 0] i1 (Hi.out _ _ _ _ _ _ _) rfl (Hone.out _ _ _ _ _ _ _) ?_))
  have hs1' := hbw1.size
  have hs3 := hb3.size
  rw [World.size_setCell] at hs3
  have hBe : Below w.heap.size w ((w3.setCell ⟨w.heap.size + 1 + 1, 2, none⟩ (.slice A2 nr c2)).setRow (w.heap.size + 1) #[.int .i64 s, .slice A1 n c1, .slice A2 nr c2]) := setRow_below5 ((step hB2 hb3).setCell (show w.heap.size ≤ w.heap.size + 1 + 1 by omega) _) (by omega)
  have ho1' : Ow (w1.setCell ⟨w.heap.size + 1 + 1, 1, none⟩ (.slice A1 n c1)) (w.heap.size + 1 + 1 + 1) A1 n c1 gi := ho1.far (row := some (w.heap.size + 1 + 1)) grown_set (fun b hb e => by have := ho1.own_lo b hb; injection e with e; omega)
  have ho3 := ho1'.below hb3
  have ho4 : Ow (w3.setCell ⟨w.heap.size + 1 + 1, 2, none⟩ (.slice A2 nr c2)) (w.heap.size + 1 + 1 + 1) A1 n c1 gi := ho3.far (row := some (w.heap.size + 1 + 1)) grown_set (fun b hb e => by have := ho1.own_lo b hb; injection e with e; omega)
  have ho5 : OwR (w3.setCell ⟨w.heap.size + 1 + 1, 2, none⟩ (.slice A2 nr c2)) (w1.setCell ⟨w.heap.size + 1 + 1, 1, none⟩ (.slice A1 n c1)).heap.size (.slice A2 nr c2) rs nr := ho2.far (row := some (w.heap.size + 1 + 1)) grown_set (fun b e => by injection e with e; omega)
  refine bodyPost_ret (v := .agg #[.int .i64 s, .slice A1 n c1, .slice A2 nr c2]) (results_cell_row (by rfl) _ _ (w.heap.size + 1) 48 _ (0, 0) _ rfl (setRow_heap _ _ _ _ _ _ i1) Try.underlying48 rfl (Hi.out _ _ _ _ _ _ _)) rfl ⟨_, _, _, _, rfl, (ho4.row5 (fun b hb => ?_)).mono (by omega), (ho5.far (row := some (w.heap.size + 1)) grown_row (fun b e => ?_)).mono (by rw [World.size_setCell]; omega), hBe⟩
  · have := ho4.own_lo b hb
    omega
  · injection e with e
    omega
end Go.Proofs.Ytoejpodchlepiaa
set_option maxRecDepth 8000
namespace Go.Proofs.Ytoejpodchlepiaa
open Go.ChangeShapes Go.WideShapes Go.ChangeAt Go.RowKit

theorem grown_tr {a b c : World} {r : Option Nat} (h : a.grownBy b r) (k : b.grownBy c r) : a.grownBy c r := h.trans k
theorem setCells3 (w : World) (g o : Nat) (x y z : Value) : w.setCells g o [x, y, z] = ((w.setCell ⟨g, o, none⟩ x).setCell ⟨g, o + 1, none⟩ y).setCell ⟨g, o + 2, none⟩ z := rfl
theorem row_setCells3 {w : World} {g o : Nat} {cur : Array Value} {t : TypeId} (x y z : Value) (h : w.heap[g]? = some (.cells cur t (0, 0))) :
    (w.setCells g o [x, y, z]).heap[g]? = some (.cells (((cur.setIfInBounds o x).setIfInBounds (o + 1) y).setIfInBounds (o + 2) z) t (0, 0)) := by
  rw [setCells3]
  exact heap_setCell_same _ g (o + 2) _ _ z (heap_setCell_same _ g (o + 1) _ _ y (heap_setCell_same w g o _ _ x h))
theorem grown_setCells3 {w : World} {g o : Nat} {x y z : Value} : w.grownBy (w.setCells g o [x, y, z]) (some g) := by
  rw [setCells3]
  exact grown_tr (grown_tr grown_set grown_set) grown_set
theorem below_setCells3 {N : Nat} {w0 w : World} {g o : Nat} {x y z : Value} (h : Below N w0 w) (hg : N ≤ g) : Below N w0 (w.setCells g o [x, y, z]) := by
  rw [setCells3]
  exact ((h.setCell (p := ⟨g, o, none⟩) hg _).setCell (p := ⟨g, o + 1, none⟩) hg _).setCell (p := ⟨g, o + 2, none⟩) hg _
/-- n rules' cells in a slice of the call's own, the first u of them filled. -/
def OwRp (w : World) (lo : Nat) (g n : Nat) (rs : List RuleM) (u : Nat) : Prop :=
  ∃ vs, w.ownsRow lo 25 3 (.slice (some ⟨g, 0, none⟩) n n) n vs ∧ ∀ i, i < u → ∃ A' c', vs[i * 3]? = some (.int .i64 (rat rs i).k) ∧ vs[i * 3 + 1]? = some (.slice A' (rat rs i).xs.length c') ∧ vs[i * 3 + 2]? = some (.int .i64 (rat rs i).v) ∧ Ow w lo A' (rat rs i).xs.length c' (rat rs i).xs ∧ (rat rs i).xs.length ≤ 1099511627776 ∧ ∀ b, (Value.slice A' (rat rs i).xs.length c').ownBlock = some b → (Value.slice (some ⟨g, 0, none⟩) n n).ownBlock ≠ some b
theorem OwRp.below {w w' : World} {lo g n : Nat} {rs : List RuleM} {k : Nat} (h : OwRp w lo g n rs k) (hb : Below w.heap.size w w') : OwRp w' lo g n rs k := by
  obtain ⟨vs, hown, hin⟩ := h
  refine ⟨vs, World.ownsRow.kept hown (row := none) ⟨hb.os, hb.tape, hb.output, hb.size, fun k hk _ => hb.block k hk⟩ (by
    cases e : (Value.slice (some ⟨g, 0, none⟩) n n).ownBlock
    · exact .inl rfl
    · exact .inr (by simp)), fun i hi => ?_⟩
  obtain ⟨A', c', e0, e1, e2, e3, e4, e5⟩ := hin i hi
  exact ⟨A', c', e0, e1, e2, e3.below hb, e4, e5⟩
theorem OwRp.full {w : World} {lo g n : Nat} {rs : List RuleM} (h : OwRp w lo g n rs n) : OwR w lo (.slice (some ⟨g, 0, none⟩) n n) rs n := h
theorem OwRp.there {w : World} {lo g n : Nat} {rs : List RuleM} {k u : Nat} (h : OwRp w lo g n rs k) (hu : u < n) : w.there g (u * 3) 3 := by
  obtain ⟨vs, ⟨hvl, hcase⟩, _⟩ := h
  rcases hcase with ⟨h1, _⟩ | ⟨g', cap, cur, hv, h2, h3, h4, h5, h6, h7⟩
  · cases h1
  · injection hv with e1 _ e2
    injection e1 with e1
    injection e1 with e1 _ _
    subst e1
    intro j hj
    have hlt : u * 3 + j < cur.size := by rw [h6]; have := Nat.mul_le_mul_right 3 (show u + 1 ≤ cap by omega); omega
    refine ⟨?_, frozen_of_row w g (u * 3 + j) cur _ h3⟩
    rw [cell_of_row w g (u * 3 + j) cur _ (0, 0) h3]
    simp [hlt]
theorem OwRp.put {w w3 : World} {lo g n u c3 : Nat} {rs : List RuleM} {A3 : Option Addr} (h : OwRp w lo g n rs u) (hlo : lo ≤ w.heap.size) (hu : u < n) (hb : Below w.heap.size w w3)
    (ho3 : Ow w3 w.heap.size A3 (rat rs u).xs.length c3 (rat rs u).xs) (hm : (rat rs u).xs.length ≤ 1099511627776) :
    OwRp (w3.setCells g (u * 3) [.int .i64 (rat rs u).k, .slice A3 (rat rs u).xs.length c3, .int .i64 (rat rs u).v]) lo g n rs (u + 1) := by
  have hgw : g < w.heap.size := by
    obtain ⟨vs, hown, _⟩ := h
    exact (World.ownsRow.lt hown g (by simp [Value.ownBlock])).2
  obtain ⟨vs, ⟨hvl, hcase⟩, hin⟩ := h.below hb
  rcases hcase with ⟨h1, _⟩ | ⟨g', cap, cur, hv, h2, h3, h4, h5, h6, h7⟩
  · cases h1
  · injection hv with e1 _ e2
    injection e1 with e1
    injection e1 with e1 _ _
    subst e1 e2
    have hvl3 : u * 3 + 2 < vs.length := by rw [hvl]; omega
    refine ⟨((vs.set (u * 3) (.int .i64 (rat rs u).k)).set (u * 3 + 1) (.slice A3 (rat rs u).xs.length c3)).set (u * 3 + 2) (.int .i64 (rat rs u).v), ⟨by simp [hvl], .inr ⟨g, n, _, rfl, h2, row_setCells3 _ _ _ h3, h4, h5, by simp [h6], ?_⟩⟩, fun i hi => ?_⟩
    · simp only [Array.toList_setIfInBounds, List.take_set, h7]
    · by_cases e : i = u
      · subst e
        refine ⟨A3, c3, ?_, ?_, ?_, ?_, hm, fun b hbb e => ?_⟩
        · rw [List.getElem?_set_ne (by omega), List.getElem?_set_ne (by omega), List.getElem?_set_self (by omega)]
        · rw [List.getElem?_set_ne (by omega), List.getElem?_set_self (by simp; omega)]
        · rw [List.getElem?_set_self (by simp; omega)]
        · exact (Ow.far ho3 (row := some g) grown_setCells3 (fun b hbb e => by have := ho3.own_lo b hbb; injection e with e; omega)).mono hlo
        · have h8 := ho3.own_lo b hbb
          simp [Value.ownBlock] at e
          omega
      · obtain ⟨A', c', e0, e1, e2, e3, e4, e5⟩ := hin i (by omega)
        refine ⟨A', c', ?_, ?_, ?_, ?_, e4, e5⟩
        · rw [List.getElem?_set_ne (by omega), List.getElem?_set_ne (by omega), List.getElem?_set_ne (by omega)]; exact e0
        · rw [List.getElem?_set_ne (by omega), List.getElem?_set_ne (by omega), List.getElem?_set_ne (by omega)]; exact e1
        · rw [List.getElem?_set_ne (by omega), List.getElem?_set_ne (by omega), List.getElem?_set_ne (by omega)]; exact e2
        · exact Ow.far e3 (row := some g) grown_setCells3 (fun b hbb e => e5 b hbb (by have := Option.some.inj e; simp [Value.ownBlock, this]))

/-- a slice of rules, their cells as many as a slice can have. -/
def RdRx (w : World) (B : Nat) (A : Option Addr) (n : Nat) (rs : List RuleM) : Prop :=
  rs.length = n ∧ (0 < n → ∃ b off, A = some ⟨b, off, none⟩ ∧ b < B ∧ ∀ i, i < n → ∃ A' c', w.cell? ⟨b, off + i * 3, none⟩ = some (.int .i64 (rat rs i).k) ∧ w.cell? ⟨b, off + i * 3 + 1, none⟩ = some (.slice A' (rat rs i).xs.length c') ∧ w.cell? ⟨b, off + i * 3 + 2, none⟩ = some (.int .i64 (rat rs i).v) ∧ Rd w B A' (rat rs i).xs.length (rat rs i).xs ∧ (rat rs i).xs.length ≤ 9223372036854775807)
theorem RdRx.below {w w' : World} {B : Nat} {A : Option Addr} {n : Nat} {rs : List RuleM} (h : RdRx w B A n rs) (hb : Below B w w') : RdRx w' B A n rs :=
  ⟨h.1, fun hn => by
    obtain ⟨b, off, e, hlt, hc⟩ := h.2 hn
    refine ⟨b, off, e, hlt, fun i hi => ?_⟩
    obtain ⟨A', c', h0, h1, h2, h3, h4⟩ := hc i hi
    exact ⟨A', c', (hb.cell (p := ⟨b, off + i * 3, none⟩) hlt).trans h0, (hb.cell (p := ⟨b, off + i * 3 + 1, none⟩) hlt).trans h1, (hb.cell (p := ⟨b, off + i * 3 + 2, none⟩) hlt).trans h2, h3.below hb, h4⟩⟩
theorem RdRx.small {w : World} {B : Nat} {A : Option Addr} {n : Nat} {rs : List RuleM} (h : RdRx w B A n rs) (hs : ∀ i, i < n → (rat rs i).xs.length ≤ 1099511627776) : RdRs w B A n rs :=
  ⟨h.1, fun hn => by
    obtain ⟨b, off, e, hlt, hc⟩ := h.2 hn
    refine ⟨b, off, e, hlt, fun i hi => ?_⟩
    obtain ⟨A', c', h0, h1, h2, h3, _⟩ := hc i hi
    exact ⟨A', c', h0, h1, h2, h3, hs i hi⟩⟩
end Go.Proofs.Ytoejpodchlepiaa
set_option maxRecDepth 8000
namespace Go.Proofs.Ytoejpodchlepiaa
open Go.ChangeShapes Go.WideShapes Go.ChangeAt Go.RowKit
/-! Puzzles that come in, and their copies. -/
theorem OwRp.zero_ {w : World} {lo g n : Nat} {rs : List RuleM} {vs : List Value} (h : w.ownsRow lo 25 3 (.slice (some ⟨g, 0, none⟩) n n) n vs) : OwRp w lo g n rs 0 := ⟨vs, h, fun i hi => absurd hi (by omega)⟩
set_option maxHeartbeats 1000000 in
theorem toRuleS_any (A : Option Addr) (c n B : Nat) (rs : List RuleM) (w : World) (h : RdRs w B A n rs) (hB : B ≤ w.heap.size) (hm : n ≤ 1048576) :
    Calls Try.prog 86 #[.slice A n c] w fun e w' => ∃ g, e = .returned (.slice (some ⟨g, 0, none⟩) n n) ∧ OwR w' w.heap.size (.slice (some ⟨g, 0, none⟩) n n) rs n ∧ Below w.heap.size w w' := by
  obtain ⟨i0, hi, hz0, hz1, hz2⟩ := info_parts rule_parts
  have HR := Lib.hid (fun (w' : World) (hb : Below w.heap.size w w') => h.below (hb.mono hB))
  have Hi : Hid (∀ k A m c v, (Try.prog.info? 25).map (·.size) = some (#[Value.int .i64 k, .slice A m c, .int .i64 v] : Array Value).size) := Lib.hid (fun _ _ _ _ _ => by rw [hi]; simpa using hz1)
  have Hone : Hid (∀ k A m c v, ((#[Value.int .i64 k, .slice A m c, .int .i64 v] : Array Value).all (·.oneCell')) = true) := Lib.hid (fun _ _ _ _ _ => by simp [Value.oneCell'])
  go_enter Try.func86, Try.ntmps86
  go_wp2_with (refine wpList_make_full _ rfl (.tmp 6) (.tmp 6) 46 rfl w.heap.size 25 i0 (.agg #[.int .i64 0, .slice none 0 0, .int .i64 0]) 3 Try.underlying46 hi hz0 hz1 .i64 .i64 n n n rfl rfl rfl rfl (by rw [hz2]; omega) (by simp only [maxLen]; omega) (Nat.le_refl _) ?_; intro w3 hown hgr; have hb3 := made_below hgr (Nat.le_refl _); have ho3 := OwRp.zero_ (rs := rs) hown)
  go_loopw [4] (fun i wr => ∃ u : Nat, u ≤ n ∧ i = .int .i64 u ∧ OwRp wr w.heap.size w.heap.size n rs u ∧ Below w.heap.size w wr) (fun i _ => n - (intOf i).toNat)
  case atStart => exact ⟨0, Nat.zero_le _, rfl, ho3, hb3⟩
  case round =>
    obtain ⟨u, hu, rfl, ho, hb⟩ := hrel
    by_cases hlt : u < n
    · obtain ⟨b, off, rfl, hbB, hcc⟩ := (HR.out _ hb).2 (by omega)
      obtain ⟨A', c', r0, r1, r2, r3, r4⟩ := hcc u hlt
      have hth := ho.there hlt
      have Hput := Lib.hid (fun (w3 : World) (A3 : Option Addr) (c3 : Nat) (hb' : Below wr.heap.size wr w3) (ho3 : Ow w3 wr.heap.size A3 (rat rs u).xs.length c3 (rat rs u).xs) => ho.put (Nat.le_trans (Nat.le_refl _) hb.size) hlt hb' ho3 r4)
      have Hth := Lib.hid (fun (w3 : World) (hb' : Below wr.heap.size wr w3) => (ho.below hb').there hlt)
      obtain ⟨rk, hrk⟩ : ∃ x, x = (rat rs u).k := ⟨_, rfl⟩
      obtain ⟨rx, hrx⟩ : ∃ x, x = (rat rs u).xs := ⟨_, rfl⟩
      obtain ⟨rvv, hrv⟩ : ∃ x, x = (rat rs u).v := ⟨_, rfl⟩
      rw [← hrk] at r0 Hput
      rw [← hrx] at r1 r3 r4 Hput
      rw [← hrv] at r2 Hput
      have HC := Lib.hid (toRule_any rk A' rx.length c' B rx rvv wr r3 (Nat.le_trans hB hb.size) r4)
      clear hrk hrx hrv hcc
      have hin : (u : Int) < (n : Int) := by omega
      go_wp2_with (first | (go_at_call 30; refine HC.out.mono ?_; rintro e w4 ⟨A4, rfl, ho4, hb4⟩) | (refine wpList_store_mid rfl 25 _ _ rfl w.heap.size (u * 3) #[.int .i64 rk, .slice A4 rx.length rx.length, .int .i64 rvv] rfl rfl (Hth.out _ hb4) (Hi.out _ _ _ _ _) (Hone.out _ _ _ _ _) ?_))
      go_roundw
      case rel => exact ⟨u + 1, by omega, by go_num, Hput.out _ _ _ hb4 ho4, below_setCells3 (step hb hb4) (Nat.le_refl _)⟩
      case measure => simp [intOf]; omega
    · obtain rfl : u = n := by omega
      go_wp2
      go_ret
      exact ⟨_, rfl, ho.full, hb⟩
end Go.Proofs.Ytoejpodchlepiaa
