import Derived.Test.YtkeoflnmbcdmfaaDoorSSl
import Derived.Test.YtkeoflnmbcdmfaaDoorSPn
import Derived.Test.YtkeoflnmbcdmfaaDoorSBits
import Derived.Test.YtkeoflnmbcdmfaaDoorP5A
import Derived.Test.YtkeoflnmbcdmfaaDoorC1
import Derived.Test.YtkeoflnmbcdmfaaDoorSOwnL
import Derived.Test.YtkeoflnmbcdmfaaDoorSAdj
set_option maxRecDepth 8000
namespace Go.Proofs.YtkeoflnmbcdmfaaDoor
open Go.ChangeShapes Go.WideShapes Go.ChangeAt Go.RowKit Go.Shelf
attribute [local go_sem] Oper.semAt_some
theorem RdRc.more {w : World} {B B' : Nat} {A : Option Addr} {n : Nat} {rs : List RuleM} (h : RdRc w B A n rs) (hB : B ≤ B') : RdRc w B' A n rs := by
  refine ⟨h.1, fun hn => ?_⟩
  obtain ⟨b, off, e, hb, hc⟩ := h.2 hn
  exact ⟨b, off, e, Nat.lt_of_lt_of_le hb hB, fun i hi => by
    obtain ⟨A', c', e0, e1, e2, e3, e4⟩ := hc i hi
    exact ⟨A', c', e0, e1, e2, e3.more hB, e4⟩⟩
/-- the program's list of solutions is the reference's. -/
theorem allS_cv {s : Nat} {gi : List Int} {rs : List RuleM} {most n : Nat} (hl : gi.length = n) (hv : pvB s gi rs = true) (h0 : 0 < most) (hn : n = s * s) : allS s most n gi rs = (cv s gi rs (s * s) []).take most := by
  rw [allS_is hl hv h0, ← cv_is hv, hl, hn]
theorem sf_cons {s : Nat} {gi : List Int} {rs : List RuleM} {n : Nat} {y : List Int} {zs : List (List Int)} (hl : gi.length = n) (hv : pvB s gi rs = true) (hn : n = s * s) (h : cv s gi rs (s * s) [] = y :: zs) : sfL s n gi rs = y ∧ sfB s n gi rs = true := by
  unfold sfL sfB
  rw [allS_cv hl hv (by omega) hn, h]
  exact ⟨rfl, rfl⟩
theorem sf_nil {s : Nat} {gi : List Int} {rs : List RuleM} {n : Nat} (hl : gi.length = n) (hv : pvB s gi rs = true) (hn : n = s * s) (h : cv s gi rs (s * s) [] = []) : sfL s n gi rs = [] ∧ sfB s n gi rs = false := by
  unfold sfL sfB
  rw [allS_cv hl hv (by omega) hn, h]
  exact ⟨rfl, rfl⟩
theorem allS_none {s : Int} {gi : List Int} {rs : List RuleM} {most n : Nat} (hv : pvB s gi rs = false) : allS s most n gi rs = [] := by
  unfold allS fpB
  rw [hv]; rfl
theorem cv_len {s : Nat} {gi : List Int} {rs : List RuleM} {n : Nat} {y : List Int} (hl : gi.length = n) (hv : pvB s gi rs = true) (hn : n = s * s) (hs : s ∈ [2, 3, 4]) (h : y ∈ cv s gi rs (s * s) []) : y.length = n := by
  have e : cv s gi rs (s * s) [] = solL s gi rs := by rw [← hn, ← hl]; exact cv_is hv
  rw [e, solL_is hv] at h
  have h1 := (List.mem_filter.1 h).2
  unfold psB fpB at h1
  simp only [Bool.and_eq_true] at h1
  have := gv_len h1.1.1.2
  simp at hs
  rcases hs with rfl | rfl | rfl <;> omega
theorem below_put_at {N l : Nat} {X : World} (o' : Obj) (hN : N ≤ l) (hl : l < X.heap.size) : Below N X (X.putObj l o') :=
  below_put o' hN (Array.getElem?_eq_getElem hl)
theorem Ow.same_own {w w' : World} {lo n c : Nat} {A : Option Addr} {xs : List Int} (h : Ow w lo A n c xs) (hn : 0 < n) (hs : ∀ g, (Value.slice A n c).ownBlock = some g → w'.heap[g]? = w.heap[g]?) : Ow w' lo A n c xs := by
  obtain ⟨g, rfl, _, _⟩ := h.form hn
  exact h.same (hs g rfl)
theorem cell_none_of_deferred {W : World} {D i : Nat} {o : Option (List Deferred)} (h : W.heap[D]? = some (.deferred o)) : W.cell? ⟨D, i, none⟩ = none := by
  unfold World.cell?
  simp [h]
theorem sf_results (tm : Array Value) (X : World) (g h : Nat) (A : Option Addr) (m c : Nat) (b : Bool) (h2 : tm[2]?.getD undef = .pointer (some ⟨g, 0, none⟩)) (h3 : tm[3]?.getD undef = .pointer (some ⟨h, 0, none⟩)) (c1 : X.cell? ⟨g, 0, none⟩ = some (.slice A m c)) (c2 : X.cell? ⟨h, 0, none⟩ = some (.bool b)) : (results Tryd.f17 tm).run Tryd.prog X = .ok (.tuple #[.slice A m c, .bool b]) X := by
  simp [results, Tryd.f17, go_sem, h2, h3, c1, c2]
set_option maxHeartbeats 1000000 in
theorem implSolveFirst (s : Int) (Ag : Option Addr) (n cg Bg : Nat) (gi : List Int) (Ar : Option Addr) (nr cr Br : Nat) (rs : List RuleM) (w : World) (hp : PGc w s Ag n cg Bg gi Ar nr cr Br rs) (hT : Tz w) :
    Calls Tryd.prog 17 #[.agg #[.int .i64 s, .slice Ag n cg, .slice Ar nr cr]] w fun e w' => ∃ A m c, e = .returned (.tuple #[.slice A m c, .bool (sfB s n gi rs)]) ∧ (sfB s n gi rs = true → m = n) ∧ Ow w' w.heap.size A m c (sfL s n gi rs) ∧ Below w.heap.size w w' := by
  have hx0 := pbox_new w s Ag n cg Ar nr cr 26
  obtain ⟨W1, hW1⟩ : ∃ W1, w.alloc (.cells #[.int .i64 s, .slice Ag n cg, .slice Ar nr cr] 26) = W1 := ⟨_, rfl⟩
  rw [hW1] at hx0
  have hb1 : Below w.heap.size w W1 := by rw [← hW1]; exact (Below.refl _ _).alloc (Nat.le_refl _) _
  have hs1 : W1.heap.size = w.heap.size + 1 := by rw [← hW1]; simp
  obtain ⟨W2, hW2⟩ : ∃ W2, W1.alloc (.cells #[.slice none 0 0] 23) = W2 := ⟨_, rfl⟩
  have hb2 : Below W1.heap.size W1 W2 := by rw [← hW2]; exact (Below.refl _ _).alloc (Nat.le_refl _) _
  have hs2 : W2.heap.size = w.heap.size + 1 + 1 := by rw [← hW2]; simp [hs1]
  have hr2 : W2.heap[w.heap.size + 1]? = some (.cells #[.slice none 0 0] 23) := by rw [← hW2, ← hs1]; exact heap_alloc_new _ _
  obtain ⟨W3, hW3⟩ : ∃ W3, W2.alloc (.cells #[.bool false] 4) = W3 := ⟨_, rfl⟩
  have hb3 : Below W2.heap.size W2 W3 := by rw [← hW3]; exact (Below.refl _ _).alloc (Nat.le_refl _) _
  have hs3 : W3.heap.size = w.heap.size + 1 + 1 + 1 := by rw [← hW3]; simp [hs2]
  have hr3 : W3.heap[w.heap.size + 1]? = some (.cells #[.slice none 0 0] 23) := (hb3.block _ (by omega)).trans hr2
  have hq3 : W3.heap[w.heap.size + 1 + 1]? = some (.cells #[.bool false] 4) := by rw [← hW3, ← hs2]; exact heap_alloc_new _ _
  have hx3 := (hx0.below (by omega) hb2).below (by omega) hb3
  have hbW : Below w.heap.size w W3 := (hb1.trans (hb2.mono (by omega))).trans (hb3.mono (by omega))
  have HV := Lib.hid (valid_any s Ag n cg Bg gi Ar nr cr Br rs W3 (hp.below hbW))
  have HB3 := Lib.hid hbW
  have HX3 := Lib.hid hx3
  have HR3 := Lib.hid (And.intro hr3 hq3)
  obtain ⟨z0, z1, z2⟩ := id hx3
  clear hb1 hb2 hb3 hr2 hr3 hq3 hx0 hx3 hbW
  refine (callsIn_wide (n := 9)).1 ?_
  refine callsIn_of_wp_marks Tryd.func17 rfl trivial ?_ rfl
  simp only [Tryd.ntmps17, List.size_toArray, List.length_cons, List.length_nil, Nat.reduceAdd, Nat.reduceSub, Array.replicate_succ, Array.replicate_zero, List.push_toArray, List.append_toArray, List.nil_append, List.cons_append]
  cases hv : pvB s gi rs
  · have H1 : sfB s n gi rs = false ∧ sfL s n gi rs = [] := by unfold sfB sfL; rw [allS_none hv]; exact ⟨rfl, rfl⟩
    rw [H1.1, H1.2]
    clear H1
    gi_wp2_with ((try refine ⟨trivial, ?_⟩); gi_at_call 48; refine (callsIn_wide.2 HV.out).mono ?_; rintro e w4 ⟨rfl, hb4⟩; rw [hv]; obtain ⟨hr3, hq3⟩ := HR3.out; have hr4 := (hb4.block _ (by omega)).trans hr3; have hq4 := (hb4.block _ (by omega)).trans hq3; have hcr := cell_of_row _ _ 0 _ _ (0, 0) hr4; have hfr := frozen_of_row _ _ 0 _ _ hr4; have hcq := cell_of_row _ _ 0 _ _ (0, 0) hq4; have hfq := frozen_of_row _ _ 0 _ _ hq4)
    have e1 := heap_setCell_same w4 (w.heap.size + 1) 0 _ _ (.slice none 0 0) hr4
    have e2 := (heap_setCell_other w4 ⟨w.heap.size + 1, 0, none⟩ (w.heap.size + 1 + 1) (.slice none 0 0) (fun e => by dsimp only at e; omega)).trans hq4
    have e3 := (heap_setCell_other _ ⟨w.heap.size + 1 + 1, 0, none⟩ (w.heap.size + 1) (.bool false) (fun e => by dsimp only at e; omega)).trans e1
    have e4 := heap_setCell_same _ (w.heap.size + 1 + 1) 0 _ _ (.bool false) e2
    exact ⟨_, sf_results _ _ (w.heap.size + 1) (w.heap.size + 1 + 1) none 0 0 false rfl rfl (cell_of_row _ _ 0 _ _ (0, 0) e3) (cell_of_row _ _ 0 _ _ (0, 0) e4), none, 0, 0, rfl, (fun h => by cases h), Ow.nil_ _ _, ((step HB3.out hb4).setCell (p := ⟨w.heap.size + 1, 0, none⟩) (by show w.heap.size ≤ w.heap.size + 1; omega) _).setCell (p := ⟨w.heap.size + 1 + 1, 0, none⟩) (by show w.heap.size ≤ w.heap.size + 1 + 1; omega) _⟩
  · obtain ⟨t, rfl, hs, hnn, hn16, hok⟩ := pv_grid hv hp.g.1
    have hn : n = t * t := by simp at hs; rcases hs with rfl | rfl | rfl <;> omega
    have hn0 : 0 < n := by simp at hs; rcases hs with rfl | rfl | rfl <;> omega
    have hgl := hp.g.1
    have hmr : nr ≤ 20 := by have := (pv_gv hv).2.1; have := hp.r.1; omega
    have HG := Lib.hid (hp.g.more hp.gB)
    have HR := Lib.hid (hp.r.more hp.rB)
    have HT := Lib.hid (fun X (hb : Below w.heap.size w X) => hT.below hT.lt hb)
    have HN := Lib.hid hn
    have HV2 := Lib.hid hv
    have Hgl := Lib.hid hgl
    clear hok hnn hn hgl hp hT
    gi_wp2_with (first
      | ((try refine ⟨trivial, ?_⟩); gi_at_call 48; refine (callsIn_wide.2 HV.out).mono ?_; rintro e w4 ⟨rfl, hb4⟩; rw [hv]; have hx4 := HX3.out.below (show w.heap.size < W3.heap.size by omega) hb4; obtain ⟨y0, y1, y2⟩ := id hx4)
      | ((try refine ⟨trivial, ?_⟩); gi_at_call 49; refine (callsIn_wide.2 (solutions_any t n Ag cg Ar nr cr w4)).mono ?_; rintro e w5 ⟨PB, rfl, hPl, hpb, hb5⟩))
    have h45 := hb5.size
    have h34 := hb4.size
    have hb35 : Below W3.heap.size W3 w5 := hb4.trans (hb5.mono h34)
    have hb05 : Below w.heap.size w w5 := HB3.out.trans (hb35.mono (by omega))
    obtain ⟨hr3, hq3⟩ := HR3.out
    have hr5 := (hb35.block _ (by omega)).trans hr3
    have hq5 := (hb35.block _ (by omega)).trans hq3
    have hPB := cell_lt hpb.1
    have d1 : w.heap.size + 1 + 1 < w5.heap.size := by omega
    clear z0 z1 z2 y0 y1 y2 hx4 hb4 hb5 hb35 hr3 hq3 hW1 hW2 hW3 hs1 hs2 hs3 h45 h34 hPl hv HV
    refine range_twoP 9 (q := 4) (by rfl) (enters_of Tryd.func89 (by kernel_rfl) rfl) (sols_seq w w.heap.size PB t n Ag cg gi Ar nr cr rs (Nat.le_refl _) hs HN.out HG.out HR.out hmr HV2.out HT.out)
      (fun pre X => pre = [] ∧ SBase w w.heap.size PB t Ag n cg Ar nr cr X ∧ X.heap[w.heap.size + 1]? = some (.cells #[.slice none 0 0] 23) ∧ X.heap[w.heap.size + 1 + 1]? = some (.cells #[.bool false] 4))
      (fun cc X => cc = .ret ∧ ∃ y zs A c, cv t gi rs (t * t) [] = y :: zs ∧ Below w.heap.size w X ∧ X.heap[w.heap.size + 1]? = some (.cells #[.slice A n c] 23) ∧ Ow X w.heap.size A n c y ∧ X.heap[w.heap.size + 1 + 1]? = some (.cells #[.bool true] 4) ∧ ∀ g, (Value.slice A n c).ownBlock = some g → w5.heap.size + 1 < g)
      (fun pre X h => h.2.1)
      (fun pre X Y h hb => ⟨h.1, ⟨h.2.1.1.trans (hb.mono (by omega)), h.2.1.2.below hPB hb⟩, (hb.block _ (by omega)).trans h.2.2.1, (hb.block _ d1).trans h.2.2.2⟩)
      (fun cc X o h hX => by
        obtain ⟨h1, y, zs, A, c, h2, h3, h4, h5, h6, h7⟩ := h
        refine ⟨h1, y, zs, A, c, h2, h3.trans (below_put_at _ (by omega) hX), (World.putObj_heap_other (by omega)).trans h4, ?_, (World.putObj_heap_other (by omega)).trans h6, h7⟩
        exact h5.same_own hn0 (fun g e => World.putObj_heap_other (by have := h7 g e; omega)))
      ⟨rfl, ⟨hb05, hpb⟩, hr5, hq5⟩ ?assign ?body ?done ?stop
    case assign =>
      intro l v W K hK
      simp only [List.setIfInBounds_toArray, List.set_cons_zero, List.set_cons_succ] at hK ⊢
      gi_wp2
      exact hK
    case body =>
      rintro l pre x X b n' c' ⟨rfl, ⟨hBX, hpX⟩, hrX, hqX⟩ ⟨zs, hzs⟩ hbb hXs hrd
      have hxl := cv_len Hgl.out HV2.out HN.out hs (show x ∈ cv t gi rs (t * t) [] by rw [hzs]; simp)
      obtain rfl : n' = n := by rw [← hrd.1]; exact hxl
      have HCl := Lib.hid (clone_any (some ⟨b, 0, none⟩) n' c' X.heap.size x X hrd (Nat.le_refl _) hn0 (by omega))
      have hXl : w.heap.size + 1 + 1 < X.heap.size := (Array.getElem?_eq_some_iff.1 hqX).1
      have Hzs := Lib.hid hzs
      have HBX := Lib.hid hBX
      have Hrd := Lib.hid hrd
      clear hzs hxl hpX hBX hrd
      simp only [List.setIfInBounds_toArray, List.set_cons_zero, List.set_cons_succ]
      gi_wp2_with ((try refine ⟨trivial, ?_⟩); gi_at_call 50; refine (callsIn_wide.2 HCl.out).mono ?_; rintro e w6 ⟨A6, c6, rfl, ho6, hb6⟩; have hr6 := (hb6.block _ (by omega)).trans hrX; have hq6 := (hb6.block _ hXl).trans hqX; have hcr := cell_of_row _ _ 0 _ _ (0, 0) hr6; have hfr := frozen_of_row _ _ 0 _ _ hr6; have hcq := cell_of_row _ _ 0 _ _ (0, 0) hq6; have hfq := frozen_of_row _ _ 0 _ _ hq6)
      obtain ⟨g6, rfl, hg6, hgw6⟩ := ho6.form hn0
      have e1 := heap_setCell_same w6 (w.heap.size + 1) 0 _ _ (.slice (some ⟨g6, 0, none⟩) n' c6) hr6
      have e2 := (heap_setCell_other w6 ⟨w.heap.size + 1, 0, none⟩ (w.heap.size + 1 + 1) (.slice (some ⟨g6, 0, none⟩) n' c6) (fun e => by dsimp only at e; omega)).trans hq6
      have e3 := (heap_setCell_other _ ⟨w.heap.size + 1 + 1, 0, none⟩ (w.heap.size + 1) (.bool true) (fun e => by dsimp only at e; omega)).trans e1
      have e4 := heap_setCell_same _ (w.heap.size + 1 + 1) 0 _ _ (.bool true) e2
      have hX6 := hb6.size
      have hoE : Ow ((w6.setCell ⟨w.heap.size + 1, 0, none⟩ (.slice (some ⟨g6, 0, none⟩) n' c6)).setCell ⟨w.heap.size + 1 + 1, 0, none⟩ (.bool true)) w.heap.size (some ⟨g6, 0, none⟩) n' c6 x :=
        (ho6.mono (by omega)).same ((heap_setCell_other _ ⟨w.heap.size + 1 + 1, 0, none⟩ g6 (.bool true) (fun e => by dsimp only at e; omega)).trans (heap_setCell_other w6 ⟨w.heap.size + 1, 0, none⟩ g6 (.slice (some ⟨g6, 0, none⟩) n' c6) (fun e => by dsimp only at e; omega)))
      refine ⟨(Mid.of_below hb6).trans ((Mid.setCell _ _ _ _ _ (by omega)).trans (Mid.setCell _ _ _ _ _ (by omega))), rfl, x, zs, _, c6, Hzs.out, ((HBX.out.trans (hb6.mono (by omega))).setCell (p := ⟨w.heap.size + 1, 0, none⟩) (by show w.heap.size ≤ w.heap.size + 1; omega) _).setCell (p := ⟨w.heap.size + 1 + 1, 0, none⟩) (by show w.heap.size ≤ w.heap.size + 1 + 1; omega) _, e3, hoE, e4, fun g e => ?_⟩
      have e : g6 = g := Option.some.inj e
      omega
    case done =>
      rintro D W hD ⟨he, ⟨hBX, _⟩, hrX, hqX⟩ hK
      obtain ⟨q1, q2⟩ := sf_nil Hgl.out HV2.out HN.out he
      have hcr := cell_of_row _ _ 0 _ _ (0, 0) hrX
      have hfr := frozen_of_row _ _ 0 _ _ hrX
      have hcq := cell_of_row _ _ 0 _ _ (0, 0) hqX
      have hfq := frozen_of_row _ _ 0 _ _ hqX
      gi_wp2
      have e1 := heap_setCell_same W (w.heap.size + 1) 0 _ _ (.slice none 0 0) hrX
      have e2 := (heap_setCell_other W ⟨w.heap.size + 1, 0, none⟩ (w.heap.size + 1 + 1) (.slice none 0 0) (fun e => by dsimp only at e; omega)).trans hqX
      have e3 := (heap_setCell_other _ ⟨w.heap.size + 1 + 1, 0, none⟩ (w.heap.size + 1) (.bool false) (fun e => by dsimp only at e; omega)).trans e1
      have e4 := heap_setCell_same _ (w.heap.size + 1 + 1) 0 _ _ (.bool false) e2
      have e5 := (heap_setCell_other _ ⟨w.heap.size + 1 + 1, 0, none⟩ D (.bool false) (fun e => by dsimp only at e; omega)).trans ((heap_setCell_other W ⟨w.heap.size + 1, 0, none⟩ D (.slice none 0 0) (fun e => by dsimp only at e; omega)).trans hK)
      have hbE := ((hBX.setCell (p := ⟨w.heap.size + 1, 0, none⟩) (by show w.heap.size ≤ w.heap.size + 1; omega) (.slice none 0 0)).setCell (p := ⟨w.heap.size + 1 + 1, 0, none⟩) (by show w.heap.size ≤ w.heap.size + 1 + 1; omega) (.bool false)).trans (below_put (.deferred none) (show w.heap.size ≤ D by omega) e5)
      refine ⟨by simp, .inl ⟨_, _, rfl, run_takeDeferred e5, ?_⟩⟩
      refine ⟨_, sf_results _ _ (w.heap.size + 1) (w.heap.size + 1 + 1) none 0 0 false rfl rfl (cell_of_row _ _ 0 _ _ (0, 0) ((World.putObj_heap_other (by omega)).trans e3)) (cell_of_row _ _ 0 _ _ (0, 0) ((World.putObj_heap_other (by omega)).trans e4)), ?_⟩
      exact ⟨none, 0, 0, rfl, Ow.nil_ _ _, hbE⟩
    case stop =>
      rintro D cc W hD ⟨rfl, y, zs, A, c, hc, hBX, hrX, hoX, hqX, hlo⟩ hK
      obtain ⟨q1, q2⟩ := sf_cons Hgl.out HV2.out HN.out hc
      gi_wp2
      refine ⟨by simp, .inl ⟨_, _, rfl, run_takeDeferred hK, ?_⟩⟩
      have hgD : ∀ g, (Value.slice A n c).ownBlock = some g → g ≠ D := fun g e e2 => by
        subst e2
        obtain ⟨g', e3, _, _⟩ := hoX.form hn0
        subst e3
        obtain ⟨h1, h2⟩ := hoX.cell (show 0 < n from hn0)
        injection e with e
        subst e
        rw [cell_none_of_deferred hK] at h1
        cases h1
      refine ⟨_, sf_results _ _ (w.heap.size + 1) (w.heap.size + 1 + 1) A n c true rfl rfl (cell_of_row _ _ 0 _ _ (0, 0) ((World.putObj_heap_other (by omega)).trans hrX)) (cell_of_row _ _ 0 _ _ (0, 0) ((World.putObj_heap_other (by omega)).trans hqX)), ?_⟩
      exact ⟨A, n, c, rfl, rfl, hoX.same_own hn0 (fun g e => World.putObj_heap_other (fun e2 => hgD g e e2)), hBX.trans (below_put _ (by omega) hK)⟩
end Go.Proofs.YtkeoflnmbcdmfaaDoor
set_option maxRecDepth 8000
namespace Go.Proofs.YtkeoflnmbcdmfaaDoor
open Go.ChangeShapes Go.WideShapes Go.ChangeAt Go.RowKit
attribute [local go_sem] Oper.semAt_some
theorem below_putC {N l : Nat} {X : World} (o' : Obj) (hN : N ≤ l) (hl : l < X.heap.size) : Below N X (X.putObj l o') :=
  below_put (o := X.heap[l]) o' hN (Array.getElem?_eq_getElem hl)
set_option maxHeartbeats 2000000 in
/-- what is found is counted, but no further than to M. -/
theorem countUpTo_any {gf : Nat} {lb : Array Value} {Base : World → Prop} {ways : List (List Int)} (M : Nat) (w : World) (hsq : SeqP Tryd.prog gf lb Base ways) (eg : ∀ args w, (callFunc gf args).run Tryd.prog w = .ok (.enter gf args) w) (hBs : ∀ X, Below w.heap.size w X → Base X) (hM1 : 0 < M) (hM6 : M ≤ 600) :
    Calls Tryd.prog 95 #[.func (.func gf) #[] lb, .int .i64 (M : Nat)] w fun e w' => e = .returned (.int .i64 ((ways.take M).length : Nat)) ∧ Below w.heap.size w w' := by
  obtain ⟨W2, hW2⟩ : ∃ W2, w.alloc (.cells #[.int .i64 (M : Nat)] 3) = W2 := ⟨_, rfl⟩
  have hb2 : Below w.heap.size w W2 := by rw [← hW2]; exact (Below.refl _ _).alloc (Nat.le_refl _) _
  have hs2 : W2.heap.size = w.heap.size + 1 := by rw [← hW2]; simp
  have hr2 : W2.heap[w.heap.size]? = some (.cells #[.int .i64 (M : Nat)] 3) := by rw [← hW2]; exact heap_alloc_new _ _
  obtain ⟨V5, hV5⟩ : ∃ V5, W2.alloc (.cells #[.int .i64 0] 3) = V5 := ⟨_, rfl⟩
  have hvb : Below W2.heap.size W2 V5 := by rw [← hV5]; exact (Below.refl _ _).alloc (Nat.le_refl _) _
  have hvr : V5.heap[W2.heap.size]? = some (.cells #[.int .i64 0] 3) := by rw [← hV5]; exact heap_alloc_new _ _
  have hvc := cell_of_row _ _ 0 _ _ (0, 0) hvr
  have hvf := frozen_of_row _ _ 0 _ _ hvr
  have hvs : V5.heap.size = W2.heap.size + 1 := by rw [← hV5]; simp
  obtain ⟨W5, hW5⟩ : ∃ W5, V5.setCell ⟨W2.heap.size, 0, none⟩ (.int .i64 0) = W5 := ⟨_, rfl⟩
  have hb5 : Below W2.heap.size W2 W5 := by rw [← hW5]; exact hvb.setCell (p := ⟨W2.heap.size, 0, none⟩) (Nat.le_refl _) _
  have hs5 : W5.heap.size = W2.heap.size + 1 := by rw [← hW5]; simp [World.setCell, hvs]
  have hq5 : W5.heap[W2.heap.size]? = some (.cells #[.int .i64 0] 3) := by rw [← hW5]; exact heap_setCell_same V5 W2.heap.size 0 _ _ _ hvr
  rw [hs2] at hvc hvf hW5
  have HB5 := Lib.hid (hb2.trans (hb5.mono (by omega)))
  have HM5 : Hid (W5.heap[w.heap.size]? = some (.cells #[.int .i64 (M : Int)] 3)) := Lib.hid ((hb5.block _ (by omega)).trans hr2)
  have HC5 : Hid (W5.heap[w.heap.size + 1]? = some (.cells #[.int .i64 ((0 : Nat) : Int)] 3)) := Lib.hid (by rw [← hs2]; exact hq5)
  have hs55 : W5.heap.size = w.heap.size + 2 := by omega
  have HS5 := Lib.hid hs55
  clear hb2 hr2 hvb hvr hb5 hq5 hs5 hvs hs55
  refine (callsIn_wide (n := 9)).1 ?_
  refine callsIn_of_wp_marks Tryd.func95 rfl trivial ?_ rfl
  simp only [Tryd.ntmps95, List.size_toArray, List.length_cons, List.length_nil, Nat.reduceAdd, Nat.reduceSub, Array.replicate_succ, Array.replicate_zero, List.push_toArray, List.append_toArray, List.nil_append, List.cons_append]
  gi_wp2
  have h5 := HS5.out
  obtain ⟨CB, hCB⟩ : ∃ CB, CB = w.heap.size + 1 := ⟨_, rfl⟩
  have hq6 : W5.heap[CB]? = some (.cells #[.int .i64 ((0 : Nat) : Int)] 3) := by rw [hCB]; exact HC5.out
  have hm6 := HM5.out
  have hb06 := HB5.out
  have d1 : CB < W5.heap.size := by omega
  have d2 : w.heap.size < CB := by omega
  have d3 : w.heap.size < W5.heap.size := by omega
  rw [← hCB]
  clear hW2 hW5 hV5 hvc hvf hs2 h5 hCB HS5 HC5 HM5 HB5
  refine range_skipP 9 (by rfl) eg hsq
    (fun pre X => Below w.heap.size w X ∧ X.heap[CB]? = some (.cells #[.int .i64 ((pre.length : Nat) : Int)] 3) ∧ pre.length < M ∧ X.heap[w.heap.size]? = some (.cells #[.int .i64 (M : Int)] 3))
    (fun cc X => cc = .exit 0 ∧ Below w.heap.size w X ∧ X.heap[CB]? = some (.cells #[.int .i64 (M : Int)] 3) ∧ M ≤ ways.length)
    (fun pre X h => hBs X h.1)
    (fun pre X Y h hb => ⟨h.1.trans (hb.mono (by omega)), (hb.block _ d1).trans h.2.1, h.2.2.1, (hb.block _ d3).trans h.2.2.2⟩)
    (fun cc X o h hX => ⟨h.1, h.2.1.trans (below_putC _ (by omega) hX), (World.putObj_heap_other (by omega)).trans h.2.2.1, h.2.2.2⟩)
    ⟨hb06, hq6, hM1, hm6⟩ ?body ?done ?stop
  case body =>
    rintro l pre x X b n' c' ⟨hBX, hcX, hlt, hmX⟩ ⟨zs, hzs⟩ hbb hXs hrd
    have hlen : (pre ++ [x]).length = pre.length + 1 := by simp
    have hCl : pre.length + 1 ≤ ways.length := by rw [hzs]; simp
    obtain ⟨k, hk⟩ : ∃ k, k = pre.length := ⟨_, rfl⟩
    rw [← hk] at hcX hlt hlen hCl
    have hcc := cell_of_row _ _ 0 _ _ (0, 0) hcX
    have hfc := frozen_of_row _ _ 0 _ _ hcX
    have hcm := cell_of_row _ _ 0 _ _ (0, 0) hmX
    have Hlen := Lib.hid hlen
    have HBX := Lib.hid hBX
    have HcX := Lib.hid hcX
    have HmX := Lib.hid hmX
    have hk6 : k < 600 := by omega
    clear hlen hBX hcX hmX hrd hzs hk
    simp only [List.setIfInBounds_toArray, List.set_cons_zero, List.set_cons_succ]
    have hm1 : W5.heap.size ≤ X.heap.size := by omega
    have HCl := Lib.hid hCl
    have HE : Hid (∀ v : Int, v = (k : Int) + 1 → (X.setCell ⟨CB, 0, none⟩ (.int .i64 ((k : Int) + 1))).heap[CB]? = some (.cells #[.int .i64 v] 3) ∧ (X.setCell ⟨CB, 0, none⟩ (.int .i64 ((k : Int) + 1))).heap[w.heap.size]? = some (.cells #[.int .i64 (M : Int)] 3) ∧ Below w.heap.size w (X.setCell ⟨CB, 0, none⟩ (.int .i64 ((k : Int) + 1)))) := Lib.hid (fun v hv => by
      subst hv
      exact ⟨heap_setCell_same X CB 0 _ _ (.int .i64 ((k : Int) + 1)) HcX.out, (heap_setCell_other X ⟨CB, 0, none⟩ w.heap.size _ (fun e => by dsimp only at e; omega)).trans HmX.out, HBX.out.setCell (p := ⟨CB, 0, none⟩) (by show w.heap.size ≤ CB; omega) _⟩)
    have HM := Lib.hid (Mid.setCell W5.heap.size CB 0 X (.int .i64 ((k : Int) + 1)) d1)
    by_cases e : k + 1 = M
    · have hq : ((k : Int) + 1 == (M : Int)) = true := by rw [beq_iff_eq]; omega
      have he := Lib.hid e
      clear e hlt hCl
      gi_wp2
      obtain ⟨e1, e2, e3⟩ := HE.out M (by have := he.out; omega)
      exact ⟨HM.out, rfl, e3, e1, by have := he.out; have := HCl.out; omega⟩
    · have hq : ((k : Int) + 1 == (M : Int)) = false := by rw [beq_eq_false_iff_ne]; omega
      have he := Lib.hid e
      have hl := Lib.hid hlt
      clear e hlt hCl
      gi_wp2
      obtain ⟨e1, e2, e3⟩ := HE.out (((pre ++ [x]).length : Nat) : Int) (by rw [Hlen.out]; omega)
      exact ⟨HM.out, e3, e1, by rw [Hlen.out]; have := he.out; have := hl.out; omega, e2⟩
  case done =>
    rintro D W hD ⟨hBX, hcX, hlt, _⟩ hK
    have hcc := cell_of_row _ _ 0 _ _ (0, 0) hcX
    have H2 := Lib.hid (show (ways.take M).length = ways.length by rw [List.length_take]; omega)
    clear hlt
    gi_wp2
    refine ⟨by simp, .inl ⟨_, _, rfl, run_takeDeferred hK, ?_⟩⟩
    exact ⟨_, results_tmp rfl _ _ _, by rw [H2.out]; rfl, hBX.trans (below_put _ (by omega) hK)⟩
  case stop =>
    rintro D cc W hD ⟨rfl, hBX, hcX, hM⟩ hK
    have hcc := cell_of_row _ _ 0 _ _ (0, 0) hcX
    have H2 := Lib.hid (show (ways.take M).length = M by rw [List.length_take]; omega)
    clear hM
    gi_wp2
    refine ⟨by simp, .inl ⟨_, _, rfl, run_takeDeferred hK, ?_⟩⟩
    exact ⟨_, results_tmp rfl _ _ _, by rw [H2.out]; rfl, hBX.trans (below_put _ (by omega) hK)⟩
end Go.Proofs.YtkeoflnmbcdmfaaDoor
set_option maxRecDepth 8000
namespace Go.Proofs.YtkeoflnmbcdmfaaDoor
open Go.ChangeShapes Go.WideShapes Go.ChangeAt Go.RowKit


def oneB (s : Int) (n : Nat) (gi : List Int) (rs : List RuleM) : Bool := (allS s 2 n gi rs).length == 1
set_option maxHeartbeats 1000000 in
theorem specOne (s : Int) (Ag : Option Addr) (n cg Bg : Nat) (gi : List Int) (Ar : Option Addr) (nr cr Br : Nat) (rs : List RuleM) (w : World) (hp : PGs w s Ag n cg Bg gi Ar nr cr Br rs) :
    Calls Tryd.prog 65 #[.agg #[.int .i64 s, .slice Ag n cg, .slice Ar nr cr]] w fun e w' => e = .returned (.bool (oneB s n gi rs)) ∧ Below w.heap.size w w' := by
  have hx0 := pbox_new w s Ag n cg Ar nr cr 26
  have hb0 : Below w.heap.size w (w.alloc (.cells #[.int .i64 s, .slice Ag n cg, .slice Ar nr cr] 26)) := (Below.refl _ _).alloc (Nat.le_refl _) _
  have HA := Lib.hid (fun w' (hb : Below w.heap.size w w') => (show Calls Tryd.prog 51 #[.agg #[.int .i64 s, .slice Ag n cg, .slice Ar nr cr], .int .i64 2] w' _ from specAll s 2 Ag n cg Bg gi Ar nr cr Br rs w' (hp.below hb) (by omega) (by omega)))
  have hL := allS_len s 2 n gi rs (by omega)
  have HQ := Lib.hid (show (((allS s 2 n gi rs).length : Int) == 1) = oneB s n gi rs by
    unfold oneB
    rw [Bool.eq_iff_iff]
    simp only [beq_iff_eq]
    omega)
  go_enter Tryd.func65, Tryd.ntmps65
  go_wp2_with (go_at_call 51; (refine (HA.out _ hb0).mono ?_); rintro e w1 ⟨P, v, rfl, hrows, hb1⟩; obtain ⟨A1, c1, vs, rfl, _⟩ := hrows)
  go_ret
  exact ⟨by rw [HQ.out]; rfl, step hb0 hb1⟩
set_option maxHeartbeats 1000000 in
theorem specWithout (s : Int) (Ag : Option Addr) (n cg Bg : Nat) (gi : List Int) (Ar : Option Addr) (nr cr : Nat) (k : Nat) (w : World) (hg : Rd w Bg Ag n gi) (hB : Bg ≤ w.heap.size) (hm : n ≤ 1099511627776) (hk : k < n) :
    Calls Tryd.prog 66 #[.agg #[.int .i64 s, .slice Ag n cg, .slice Ar nr cr], .int .i64 k] w fun e w' => ∃ A' c', e = .returned (.agg #[.int .i64 s, .slice A' n c', .slice Ar nr cr]) ∧ Ow w' w.heap.size A' n c' (gi.set k 0) ∧ Below w.heap.size w w' := by
  have hx0 := pbox_new w s Ag n cg Ar nr cr 26
  have hb0 : Below w.heap.size w (w.alloc (.cells #[.int .i64 s, .slice Ag n cg, .slice Ar nr cr] 26)) := (Below.refl _ _).alloc (Nat.le_refl _) _
  have hs0 : w.heap.size < (w.alloc (.cells #[.int .i64 s, .slice Ag n cg, .slice Ar nr cr] 26)).heap.size := by simp
  obtain ⟨b, off, rfl, hbB, _⟩ := hg.at_ hk
  have hn0 : 0 < n := by omega
  obtain ⟨V, hV⟩ : ∃ V, V = (w.alloc (.cells #[.int .i64 s, .slice (some ⟨b, off, none⟩) n cg, .slice Ar nr cr] 26)).alloc (.cells #[.int .i64 0, .slice none 0 0, .slice none 0 0] 26) := ⟨_, rfl⟩
  have hbV : Below w.heap.size w V := by rw [hV]; exact hb0.alloc hb0.size _
  have hsV : V.heap.size = w.heap.size + 1 + 1 := by rw [hV]; simp
  have hwV : w.heap.size < V.heap.size := by omega
  have hwV1 : w.heap.size + 1 < V.heap.size := by omega
  obtain ⟨c0, c1', c2⟩ : PBox V w.heap.size s (some ⟨b, off, none⟩) n cg Ar nr cr := by
    rw [hV]
    exact hx0.below hs0 ((Below.refl _ _).alloc (Nat.le_refl _) _)
  have hrow : V.heap[w.heap.size + 1]? = some (.cells #[.int .i64 0, .slice none 0 0, .slice none 0 0] 26) := by rw [hV]; exact heap_alloc2_new w _ _
  have HO : Hid (Ow (V.alloc (.cells #[] 3)) (w.heap.size + 1 + 1) (some ⟨w.heap.size + 1 + 1, 0, none⟩) 0 0 []) := Lib.hid (by
    have := Ow.made0 V (w.heap.size + 1 + 1) (by omega)
    rw [hsV] at this
    exact this)
  have hbO : Below V.heap.size V (V.alloc (.cells #[] 3)) := (Below.refl _ _).alloc (Nat.le_refl _) _
  have HR := Lib.hid ((hg.below (hbV.mono hB)).below (hbO.mono (Nat.le_trans hB (Nat.le_of_lt hwV))))
  have hsO : w.heap.size + 1 + 1 ≤ (V.alloc (.cells #[] 3)).heap.size := by simp; omega
  have Hone := Lib.hid puz_one
  have Hi := Lib.hid puz_info
  go_enter Tryd.func66, Tryd.ntmps66
  go_wp2_with (first
    | (at_builtin; (rw [← hV]); (refine push_some rfl (.tmp 6) (.tmp 8) rfl (w.heap.size + 1 + 1) (some ⟨w.heap.size + 1 + 1, 0, none⟩) 0 0 [] b off n cg Bg gi rfl rfl HO.out HR.out (by omega) hm hsO ?_); intro A1 c1 w1 ho1 hg1; simp only [Nat.zero_add, List.nil_append] at ho1; (obtain ⟨gb, rfl, hlog, hgw1⟩ := ho1.form hn0); (obtain ⟨hcq, hfq⟩ := ho1.cell hk); have hbw1 : Below V.heap.size V w1 := hbO.grown hg1 hbO.size (fun k hk => Nat.le_trans (Nat.le_of_eq hsV) (HO.out.own_lo k hk)); have hgb0 : w.heap.size ≠ gb := Nat.ne_of_lt (Nat.lt_of_lt_of_le (Nat.lt_of_lt_of_le (Nat.lt_succ_self _) (Nat.le_succ _)) hlog); have hgb1 : w.heap.size + 1 ≠ gb := Nat.ne_of_lt hlog; (have d0 := (cell_other5 (k := k) (v := .int .i64 0) hgb0).trans ((hbw1.cell (p := ⟨w.heap.size, 0, none⟩) hwV).trans c0)); have d2 := (cell_other5 (k := k) (v := .int .i64 0) hgb0).trans ((hbw1.cell (p := ⟨w.heap.size, 2, none⟩) hwV).trans c2); (have hr2 := (heap_setCell_other w1 ⟨gb, k, none⟩ (w.heap.size + 1) (.int .i64 0) hgb1).trans ((hbw1.block (w.heap.size + 1) hwV1).trans hrow)))
    | ((refine wpList_store_row rfl 26 _ _ rfl (w.heap.size + 1) #[.int .i64 s, .slice (some ⟨gb, 0, none⟩) n c1, .slice Ar nr cr] rfl rfl 26 #[.int .i64 0, .slice none 0 0, .slice none 0 0] hr2 (Hi.out _ _ _ _ _ _ _) rfl (Hone.out _ _ _ _ _ _ _) ?_)))
  have ho2 : Ow (w1.setCell ⟨gb, k, none⟩ (.int .i64 0)) (w.heap.size + 1 + 1) (some ⟨gb, 0, none⟩) n c1 (gi.set k 0) := by
    have := (World.ownsRow.stored ho1 k (.int .i64 0)).1
    rw [vals_set] at this
    exact this
  have hBe : Below w.heap.size w ((w1.setCell ⟨gb, k, none⟩ (.int .i64 0)).setRow (w.heap.size + 1) #[.int .i64 s, .slice (some ⟨gb, 0, none⟩) n c1, .slice Ar nr cr]) := setRow_below5 ((hbV.trans (hbw1.mono hbV.size)).setCell (show w.heap.size ≤ gb by omega) _) (by omega)
  refine bodyPost_ret (v := .agg #[.int .i64 s, .slice (some ⟨gb, 0, none⟩) n c1, .slice Ar nr cr]) (results_cell_row (by rfl) _ _ (w.heap.size + 1) 26 _ (0, 0) _ rfl (setRow_heap _ _ _ _ _ _ hr2) Tryd.underlying26 rfl (Hi.out _ _ _ _ _ _ _)) rfl ⟨_, _, rfl, (ho2.row5 (fun b hb => ?_)).mono (by omega), hBe⟩
  have := ho2.own_lo b hb
  omega
end Go.Proofs.YtkeoflnmbcdmfaaDoor
set_option maxRecDepth 8000
namespace Go.Proofs.YtkeoflnmbcdmfaaDoor
open Go.ChangeShapes Go.WideShapes Go.ChangeAt Go.RowKit Go.Shelf
attribute [local go_sem] Oper.semAt_some
/-- how many solutions, but at most most. -/
def csI (s : Int) (n : Nat) (gi : List Int) (rs : List RuleM) (most : Int) : Int := if (pvB s gi rs && inr most 1 600) = true then ((allS s most.toNat n gi rs).length : Nat) else -1
set_option maxHeartbeats 1000000 in
theorem specCountSolutions (s : Int) (Ag : Option Addr) (n cg Bg : Nat) (gi : List Int) (Ar : Option Addr) (nr cr Br : Nat) (rs : List RuleM) (most : Int) (w : World) (hp : PGs w s Ag n cg Bg gi Ar nr cr Br rs) :
    Calls Tryd.prog 24 #[.agg #[.int .i64 s, .slice Ag n cg, .slice Ar nr cr], .int .i64 most] w fun e w' => e = .returned (.int .i64 (csI s n gi rs most)) ∧ Below w.heap.size w w' := by
  have hx0 := pbox_new w s Ag n cg Ar nr cr 26
  have hb0 : Below w.heap.size w (w.alloc (.cells #[.int .i64 s, .slice Ag n cg, .slice Ar nr cr] 26)) := (Below.refl _ _).alloc (Nat.le_refl _) _
  have hs0 : w.heap.size < (w.alloc (.cells #[.int .i64 s, .slice Ag n cg, .slice Ar nr cr] 26)).heap.size := by simp
  obtain ⟨z0, z1, z2⟩ := id hx0
  have HP := Lib.hid (fun w' (hb : Below w.heap.size w w') => specPuzzleValid s Ag n cg Bg gi Ar nr cr Br rs w' (hp.below hb).g (hp.below hb).gB hp.gm (hp.below hb).r (hp.below hb).rB hp.rm)
  cases hv : pvB s gi rs
  · have HL := Lib.hid (show csI s n gi rs most = -1 by simp [csI, hv])
    go_enter Tryd.func24, Tryd.ntmps24
    go_wp2_with (go_at_call 20; refine (HP.out _ hb0).mono ?_; rintro e w1 ⟨rfl, hb1⟩; rw [hv]; have h01 := step hb0 hb1)
    go_ret
    exact ⟨by rw [HL.out]; rfl, h01⟩
  · cases hin : inr most 1 600
    · have HL := Lib.hid (show csI s n gi rs most = -1 by simp [csI, hin])
      go_enter Tryd.func24, Tryd.ntmps24
      go_wp2_with (first
        | (go_at_call 20; refine (HP.out _ hb0).mono ?_; rintro e w1 ⟨rfl, hb1⟩; rw [hv]; have h01 := step hb0 hb1; obtain ⟨c0, c1, c2⟩ := hx0.below hs0 hb1)
        | (go_at_call 57; refine (l1In_any _ _ _ _).mono ?_; rintro e wq ⟨rfl, rfl⟩; rw [hin]))
      go_ret
      exact ⟨by rw [HL.out]; rfl, h01⟩
    · obtain ⟨m1, m6⟩ := inr_t hin
      obtain ⟨M, rfl⟩ := Int.eq_ofNat_of_zero_le (show 0 ≤ most by omega)
      have HL := Lib.hid (show csI s n gi rs (M : Nat) = ((allS s M n gi rs).length : Nat) by simp [csI, hv, hin])
      have HA := Lib.hid (fun w' (hb : Below w.heap.size w w') => specAll s M Ag n cg Bg gi Ar nr cr Br rs w' (hp.below hb) (by omega) (by omega))
      go_enter Tryd.func24, Tryd.ntmps24
      go_wp2_with (first
        | (go_at_call 20; refine (HP.out _ hb0).mono ?_; rintro e w1 ⟨rfl, hb1⟩; rw [hv]; have h01 := step hb0 hb1; obtain ⟨c0, c1, c2⟩ := hx0.below hs0 hb1)
        | (go_at_call 57; refine (l1In_any _ _ _ _).mono ?_; rintro e wq ⟨rfl, rfl⟩; rw [hin])
        | (go_at_call 51; refine (HA.out _ h01).mono ?_; rintro e w2 ⟨P, v, rfl, ⟨A, c, vs, rfl, hown, _, hin2⟩, hb2⟩))
      go_ret
      exact ⟨by rw [HL.out]; rfl, step h01 hb2⟩
theorem cs_take {L : List (List Int)} {M : Nat} (h : L.length < M) : (L.take M).length = L.length := by rw [List.length_take]; omega
set_option maxHeartbeats 2000000 in
theorem countP_any (s : Int) (Ag : Option Addr) (n cg Bg : Nat) (gi : List Int) (Ar : Option Addr) (nr cr Br : Nat) (rs : List RuleM) (M : Nat) (w : World) (hp : PGc w s Ag n cg Bg gi Ar nr cr Br rs) (hv : pvB s gi rs = true) (hM1 : 0 < M) (hM6 : M ≤ 600) (hT : Tz w) :
    Calls Tryd.prog 54 #[.agg #[.int .i64 s, .slice Ag n cg, .slice Ar nr cr], .int .i64 (M : Nat)] w fun e w' => e = .returned (.int .i64 ((allS s M n gi rs).length : Nat)) ∧ Below w.heap.size w w' := by
  have hx0 := pbox_new w s Ag n cg Ar nr cr 26
  have hb0 : Below w.heap.size w (w.alloc (.cells #[.int .i64 s, .slice Ag n cg, .slice Ar nr cr] 26)) := (Below.refl _ _).alloc (Nat.le_refl _) _
  obtain ⟨z0, z1, z2⟩ := id hx0
  obtain ⟨t, rfl, hs, hnn, hn16, hok⟩ := pv_grid hv hp.g.1
  have hn : n = t * t := by simp at hs; rcases hs with rfl | rfl | rfl <;> omega
  have hmr : nr ≤ 20 := by have := (pv_gv hv).2.1; have := hp.r.1; omega
  have H1 := Lib.hid (show ((allS t M n gi rs).length : Nat) = ((cv t gi rs (t * t) []).take M).length by rw [allS_cv hp.g.1 hv hM1 hn])
  have hg := hp.g.more hp.gB
  have hr := hp.r.more hp.rB
  have HC := Lib.hid (fun (PB : Nat) (w6 : World) (hPB : w.heap.size ≤ PB) (hpb : PBox w6 PB t Ag n cg Ar nr cr) (h06 : Below w.heap.size w w6) => countUpTo_any M w6 (sols_seq w w.heap.size PB t n Ag cg gi Ar nr cr rs (Nat.le_refl _) hs hn hg hr hmr hv (fun X hX => hT.below hT.lt hX)) (enters_of Tryd.func89 (by kernel_rfl) rfl) (fun X hX => ⟨h06.trans (hX.mono h06.size), hpb.below (cell_lt hpb.1) hX⟩) hM1 hM6)
  have HSL := Lib.hid (fun W => solutions_any t n Ag cg Ar nr cr W)
  clear hok hnn hn hg hr hv hp hT hx0
  go_enter Tryd.func54, Tryd.ntmps54
  go_wp2_with (first
    | (go_at_call 49; refine (HSL.out _).mono ?_; rintro e w6 ⟨PB, rfl, hPl, hpb, hb6⟩; have h06 := step hb0 hb6; have hPl2 := Nat.le_trans hb0.size hPl)
    | (go_at_call 95; refine (HC.out PB w6 hPl2 hpb h06).mono ?_; rintro e w7 ⟨rfl, hb7⟩))
  go_ret
  exact ⟨by rw [H1.out, List.length_take]; rfl, step h06 hb7⟩
set_option maxHeartbeats 2000000 in
theorem implCountSolutions (s : Int) (Ag : Option Addr) (n cg Bg : Nat) (gi : List Int) (Ar : Option Addr) (nr cr Br : Nat) (rs : List RuleM) (most : Int) (w : World) (hp : PGc w s Ag n cg Bg gi Ar nr cr Br rs) (hT : Tz w) :
    Calls Tryd.prog 22 #[.agg #[.int .i64 s, .slice Ag n cg, .slice Ar nr cr], .int .i64 most] w fun e w' => e = .returned (.int .i64 (csI s n gi rs most)) ∧ Below w.heap.size w w' := by
  have hx0 := pbox_new w s Ag n cg Ar nr cr 26
  have hb0 : Below w.heap.size w (w.alloc (.cells #[.int .i64 s, .slice Ag n cg, .slice Ar nr cr] 26)) := (Below.refl _ _).alloc (Nat.le_refl _) _
  have hs0 : w.heap.size < (w.alloc (.cells #[.int .i64 s, .slice Ag n cg, .slice Ar nr cr] 26)).heap.size := by simp
  obtain ⟨z0, z1, z2⟩ := id hx0
  have HV := Lib.hid (valid_any s Ag n cg Bg gi Ar nr cr Br rs _ (hp.below hb0))
  cases hv : pvB s gi rs
  · have H1 := Lib.hid (show csI s n gi rs most = -1 by simp [csI, hv])
    go_enter Tryd.func22, Tryd.ntmps22
    go_wp2_with (go_at_call 48; refine HV.out.mono ?_; rintro e w4 ⟨rfl, hb4⟩; rw [hv])
    go_ret
    exact ⟨by rw [H1.out]; rfl, step hb0 hb4⟩
  · by_cases hlo : most < 1
    · have H1 := Lib.hid (show csI s n gi rs most = -1 by
        have : inr most 1 600 = false := by unfold inr; simp; omega
        simp [csI, this])
      go_enter Tryd.func22, Tryd.ntmps22
      go_wp2_with (go_at_call 48; refine HV.out.mono ?_; rintro e w4 ⟨rfl, hb4⟩; rw [hv])
      go_ret
      exact ⟨by rw [H1.out]; rfl, step hb0 hb4⟩
    · by_cases hhi : 600 < most
      · have H1 := Lib.hid (show csI s n gi rs most = -1 by
          have : inr most 1 600 = false := by unfold inr; simp; omega
          simp [csI, this])
        go_enter Tryd.func22, Tryd.ntmps22
        go_wp2_with (go_at_call 48; refine HV.out.mono ?_; rintro e w4 ⟨rfl, hb4⟩; rw [hv])
        go_ret
        exact ⟨by rw [H1.out]; rfl, step hb0 hb4⟩
      · obtain ⟨M, rfl⟩ := Int.eq_ofNat_of_zero_le (show 0 ≤ most by omega)
        have H1 := Lib.hid (show csI s n gi rs (M : Nat) = ((allS s M n gi rs).length : Nat) by
          have : inr (M : Int) 1 600 = true := by unfold inr; simp; omega
          simp only [csI, hv, this, Bool.true_and, if_true, Int.toNat_natCast])
        have HC := Lib.hid (fun w' (hb : Below w.heap.size w w') => countP_any s Ag n cg Bg gi Ar nr cr Br rs M w' (hp.below hb) hv (by omega) (by omega) (hT.below hT.lt hb))
        go_enter Tryd.func22, Tryd.ntmps22
        go_wp2_with (first
          | (go_at_call 48; refine HV.out.mono ?_; rintro e w4 ⟨rfl, hb4⟩; rw [hv]; have h04 := step hb0 hb4; obtain ⟨y0, y1, y2⟩ := hx0.below hs0 hb4)
          | (go_at_call 54; refine (HC.out _ h04).mono ?_; rintro e w5 ⟨rfl, hb5⟩))
        go_ret
        exact ⟨by rw [H1.out]; rfl, step h04 hb5⟩
end Go.Proofs.YtkeoflnmbcdmfaaDoor
set_option maxRecDepth 8000
namespace Go.Proofs.YtkeoflnmbcdmfaaDoor
open Go.ChangeShapes Go.WideShapes Go.ChangeAt Go.RowKit

set_option maxHeartbeats 1000000 in
theorem toRule_any (k : Int) (A : Option Addr) (n c B : Nat) (xs : List Int) (v : Int) (w : World) (h : Rd w B A n xs) (hB : B ≤ w.heap.size) (hm : n ≤ 1099511627776) :
    Calls Tryd.prog 97 #[.agg #[.int .i64 k, .slice A n c, .int .i64 v]] w fun e w' => ∃ A', e = .returned (.agg #[.int .i64 k, .slice A' n n, .int .i64 v]) ∧ Ow w' w.heap.size A' n n xs ∧ Below w.heap.size w w' := by
  have Hone := Lib.hid rule_one
  have Hi := Lib.hid rule_info
  have hx0 := rbox_new w k A n c v 105
  have hb0 : Below w.heap.size w (w.alloc (.cells #[.int .i64 k, .slice A n c, .int .i64 v] 105)) := (Below.refl _ _).alloc (Nat.le_refl _) _
  have hs0 : w.heap.size < (w.alloc (.cells #[.int .i64 k, .slice A n c, .int .i64 v] 105)).heap.size := by simp
  obtain ⟨V, hV⟩ : ∃ V, V = ((w.alloc (.cells #[.int .i64 k, .slice A n c, .int .i64 v] 105)).alloc (.cells #[.int .i64 0, .slice none 0 0, .int .i64 0] 63)).alloc (.cells #[.int .i64 k, .slice none 0 0, .int .i64 0] 63) := ⟨_, rfl⟩
  have hb1 : Below w.heap.size w ((w.alloc (.cells #[.int .i64 k, .slice A n c, .int .i64 v] 105)).alloc (.cells #[.int .i64 0, .slice none 0 0, .int .i64 0] 63)) := hb0.alloc hb0.size _
  have hbV : Below w.heap.size w V := by rw [hV]; exact hb1.alloc hb1.size _
  have hsV : V.heap.size = w.heap.size + 1 + 1 + 1 := by rw [hV]; simp
  have hv2 : V.heap[w.heap.size + 1 + 1]? = some (.cells #[.int .i64 k, .slice none 0 0, .int .i64 0] 63) := by
    have := heap_alloc2_new (w.alloc (.cells #[.int .i64 k, .slice A n c, .int .i64 v] 105)) (.cells #[.int .i64 0, .slice none 0 0, .int .i64 0] 63) (.cells #[.int .i64 k, .slice none 0 0, .int .i64 0] 63)
    rw [World.size_alloc] at this
    rw [hV]
    exact this
  have hv1 : V.heap[w.heap.size + 1]? = some (.cells #[.int .i64 0, .slice none 0 0, .int .i64 0] 63) := by
    have := heap_alloc2_old (w.alloc (.cells #[.int .i64 k, .slice A n c, .int .i64 v] 105)) (.cells #[.int .i64 0, .slice none 0 0, .int .i64 0] 63) (.cells #[.int .i64 k, .slice none 0 0, .int .i64 0] 63)
    rw [World.size_alloc] at this
    rw [hV]
    exact this
  have hx1 : RBox V w.heap.size k A n c v := by
    rw [hV]
    refine hx0.below hs0 ?_
    have e : (w.alloc (.cells #[.int .i64 k, .slice A n c, .int .i64 v] 105)).heap.size = w.heap.size + 1 := by simp
    rw [e]
    have b1 : Below (w.heap.size + 1) (w.alloc (.cells #[.int .i64 k, .slice A n c, .int .i64 v] 105)) ((w.alloc (.cells #[.int .i64 k, .slice A n c, .int .i64 v] 105)).alloc (.cells #[.int .i64 0, .slice none 0 0, .int .i64 0] 63)) := (Below.refl _ _).alloc (Nat.le_of_eq e.symm) _
    exact b1.alloc (by simp) _
  obtain ⟨k0, k1, k2⟩ := id hx1
  have hR := h.below (hbV.mono hB)
  have hBV : B ≤ V.heap.size := by omega
  have hwV : w.heap.size ≤ V.heap.size := by omega
  have hwV0 : w.heap.size < V.heap.size := by omega
  have hwV1 : w.heap.size + 1 < V.heap.size := by omega
  have hwV2 : w.heap.size + 1 + 1 < V.heap.size := by omega
  have hne02 : w.heap.size + 1 + 1 ≠ w.heap.size := by omega
  have hne12 : w.heap.size + 1 ≠ w.heap.size + 1 + 1 := by omega
  have HV := Lib.hid hV
  have HsV := Lib.hid hsV
  clear hV hsV
  go_enter Tryd.func97, Tryd.ntmps97
  go_wp2_with (first
    | (go_at_call 58; (rw [← HV.out]); refine (toIntS_any _ _ _ _ _ _ hR hBV hm).mono ?_; rintro e w1 ⟨rfl, ho1, hbw1⟩; have f1 := (hbw1.block (w.heap.size + 1) hwV1).trans hv1; have f2 := (hbw1.block (w.heap.size + 1 + 1) hwV2).trans hv2; obtain ⟨j0, j1, j2⟩ := hx1.below hwV0 hbw1; have g1 := (heap_setCell_other w1 ⟨w.heap.size + 1 + 1, 1, none⟩ (w.heap.size + 1) (.slice (some ⟨V.heap.size, 0, none⟩) n n) hne12).trans f1; have g2 := heap_setCell_same w1 (w.heap.size + 1 + 1) 1 _ _ (.slice (some ⟨V.heap.size, 0, none⟩) n n) f2; have fz := frozen_of_row w1 (w.heap.size + 1 + 1) 1 _ _ f2; have m0 : w1.cell? ⟨w.heap.size + 1 + 1, 0, none⟩ = some (.int .i64 k) := cell_of_row _ _ 0 _ _ (0, 0) f2; have m1 : w1.cell? ⟨w.heap.size + 1 + 1, 1, none⟩ = some (.slice none 0 0) := cell_of_row _ _ 1 _ _ (0, 0) f2; have m2 : w1.cell? ⟨w.heap.size + 1 + 1, 2, none⟩ = some (.int .i64 0) := cell_of_row _ _ 2 _ _ (0, 0) f2; have n2 : (w1.setCell ⟨w.heap.size + 1 + 1, 1, none⟩ (.slice (some ⟨V.heap.size, 0, none⟩) n n)).cell? ⟨w.heap.size + 1 + 1, 2, none⟩ = some (.int .i64 0) := cell_of_row _ _ 2 _ _ (0, 0) g2; have fz2 := frozen_of_row (w1.setCell ⟨w.heap.size + 1 + 1, 1, none⟩ (.slice (some ⟨V.heap.size, 0, none⟩) n n)) (w.heap.size + 1 + 1) 2 _ _ g2; have l0 : (w1.setCell ⟨w.heap.size + 1 + 1, 1, none⟩ (.slice (some ⟨V.heap.size, 0, none⟩) n n)).cell? ⟨w.heap.size, 2, none⟩ = some (.int .i64 v) := (World.cell?_setCell_far w1 ⟨w.heap.size + 1 + 1, 1, none⟩ ⟨w.heap.size, 2, none⟩ _ hne02).trans j2; have r1 := (heap_setCell_other (w1.setCell ⟨w.heap.size + 1 + 1, 1, none⟩ (.slice (some ⟨V.heap.size, 0, none⟩) n n)) ⟨w.heap.size + 1 + 1, 2, none⟩ (w.heap.size + 1) (.int .i64 v) hne12).trans g1; have r2 := heap_setCell_same (w1.setCell ⟨w.heap.size + 1 + 1, 1, none⟩ (.slice (some ⟨V.heap.size, 0, none⟩) n n)) (w.heap.size + 1 + 1) 2 _ _ (.int .i64 v) g2)
    | ((refine wpList_load_row rfl 63 _ rfl (w.heap.size + 1 + 1) rfl 63 #[.int .i64 k, .slice (some ⟨V.heap.size, 0, none⟩) n n, .int .i64 v] (0, 0) _ r2 Tryd.underlying63 rfl (Hi.out _ _ _ _ _) ?_))
    | ((refine wpList_store_row rfl 63 _ _ rfl (w.heap.size + 1) #[.int .i64 k, .slice (some ⟨V.heap.size, 0, none⟩) n n, .int .i64 v] rfl rfl 63 #[.int .i64 0, .slice none 0 0, .int .i64 0] r1 (Hi.out _ _ _ _ _) rfl (Hone.out _ _ _ _ _) ?_)))
  have hbw2 : Below w.heap.size w w1 := hbV.trans (hbw1.mono hwV)
  have hB2 : Below w.heap.size w (((w1.setCell ⟨w.heap.size + 1 + 1, 1, none⟩ (.slice (some ⟨V.heap.size, 0, none⟩) n n)).setCell ⟨w.heap.size + 1 + 1, 2, none⟩ (.int .i64 v)).setRow (w.heap.size + 1) #[.int .i64 k, .slice (some ⟨V.heap.size, 0, none⟩) n n, .int .i64 v]) := setRow_below5 ((hbw2.setCell (show w.heap.size ≤ w.heap.size + 1 + 1 by omega) _).setCell (show w.heap.size ≤ w.heap.size + 1 + 1 by omega) _) (by omega)
  have hlo1 := ho1.own_lo
  have HsV' := HsV.out
  have ho2 : Ow (w1.setCell ⟨w.heap.size + 1 + 1, 1, none⟩ (.slice (some ⟨V.heap.size, 0, none⟩) n n)) V.heap.size (some ⟨V.heap.size, 0, none⟩) n n xs := ho1.far (row := some (w.heap.size + 1 + 1)) grown_set (fun b hb e => by have := hlo1 b hb; injection e with e; omega)
  have ho3 : Ow ((w1.setCell ⟨w.heap.size + 1 + 1, 1, none⟩ (.slice (some ⟨V.heap.size, 0, none⟩) n n)).setCell ⟨w.heap.size + 1 + 1, 2, none⟩ (.int .i64 v)) V.heap.size (some ⟨V.heap.size, 0, none⟩) n n xs := ho2.far (row := some (w.heap.size + 1 + 1)) grown_set (fun b hb e => by have := hlo1 b hb; injection e with e; omega)
  refine bodyPost_ret (v := .agg #[.int .i64 k, .slice (some ⟨V.heap.size, 0, none⟩) n n, .int .i64 v]) (results_cell_row (by rfl) _ _ (w.heap.size + 1) 63 _ (0, 0) _ rfl (setRow_heap _ _ _ _ _ _ r1) Tryd.underlying63 rfl (Hi.out _ _ _ _ _)) rfl ⟨_, rfl, (ho3.row5 (fun b hb => ?_)).mono (by omega), hB2⟩
  have := hlo1 b hb
  omega
theorem eqRule_any (A A' : Option Addr) (c c' n n' B B' : Nat) (xs ys : List Int) (k v k' v' : Int) (w : World) (h : Rd w B A n xs) (h' : Rd w B' A' n' ys) (hB : B ≤ w.heap.size) (hB' : B' ≤ w.heap.size) (hm : n ≤ 1099511627776) (hk : k = k') (hv : v = v') (he : xs = ys) :
    Calls Tryd.prog 98 #[.agg #[.int .i64 k, .slice A n c, .int .i64 v], .agg #[.int .i64 k', .slice A' n' c', .int .i64 v']] w fun e w' => e = .returned (.bool true) ∧ Below w.heap.size w w' := by
  subst hk hv he
  have hx := rbox_new w k A n c v 63
  have hb0 : Below w.heap.size w (w.alloc (.cells #[.int .i64 k, .slice A n c, .int .i64 v] 63)) := (Below.refl _ _).alloc (Nat.le_refl _) _
  have hs0 : w.heap.size < (w.alloc (.cells #[.int .i64 k, .slice A n c, .int .i64 v] 63)).heap.size := by simp
  have hx2 := rbox_new (w.alloc (.cells #[.int .i64 k, .slice A n c, .int .i64 v] 63)) k A' n' c' v 63
  have hb1 : Below w.heap.size w ((w.alloc (.cells #[.int .i64 k, .slice A n c, .int .i64 v] 63)).alloc (.cells #[.int .i64 k, .slice A' n' c', .int .i64 v] 63)) := hb0.alloc hb0.size _
  have hx1 := hx.below hs0 ((Below.refl _ _).alloc (Nat.le_refl _) (.cells #[.int .i64 k, .slice A' n' c', .int .i64 v] 63))
  rw [World.size_alloc] at hx2
  have hs1 : w.heap.size < ((w.alloc (.cells #[.int .i64 k, .slice A n c, .int .i64 v] 63)).alloc (.cells #[.int .i64 k, .slice A' n' c', .int .i64 v] 63)).heap.size := by simp; omega
  have hs2 : w.heap.size + 1 < ((w.alloc (.cells #[.int .i64 k, .slice A n c, .int .i64 v] 63)).alloc (.cells #[.int .i64 k, .slice A' n' c', .int .i64 v] 63)).heap.size := by simp
  obtain ⟨a0, a1, a2⟩ := id hx1
  obtain ⟨b0, b1, b2⟩ := id hx2
  have hkk : (k != k) = false := by simp
  have hvv : (v != v) = false := by simp
  have hC : Hid (Calls Tryd.prog 60 #[.slice A n c, .slice A' n' c'] ((w.alloc (.cells #[.int .i64 k, .slice A n c, .int .i64 v] 63)).alloc (.cells #[.int .i64 k, .slice A' n' c', .int .i64 v] 63)) fun e w' => e = .returned (.bool (same xs xs)) ∧ Below ((w.alloc (.cells #[.int .i64 k, .slice A n c, .int .i64 v] 63)).alloc (.cells #[.int .i64 k, .slice A' n' c', .int .i64 v] 63)).heap.size ((w.alloc (.cells #[.int .i64 k, .slice A n c, .int .i64 v] 63)).alloc (.cells #[.int .i64 k, .slice A' n' c', .int .i64 v] 63)) w') :=
    Lib.hid (eqIntS_any _ _ _ _ _ _ _ _ _ _ _ (h.below (hb1.mono hB)) (h'.below (hb1.mono hB')) hm)
  have hsame := same_refl xs
  go_enter Tryd.func98, Tryd.ntmps98
  go_wp2_with (go_at_call 60; refine hC.out.mono ?_; rintro e w2 ⟨rfl, hb2⟩; rw [hsame]; obtain ⟨d0, d1, d2⟩ := hx1.below hs1 hb2; obtain ⟨e0, e1, e2⟩ := hx2.below hs2 hb2)
  go_ret
  exact ⟨rfl, step hb1 hb2⟩
theorem szIntS_any (A : Option Addr) (c n : Nat) (l : Int) (w : World) (hm : n ≤ 9223372036854775807) (h0 : 0 ≤ l) (h1 : l ≤ 1099511627776) :
    Calls Tryd.prog 55 #[.slice A n c, .int .i64 l] w fun e w' => e = .returned (.int .i64 (if (n : Int) ≤ l then l - n else -1)) ∧ w = w' := by
  have e1 : wrap64 (l - n) = l - n := IntWalk.wrap64_in _ ⟨by omega, by omega⟩
  by_cases hn : (n : Int) ≤ l
  · go_enter Tryd.func55, Tryd.ntmps55
    go_wp2
    go_ret
    exact ⟨rfl, rfl⟩
  · go_enter Tryd.func55, Tryd.ntmps55
    go_wp2
    go_ret
    exact ⟨rfl, rfl⟩
theorem szRule_any (A : Option Addr) (c n : Nat) (k v l : Int) (w : World) (hm : n ≤ 9223372036854775807) (h0 : 0 ≤ l) (h1 : l ≤ 1099511627776) :
    Calls Tryd.prog 96 #[.agg #[.int .i64 k, .slice A n c, .int .i64 v], .int .i64 l] w fun e w' => e = .returned (.int .i64 (if (n : Int) ≤ l then l - n else -1)) ∧ Below w.heap.size w w' := by
  have hx := rbox_new w k A n c v 105
  have hb0 : Below w.heap.size w (w.alloc (.cells #[.int .i64 k, .slice A n c, .int .i64 v] 105)) := (Below.refl _ _).alloc (Nat.le_refl _) _
  obtain ⟨a0, a1, a2⟩ := id hx
  obtain ⟨r, hr⟩ : ∃ r, r = (if (n : Int) ≤ l then l - (n : Int) else -1) := ⟨_, rfl⟩
  have HC := Lib.hid (fun w => szIntS_any A c n l w hm h0 h1)
  rw [← hr] at HC ⊢
  by_cases hr0 : r < 0
  · have hr1 : r = -1 := by rw [hr] at hr0 ⊢; split at hr0 <;> omega
    have HR := Lib.hid hr1
    clear hr hr1
    go_enter Tryd.func96, Tryd.ntmps96
    go_wp2_with (go_at_call 55; refine (HC.out _).mono ?_; rintro e w2 ⟨rfl, rfl⟩)
    go_ret
    exact ⟨by rw [HR.out]; rfl, hb0⟩
  · clear hr
    go_enter Tryd.func96, Tryd.ntmps96
    go_wp2_with (go_at_call 55; refine (HC.out _).mono ?_; rintro e w2 ⟨rfl, rfl⟩)
    go_ret
    exact ⟨rfl, hb0⟩
end Go.Proofs.YtkeoflnmbcdmfaaDoor
set_option maxRecDepth 8000
namespace Go.Proofs.YtkeoflnmbcdmfaaDoor
open Go.ChangeShapes Go.WideShapes Go.ChangeAt Go.RowKit

theorem OwR.far {w w' : World} {lo n c : Nat} {A : Option Addr} {rs : List RuleM} {row : Option Nat} (h : OwR w lo (.slice A n c) rs n) (hg : w.grownBy w' row) (hr : ∀ g, row = some g → g < lo) : OwR w' lo (.slice A n c) rs n := by
  obtain ⟨vs, hown, hin⟩ := h
  refine ⟨vs, World.ownsRow.kept hown hg (by
    cases e : (Value.slice A n c).ownBlock with
    | none => exact .inl rfl
    | some g => exact .inr (fun he => by have h1 := (World.ownsRow.lt hown g e).1; have h2 := hr g he.symm; omega)), fun i hi => ?_⟩
  obtain ⟨A', c', e0, e1, e2, e3, e4, e5⟩ := hin i hi
  exact ⟨A', c', e0, e1, e2, e3.far hg (fun g hgg e => by have h1 := e3.own_lo g hgg; have h2 := hr g e; omega), e4, e5⟩
theorem lt_set5 {a : Nat} {w : World} {p : Addr} {v : Value} (h : a < w.heap.size) : a < (w.setCell p v).heap.size := by rw [World.size_setCell]; exact h
theorem grown_row {w : World} {g : Nat} {cs : Array Value} : w.grownBy (w.setRow g cs) (some g) :=
  ⟨rfl, rfl, rfl, by simp, fun k hk hne => by unfold World.setRow; simp only [Array.getElem?_modify]; rw [if_neg (fun e => hne (by rw [e]))]⟩
theorem OwR.mono {w : World} {lo lo' n : Nat} {v : Value} {rs : List RuleM} (h : OwR w lo v rs n) (hl : lo' ≤ lo) : OwR w lo' v rs n := by
  obtain ⟨vs, hown, hin⟩ := h
  refine ⟨vs, World.ownsRow.mono hown hl, fun i hi => ?_⟩
  obtain ⟨A', c', e0, e1, e2, e3, e4, e5⟩ := hin i hi
  exact ⟨A', c', e0, e1, e2, e3.mono hl, e4, e5⟩
set_option maxHeartbeats 1000000 in
theorem specOwnPuzzle (s : Int) (Ag : Option Addr) (n cg Bg : Nat) (gi : List Int) (Ar : Option Addr) (nr cr Br : Nat) (rs : List RuleM) (w : World) (hg : Rd w Bg Ag n gi) (hBg : Bg ≤ w.heap.size) (hm : n ≤ 1099511627776) (hr : RdRs w Br Ar nr rs) (hBr : Br ≤ w.heap.size) (hmr : nr ≤ 1099511627775) :
    Calls Tryd.prog 69 #[.agg #[.int .i64 s, .slice Ag n cg, .slice Ar nr cr]] w fun e w' => ∃ A1 c1 A2 c2, e = .returned (.agg #[.int .i64 s, .slice A1 n c1, .slice A2 nr c2]) ∧ Ow w' w.heap.size A1 n c1 gi ∧ OwR w' w.heap.size (.slice A2 nr c2) rs nr ∧ Below w.heap.size w w' := by
  have Hone := Lib.hid puz_one
  have Hi := Lib.hid puz_info
  have hx0 := pbox_new w s Ag n cg Ar nr cr 26
  have hb0 : Below w.heap.size w (w.alloc (.cells #[.int .i64 s, .slice Ag n cg, .slice Ar nr cr] 26)) := (Below.refl _ _).alloc (Nat.le_refl _) _
  have hs0 : w.heap.size < (w.alloc (.cells #[.int .i64 s, .slice Ag n cg, .slice Ar nr cr] 26)).heap.size := by simp
  obtain ⟨V, hV⟩ : ∃ V, V = ((w.alloc (.cells #[.int .i64 s, .slice Ag n cg, .slice Ar nr cr] 26)).alloc (.cells #[.int .i64 0, .slice none 0 0, .slice none 0 0] 26)).alloc (.cells #[.int .i64 s, .slice Ag n cg, .slice Ar nr cr] 26) := ⟨_, rfl⟩
  have hbV : Below w.heap.size w V := by rw [hV]; exact (hb0.alloc hb0.size _).alloc (by simp; omega) _
  have hsV : V.heap.size = w.heap.size + 1 + 1 + 1 := by rw [hV]; simp
  have hv2 : V.heap[w.heap.size + 1 + 1]? = some (.cells #[.int .i64 s, .slice Ag n cg, .slice Ar nr cr] 26) := by
    have := heap_alloc2_new (w.alloc (.cells #[.int .i64 s, .slice Ag n cg, .slice Ar nr cr] 26)) (.cells #[.int .i64 0, .slice none 0 0, .slice none 0 0] 26) (.cells #[.int .i64 s, .slice Ag n cg, .slice Ar nr cr] 26)
    rw [World.size_alloc] at this
    rw [hV]
    exact this
  have hv1 : V.heap[w.heap.size + 1]? = some (.cells #[.int .i64 0, .slice none 0 0, .slice none 0 0] 26) := by
    have := heap_alloc2_old (w.alloc (.cells #[.int .i64 s, .slice Ag n cg, .slice Ar nr cr] 26)) (.cells #[.int .i64 0, .slice none 0 0, .slice none 0 0] 26) (.cells #[.int .i64 s, .slice Ag n cg, .slice Ar nr cr] 26)
    rw [World.size_alloc] at this
    rw [hV]
    exact this
  have hv0 : V.cell? ⟨w.heap.size, 2, none⟩ = some (.slice Ar nr cr) := by
    rw [hV]
    exact (hx0.below hs0 (((Below.refl _ _).alloc (Nat.le_refl _) _).alloc (by simp) _)).2.2
  have HO : Hid (Ow (V.alloc (.cells #[] 3)) (w.heap.size + 1 + 1 + 1) (some ⟨w.heap.size + 1 + 1 + 1, 0, none⟩) 0 0 []) := Lib.hid (by
    have := Ow.made0 V (w.heap.size + 1 + 1 + 1) (by omega)
    rw [hsV] at this
    exact this)
  have hbO : Below V.heap.size V (V.alloc (.cells #[] 3)) := (Below.refl _ _).alloc (Nat.le_refl _) _
  have hwV : w.heap.size ≤ V.heap.size := by omega
  have HR := Lib.hid ((hg.below (hbV.mono hBg)).below (hbO.mono (Nat.le_trans hBg hwV)))
  have hsO : w.heap.size + 1 + 1 + 1 ≤ (V.alloc (.cells #[] 3)).heap.size := by simp; omega
  have hwV0 : w.heap.size < V.heap.size := by omega
  have hwV1 : w.heap.size + 1 < V.heap.size := by omega
  have hwV2 : w.heap.size + 1 + 1 < V.heap.size := by omega
  have hne12 : w.heap.size + 1 ≠ w.heap.size + 1 + 1 := by omega
  have hne02 : w.heap.size ≠ w.heap.size + 1 + 1 := by omega
  have hle2 : w.heap.size ≤ w.heap.size + 1 + 1 := by omega
  have HS := Lib.hid (fun w' (hb : Below w.heap.size w w') => specOwnRules Ar nr cr Br rs w' (hr.below (hb.mono hBr)) (Nat.le_trans hBr hb.size) hmr)
  have HV := Lib.hid hV
  clear hV
  go_enter Tryd.func69, Tryd.ntmps69
  go_wp2_with (first
    | (at_builtin; (rw [← HV.out]); (refine push_new rfl (.tmp 5) (.tmp 7) rfl (w.heap.size + 1 + 1 + 1) (some ⟨w.heap.size + 1 + 1 + 1, 0, none⟩) Ag n cg Bg gi rfl rfl HO.out HR.out hm hsO ?_); intro A1 c1 w1 ho1 hg1; have hbw1 : Below V.heap.size V w1 := hbO.grown hg1 hbO.size (fun k hk => Nat.le_trans (Nat.le_of_eq hsV) (HO.out.own_lo k hk)); have hs1 := Nat.le_trans (Nat.le_of_lt hwV2) hbw1.size; have f1 := (hbw1.block (w.heap.size + 1) hwV1).trans hv1; have f2 := (hbw1.block (w.heap.size + 1 + 1) hwV2).trans hv2; have f0 := (hbw1.cell (p := ⟨w.heap.size, 2, none⟩) hwV0).trans hv0; have g1 := (heap_setCell_other w1 ⟨w.heap.size + 1 + 1, 1, none⟩ (w.heap.size + 1) (.slice A1 n c1) hne12).trans f1; have g2 : (w1.setCell ⟨w.heap.size + 1 + 1, 1, none⟩ (.slice A1 n c1)).heap[w.heap.size + 1 + 1]? = some (.cells #[.int .i64 s, .slice A1 n c1, .slice Ar nr cr] 26) := heap_setCell_same w1 (w.heap.size + 1 + 1) 1 _ _ (.slice A1 n c1) f2; (have fz := frozen_of_row w1 (w.heap.size + 1 + 1) 1 _ _ f2); have m1 : w1.cell? ⟨w.heap.size + 1 + 1, 1, none⟩ = some (.slice Ag n cg) := cell_of_row _ _ 1 _ _ (0, 0) f2; have g0 := (cell_other5 (k := 1) (v := .slice A1 n c1) hne02).trans f0; have l1 : w.heap.size + 1 < (w1.setCell ⟨w.heap.size + 1 + 1, 1, none⟩ (.slice A1 n c1)).heap.size := lt_set5 (Nat.lt_of_lt_of_le hwV1 hbw1.size); have l2 : w.heap.size + 1 + 1 < (w1.setCell ⟨w.heap.size + 1 + 1, 1, none⟩ (.slice A1 n c1)).heap.size := lt_set5 (Nat.lt_of_lt_of_le hwV2 hbw1.size); have hB2 := (hbV.trans (hbw1.mono hwV)).setCell hle2 (.slice A1 n c1) (p := ⟨w.heap.size + 1 + 1, 1, none⟩))
    | (go_at_call 104; (refine (HS.out _ hB2).mono ?_); rintro e w3 ⟨A2, c2, rfl, ho2, hb3⟩; have h1 := (hb3.block (w.heap.size + 1) l1).trans g1; have h2 := (hb3.block (w.heap.size + 1 + 1) l2).trans g2; have fz3 := frozen_of_row w3 (w.heap.size + 1 + 1) 2 _ _ h2; have m5 : w3.cell? ⟨w.heap.size + 1 + 1, 0, none⟩ = some (.int .i64 s) := cell_of_row _ _ 0 _ _ (0, 0) h2; have m6 : w3.cell? ⟨w.heap.size + 1 + 1, 1, none⟩ = some (.slice A1 n c1) := cell_of_row _ _ 1 _ _ (0, 0) h2; have m7 : w3.cell? ⟨w.heap.size + 1 + 1, 2, none⟩ = some (.slice Ar nr cr) := cell_of_row _ _ 2 _ _ (0, 0) h2; have i1 := (heap_setCell_other w3 ⟨w.heap.size + 1 + 1, 2, none⟩ (w.heap.size + 1) (.slice A2 nr c2) hne12).trans h1; have i2 : (w3.setCell ⟨w.heap.size + 1 + 1, 2, none⟩ (.slice A2 nr c2)).heap[w.heap.size + 1 + 1]? = some (.cells #[.int .i64 s, .slice A1 n c1, .slice A2 nr c2] 26) := heap_setCell_same w3 (w.heap.size + 1 + 1) 2 _ _ (.slice A2 nr c2) h2; have k5 : (w3.setCell ⟨w.heap.size + 1 + 1, 2, none⟩ (.slice A2 nr c2)).cell? ⟨w.heap.size + 1 + 1, 0, none⟩ = some (.int .i64 s) := cell_of_row _ _ 0 _ _ (0, 0) i2; have k6 : (w3.setCell ⟨w.heap.size + 1 + 1, 2, none⟩ (.slice A2 nr c2)).cell? ⟨w.heap.size + 1 + 1, 1, none⟩ = some (.slice A1 n c1) := cell_of_row _ _ 1 _ _ (0, 0) i2; have k7 : (w3.setCell ⟨w.heap.size + 1 + 1, 2, none⟩ (.slice A2 nr c2)).cell? ⟨w.heap.size + 1 + 1, 2, none⟩ = some (.slice A2 nr c2) := cell_of_row _ _ 2 _ _ (0, 0) i2)
    | (refine wpList_store_row rfl 26 _ _ rfl (w.heap.size + 1) #[.int .i64 s, .slice A1 n c1, .slice A2 nr c2] rfl rfl 26 #[.int .i64 0, .slice none 0 0, .slice none 0 0] i1 (Hi.out _ _ _ _ _ _ _) rfl (Hone.out _ _ _ _ _ _ _) ?_))
  have hs1' := hbw1.size
  have hs3 := hb3.size
  rw [World.size_setCell] at hs3
  have hBe : Below w.heap.size w ((w3.setCell ⟨w.heap.size + 1 + 1, 2, none⟩ (.slice A2 nr c2)).setRow (w.heap.size + 1) #[.int .i64 s, .slice A1 n c1, .slice A2 nr c2]) := setRow_below5 ((step hB2 hb3).setCell (show w.heap.size ≤ w.heap.size + 1 + 1 by omega) _) (by omega)
  have ho1' : Ow (w1.setCell ⟨w.heap.size + 1 + 1, 1, none⟩ (.slice A1 n c1)) (w.heap.size + 1 + 1 + 1) A1 n c1 gi := ho1.far (row := some (w.heap.size + 1 + 1)) grown_set (fun b hb e => by have := ho1.own_lo b hb; injection e with e; omega)
  have ho3 := ho1'.below hb3
  have ho4 : Ow (w3.setCell ⟨w.heap.size + 1 + 1, 2, none⟩ (.slice A2 nr c2)) (w.heap.size + 1 + 1 + 1) A1 n c1 gi := ho3.far (row := some (w.heap.size + 1 + 1)) grown_set (fun b hb e => by have := ho1.own_lo b hb; injection e with e; omega)
  have ho5 : OwR (w3.setCell ⟨w.heap.size + 1 + 1, 2, none⟩ (.slice A2 nr c2)) (w1.setCell ⟨w.heap.size + 1 + 1, 1, none⟩ (.slice A1 n c1)).heap.size (.slice A2 nr c2) rs nr := ho2.far (row := some (w.heap.size + 1 + 1)) grown_set (fun b e => by injection e with e; omega)
  refine bodyPost_ret (v := .agg #[.int .i64 s, .slice A1 n c1, .slice A2 nr c2]) (results_cell_row (by rfl) _ _ (w.heap.size + 1) 26 _ (0, 0) _ rfl (setRow_heap _ _ _ _ _ _ i1) Tryd.underlying26 rfl (Hi.out _ _ _ _ _ _ _)) rfl ⟨_, _, _, _, rfl, (ho4.row5 (fun b hb => ?_)).mono (by omega), (ho5.far (row := some (w.heap.size + 1)) grown_row (fun b e => ?_)).mono (by rw [World.size_setCell]; omega), hBe⟩
  · have := ho4.own_lo b hb
    omega
  · injection e with e
    omega
end Go.Proofs.YtkeoflnmbcdmfaaDoor
