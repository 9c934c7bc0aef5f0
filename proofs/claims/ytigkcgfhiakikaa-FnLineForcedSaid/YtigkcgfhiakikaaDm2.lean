import Derived.Test.YtigkcgfhiakikaaDl
set_option maxRecDepth 8000
namespace Go.Proofs.Ytigkcgfhiakikaa
open Go.ChangeShapes Go.WideShapes Go.ChangeAt Go.RowKit
theorem wBelow {w0 w w' : World} {G : Nat} (hb : Below w0.heap.size w0 w) (hg : w.grownBy w' (some G)) (hG : w0.heap.size ≤ G) : Below w0.heap.size w0 w' :=
  hb.grown hg hb.size (fun k hk => by have := Option.some.inj hk; omega)
/-- a value that is a line. -/
def Lv (w : World) (lo : Nat) (v : Value) : Prop := ∃ A n c L, v = .slice A n c ∧ OwF w lo A n c L ∧ n ≤ 9
theorem Lv.keptG {w w' : World} {lo G : Nat} {v : Value} (h : Lv w lo v) (hg : w.grownBy w' (some G)) (hG : G < lo) : Lv w' lo v := by
  obtain ⟨A, n, c, L, e, ho, h9⟩ := h
  exact ⟨A, n, c, L, e, ho.keptG hg hG, h9⟩
theorem Lv.alloc {w : World} {lo : Nat} {v : Value} (h : Lv w lo v) (o : Obj) : Lv (w.alloc o) lo v := by
  obtain ⟨A, n, c, L, e, ho, h9⟩ := h
  exact ⟨A, n, c, L, e, ho.below ((Below.refl _ _).alloc (Nat.le_refl _) _), h9⟩
theorem Lv.drew {w : World} {lo : Nat} {v : Value} (h : Lv w lo v) : Lv w.drew lo v := by
  obtain ⟨A, n, c, L, e, ho, h9⟩ := h
  exact ⟨A, n, c, L, e, ho.below (Below.refl _ _).drew, h9⟩
def DrawnFl (w : World) (e : Ending) (w' : World) : Prop := ∃ A n c L, e = .returned (.slice A n c) ∧ RdF w' w'.heap.size A n L ∧ n ≤ 9 ∧ Below w.heap.size w w'
structure DcJ (W : World) (G : Nat) (D : Nat → Bool) (e : Nat → Value) (w : World) : Prop where
  gr : W.grownBy w (some G)
  c0 : D 0 = true → Lv w W.heap.size (e 8)
  c1 : D 1 = true → Lv w W.heap.size (e 9)
  c2 : D 2 = true → ∃ g v0 v1, e 10 = .slice (some ⟨g, 0, none⟩) 2 2 ∧ W.heap.size ≤ g ∧ g < w.heap.size ∧ w.heap[g]? = some (.cells #[v0, v1] 23 (0, 0)) ∧ Lv w W.heap.size v0 ∧ Lv w W.heap.size v1
  c3 : D 3 = true → e 11 = .pointer (some ⟨G, 0, none⟩)
  c4 : D 4 = true → ∃ u : Nat, e 12 = .int .i64 u ∧ u < 2
  c5 : D 5 = true → ∃ g u v0 v1, e 13 = .pointer (some ⟨g, u, none⟩) ∧ u < 2 ∧ W.heap.size ≤ g ∧ g < w.heap.size ∧ w.heap[g]? = some (.cells #[v0, v1] 23 (0, 0)) ∧ Lv w W.heap.size v0 ∧ Lv w W.heap.size v1
  c6 : D 6 = true → Lv w W.heap.size (e 14)
  c7 : D 7 = true → Lv w W.heap.size (e 2)
theorem DcJ.mono {W : World} {G : Nat} {D : Nat → Bool} {e : Nat → Value} {w w' : World} (h : DcJ W G D e w) (hg : w.grownBy w' (some G)) (hG : G < W.heap.size) : DcJ W G D e w' := by
  have hsz := hg.size
  refine ⟨h.gr.trans hg, fun d => (h.c0 d).keptG hg hG, fun d => (h.c1 d).keptG hg hG, fun d => ?_, h.c3, h.c4, fun d => ?_, fun d => (h.c6 d).keptG hg hG, fun d => (h.c7 d).keptG hg hG⟩
  · obtain ⟨g, v0, v1, q1, q2, q3, q4, q5, q6⟩ := h.c2 d
    exact ⟨g, v0, v1, q1, q2, by omega, (hg.block g q3 (fun e => by have := Option.some.inj e; omega)).trans q4, q5.keptG hg hG, q6.keptG hg hG⟩
  · obtain ⟨g, u, v0, v1, q1, q0, q2, q3, q4, q5, q6⟩ := h.c5 d
    exact ⟨g, u, v0, v1, q1, q0, q2, by omega, (hg.block g q3 (fun e => by have := Option.some.inj e; omega)).trans q4, q5.keptG hg hG, q6.keptG hg hG⟩
theorem DcJ.alloc {W : World} {G : Nat} {D : Nat → Bool} {e : Nat → Value} {w : World} (h : DcJ W G D e w) (hG : G < W.heap.size) (o : Obj) : DcJ W G D e (w.alloc o) :=
  h.mono (only_alloc (World.grownBy.refl w _) o) hG
theorem make9 (w : World) : (Instr.makeSlice 23 (.int .i64 9) (.int .i64 9)).run Try.prog w = .ok (.slice (some ⟨w.heap.size, 0, none⟩) 9 9) (w.alloc (.cells (madeCells #[.bool false] 9) 4)) := by
  obtain ⟨i0, hi, hz0, hz1, hz2⟩ := info_parts bool_info
  have hr := run_make (P := Try.prog) w 23 4 i0 (.bool false) Try.underlying23 hi hz0 .i64 .i64 9 9 (by omega) (Int.le_refl _) (by rw [hz2]; omega) (by omega)
  rw [hz1] at hr
  exact hr
theorem make9_lv (w : World) {lo : Nat} (hlo : lo ≤ w.heap.size) : Lv (w.alloc (.cells (madeCells #[.bool false] 9) 4)) lo (.slice (some ⟨w.heap.size, 0, none⟩) 9 9) := by
  have hs : (madeCells #[Value.bool false] 9).size = 9 * 1 := by simp [madeCells]
  have h := World.ownsRow_lit (e := 4) (size := 1) w (madeCells #[Value.bool false] 9) 9 hlo (by simp [maxLen]) hs
  refine ⟨_, 9, _, List.replicate 9 false, rfl, ?_, by omega⟩
  unfold OwF
  have e : (madeCells #[Value.bool false] 9).toList = bvals (List.replicate 9 false) := by
    rw [toList_madeCells_one]
    rfl
  rw [← e]
  exact h
set_option maxHeartbeats 2000000 in
theorem drawClueOf (A : Option Addr) (n c : Nat) (bs : List Int) (w : World) (h : Code_ w A n c bs) :
    Calls Try.prog 15 #[.slice A n c] w (DrawnFl w) := by
  go_enter Try.func15, Try.ntmps15
  go_wp2_with fail
  refine (specOpen A c n bs w h.1 h.2.1 h.2.2).mono ?_
  rintro e w1 ⟨rfl, hr, hb⟩
  go_wp2_with fail
  refine (odd_any _ _ _ _ _ hr (Nat.le_refl _) (by omega) (by omega)).mono ?_
  rintro e W ⟨bo, rfl, _, hrW, hgW⟩
  have hbW := wBelow hb hgW (Nat.le_refl _)
  have hGW := hrW.lt
  clear hr hb hgW
  generalize hG : w.heap.size = G at *
  cases bo
  · go_wp2_with fail
    refine (l20Line_any G G _ W hrW (Nat.le_refl _) (by omega)).mono ?_
    rintro e w3 ⟨A1, n1, c1, L, rfl, ho, h1, h8, hr3, hg3⟩
    go_wp2
    go_ret
    exact ⟨A1, n1, c1, L, rfl, ho.rd, by omega, by rw [hG]; exact hbW.trans ((Below.refl _ _).grown hg3 (by omega) (fun k hk => by have := Option.some.inj hk; omega))⟩
  · go_wp2_with fail
    refine wp_region_E [8, 9, 10, 11, 12, 13, 14, 2] (fun D e w => DcJ W G D e w ∧ (D 4 = false → Rdr w G G 1)) (by rfl) (by kernel_rfl) (by kernel_rfl) (by simp) ?init ?step ?fin
    case init => exact ⟨⟨⟨rfl, rfl, rfl, Nat.le_refl _, fun _ _ _ => rfl⟩, nofun, nofun, nofun, nofun, nofun, nofun, nofun, nofun⟩, fun _ => hrW.below (Below.refl _ _).drew (by omega)⟩
    case step =>
      intro i o D a w1 K hi hoo hDi hdep hoff hJJ hK hKn
      obtain ⟨hJ, hR⟩ := hJJ
      have hsz := hJ.gr.size
      have e3 : a.eval (.tmp 3) = .pointer (some ⟨G, 0, none⟩) := hoff 3 (by decide)
      have hGw : G ≤ w1.heap.size := by omega
      have hiN : i < 8 := hi
      have : i = 0 ∨ i = 1 ∨ i = 2 ∨ i = 3 ∨ i = 4 ∨ i = 5 ∨ i = 6 ∨ i = 7 := by omega
      rcases this with rfl | rfl | rfl | rfl | rfl | rfl | rfl | rfl
      all_goals
        simp only [List.getElem?_toArray, List.getElem?_cons_zero, List.getElem?_cons_succ, Option.some.injEq] at hoo
        subst hoo
      · have hJ' := hJ.alloc hGW (.cells #[] 4)
        refine oper_valJ (v := .slice (some ⟨w1.heap.size, 0, none⟩) 0 0) (w' := w1.alloc (.cells #[] 4)) ?_ (hK _ _ _ rfl ⟨⟨hJ'.gr, fun _ => ⟨_, 0, _, [], rfl, OwF.made0 _ _ hsz, by omega⟩, hJ'.c1, hJ'.c2, hJ'.c3, hJ'.c4, hJ'.c5, hJ'.c6, hJ'.c7⟩, fun d => (hR d).alloc hGw _⟩)
        unfold execOp
        go_simp
      · have hJ' := hJ.alloc hGW (.cells (madeCells #[.bool false] 9) 4)
        refine oper_valJ (v := .slice (some ⟨w1.heap.size, 0, none⟩) 9 9) (w' := w1.alloc (.cells (madeCells #[.bool false] 9) 4)) ?_ (hK _ _ _ rfl ⟨⟨hJ'.gr, hJ'.c0, fun _ => make9_lv _ hsz, hJ'.c2, hJ'.c3, hJ'.c4, hJ'.c5, hJ'.c6, hJ'.c7⟩, fun d => (hR d).alloc hGw _⟩)
        have h9 := make9 w1
        unfold execOp
        go_simp
      · obtain ⟨A0, m0, k0, L0, q0, o0, n0⟩ := hJ.c0 (hdep ⟨0, .data⟩ (by simp) rfl)
        obtain ⟨A1, m1, k1, L1, q1, o1, n1⟩ := hJ.c1 (hdep ⟨1, .data⟩ (by simp) rfl)
        have hJ' := hJ.alloc hGW (.cells #[.slice A0 m0 k0, .slice A1 m1 k1] 23)
        refine oper_valJ (v := .slice (some ⟨w1.heap.size, 0, none⟩) 2 2) (w' := w1.alloc (.cells #[.slice A0 m0 k0, .slice A1 m1 k1] 23)) ?_ (hK _ _ _ rfl ⟨⟨hJ'.gr, hJ'.c0, hJ'.c1, fun _ => ⟨w1.heap.size, _, _, rfl, hsz, by simp, heap_alloc_new _ _, Lv.alloc ⟨A0, m0, k0, L0, rfl, o0, n0⟩ _, Lv.alloc ⟨A1, m1, k1, L1, rfl, o1, n1⟩ _⟩, hJ'.c3, hJ'.c4, hJ'.c5, hJ'.c6, hJ'.c7⟩, fun d => (hR d).alloc hGw _⟩)
        have q0' : a.tmps[8]?.getD undef = .slice A0 m0 k0 := by rw [← Array.getD_eq_getD_getElem?]; exact q0
        have q1' : a.tmps[9]?.getD undef = .slice A1 m1 k1 := by rw [← Array.getD_eq_getD_getElem?]; exact q1
        unfold execOp
        go_simp
      · refine oper_valJ (v := .pointer (some ⟨G, 0, none⟩)) (w' := w1) ?_ (hK _ _ _ rfl ⟨⟨hJ.gr, hJ.c0, hJ.c1, hJ.c2, fun _ => rfl, hJ.c4, hJ.c5, hJ.c6, hJ.c7⟩, hR⟩)
        unfold execOp
        simp only [e3]
        go_simp
      · have p := hJ.c3 (hdep ⟨3, .data⟩ (by simp) rfl)
        refine oper_callJ (f := 41) (args := #[.pointer (some ⟨G, 0, none⟩), .int .i64 2]) ?_ (pick_any G G 1 2 w1 (hR hDi) (Nat.le_refl _) (by omega)) ?_
        · unfold execOp
          go_simp
          exact by simpa [Act.eval] using p
        · rintro e w2 ⟨v, rfl, ⟨v0, v1, _⟩, hr2, hg2⟩
          have hJ' := hJ.mono hg2 hGW
          have v2 := v1 (by omega)
          obtain ⟨u, rfl⟩ := Int.eq_ofNat_of_zero_le v0
          exact ⟨_, rfl, hK _ _ _ rfl ⟨⟨hJ'.gr, hJ'.c0, hJ'.c1, hJ'.c2, hJ'.c3, fun _ => ⟨u, rfl, by omega⟩, hJ'.c5, hJ'.c6, hJ'.c7⟩, nofun⟩⟩
      · obtain ⟨g, v0, v1, q1, q2, q3, q4, q5, q6⟩ := hJ.c2 (hdep ⟨2, .data⟩ (by simp) rfl)
        obtain ⟨u, r1, r2⟩ := hJ.c4 (hdep ⟨4, .data⟩ (by simp) rfl)
        have uI : (u : Int) < 2 := by omega
        refine oper_valJ (v := .pointer (some ⟨g, u, none⟩)) (w' := w1) ?_ (hK _ _ _ rfl ⟨⟨hJ.gr, hJ.c0, hJ.c1, hJ.c2, hJ.c3, hJ.c4, fun _ => ⟨g, u, v0, v1, rfl, r2, q2, q3, q4, q5, q6⟩, hJ.c6, hJ.c7⟩, hR⟩)
        unfold execOp
        simp only [q1, r1]
        go_simp
      · obtain ⟨g, u, v0, v1, q1, q0, q2, q3, q4, q5, q6⟩ := hJ.c5 (hdep ⟨5, .data⟩ (by simp) rfl)
        have hcell : ∃ v, w1.cell? ⟨g, u, none⟩ = some v ∧ Lv w1 W.heap.size v := by
          have : u = 0 ∨ u = 1 := by omega
          rcases this with rfl | rfl
          · exact ⟨v0, (cell_of_row _ _ 0 _ _ (0, 0) q4).trans rfl, q5⟩
          · exact ⟨v1, (cell_of_row _ _ 1 _ _ (0, 0) q4).trans rfl, q6⟩
        obtain ⟨v, hc, hv⟩ := hcell
        refine oper_valJ (v := v) (w' := w1) ?_ (hK _ _ _ rfl ⟨⟨hJ.gr, hJ.c0, hJ.c1, hJ.c2, hJ.c3, hJ.c4, hJ.c5, fun _ => hv, hJ.c7⟩, hR⟩)
        unfold execOp
        simp only [q1]
        go_simp
      · obtain ⟨A0, m0, k0, L0, q0, o0, n0⟩ := hJ.c6 (hdep ⟨6, .data⟩ (by simp) rfl)
        refine oper_valJ (v := .slice A0 m0 k0) (w' := w1) ?_ (hK _ _ _ rfl ⟨⟨hJ.gr, hJ.c0, hJ.c1, hJ.c2, hJ.c3, hJ.c4, hJ.c5, hJ.c6, fun _ => ⟨A0, m0, k0, L0, rfl, o0, n0⟩⟩, hR⟩)
        unfold execOp
        simp only [q0]
        go_simp
    case fin =>
      intro D a w2 hall hdf htm hJJ
      obtain ⟨A0, m0, k0, L0, q0, o0, n0⟩ := hJJ.1.c7 (hall 7 (by decide))
      have hgr := hJJ.1.gr
      have r2 : a.tmps.getD 2 undef = .slice A0 m0 k0 := q0
      obtain ⟨v8, r8⟩ : ∃ v, a.tmps.getD 8 undef = v := ⟨_, rfl⟩
      obtain ⟨v9, r9⟩ : ∃ v, a.tmps.getD 9 undef = v := ⟨_, rfl⟩
      obtain ⟨v10, r10⟩ : ∃ v, a.tmps.getD 10 undef = v := ⟨_, rfl⟩
      obtain ⟨v11, r11⟩ : ∃ v, a.tmps.getD 11 undef = v := ⟨_, rfl⟩
      obtain ⟨v12, r12⟩ : ∃ v, a.tmps.getD 12 undef = v := ⟨_, rfl⟩
      obtain ⟨v13, r13⟩ : ∃ v, a.tmps.getD 13 undef = v := ⟨_, rfl⟩
      obtain ⟨v14, r14⟩ : ∃ v, a.tmps.getD 14 undef = v := ⟨_, rfl⟩
      simp only [List.foldl_cons, List.foldl_nil, r2, r8, r9, r10, r11, r12, r13, r14, List.setIfInBounds_toArray, List.set_cons_succ, List.set_cons_zero] at htm
      clear hJJ hall r2 r8 r9 r10 r11 r12 r13 r14 q0
      obtain ⟨tm, df⟩ := a
      dsimp only at htm hdf
      subst htm hdf
      go_wp2
      go_ret
      exact ⟨A0, m0, k0, L0, rfl, o0.rd, n0, by rw [hG]; exact hbW.trans ((Below.refl _ _).grown hgr (by omega) (fun k hk => by have := Option.some.inj hk; omega))⟩
end Go.Proofs.Ytigkcgfhiakikaa
