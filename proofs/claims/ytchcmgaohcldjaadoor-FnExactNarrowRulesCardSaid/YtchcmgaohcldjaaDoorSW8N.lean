import Derived.Test.YtchcmgaohcldjaaDoorSW4E
import Derived.Deep.Slices
import Derived.Deep.Fields
import Derived.Lib.SmallJoins
import Derived.ChangeSame
import Derived.Deep.RegionWith
import Derived.Deep.CutRange
import Derived.Deep.CutBlock
set_option maxRecDepth 8000
namespace Go.Proofs.YtchcmgaohcldjaaDoor
open Go.ChangeShapes Go.WideShapes Go.ChangeAt Go.RowKit Go.Deep
/-! A slice of rules that came in, as it reads. -/
theorem list_of {P : Nat → RuleM → Prop} : ∀ n, (∀ i, i < n → ∃ r, P i r) → ∃ rs : List RuleM, rs.length = n ∧ ∀ i, i < n → P i (rat rs i) := by
  intro n
  induction n with
  | zero => intro _; exact ⟨[], rfl, fun i hi => absurd hi (by omega)⟩
  | succ n ih =>
    intro h
    obtain ⟨rs, hl, hp⟩ := ih (fun i hi => h i (by omega))
    obtain ⟨r, hr⟩ := h n (by omega)
    refine ⟨rs ++ [r], by simp [hl], fun i hi => ?_⟩
    by_cases e : i < n
    · have : rat (rs ++ [r]) i = rat rs i := by simp [rat, List.getD_eq_getElem?_getD, List.getElem?_append_left (by omega : i < rs.length)]
      rw [this]; exact hp i e
    · obtain rfl : i = n := by omega
      have : rat (rs ++ [r]) i = r := by simp [rat, List.getD_eq_getElem?_getD, ← hl]
      rw [this]; exact hr
theorem add_plain (b off i : Nat) : (⟨b, off, none⟩ : Addr).add i = ⟨b, off + i, none⟩ := by unfold Addr.add; split <;> simp_all
theorem open_rules {H : Type} {enc : TypeId × Value → H} {W : World} {base : Nat} {held : Bool} {fs : Array Field} {fuel : Nat} {v : Value} {x : DataW H × List MemPlace}
    (he : Tryd.prog.underlying 56 = some (.struct fs)) (hone : oneCellFields Tryd.prog fs = true) (hC : Tryd.prog.cellsOf 56 = 3) (hfs : fs.size = 3)
    (t0 : (fs[0]?).map (·.type) = some 3) (t1 : (fs[1]?).map (·.type) = some 22) (t2 : (fs[2]?).map (·.type) = some 3) (h1 : Tryd.prog.cellsOf 3 = 1)
    (h : DataW.trod enc Tryd.prog W base (fun _ => true) held fuel 23 [v] = some x) :
    ∃ A len cap rs, v = .slice A len cap ∧ RdRx W W.heap.size A len rs ∧ len ≤ 9223372036854775807 := by
  rcases open_slice Tryd.underlying23 h with ⟨hcs, _⟩ | ⟨a, len, cap, m, nf, D, Pl, hcs, hb, hl, hm, hmm, _, hi⟩
  · injection hcs with hcs
    exact ⟨none, 0, 0, [], hcs, ⟨rfl, fun hn => absurd hn (by omega)⟩, by omega⟩
  · injection hcs with hcs
    have hlm : len ≤ m := by rw [hmm]; simpa using hl
    have hmax : len ≤ 9223372036854775807 := by simp only [maxLen] at hm; omega
    -- one element
    have one : ∀ i, i < len → ∃ (k : Int) (A' : Option Addr) (l c : Nat) (zs : List Int) (u : Int), W.cell? (a.add (i * 3)) = some (.int .i64 k) ∧ W.cell? (a.add (i * 3 + 1)) = some (.slice A' l c) ∧ W.cell? (a.add (i * 3 + 2)) = some (.int .i64 u) ∧ IsRow .i64 W A' l c zs := fun i hil => by
      obtain ⟨cs', hc, ht⟩ := hi i (by omega)
      rw [hC] at hc
      obtain ⟨ys, n', _, _, hlen, hyl, hf⟩ := DataW.trod_struct he ht
      obtain ⟨_, hcl, hat⟩ := World.cells?_some hc
      match cs', hcl with
      | [c0, c1, c2], _ =>
        obtain ⟨f0, hf0⟩ : ∃ f, fs[0]? = some f := ⟨fs[0], Array.getElem?_eq_getElem (by omega)⟩
        obtain ⟨f1, hf1⟩ : ∃ f, fs[1]? = some f := ⟨fs[1], Array.getElem?_eq_getElem (by omega)⟩
        obtain ⟨f2, hf2⟩ : ∃ f, fs[2]? = some f := ⟨fs[2], Array.getElem?_eq_getElem (by omega)⟩
        obtain ⟨o0, k0⟩ := hone_of hone 0 f0 hf0
        obtain ⟨o1, k1⟩ := hone_of hone 1 f1 hf1
        obtain ⟨o2, k2⟩ := hone_of hone 2 f2 hf2
        have e0 := hf 0 f0 hf0
        have e1 := hf 1 f1 hf1
        have e2 := hf 2 f2 hf2
        rw [o0, k0] at e0
        rw [o1, k1] at e1
        rw [o2, k2] at e2
        rw [hf0] at t0
        rw [hf1] at t1
        rw [hf2] at t2
        have t0' : f0.type = 3 := by simpa using t0
        have t1' : f1.type = 22 := by simpa using t1
        have t2' : f2.type = 3 := by simpa using t2
        rw [t0'] at e0
        rw [t1'] at e1
        rw [t2'] at e2
        have g0 : DataW.trod enc Tryd.prog W base (fun _ => true) held n' 3 [c0] = some (ys[0]'(by omega)) := by rw [← List.getElem?_eq_getElem]; simpa using e0
        have g1 : DataW.trod enc Tryd.prog W base (fun _ => true) held n' 22 [c1] = some (ys[1]'(by omega)) := by rw [← List.getElem?_eq_getElem]; simpa using e1
        have g2 : DataW.trod enc Tryd.prog W base (fun _ => true) held n' 3 [c2] = some (ys[2]'(by omega)) := by rw [← List.getElem?_eq_getElem]; simpa using e2
        obtain ⟨k, ek, _⟩ := DataW.trod_int Tryd.underlying3 g0
        obtain ⟨u, eu, _⟩ := DataW.trod_int Tryd.underlying3 g2
        injection ek with ek
        injection eu with eu
        have a0 := hat 0 (by omega)
        have a1 := hat 1 (by omega)
        have a2 := hat 2 (by omega)
        rw [add_add] at a0 a1 a2
        obtain ⟨A', l, c, zs, ez, hz⟩ : ∃ A' l c zs, c1 = .slice A' l c ∧ IsRow .i64 W A' l c zs := by
          rcases open_ints Tryd.underlying22 Tryd.underlying3 h1 g1 with ⟨hcs, _⟩ | ⟨x, l, c, zs, hcs, _, hl, hm, hz, _, hcell, hwz⟩
          · injection hcs with hcs
            exact ⟨none, 0, 0, [], hcs, .inl ⟨rfl, rfl, rfl, rfl⟩⟩
          · injection hcs with hcs
            exact ⟨_, _, _, zs, hcs, .inr ⟨_, rfl, hl, hm, by simpa using hz, hcell, hwz⟩⟩
        exact ⟨k, A', l, c, zs, u, by rw [ek] at a0; simpa using a0, by rw [ez] at a1; simpa using a1, by rw [eu] at a2; simpa using a2, hz⟩
    by_cases h0 : len = 0
    · subst h0
      exact ⟨some a, 0, cap, [], hcs, ⟨rfl, fun hn => absurd hn (by omega)⟩, hmax⟩
    · obtain ⟨k, A', l, c, zs, u, q0, q1, q2, q3⟩ := one 0 (by omega)
      obtain ⟨b, off, spot⟩ := a
      have hspot : spot = none := by simpa [Addr.add] using World.cell?_spot q0
      subst hspot
      obtain ⟨rs, hrl, hrs⟩ := list_of (P := fun i r => ∃ A' c', W.cell? ⟨b, off + i * 3, none⟩ = some (.int .i64 r.k) ∧ W.cell? ⟨b, off + i * 3 + 1, none⟩ = some (.slice A' r.xs.length c') ∧ W.cell? ⟨b, off + i * 3 + 2, none⟩ = some (.int .i64 r.v) ∧ Rd W W.heap.size A' r.xs.length r.xs ∧ r.xs.length ≤ 9223372036854775807) len (fun i hil => by
        obtain ⟨k, A', l, c, zs, u, q0, q1, q2, q3⟩ := one i hil
        have hrd := rd_of_row q3
        have hll := hrd.1
        rw [add_plain] at q0 q1 q2
        exact ⟨⟨k, zs.take l, u⟩, A', c, q0, by rw [hll, Nat.add_assoc]; exact q1, by rw [Nat.add_assoc]; exact q2, by rw [hll]; exact hrd, by rw [hll]; exact row_max q3⟩)
      exact ⟨_, _, _, rs, hcs, ⟨hrl, fun _ => ⟨b, off, rfl, cell_lt q0, hrs⟩⟩, hmax⟩
end Go.Proofs.YtchcmgaohcldjaaDoor
set_option maxRecDepth 8000
namespace Go.Proofs.YtchcmgaohcldjaaDoor
open Go.ChangeShapes Go.WideShapes Go.ChangeAt Go.RowKit
theorem Ow.far8 {w w' : World} {lo n c : Nat} {A : Option Addr} {xs : List Int} (h : Ow w lo A n c xs) {r : Option Nat} (hg : w.grownBy w' r) (hr : ∀ g, r = some g → g < lo) : Ow w' lo A n c xs :=
  World.ownsRow.kept h (row := r) hg (by
    cases e : (Value.slice A n c).ownBlock with
    | none => exact .inl rfl
    | some g => exact .inr (fun e2 => by have h1 := h.own_lo g e; have h2 := hr g e2.symm; omega))
theorem nrL_len8 {s : Int} {gi m : List Int} {rs : List RuleM} : (nrL s gi rs m).length ≤ m.length := by
  by_cases h : (pvB s gi rs && mvd m s) = true
  · simp only [Bool.and_eq_true] at h
    rw [(nr_sub h.1 h.2).1]; exact Nat.le_refl _
  · unfold nrL; rw [if_neg h]; simp
theorem nbL_len8 {s t : Int} {gi m : List Int} {rs : List RuleM} : (nbL s gi rs m t).length ≤ m.length := by
  by_cases h : (pvB s gi rs && mvd m s) = true
  · simp only [Bool.and_eq_true] at h
    by_cases ht : 1 ≤ t ∧ t ≤ 4
    · rw [(nb_sub h.1 h.2 ht.1 ht.2).1]; exact Nat.le_refl _
    · have h1 : ¬ t = 1 := by omega
      have h2 : ¬ t = 2 := by omega
      have h3 : ¬ t = 3 := by omega
      have h4 : ¬ t = 4 := by omega
      unfold nbL
      simp [h1, h2, h3, h4]
  · unfold nbL; rw [if_neg h]; simp
theorem naL_len8 {s most : Int} {gi m : List Int} {rs : List RuleM} : (naL s gi rs m most).length ≤ m.length := naL_len
set_option maxHeartbeats 4000000 in
theorem exactNarrowRules_walk (s : Int) (Ag : Option Addr) (cg ng : Nat) (gi : List Int) (Ar : Option Addr) (cr nr : Nat) (rs : List RuleM) (A : Option Addr) (c nm : Nat) (m : List Int) (w : World) (hgi : Rd w w.heap.size Ag ng gi) (hgm : ng ≤ 9223372036854775807) (hr : RdRx w w.heap.size Ar nr rs) (hrm : nr ≤ 9223372036854775807) (b_s : -9223372036854775808 ≤ s ∧ s ≤ 9223372036854775807) (hmm : Rd w w.heap.size A nm m) (hm64 : B64 m) (hT : Tz w) :
    Calls Tryd.prog 3 #[.agg #[.int .i64 s, .slice Ag ng cg, .slice Ar nr cr], .slice A nm c] w fun e w' => e = .returned (.bool true) ∧ Below w.heap.size w w' := by
  have hx0 := pbox_new w s Ag ng cg Ar nr cr 25
  have hb0 : Below w.heap.size w (w.alloc (.cells #[.int .i64 s, .slice Ag ng cg, .slice Ar nr cr] 25)) := (Below.refl _ _).alloc (Nat.le_refl _) _
  by_cases hn : nm ≤ 1048576
  · have hm : nm ≤ 1099511627776 := by omega
    have hs0 : (w.alloc (.cells #[.int .i64 s, .slice Ag ng cg, .slice Ar nr cr] 25)).heap.size = w.heap.size + 1 := by simp
    obtain ⟨W, hW⟩ : ∃ W, w.alloc (.cells #[.int .i64 s, .slice Ag ng cg, .slice Ar nr cr] 25) = W := ⟨_, rfl⟩
    rw [hW] at hx0 hb0 hs0
    have HX := Lib.hid (fun w' (hb : Below W.heap.size W w') => hx0.below (by omega : w.heap.size < W.heap.size) hb)
    have HB := Lib.hid (fun w' (hb : Below W.heap.size W w') => step hb0 hb)
    have HMS := Lib.hid (fun w' (hb : Below W.heap.size W w') => toIntS_any A c nm w.heap.size m w' (hmm.below (step hb0 hb)) (step hb0 hb).size hm)
    have hrl := Lib.hid hr.1
    have hml := Lib.hid hmm.1
    have HSZ := Lib.hid (fun w' (hb : Below w.heap.size w w') => szPuzzle_any s Ag cg ng Ar cr nr w.heap.size rs 1048576 w' hgm (hr.below hb) hb.size hrm (by omega) (by omega))
    have HSZ0 := Lib.hid (HSZ.out _ hb0)
    have HTZ := Lib.hid (fun w' (hb : Below W.heap.size W w') => hT.below hT.lt (step hb0 hb))
    obtain ⟨a0, a1, a2⟩ := id hx0
    have HW := Lib.hid hW
    clear hW
    go_enter Tryd.func3, Tryd.ntmps3
    go_wp2_with fail
    rw [HW.out]
    refine HSZ0.out.mono ?_
    rintro e w1 ⟨r, rfl, hb1, hr1⟩
    rcases hr1 with rfl | ⟨r0, hl1, hl2, hl3⟩
    · go_wp2
      go_ret
      exact ⟨rfl, HB.out _ hb1⟩
    have hrneg : ¬ r < 0 := by omega
    have hng20 : ng ≤ 1048576 := by omega
    have hmg : ng ≤ 1099511627776 := by omega
    have hmr : nr ≤ 1099511627776 := by omega
    have hnr : nr ≤ 1048576 := by omega
    have HL20 := Lib.hid (show ∀ i, i < nr → (rat rs i).xs.length ≤ 1048576 from fun i hi => by have := hl3 i hi; omega)
    have HRS := Lib.hid (fun w' (hb : Below w.heap.size w w') => (hr.below hb).small (fun i hi => by have := hl3 i hi; omega))
    have HTP := Lib.hid (fun w' (hb : Below w.heap.size w w') => toPuzzle_any s Ag cg ng w.heap.size gi Ar cr nr w.heap.size rs w' (hgi.below hb) hb.size hmg (HRS.out _ hb) hb.size hnr)
    clear hl1 hl2 hl3
    have hlen : (nrL s gi rs m).length ≤ 1048576 := by have := nrL_len8 (s := s) (gi := gi) (rs := rs) (m := m); rw [hml.out] at this; omega
    have hsame := same_refl (nrL s gi rs m)
    have hsamem := same_refl m
    obtain ⟨c0, c1, c2⟩ := HX.out _ hb1
    go_wp2_with fail
    refine (HTP.out _ (HB.out _ hb1)).mono ?_
    rintro e w2 ⟨A2, g2, rfl, ho2, hor2, hb2⟩
    have h02 := step hb1 hb2
    have hp2 : PGs w2 s A2 ng ng w2.heap.size gi (some ⟨g2, 0, none⟩) nr nr w2.heap.size rs := ⟨ho2.rd, Nat.le_refl _, hmg, hor2.rd hrl.out, Nat.le_refl _, hmr⟩
    go_wp2_with fail
    refine (HMS.out _ h02).mono ?_
    rintro e w2a ⟨rfl, ho2a, hb2a⟩
    have h02a := step h02 hb2a
    have hp2a := hp2.below hb2a
    go_wp2_with fail
    refine (specNarrowRules _ _ _ _ _ _ _ _ _ _ _ _ _ _ _ _ _ hp2a ho2a.rd (Nat.le_refl _) hm b_s).mono ?_
    rintro e w3 ⟨A0, cA0, rfl, ho0, hb3⟩
    have h03 := step h02a hb3
    have HR0 := Lib.hid (fun w' (hb : Below w3.heap.size w3 w') => ho0.rd.below hb)
    obtain ⟨d0, d1, d2⟩ := HX.out _ h03
    clear ho2 hor2 hp2 ho2a hp2a
    go_wp2_with fail
    refine (HTP.out _ (HB.out _ h03)).mono ?_
    rintro e w4 ⟨A4, g4, rfl, ho4, hor4, hb4⟩
    have hy4 := pbox_new w4 s A4 ng ng (some ⟨g4, 0, none⟩) nr nr 30
    have hb5 : Below w4.heap.size w4 (w4.alloc (.cells #[.int .i64 s, .slice A4 ng ng, .slice (some ⟨g4, 0, none⟩) nr nr] 30)) := (Below.refl _ _).alloc (Nat.le_refl _) _
    have hs5 : (w4.alloc (.cells #[.int .i64 s, .slice A4 ng ng, .slice (some ⟨g4, 0, none⟩) nr nr] 30)).heap.size = w4.heap.size + 1 := by simp
    obtain ⟨w5, hw5⟩ : ∃ w5, w4.alloc (.cells #[.int .i64 s, .slice A4 ng ng, .slice (some ⟨g4, 0, none⟩) nr nr] 30) = w5 := ⟨_, rfl⟩
    rw [hw5] at hy4 hb5 hs5
    have hpc4 : PGc w4 s A4 ng ng w4.heap.size gi (some ⟨g4, 0, none⟩) nr nr w4.heap.size rs := ⟨ho4.rd, Nat.le_refl _, hmg, hor4.rdc hrl.out, Nat.le_refl _, hmr⟩
    have HP4 := Lib.hid (fun w' (hb : Below w4.heap.size w4 w') => hpc4.below hb)
    have HY := Lib.hid (fun w' (hb : Below w5.heap.size w5 w') => hy4.below (by omega : w4.heap.size < w5.heap.size) hb)
    have h35 := step hb4 hb5
    have Hw5 := Lib.hid hw5
    have HMS5 := Lib.hid (HMS.out _ (step h03 h35))
    have HO4 := Lib.hid ho4
    have HOR4 := Lib.hid hor4
    obtain ⟨e0, e1, e2⟩ := id hy4
    clear hw5 hpc4 ho4 hor4
    go_wp2_with fail
    rw [Hw5.out]
    refine HMS5.out.mono ?_
    rintro e w5a ⟨rfl, ho5a, hb5a⟩
    rw [hs5] at ho5a
    have h55 := hb5a
    have h35a := step h35 h55
    have HI5 := Lib.hid ((implNarrowRules _ _ _ _ _ _ _ _ _ _ _ _ nm _ _ _ _ (HP4.out _ (step hb5 h55)) ho5a.rd (Nat.le_refl _) hm64 hm (HTZ.out _ (step h03 h35a)) b_s))
    have HO5 := Lib.hid (fun w' (hb : Below w5a.heap.size w5a w') => ho5a.below hb)
    have HX1 := Lib.hid (fun g hg => ho5a.own_hi g hg)
    obtain ⟨e0, e1, e2⟩ := HY.out _ h55
    go_wp2_with fail
    refine HI5.out.mono ?_
    rintro e w6 ⟨A1, cA1, rfl, hog, hb6⟩
    have h56 := step h55 hb6
    have h36 := step h35a hb6
    obtain ⟨f0, f1, f2⟩ := HX.out _ (step h03 h36)
    obtain ⟨g0, g1, g2'⟩ := HY.out _ h56
    have h5a6 := hb6
    go_wp2_with fail
    refine (eqIntS_any _ _ _ _ _ _ _ _ _ _ _ hog.rd (HR0.out _ h36) (by omega)).mono ?_
    rintro e w8 ⟨rfl, hb8⟩
    have h38 := step h36 hb8
    have h58 := step h56 hb8
    have h5a8 := step h5a6 hb8
    have hog8 := hog.below hb8
    obtain ⟨i0, i1, i2⟩ := HX.out _ (step h03 h38)
    obtain ⟨j0, j1, j2⟩ := HY.out _ h58
    have hBA : Below w.heap.size w w8.drew := (HB.out _ (step h03 h38)).drew
    have hP8 := (HP4.out _ (step hb5 h58)).rd
    clear a0 a1 a2 c0 c1 c2 d0 d1 d2 e0 e1 e2 f0 f1 f2 g0 g1 g2'
    go_upto_region 13 with fail
    go_cut [42] from 14 (fun bv wx => bv = .bool false ∧ Below w8.heap.size w8 wx)
    case first =>
      go_wp2
      go_region_with (first | (go_at_call 7; (with_reducible refine (HTP.out _ ?hd).mono ?_); (case hd => exact hBA); rintro e w7 ⟨A7, g7, rfl, ho8, hor8, hb8d⟩; have hb8' := below_undrew hb8d; clear hb8d; obtain ⟨q0, q1, q2⟩ := HY.out _ (step h58 hb8'); have hp8 := hP8.below hb8'; have hgr8 := ho8.rd; have hrr8 := hor8.rd hrl.out) | (go_at_call 11; (with_reducible refine (eqPuzzle_any s A4 A7 ng ng ng _ _ gi (some ⟨g4, 0, none⟩) (some ⟨g7, 0, none⟩) nr nr nr _ _ rs _ hp8.g hp8.gB hmg hgr8 ?hB hp8.r hrr8 hp8.rB ?hB2 hmr).mono ?_); (case hB => exact Nat.le_refl _); (case hB2 => exact Nat.le_refl _); rintro e w8' ⟨rfl, hb9⟩))
      all_goals
        go_wp2
        go_meet
        case rel => first | exact ⟨rfl, step hb8' hb9⟩ | exact ⟨by trivial, step hb8' hb9⟩ | exact step hb8' hb9
    case rest =>
      obtain ⟨rfl, hbx⟩ := hcut
      have h3c := step h38 hbx
      have h5c := step h58 hbx
      have h5ac := step h5a8 hbx
      have hogc := hog8.below hbx
      obtain ⟨i0, i1, i2⟩ := HX.out _ (step h03 h3c)
      obtain ⟨j0, j1, j2⟩ := HY.out _ h5c
      go_wp2_with fail
      refine (HMS.out _ (step h03 h3c)).mono ?_
      rintro e w8b ⟨rfl, ho8b, hb8b⟩
      have h5ab := step h5ac hb8b
      go_wp2_with fail
      refine (eqIntS_any _ _ _ _ _ _ _ _ _ _ _ (HO5.out _ h5ab).rd ho8b.rd hm).mono ?_
      rintro e w8c ⟨rfl, hb8c⟩
      have h3d := step (step h3c hb8b) hb8c
      have h5d := step (step h5c hb8b) hb8c
      have h5ad := step h5ab hb8c
      have hogd := (hogc.below hb8b).below hb8c
      obtain ⟨j0, j1, j2⟩ := HY.out _ h5d
      have HMk := Lib.hid (markPuzzle_any s A4 ng ng g4 nr nr w3.heap.size w4.heap.size gi rs 1 w4 w8c HO4.out HOR4.out (Nat.le_refl _) (step hb5 h5d) hng20 hnr HL20.out (by omega) (by omega))
      have hwc := h3d.size
      have hw5s := h5d.size
      have hw5as := h55.size
      go_wp2_with fail
      refine HMk.out.mono ?_
      rintro e w9 ⟨⟨q, rfl, q0, q1⟩, hbm⟩
      have h39 : Below w3.heap.size w3 w9 := h3d.trans (hbm.below (Nat.le_refl _) hwc)
      have hog9 := hogd.bt hbm (by have := h35a.size; omega)
      have hom9 := (HO5.out _ h5ad).bt hbm (by omega)
      clear hbm hogc hog8 hog hogd
      go_wp2_with fail
      refine (markIntS_any _ _ _ _ _ _ _ hom9 (by omega) (by omega) (by omega)).mono ?_
      rintro e w9b ⟨rfl, _, hg9b⟩
      have hw5al := h35.size
      have h39b : Below w3.heap.size w3 w9b := h39.trans (below_own hg9b (fun g hg => by have q1 := hom9.own_lo g hg; omega) h39.size)
      have hog9b := hog9.far8 hg9b HX1.out
      have hkn : ¬ q + (nm : Int) < 0 := by omega
      clear hom9 hg9b hog9
      go_wp2_with fail
      refine (eqIntS_any _ _ _ _ _ _ _ _ _ _ _ hog9b.rd (HR0.out _ h39b) (by omega)).mono ?_
      rintro e w10 ⟨rfl, hb10⟩
      have h310 := step h39b hb10
      have hog10 := hog9b.below hb10
      go_wp2_with fail
      refine (markIntS_any _ _ _ _ _ _ _ hog10 (by omega) (by omega) (by omega)).mono ?_
      rintro e w11 ⟨rfl, hog11, hg11⟩
      rw [marked_all] at hog11
      have h311 : Below w3.heap.size w3 w11 := h310.trans (below_own hg11 (fun g hg => by have q1 := hog10.own_lo g hg; omega) h310.size)
      clear hg11
      go_wp2_with fail
      refine (heldIntS_seq _ _ _ _ _ _ hog11.rd (by omega) (by omega) (by omega)).mono ?_
      rintro e w11' ⟨rfl, rfl⟩
      obtain ⟨k0, k1, k2⟩ := HX.out _ (step h03 h311)
      go_wp2_with fail
      refine (HTP.out _ (HB.out _ (step h03 h311))).mono ?_
      rintro e w12 ⟨A12, g12, rfl, ho12, hor12, hb12⟩
      have hpc12 : PGc w12 s A12 ng ng w12.heap.size gi (some ⟨g12, 0, none⟩) nr nr w12.heap.size rs := ⟨ho12.rd, Nat.le_refl _, hmg, hor12.rdc hrl.out, Nat.le_refl _, hmr⟩
      have h312 := step h311 hb12
      go_wp2_with fail
      refine (HMS.out _ (step h03 h312)).mono ?_
      rintro e w12b ⟨rfl, ho12b, hb12b⟩
      have h312b := step h312 hb12b
      have hpc12b := hpc12.below hb12b
      have HI13 := Lib.hid ((implNarrowRules _ _ _ _ _ _ _ _ _ _ _ _ nm _ _ _ _ hpc12b ho12b.rd (Nat.le_refl _) hm64 hm (HTZ.out _ (step h03 h312b)) b_s))
      go_wp2_with fail
      refine HI13.out.mono ?_
      rintro e w13 ⟨A13, c13, rfl, ho13, hb13⟩
      have h313 := step h312b hb13
      go_wp2_with fail
      refine (eqIntS_any _ _ _ _ _ _ _ _ _ _ _ ho13.rd (HR0.out _ h313) (by omega)).mono ?_
      rintro e w14 ⟨rfl, hb14⟩
      have h314 := step h313 hb14
      go_wp2_with fail
      refine (heldIntS_seq _ _ _ _ _ _ ((((hog11.below hb12).below hb12b).below hb13).below hb14).rd (by omega) (by omega) (by omega)).mono ?_
      rintro e w15 ⟨rfl, rfl⟩
      go_wp2
      go_ret
      exact ⟨rfl, HB.out _ (step h03 h314)⟩
  · go_enter Tryd.func3, Tryd.ntmps3
    go_wp2
    go_ret
    exact ⟨rfl, hb0⟩
set_option maxHeartbeats 4000000 in
theorem exactNarrowBy_walk (s : Int) (Ag : Option Addr) (cg ng : Nat) (gi : List Int) (Ar : Option Addr) (cr nr : Nat) (rs : List RuleM) (A : Option Addr) (c nm : Nat) (m : List Int) (t : Int) (w : World) (hgi : Rd w w.heap.size Ag ng gi) (hgm : ng ≤ 9223372036854775807) (hr : RdRx w w.heap.size Ar nr rs) (hrm : nr ≤ 9223372036854775807) (b_s : -9223372036854775808 ≤ s ∧ s ≤ 9223372036854775807) (hmm : Rd w w.heap.size A nm m) (hm64 : B64 m) (_b : -9223372036854775808 ≤ t ∧ t ≤ 9223372036854775807) (hT : Tz w) :
    Calls Tryd.prog 4 #[.agg #[.int .i64 s, .slice Ag ng cg, .slice Ar nr cr], .slice A nm c, .int .i64 t] w fun e w' => e = .returned (.bool true) ∧ Below w.heap.size w w' := by
  have hx0 := pbox_new w s Ag ng cg Ar nr cr 25
  have hb0 : Below w.heap.size w (w.alloc (.cells #[.int .i64 s, .slice Ag ng cg, .slice Ar nr cr] 25)) := (Below.refl _ _).alloc (Nat.le_refl _) _
  by_cases hn : nm ≤ 1048576
  · have hm : nm ≤ 1099511627776 := by omega
    have hs0 : (w.alloc (.cells #[.int .i64 s, .slice Ag ng cg, .slice Ar nr cr] 25)).heap.size = w.heap.size + 1 := by simp
    obtain ⟨W, hW⟩ : ∃ W, w.alloc (.cells #[.int .i64 s, .slice Ag ng cg, .slice Ar nr cr] 25) = W := ⟨_, rfl⟩
    rw [hW] at hx0 hb0 hs0
    have HX := Lib.hid (fun w' (hb : Below W.heap.size W w') => hx0.below (by omega : w.heap.size < W.heap.size) hb)
    have HB := Lib.hid (fun w' (hb : Below W.heap.size W w') => step hb0 hb)
    have HMS := Lib.hid (fun w' (hb : Below W.heap.size W w') => toIntS_any A c nm w.heap.size m w' (hmm.below (step hb0 hb)) (step hb0 hb).size hm)
    have hrl := Lib.hid hr.1
    have hml := Lib.hid hmm.1
    have HSZ := Lib.hid (fun w' (hb : Below w.heap.size w w') => szPuzzle_any s Ag cg ng Ar cr nr w.heap.size rs 1048576 w' hgm (hr.below hb) hb.size hrm (by omega) (by omega))
    have HSZ0 := Lib.hid (HSZ.out _ hb0)
    have HTZ := Lib.hid (fun w' (hb : Below W.heap.size W w') => hT.below hT.lt (step hb0 hb))
    obtain ⟨a0, a1, a2⟩ := id hx0
    have HW := Lib.hid hW
    clear hW
    go_enter Tryd.func4, Tryd.ntmps4
    go_wp2_with fail
    rw [HW.out]
    refine HSZ0.out.mono ?_
    rintro e w1 ⟨r, rfl, hb1, hr1⟩
    rcases hr1 with rfl | ⟨r0, hl1, hl2, hl3⟩
    · go_wp2
      go_ret
      exact ⟨rfl, HB.out _ hb1⟩
    have hrneg : ¬ r < 0 := by omega
    have hng20 : ng ≤ 1048576 := by omega
    have hmg : ng ≤ 1099511627776 := by omega
    have hmr : nr ≤ 1099511627776 := by omega
    have hnr : nr ≤ 1048576 := by omega
    have HL20 := Lib.hid (show ∀ i, i < nr → (rat rs i).xs.length ≤ 1048576 from fun i hi => by have := hl3 i hi; omega)
    have HRS := Lib.hid (fun w' (hb : Below w.heap.size w w') => (hr.below hb).small (fun i hi => by have := hl3 i hi; omega))
    have HTP := Lib.hid (fun w' (hb : Below w.heap.size w w') => toPuzzle_any s Ag cg ng w.heap.size gi Ar cr nr w.heap.size rs w' (hgi.below hb) hb.size hmg (HRS.out _ hb) hb.size hnr)
    clear hl1 hl2 hl3
    have hlen : (nbL s gi rs m t).length ≤ 1048576 := by have := nbL_len8 (s := s) (gi := gi) (rs := rs) (m := m) (t := t); rw [hml.out] at this; omega
    have hsame := same_refl (nbL s gi rs m t)
    have hsamem := same_refl m
    obtain ⟨c0, c1, c2⟩ := HX.out _ hb1
    go_wp2_with fail
    refine (HTP.out _ (HB.out _ hb1)).mono ?_
    rintro e w2 ⟨A2, g2, rfl, ho2, hor2, hb2⟩
    have h02 := step hb1 hb2
    have hp2 : PGs w2 s A2 ng ng w2.heap.size gi (some ⟨g2, 0, none⟩) nr nr w2.heap.size rs := ⟨ho2.rd, Nat.le_refl _, hmg, hor2.rd hrl.out, Nat.le_refl _, hmr⟩
    go_wp2_with fail
    refine (HMS.out _ h02).mono ?_
    rintro e w2a ⟨rfl, ho2a, hb2a⟩
    have h02a := step h02 hb2a
    have hp2a := hp2.below hb2a
    go_wp2_with fail
    refine (specNarrowBy _ _ _ _ _ _ _ _ _ _ _ _ _ _ _ _ t _ hp2a ho2a.rd (Nat.le_refl _) hm b_s).mono ?_
    rintro e w3 ⟨A0, cA0, rfl, ho0, hb3⟩
    have h03 := step h02a hb3
    have HR0 := Lib.hid (fun w' (hb : Below w3.heap.size w3 w') => ho0.rd.below hb)
    obtain ⟨d0, d1, d2⟩ := HX.out _ h03
    clear ho2 hor2 hp2 ho2a hp2a
    go_wp2_with fail
    refine (HTP.out _ (HB.out _ h03)).mono ?_
    rintro e w4 ⟨A4, g4, rfl, ho4, hor4, hb4⟩
    have hy4 := pbox_new w4 s A4 ng ng (some ⟨g4, 0, none⟩) nr nr 30
    have hb5 : Below w4.heap.size w4 (w4.alloc (.cells #[.int .i64 s, .slice A4 ng ng, .slice (some ⟨g4, 0, none⟩) nr nr] 30)) := (Below.refl _ _).alloc (Nat.le_refl _) _
    have hs5 : (w4.alloc (.cells #[.int .i64 s, .slice A4 ng ng, .slice (some ⟨g4, 0, none⟩) nr nr] 30)).heap.size = w4.heap.size + 1 := by simp
    obtain ⟨w5, hw5⟩ : ∃ w5, w4.alloc (.cells #[.int .i64 s, .slice A4 ng ng, .slice (some ⟨g4, 0, none⟩) nr nr] 30) = w5 := ⟨_, rfl⟩
    rw [hw5] at hy4 hb5 hs5
    have hpc4 : PGc w4 s A4 ng ng w4.heap.size gi (some ⟨g4, 0, none⟩) nr nr w4.heap.size rs := ⟨ho4.rd, Nat.le_refl _, hmg, hor4.rdc hrl.out, Nat.le_refl _, hmr⟩
    have HP4 := Lib.hid (fun w' (hb : Below w4.heap.size w4 w') => hpc4.below hb)
    have HY := Lib.hid (fun w' (hb : Below w5.heap.size w5 w') => hy4.below (by omega : w4.heap.size < w5.heap.size) hb)
    have h35 := step hb4 hb5
    have Hw5 := Lib.hid hw5
    have HMS5 := Lib.hid (HMS.out _ (step h03 h35))
    have HO4 := Lib.hid ho4
    have HOR4 := Lib.hid hor4
    obtain ⟨e0, e1, e2⟩ := id hy4
    clear hw5 hpc4 ho4 hor4
    go_wp2_with fail
    rw [Hw5.out]
    refine HMS5.out.mono ?_
    rintro e w5a ⟨rfl, ho5a, hb5a⟩
    rw [hs5] at ho5a
    have h55 := hb5a
    have h35a := step h35 h55
    have HI5 := Lib.hid ((implNarrowBy _ _ _ _ _ _ _ _ _ _ _ _ nm _ _ _ t _ (HP4.out _ (step hb5 h55)) ho5a.rd (Nat.le_refl _) hm64 hm (HTZ.out _ (step h03 h35a)) b_s))
    have HO5 := Lib.hid (fun w' (hb : Below w5a.heap.size w5a w') => ho5a.below hb)
    have HX1 := Lib.hid (fun g hg => ho5a.own_hi g hg)
    obtain ⟨e0, e1, e2⟩ := HY.out _ h55
    go_wp2_with fail
    refine HI5.out.mono ?_
    rintro e w6 ⟨A1, cA1, rfl, hog, hb6⟩
    have h56 := step h55 hb6
    have h36 := step h35a hb6
    obtain ⟨f0, f1, f2⟩ := HX.out _ (step h03 h36)
    obtain ⟨g0, g1, g2'⟩ := HY.out _ h56
    have h5a6 := hb6
    go_wp2_with fail
    refine (eqIntS_any _ _ _ _ _ _ _ _ _ _ _ hog.rd (HR0.out _ h36) (by omega)).mono ?_
    rintro e w8 ⟨rfl, hb8⟩
    have h38 := step h36 hb8
    have h58 := step h56 hb8
    have h5a8 := step h5a6 hb8
    have hog8 := hog.below hb8
    obtain ⟨i0, i1, i2⟩ := HX.out _ (step h03 h38)
    obtain ⟨j0, j1, j2⟩ := HY.out _ h58
    have hBA : Below w.heap.size w w8.drew := (HB.out _ (step h03 h38)).drew
    have hP8 := (HP4.out _ (step hb5 h58)).rd
    clear a0 a1 a2 c0 c1 c2 d0 d1 d2 e0 e1 e2 f0 f1 f2 g0 g1 g2'
    go_upto_region 13 with fail
    go_cut [46] from 16 (fun bv wx => bv = .bool false ∧ Below w8.heap.size w8 wx)
    case first =>
      go_wp2
      go_region_with (first | (go_at_call 7; (with_reducible refine (HTP.out _ ?hd).mono ?_); (case hd => exact hBA); rintro e w7 ⟨A7, g7, rfl, ho8, hor8, hb8d⟩; have hb8' := below_undrew hb8d; clear hb8d; obtain ⟨q0, q1, q2⟩ := HY.out _ (step h58 hb8'); have hp8 := hP8.below hb8'; have hgr8 := ho8.rd; have hrr8 := hor8.rd hrl.out) | (go_at_call 11; (with_reducible refine (eqPuzzle_any s A4 A7 ng ng ng _ _ gi (some ⟨g4, 0, none⟩) (some ⟨g7, 0, none⟩) nr nr nr _ _ rs _ hp8.g hp8.gB hmg hgr8 ?hB hp8.r hrr8 hp8.rB ?hB2 hmr).mono ?_); (case hB => exact Nat.le_refl _); (case hB2 => exact Nat.le_refl _); rintro e w8' ⟨rfl, hb9⟩))
      all_goals
        go_wp2
        go_meet
        case rel => first | exact ⟨rfl, step hb8' hb9⟩ | exact ⟨by trivial, step hb8' hb9⟩ | exact step hb8' hb9
    case rest =>
      obtain ⟨rfl, hbx⟩ := hcut
      have h3c := step h38 hbx
      have h5c := step h58 hbx
      have h5ac := step h5a8 hbx
      have hogc := hog8.below hbx
      obtain ⟨i0, i1, i2⟩ := HX.out _ (step h03 h3c)
      obtain ⟨j0, j1, j2⟩ := HY.out _ h5c
      go_wp2_with fail
      refine (HMS.out _ (step h03 h3c)).mono ?_
      rintro e w8b ⟨rfl, ho8b, hb8b⟩
      have h5ab := step h5ac hb8b
      go_wp2_with fail
      refine (eqIntS_any _ _ _ _ _ _ _ _ _ _ _ (HO5.out _ h5ab).rd ho8b.rd hm).mono ?_
      rintro e w8c ⟨rfl, hb8c⟩
      have h3d := step (step h3c hb8b) hb8c
      have h5d := step (step h5c hb8b) hb8c
      have h5ad := step h5ab hb8c
      have hogd := (hogc.below hb8b).below hb8c
      obtain ⟨j0, j1, j2⟩ := HY.out _ h5d
      have HMk := Lib.hid (markPuzzle_any s A4 ng ng g4 nr nr w3.heap.size w4.heap.size gi rs 1 w4 w8c HO4.out HOR4.out (Nat.le_refl _) (step hb5 h5d) hng20 hnr HL20.out (by omega) (by omega))
      have hwc := h3d.size
      have hw5s := h5d.size
      have hw5as := h55.size
      go_wp2_with fail
      refine HMk.out.mono ?_
      rintro e w9 ⟨⟨q, rfl, q0, q1⟩, hbm⟩
      have h39 : Below w3.heap.size w3 w9 := h3d.trans (hbm.below (Nat.le_refl _) hwc)
      have hog9 := hogd.bt hbm (by have := h35a.size; omega)
      have hom9 := (HO5.out _ h5ad).bt hbm (by omega)
      clear hbm hogc hog8 hog hogd
      go_wp2_with fail
      refine (markIntS_any _ _ _ _ _ _ _ hom9 (by omega) (by omega) (by omega)).mono ?_
      rintro e w9b ⟨rfl, _, hg9b⟩
      have hw5al := h35.size
      have h39b : Below w3.heap.size w3 w9b := h39.trans (below_own hg9b (fun g hg => by have q1 := hom9.own_lo g hg; omega) h39.size)
      have hog9b := hog9.far8 hg9b HX1.out
      have hkn : ¬ q + (nm : Int) < 0 := by omega
      clear hom9 hg9b hog9
      go_wp2_with fail
      refine (eqIntS_any _ _ _ _ _ _ _ _ _ _ _ hog9b.rd (HR0.out _ h39b) (by omega)).mono ?_
      rintro e w10 ⟨rfl, hb10⟩
      have h310 := step h39b hb10
      have hog10 := hog9b.below hb10
      go_wp2_with fail
      refine (markIntS_any _ _ _ _ _ _ _ hog10 (by omega) (by omega) (by omega)).mono ?_
      rintro e w11 ⟨rfl, hog11, hg11⟩
      rw [marked_all] at hog11
      have h311 : Below w3.heap.size w3 w11 := h310.trans (below_own hg11 (fun g hg => by have q1 := hog10.own_lo g hg; omega) h310.size)
      clear hg11
      go_wp2_with fail
      refine (heldIntS_seq _ _ _ _ _ _ hog11.rd (by omega) (by omega) (by omega)).mono ?_
      rintro e w11' ⟨rfl, rfl⟩
      obtain ⟨k0, k1, k2⟩ := HX.out _ (step h03 h311)
      go_wp2_with fail
      refine (HTP.out _ (HB.out _ (step h03 h311))).mono ?_
      rintro e w12 ⟨A12, g12, rfl, ho12, hor12, hb12⟩
      have hpc12 : PGc w12 s A12 ng ng w12.heap.size gi (some ⟨g12, 0, none⟩) nr nr w12.heap.size rs := ⟨ho12.rd, Nat.le_refl _, hmg, hor12.rdc hrl.out, Nat.le_refl _, hmr⟩
      have h312 := step h311 hb12
      go_wp2_with fail
      refine (HMS.out _ (step h03 h312)).mono ?_
      rintro e w12b ⟨rfl, ho12b, hb12b⟩
      have h312b := step h312 hb12b
      have hpc12b := hpc12.below hb12b
      have HI13 := Lib.hid ((implNarrowBy _ _ _ _ _ _ _ _ _ _ _ _ nm _ _ _ t _ hpc12b ho12b.rd (Nat.le_refl _) hm64 hm (HTZ.out _ (step h03 h312b)) b_s))
      go_wp2_with fail
      refine HI13.out.mono ?_
      rintro e w13 ⟨A13, c13, rfl, ho13, hb13⟩
      have h313 := step h312b hb13
      go_wp2_with fail
      refine (eqIntS_any _ _ _ _ _ _ _ _ _ _ _ ho13.rd (HR0.out _ h313) (by omega)).mono ?_
      rintro e w14 ⟨rfl, hb14⟩
      have h314 := step h313 hb14
      go_wp2_with fail
      refine (heldIntS_seq _ _ _ _ _ _ ((((hog11.below hb12).below hb12b).below hb13).below hb14).rd (by omega) (by omega) (by omega)).mono ?_
      rintro e w15 ⟨rfl, rfl⟩
      go_wp2
      go_ret
      exact ⟨rfl, HB.out _ (step h03 h314)⟩
  · go_enter Tryd.func4, Tryd.ntmps4
    go_wp2
    go_ret
    exact ⟨rfl, hb0⟩
end Go.Proofs.YtchcmgaohcldjaaDoor
