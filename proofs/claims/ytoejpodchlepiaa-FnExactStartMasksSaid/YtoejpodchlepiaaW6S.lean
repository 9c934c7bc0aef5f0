import Derived.Test.YtoejpodchlepiaaI6A
import Derived.Test.YtoejpodchlepiaaMkP
import Derived.Test.YtoejpodchlepiaaOpn
import Derived.Test.YtoejpodchlepiaaW4E
import Derived.Deep.RegionWith
import Derived.Deep.CutRange
import Derived.Deep.CutBlock
set_option maxRecDepth 8000
namespace Go.Proofs.Ytoejpodchlepiaa
open Go.ChangeShapes Go.WideShapes Go.ChangeAt Go.RowKit
theorem startL_len (s : Int) (gi : List Int) (rs : List RuleM) (n : Nat) : (startL s gi rs n).length ≤ n := by
  unfold startL
  split
  · rw [mapTo_length]; exact Nat.le_refl _
  · simp
set_option maxHeartbeats 4000000 in
theorem exactStartMasks_walk (s : Int) (Ag : Option Addr) (cg ng : Nat) (gi : List Int) (Ar : Option Addr) (cr nr : Nat) (rs : List RuleM) (w : World) (hgi : Rd w w.heap.size Ag ng gi) (hgm : ng ≤ 9223372036854775807) (hr : RdRx w w.heap.size Ar nr rs) (hrm : nr ≤ 9223372036854775807) :
    Calls Try.prog 8 #[.agg #[.int .i64 s, .slice Ag ng cg, .slice Ar nr cr]] w fun e w' => e = .returned (.bool true) ∧ Below w.heap.size w w' := by
  have hx0 := pbox_new w s Ag ng cg Ar nr cr 43
  have hb0 : Below w.heap.size w (w.alloc (.cells #[.int .i64 s, .slice Ag ng cg, .slice Ar nr cr] 43)) := (Below.refl _ _).alloc (Nat.le_refl _) _
  have hs0 : (w.alloc (.cells #[.int .i64 s, .slice Ag ng cg, .slice Ar nr cr] 43)).heap.size = w.heap.size + 1 := by simp
  obtain ⟨W, hW⟩ : ∃ W, w.alloc (.cells #[.int .i64 s, .slice Ag ng cg, .slice Ar nr cr] 43) = W := ⟨_, rfl⟩
  rw [hW] at hx0 hb0 hs0
  have HX := Lib.hid (fun w' (hb : Below W.heap.size W w') => hx0.below (by omega : w.heap.size < W.heap.size) hb)
  have HB := Lib.hid (fun w' (hb : Below W.heap.size W w') => step hb0 hb)
  have hrl := Lib.hid hr.1
  have HSZ := Lib.hid (fun w' (hb : Below w.heap.size w w') => szPuzzle_any s Ag cg ng Ar cr nr w.heap.size rs 1048576 w' hgm (hr.below hb) hb.size hrm (by omega) (by omega))
  have HSZ0 := Lib.hid (HSZ.out _ hb0)
  obtain ⟨a0, a1, a2⟩ := id hx0
  have HW := Lib.hid hW
  clear hW
  go_enter Try.func8, Try.ntmps8
  go_wp2_with fail
  rw [HW.out]
  refine HSZ0.out.mono ?_
  rintro e w1 ⟨r, rfl, hb1, hr1⟩
  rcases hr1 with rfl | ⟨r0, hl1, hl2, hl3⟩
  · go_wp2
    go_ret
    exact ⟨rfl, HB.out _ hb1⟩
  · have hrneg : ¬ r < 0 := by omega
    have hng20 : ng ≤ 1048576 := by omega
    have hmg : ng ≤ 1099511627776 := by omega
    have hmr : nr ≤ 1099511627776 := by omega
    have hnr : nr ≤ 1048576 := by omega
    have HL20 := Lib.hid (show ∀ i, i < nr → (rat rs i).xs.length ≤ 1048576 from fun i hi => by have := hl3 i hi; omega)
    have HRS := Lib.hid (fun w' (hb : Below w.heap.size w w') => (hr.below hb).small (fun i hi => by have := hl3 i hi; omega))
    have HTP := Lib.hid (fun w' (hb : Below w.heap.size w w') => toPuzzle_any s Ag cg ng w.heap.size gi Ar cr nr w.heap.size rs w' (hgi.below hb) hb.size hmg (HRS.out _ hb) hb.size hnr)
    clear hl1 hl2 hl3
    have hlen : (startL s gi rs ng).length ≤ 1048576 := by have := startL_len s gi rs ng; omega
    have hsame := same_refl (startL s gi rs ng)
    obtain ⟨c0, c1, c2⟩ := HX.out _ hb1
    go_wp2_with fail
    refine (HTP.out _ (HB.out _ hb1)).mono ?_
    rintro e w2 ⟨A2, g2, rfl, ho2, hor2, hb2⟩
    have h02 := step hb1 hb2
    have hp2 : PGs w2 s A2 ng ng w2.heap.size gi (some ⟨g2, 0, none⟩) nr nr w2.heap.size rs := ⟨ho2.rd, Nat.le_refl _, hmg, hor2.rd hrl.out, Nat.le_refl _, hmr⟩
    go_wp2_with fail
    refine (specStartMasks _ _ _ _ _ _ _ _ _ _ _ _ hp2).mono ?_
    rintro e w3 ⟨A0, cA0, rfl, ho0, hb3⟩
    have h03 := step h02 hb3
    have HR0 := Lib.hid (fun w' (hb : Below w3.heap.size w3 w') => ho0.rd.below hb)
    obtain ⟨d0, d1, d2⟩ := HX.out _ h03
    clear ho2 hor2 hp2
    go_wp2_with fail
    refine (HTP.out _ (HB.out _ h03)).mono ?_
    rintro e w4 ⟨A4, g4, rfl, ho4, hor4, hb4⟩
    have hy4 := pbox_new w4 s A4 ng ng (some ⟨g4, 0, none⟩) nr nr 48
    have hb5 : Below w4.heap.size w4 (w4.alloc (.cells #[.int .i64 s, .slice A4 ng ng, .slice (some ⟨g4, 0, none⟩) nr nr] 48)) := (Below.refl _ _).alloc (Nat.le_refl _) _
    have hs5 : (w4.alloc (.cells #[.int .i64 s, .slice A4 ng ng, .slice (some ⟨g4, 0, none⟩) nr nr] 48)).heap.size = w4.heap.size + 1 := by simp
    obtain ⟨w5, hw5⟩ : ∃ w5, w4.alloc (.cells #[.int .i64 s, .slice A4 ng ng, .slice (some ⟨g4, 0, none⟩) nr nr] 48) = w5 := ⟨_, rfl⟩
    rw [hw5] at hy4 hb5 hs5
    have hpc4 : PGc w4 s A4 ng ng w4.heap.size gi (some ⟨g4, 0, none⟩) nr nr w4.heap.size rs := ⟨ho4.rd, Nat.le_refl _, hmg, hor4.rdc hrl.out, Nat.le_refl _, hmr⟩
    have HP4 := Lib.hid (fun w' (hb : Below w4.heap.size w4 w') => hpc4.below hb)
    have HY := Lib.hid (fun w' (hb : Below w5.heap.size w5 w') => hy4.below (by omega : w4.heap.size < w5.heap.size) hb)
    have h34 := hb4
    have h35 := step h34 hb5
    have H35 := Lib.hid h35
    obtain ⟨e0, e1, e2⟩ := id hy4
    have Hw5 := Lib.hid hw5
    have HI5 := Lib.hid (implStartMasks _ _ _ _ _ _ _ _ _ _ _ _ (HP4.out _ hb5))
    have HO4 := Lib.hid ho4
    have HOR4 := Lib.hid hor4
    have hA4 : ∀ k, k < 1 → ng ≤ 1099511627776 := fun _ _ => hmg
    clear hw5 hpc4 ho4 hor4 hA4
    go_wp2_with fail
    rw [Hw5.out]
    refine HI5.out.mono ?_
    rintro e w6 ⟨A1, cA1, rfl, hog, hb6⟩
    have h36 := step h35 hb6
    obtain ⟨f0, f1, f2⟩ := HX.out _ (step h03 h36)
    obtain ⟨g0, g1, g2'⟩ := HY.out _ hb6
    go_wp2_with fail
    refine (eqIntS_any _ _ _ _ _ _ _ _ _ _ _ hog.rd (HR0.out _ h36) (by omega)).mono ?_
    rintro e w8 ⟨rfl, hb8⟩
    have h38 := step h36 hb8
    have h58 := step hb6 hb8
    have hog8 := hog.below hb8
    obtain ⟨i0, i1, i2⟩ := HX.out _ (step h03 h38)
    obtain ⟨j0, j1, j2⟩ := HY.out _ h58
    have hBA : Below w.heap.size w w8.drew := (HB.out _ (step h03 h38)).drew
    have hP8 := (HP4.out _ (step hb5 h58)).rd
    clear a0 a1 a2 c0 c1 c2 d0 d1 d2 e0 e1 e2 f0 f1 f2 g0 g1 g2'
    go_upto_region 10 with fail
    go_cut [31] from 11 (fun bv wx => bv = .bool false ∧ Below w8.heap.size w8 wx)
    case first =>
      go_wp2
      go_region_with (first | (go_at_call 36; (with_reducible refine (HTP.out _ ?hd).mono ?_); (case hd => exact hBA); rintro e w7 ⟨A7, g7, rfl, ho8, hor8, hb8d⟩; have hb8' := below_undrew hb8d; clear hb8d; obtain ⟨q0, q1, q2⟩ := HY.out _ (step h58 hb8'); have hp8 := hP8.below hb8'; have hgr8 := ho8.rd; have hrr8 := hor8.rd hrl.out) | (go_at_call 38; (with_reducible refine (eqPuzzle_any s A4 A7 ng ng ng _ _ gi (some ⟨g4, 0, none⟩) (some ⟨g7, 0, none⟩) nr nr nr _ _ rs _ hp8.g hp8.gB hmg hgr8 ?hB hp8.r hrr8 hp8.rB ?hB2 hmr).mono ?_); (case hB => exact Nat.le_refl _); (case hB2 => exact Nat.le_refl _); rintro e w8' ⟨rfl, hb9⟩))
      all_goals
        go_wp2
        go_meet
        case rel => first | exact ⟨rfl, step hb8' hb9⟩ | exact ⟨by trivial, step hb8' hb9⟩ | exact step hb8' hb9
    case rest =>
      obtain ⟨rfl, hbx⟩ := hcut
      have h3c := step h38 hbx
      have h5c := step h58 hbx
      have hogc := hog8.below hbx
      obtain ⟨i0, i1, i2⟩ := HX.out _ (step h03 h3c)
      obtain ⟨j0, j1, j2⟩ := HY.out _ h5c
      have HMk := Lib.hid (markPuzzle_any s A4 ng ng g4 nr nr w3.heap.size w4.heap.size gi rs 1 w4 wc HO4.out HOR4.out (Nat.le_refl _) (step hb5 h5c) hng20 hnr HL20.out (by omega) (by omega))
      have hwc := h3c.size
      go_wp2_with fail
      refine HMk.out.mono ?_
      rintro e w9 ⟨⟨q, rfl, q0⟩, hbm⟩
      have h39 : Below w3.heap.size w3 w9 := h3c.trans (hbm.below (Nat.le_refl _) hwc)
      have hog9 : Ow w9 w5.heap.size A1 (startL s gi rs ng).length cA1 (startL s gi rs ng) := hogc.bt hbm (by omega)
      have hqn : ¬ q < 0 := by omega
      clear hbm hogc hog8 hog
      go_wp2_with fail
      refine (eqIntS_any _ _ _ _ _ _ _ _ _ _ _ hog9.rd (HR0.out _ h39) (by omega)).mono ?_
      rintro e w10 ⟨rfl, hb10⟩
      have h310 := step h39 hb10
      have hog10 := hog9.below hb10
      go_wp2_with fail
      refine (markIntS_any _ _ _ _ _ _ _ hog10 (by omega) (by omega) (by omega)).mono ?_
      rintro e w11 ⟨rfl, hog11, hg11⟩
      rw [marked_all] at hog11
      have h311 : Below w3.heap.size w3 w11 := h310.trans (below_own hg11 (fun g hg => by have q1 := hog10.own_lo g hg; have q2 := h35.size; omega) h310.size)
      clear hg11
      go_wp2_with fail
      refine (heldIntS_seq _ _ _ _ _ _ hog11.rd (by omega) (by omega) (by omega)).mono ?_
      rintro e w11' ⟨rfl, rfl⟩
      obtain ⟨k0, k1, k2⟩ := HX.out _ (step h03 h311)
      go_wp2_with fail
      refine (HTP.out _ (HB.out _ (step h03 h311))).mono ?_
      rintro e w12 ⟨A12, g12, rfl, ho12, hor12, hb12⟩
      have hpc12 : PGc w12 s A12 ng ng w12.heap.size gi (some ⟨g12, 0, none⟩) nr nr w12.heap.size rs := ⟨ho12.rd, Nat.le_refl _, hmg, hor12.rdc hrl.out, Nat.le_refl _, hmr⟩
      have h312 := step h311 hb12
      go_wp2_with fail
      refine (implStartMasks _ _ _ _ _ _ _ _ _ _ _ _ hpc12).mono ?_
      rintro e w13 ⟨A13, c13, rfl, ho13, hb13⟩
      have h313 := step h312 hb13
      go_wp2_with fail
      refine (eqIntS_any _ _ _ _ _ _ _ _ _ _ _ ho13.rd (HR0.out _ h313) (by omega)).mono ?_
      rintro e w14 ⟨rfl, hb14⟩
      have h314 := step h313 hb14
      go_wp2_with fail
      refine (heldIntS_seq _ _ _ _ _ _ (((hog11.below hb12).below hb13).below hb14).rd (by omega) (by omega) (by omega)).mono ?_
      rintro e w15 ⟨rfl, rfl⟩
      go_wp2
      go_ret
      exact ⟨rfl, HB.out _ (step h03 h314)⟩
end Go.Proofs.Ytoejpodchlepiaa
