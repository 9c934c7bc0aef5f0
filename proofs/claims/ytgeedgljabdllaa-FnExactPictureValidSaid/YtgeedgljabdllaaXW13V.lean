import Derived.Test.YtgeedgljabdllaaXOps
set_option maxRecDepth 8000
namespace Go.Proofs.Ytgeedgljabdllaa
open Go.ChangeShapes Go.WideShapes Go.ChangeAt Go.RowKit
theorem below_undrew13 {w w2 : World} (h : Below w.drew.heap.size w.drew w2) : Below w.heap.size w w2 := ⟨h.os, h.tape, h.output, h.size, h.block⟩
theorem gs_lns13 {w' : World} {lo m : Nat} {A : Option Addr} {d : List GV} {Ls : List (List Int)} {w2 : World} {B : Nat} {A2 : Option Addr} (hg : Gs w' lo (.slice A m m) d) (hl : d.length = m) (hc : gsC d = Ls) (h : Lns w2 B A2 m Ls) : Lns w' w'.heap.size A m Ls := by
  subst hc
  exact hg.lns hl h.m h.ms h.b
set_option maxHeartbeats 2000000 in
theorem exactPictureValid_walk (RA : Option Addr) (nr cr : Nat) (rc : List (List Int)) (CA : Option Addr) (nc c2 : Nat) (cc : List (List Int)) (w : World) (hp : PicX w w.heap.size RA nr rc CA nc cc) :
    Calls Try.prog 9 #[.agg #[.slice RA nr cr, .slice CA nc c2]] w fun e w' => e = .returned (.bool true) ∧ Below w.heap.size w w' := by
  have hx0 := pcbox_new w RA nr cr CA nc c2 45
  have hb0 : Below w.heap.size w (w.alloc (.cells #[.slice RA nr cr, .slice CA nc c2] 45)) := (Below.refl _ _).alloc (Nat.le_refl _) _
  have hs0 : w.heap.size < (w.alloc (.cells #[.slice RA nr cr, .slice CA nc c2] 45)).heap.size := by simp
  obtain ⟨a0, a1⟩ := id hx0
  have HX := Lib.hid (fun w' (hb : Below w.heap.size w w') => hp.below hb)
  have HSZ := Lib.hid (fun w' (hb : Below w.heap.size w w') => szPicture_any RA nr cr rc CA nc c2 cc w.heap.size 1048576 w' (hp.below hb) hb.size (by omega) (by omega))
  clear hp
  go_enter Try.func9, Try.ntmps9
  go_wp2_with fail
  refine (HSZ.out _ hb0).mono ?_
  rintro e w1 ⟨r, rfl, hb1, hr1⟩
  have h01 := step hb0 hb1
  have hx1 := hx0.below hs0 hb1
  have hs1 := Nat.lt_of_lt_of_le hs0 hb1.size
  rcases hr1 with rfl | ⟨r0, hpr⟩
  · go_wp2
    go_ret
    exact ⟨rfl, h01⟩
  · have hrneg : ¬ r < 0 := by omega
    have HP := Lib.hid (fun w' (hb : Below w.heap.size w w') => hpr w' w.heap.size (HX.out w' hb))
    have HTP := Lib.hid (fun w' (hb : Below w.heap.size w w') => toPicture_any RA nr cr rc CA nc c2 cc w.heap.size w' (HP.out _ hb) hb.size)
    obtain ⟨c0, c1⟩ := id hx1
    clear hpr a0 a1
    go_wp2_with fail
    refine (HTP.out _ h01).mono ?_
    rintro e w2 ⟨g1, g2, d1, d2, rfl, ho1, hl1, hc1, ⟨B2, ho2, -, -, -⟩, hl2, hc2, hb2⟩
    have h02 := step h01 hb2
    have hx2 := hx1.below hs1 hb2
    have hs2 := Nat.lt_of_lt_of_le hs1 hb2.size
    have hp2 : PicR w2 w2.heap.size (some ⟨g1, 0, none⟩) nr rc (some ⟨g2, 0, none⟩) nc cc := ⟨gs_lns13 ho1 hl1 hc1 (HP.out _ h02).r, gs_lns13 ho2 hl2 hc2 (HP.out _ h02).c⟩
    clear ho1 hl1 hc1 ho2 hl2 hc2 c0 c1
    go_wp2_with fail
    refine (specPictureValid _ _ _ _ _ _ _ _ _ _ hp2 (Nat.le_refl _)).mono ?_
    rintro e w3 ⟨rfl, hb3⟩
    have h03 := step h02 hb3
    have hx3 := hx2.below hs2 hb3
    have hs3 := Nat.lt_of_lt_of_le hs2 hb3.size
    obtain ⟨d0, d1⟩ := id hx3
    clear hp2
    go_wp2_with fail
    refine (HTP.out _ h03).mono ?_
    rintro e w4 ⟨g3, g4, d3, d4, rfl, ho3, hl3, hc3, ⟨B4, ho4, -, -, -⟩, hl4, hc4, hb4⟩
    have h04 := step h03 hb4
    have hx4 := hx3.below hs3 hb4
    have hs4 := Nat.lt_of_lt_of_le hs3 hb4.size
    have hp4 : PicR w4 w4.heap.size (some ⟨g3, 0, none⟩) nr rc (some ⟨g4, 0, none⟩) nc cc := ⟨gs_lns13 ho3 hl3 hc3 (HP.out _ h04).r, gs_lns13 ho4 hl4 hc4 (HP.out _ h04).c⟩
    have hy4 := pcbox_new w4 (some ⟨g3, 0, none⟩) nr nr (some ⟨g4, 0, none⟩) nc nc 25
    have hb5 : Below w4.heap.size w4 (w4.alloc (.cells #[.slice (some ⟨g3, 0, none⟩) nr nr, .slice (some ⟨g4, 0, none⟩) nc nc] 25)) := (Below.refl _ _).alloc (Nat.le_refl _) _
    have ht4 : w4.heap.size < (w4.alloc (.cells #[.slice (some ⟨g3, 0, none⟩) nr nr, .slice (some ⟨g4, 0, none⟩) nc nc] 25)).heap.size := by simp
    have h05 := step h04 hb5
    have hx5 := hx4.below hs4 hb5
    have hs5 := Nat.lt_of_lt_of_le hs4 hb5.size
    have hp5 := hp4.below hb5
    obtain ⟨e0, e1⟩ := id hy4
    have HI := Lib.hid (implPictureValid (some ⟨g3, 0, none⟩) nr nr rc (some ⟨g4, 0, none⟩) nc nc cc w4.heap.size _ hp5 hb5.size)
    clear ho3 hl3 hc3 ho4 hl4 hc4 d0 d1
    go_wp2_with fail
    refine HI.out.mono ?_
    rintro e w6 ⟨rfl, hb6⟩
    have h06 := step h05 hb6
    have hx6 := hx5.below hs5 hb6
    have hs6 := Nat.lt_of_lt_of_le hs5 hb6.size
    have hy6 := hy4.below ht4 hb6
    have hp6 : PicR w6 w4.heap.size (some ⟨g3, 0, none⟩) nr rc (some ⟨g4, 0, none⟩) nc cc := hp5.below (hb6.mono hb5.size)
    have h46 := Nat.le_trans hb5.size hb6.size
    obtain ⟨f0, f1⟩ := id hx6
    obtain ⟨y0, y1⟩ := id hy6
    have hbb : (pcB rc cc != pcB rc cc) = false := by simp
    clear e0 e1
    have hBA : Below w.heap.size w w6.drew := h06.drew
    have ht6 : w4.heap.size < w6.heap.size := Nat.lt_of_lt_of_le ht4 hb6.size
    have HP6 := Lib.hid hp6
    go_wp2
    go_region_with (first | (go_at_call 33; (with_reducible refine (HTP.out _ ?hd).mono ?_); (case hd => exact hBA); rintro e w7 ⟨g5, g6, d5, d6, rfl, ho5, hl5, hc5, ⟨B6, ho6, -, -, -⟩, hl6, hc6, hb7d⟩; have hb7 := below_undrew13 hb7d; have hy7 := hy6.below ht6 hb7; obtain ⟨q0, q1⟩ := id hy7; have h07 := step h06 hb7; have hp7 : PicR w7 w7.heap.size (some ⟨g5, 0, none⟩) nr rc (some ⟨g6, 0, none⟩) nc cc := ⟨gs_lns13 ho5 hl5 hc5 (HP.out _ h07).r, gs_lns13 ho6 hl6 hc6 (HP.out _ h07).c⟩; have hp6' := HP6.out.below (hb7.mono h46); have h47 : w4.heap.size ≤ w7.heap.size := Nat.le_trans h46 hb7.size; clear hb7d ho5 hl5 hc5 ho6 hl6 hc6) | (go_at_call 34; (with_reducible refine (eqPicture_rd _ nr _ rc _ nc _ cc _ _ _ _ _ _ _ hp6' h47 hp7 (Nat.le_refl _)).mono ?_); rintro e w8 ⟨rfl, hb8⟩))
    all_goals
      have h08 := step h07 hb8
      go_wp2
      go_ret
      exact ⟨rfl, h08⟩
end Go.Proofs.Ytgeedgljabdllaa
