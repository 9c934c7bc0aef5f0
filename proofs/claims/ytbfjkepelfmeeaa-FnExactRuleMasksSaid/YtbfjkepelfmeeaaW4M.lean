import Derived.Test.YtbfjkepelfmeeaaW4E
import Derived.Test.YtbfjkepelfmeeaaI4M
set_option maxRecDepth 8000
namespace Go.Proofs.Ytbfjkepelfmeeaa
open Go.ChangeShapes Go.WideShapes Go.ChangeAt Go.RowKit

theorem rmL_len (k : Int) (xs : List Int) (v : Int) (ms : List Int) (s : Int) : (rmL k xs v ms s).length ≤ xs.length := by
  unfold rmL
  split
  · rw [nats_length, (rmN_inv k xs v ms).1]; exact Nat.le_refl _
  · exact Nat.zero_le _
set_option maxHeartbeats 2000000 in
theorem exactRuleMasks_walk (A : Option Addr) (c n : Nat) (xs : List Int) (k v : Int) (Ag : Option Addr) (cg ng : Nat) (g : List Int) (size : Int) (w : World) (h : Rd w w.heap.size A n xs) (hmx : n ≤ 9223372036854775807) (hg : Rd w w.heap.size Ag ng g) (hgb : B64 g) (b_size : -9223372036854775808 ≤ size ∧ size ≤ 9223372036854775807) :
    Calls Try.prog 12 #[.agg #[.int .i64 k, .slice A n c, .int .i64 v], .slice Ag ng cg, .int .i64 size] w fun e w' => e = .returned (.bool true) ∧ Below w.heap.size w w' := by
  have hx0 := rbox_new w k A n c v 49
  have hb0 : Below w.heap.size w (w.alloc (.cells #[.int .i64 k, .slice A n c, .int .i64 v] 49)) := (Below.refl _ _).alloc (Nat.le_refl _) _
  have hs0 : w.heap.size < (w.alloc (.cells #[.int .i64 k, .slice A n c, .int .i64 v] 49)).heap.size := by simp
  obtain ⟨a0, a1, a2⟩ := id hx0
  have B64s := Lib.hid b_size; clear b_size
  by_cases hng : ng ≤ 1048576
  · by_cases hn : n ≤ 1048576
    · have hm : n ≤ 1099511627776 := by omega
      have hmg : ng ≤ 1099511627776 := by omega
      have HS := Lib.hid (show (if (n : Int) ≤ 1048576 then (1048576 : Int) - n else -1) = 1048576 - n from if_pos (by omega))
      go_enter Try.func12, Try.ntmps12
      go_wp2_with fail
      refine (szRule_any _ _ _ _ _ _ _ hmx (by omega) (by omega)).mono ?_
      rintro e w1 ⟨rfl, hb1⟩
      rw [HS.out]
      have h01 := step hb0 hb1
      have hx1 := hx0.below hs0 hb1
      have hs1 := Nat.lt_of_lt_of_le hs0 hb1.size
      obtain ⟨c0, c1, c2⟩ := id hx1
      go_wp2_with fail
      refine (toRule_any _ _ _ _ _ _ _ _ (h.below h01) h01.size hm).mono ?_
      rintro e w2 ⟨A2, rfl, ho2, hb2⟩
      have h02 := step h01 hb2
      have hx2 := hx1.below hs1 hb2
      have hs2 := Nat.lt_of_lt_of_le hs1 hb2.size
      go_wp2_with fail
      refine (toIntS_any _ _ _ _ _ _ (hg.below h02) h02.size hmg).mono ?_
      rintro e w2a ⟨rfl, ho2a, hb2a⟩
      have h02a := step h02 hb2a
      have hx2a := hx2.below hs2 hb2a
      have hs2a := Nat.lt_of_lt_of_le hs2 hb2a.size
      go_wp2_with fail
      refine (specRuleMasks _ _ _ _ _ _ _ _ _ _ _ _ _ _ (ho2.rd.below hb2a) hb2a.size hm ho2a.rd (Nat.le_refl _) hmg B64s.out).mono ?_
      rintro e w3 ⟨AW, cW, rfl, hoW, hb3⟩
      have hrW := hoW.rd
      have h03 := step h02a hb3
      have hx3 := hx2a.below hs2a hb3
      have hs3 := Nat.lt_of_lt_of_le hs2a hb3.size
      obtain ⟨d0, d1, d2⟩ := id hx3
      go_wp2_with fail
      refine (toRule_any _ _ _ _ _ _ _ _ (h.below h03) h03.size hm).mono ?_
      rintro e w4 ⟨A4, rfl, ho4, hb4⟩
      have h04 := step h03 hb4
      have hx4 := hx3.below hs3 hb4
      have hs4 := Nat.lt_of_lt_of_le hs3 hb4.size
      have hy4 := rbox_new w4 k A4 n n v 30
      have hb5 : Below w4.heap.size w4 (w4.alloc (.cells #[.int .i64 k, .slice A4 n n, .int .i64 v] 30)) := (Below.refl _ _).alloc (Nat.le_refl _) _
      have h05 := step h04 hb5
      have hx5 := hx4.below hs4 hb5
      have hs5 := Nat.lt_of_lt_of_le hs4 hb5.size
      have hr5 := ho4.rd.below hb5
      have hB5 := hb5.size
      have ht5 : w4.heap.size < (w4.alloc (.cells #[.int .i64 k, .slice A4 n n, .int .i64 v] 30)).heap.size := by simp
      go_wp2_with fail
      refine (toIntS_any _ _ _ _ _ _ (hg.below h05) h05.size hmg).mono ?_
      rintro e w5 ⟨rfl, ho6, hb6⟩
      rw [World.size_alloc] at ho6
      have h06 := step h05 hb6
      have hx6 := hx5.below hs5 hb6
      have hs6 := Nat.lt_of_lt_of_le hs5 hb6.size
      have hy6 := hy4.below ht5 hb6
      have ht6 := Nat.lt_of_lt_of_le ht5 hb6.size
      have hr6 := hr5.below (hb6.mono hB5)
      have hB6 := Nat.le_trans hB5 hb6.size
      obtain ⟨e0, e1, e2⟩ := id hy6
      have HB3 : Below w3.heap.size w3 w5 := (hb4.trans (hb5.mono hb4.size)).trans (hb6.mono (Nat.le_trans hb4.size hb5.size))
      have hM1 : (rmL k xs v g size).length ≤ 1099511627776 := Nat.le_trans (rmL_len k xs v g size) (by rw [h.1]; exact hm)
      have hM2 : (rmL k xs v g size).length ≤ 1048576 := Nat.le_trans (rmL_len k xs v g size) (by rw [h.1]; exact hn)
      obtain ⟨M, hM⟩ : ∃ M, rmL k xs v g size = M := ⟨_, rfl⟩
      rw [hM] at hoW hrW hM1 hM2
      have HMe := Lib.hid hM
      clear hM
      go_wp2_with fail
      refine (implRuleMasks _ _ _ _ _ _ _ _ _ _ _ _ _ _ hr6 hB6 hm (Nat.le_refl _) ho6.rd hgb (Nat.le_refl _) hmg B64s.out).mono ?_
      rw [HMe.out]
      rintro e w6 ⟨AG, cG, rfl, hoG, hb7⟩
      have h07 := step h06 hb7
      have hx7 := hx6.below hs6 hb7
      have hs7 := Nat.lt_of_lt_of_le hs6 hb7.size
      have hy7 := hy6.below ht6 hb7
      have ht7 := Nat.lt_of_lt_of_le ht6 hb7.size
      have ho4_7 := ((ho4.below hb5).below hb6).below hb7
      have ho6_7 := ho6.below hb7
      have HB7 := HB3.trans (hb7.mono HB3.size)
      have hsameM := same_refl M
      have hsame := same_refl g
      obtain ⟨f0, f1, f2⟩ := id hx7
      obtain ⟨g0, g1, g2⟩ := id hy7
      go_wp2_with fail
      refine (eqIntS_any _ _ _ _ _ _ _ _ _ _ _ hoG.rd (hrW.below HB7) hM1).mono ?_
      rw [hsameM]
      rintro e w7 ⟨rfl, hb8⟩
      have h08 := step h07 hb8
      have hx8 := hx7.below hs7 hb8
      have hs8 := Nat.lt_of_lt_of_le hs7 hb8.size
      have hy8 := hy7.below ht7 hb8
      have ht8 := Nat.lt_of_lt_of_le ht7 hb8.size
      have ho4_8 := ho4_7.below hb8
      have ho6_8 := ho6_7.below hb8
      have hoG_8 := hoG.below hb8
      have HB8 := HB7.trans (hb8.mono HB7.size)
      have hr8 := ho4_8.rd
      obtain ⟨k0, k1, k2⟩ := id hx8
      obtain ⟨l0, l1, l2⟩ := id hy8
      have hrA : Rd w7.drew w.heap.size A n xs := h.below h08.drew
      have hBA : w.heap.size ≤ w7.drew.heap.size := h08.size
      go_wp2
      go_region_with (first | (go_at_call 49; (with_reducible refine (toRule_any k A n c w.heap.size xs v _ ?hd ?hB hm).mono ?_); (case hd => exact hrA); (case hB => exact hBA); rintro e w8 ⟨A7, rfl, ho8, hb9d⟩; have hb9 := below_undrew hb9d; clear hb9d; have hy9 := hy8.below ht8 hb9; obtain ⟨q0, q1, q2⟩ := id hy9; have hrx9 := ho4_8.rd.below hb9; have hB9 := hb9.size; have hr9 := ho8.rd; have h09 := step h08 hb9) | (go_at_call 52; (with_reducible refine (eqRule_any A4 A7 n n n n _ _ xs xs k v k v _ hrx9 hr9 ?hB ?hB2 hm rfl rfl rfl).mono ?_); (case hB => exact hB9); (case hB2 => exact Nat.le_refl _); rintro e w9 ⟨rfl, hb10⟩))
      all_goals
        have hb8_10 := step hb9 hb10
        have h10 := step h08 hb8_10
        have hx10 := hx8.below hs8 hb8_10
        have hs10 := Nat.lt_of_lt_of_le hs8 hb8_10.size
        have hy10 := hy8.below ht8 hb8_10
        have ht10 := Nat.lt_of_lt_of_le ht8 hb8_10.size
        have ho4_10 := ho4_8.below hb8_10
        have ho6_10 := ho6_8.below hb8_10
        have hoG_10 := hoG_8.below hb8_10
        have HB10 := HB8.trans (hb8_10.mono HB8.size)
        go_wp2_with fail
        refine (toIntS_any _ _ _ _ _ _ (hg.below h10) h10.size hmg).mono ?_
        rintro e w10 ⟨rfl, ho11, hb11⟩
        go_wp2_with fail
        refine (eqIntS_any _ _ _ _ _ _ _ _ _ _ _ (ho6_10.below hb11).rd ho11.rd hmg).mono ?_
        rw [hsame]
        rintro e w11 ⟨rfl, hb12⟩
        have hb10_12 := step hb11 hb12
        have h12 := step h10 hb10_12
        have hx12 := hx10.below hs10 hb10_12
        have hs12 := Nat.lt_of_lt_of_le hs10 hb10_12.size
        have hy12 := hy10.below ht10 hb10_12
        have ht12 := Nat.lt_of_lt_of_le ht10 hb10_12.size
        have ho4_12 := ho4_10.below hb10_12
        have ho6_12 := ho6_10.below hb10_12
        have hoG_12 := hoG_10.below hb10_12
        have HB12 := HB10.trans (hb10_12.mono HB10.size)
        obtain ⟨m0, m1, m2⟩ := id hy12
        go_wp2_with fail
        refine (markRule_any _ _ _ _ _ _ _ _ _ ho4_12 hm (by omega) (by omega)).mono ?_
        rintro e w12 ⟨rfl, _, hg13⟩
        have HB13 := HB12.trans (below_own hg13 ho4_12.own_lo HB12.size)
        have hlo4 : ∀ b, (Value.slice A4 n n).ownBlock = some b → b < w4.heap.size := ho4.own_hi
        have ho6_13 := ho6_12.kept hg13 (fun b hb => by have := hlo4 b hb; omega)
        have hoG_13 := hoG_12.kept hg13 (fun b hb => by have := hlo4 b hb; have := hb6.size; have := World.size_alloc w4 (.cells #[.int .i64 k, .slice A4 n n, .int .i64 v] 30); omega)
        clear hg13
        go_wp2_with fail
        refine (markIntS_any _ _ _ _ _ _ _ ho6_13 hmg (by omega) (by omega)).mono ?_
        rintro e w13 ⟨rfl, _, hg14⟩
        have HB14 := HB13.trans (below_own hg14 (fun b hb => Nat.le_trans (Nat.le_trans hb4.size (Nat.le_succ _)) (ho6.own_lo b hb)) HB13.size)
        have hoG_14 := hoG_13.kept hg14 ho6.own_hi
        clear hg14
        go_wp2_with fail
        refine (eqIntS_any _ _ _ _ _ _ _ _ _ _ _ hoG_14.rd (hrW.below HB14) hM1).mono ?_
        rw [hsameM]
        rintro e w14 ⟨rfl, hb15⟩
        have HB15 := HB14.trans (hb15.mono HB14.size)
        have hoG_15 := hoG_14.below hb15
        go_wp2_with fail
        refine (markIntS_any _ _ _ _ _ _ _ hoG_15 hM1 (by omega) (by omega)).mono ?_
        rintro e w15 ⟨rfl, hoG_16, hg16⟩
        rw [marked_all] at hoG_16
        have HB16 := HB15.trans (below_own hg16 (fun b hb => Nat.le_trans HB3.size (hoG.own_lo b hb)) HB15.size)
        clear hg16
        go_wp2_with fail
        refine (heldIntS_seq _ _ _ _ _ _ hoG_16.rd hM1 (by omega) (by omega)).mono ?_
        rintro e w16 ⟨rfl, rfl⟩
        have h16 := h03.trans (HB16.mono h03.size)
        have hx16 := hx3.below hs3 HB16
        have hs16 := Nat.lt_of_lt_of_le hs3 HB16.size
        obtain ⟨p0, p1, p2⟩ := id hx16
        go_wp2_with fail
        refine (toRule_any _ _ _ _ _ _ _ _ (h.below h16) h16.size hm).mono ?_
        rintro e w17 ⟨A17, rfl, ho17, hb17⟩
        have h17 := step h16 hb17
        go_wp2_with fail
        refine (toIntS_any _ _ _ _ _ _ (hg.below h17) h17.size hmg).mono ?_
        rintro e w18 ⟨rfl, ho18, hb18⟩
        go_wp2_with fail
        refine (implRuleMasks _ _ _ _ _ _ _ _ _ _ _ _ _ _ (ho17.rd.below hb18) hb18.size hm (Nat.le_refl _) ho18.rd hgb (Nat.le_refl _) hmg B64s.out).mono ?_
        rw [HMe.out]
        rintro e w19 ⟨AH, cH, rfl, hoH, hb19⟩
        have HB19 := ((HB16.trans (hb17.mono HB16.size)).trans (hb18.mono (Nat.le_trans HB16.size hb17.size))).trans (hb19.mono (Nat.le_trans (Nat.le_trans HB16.size hb17.size) hb18.size))
        have hoG_19 := ((hoG_16.below hb17).below hb18).below hb19
        go_wp2_with fail
        refine (eqIntS_any _ _ _ _ _ _ _ _ _ _ _ hoH.rd (hrW.below HB19) hM1).mono ?_
        rw [hsameM]
        rintro e w20 ⟨rfl, hb20⟩
        have hoG_20 := hoG_19.below hb20
        have HB20 := HB19.trans (hb20.mono HB19.size)
        go_wp2_with fail
        refine (heldIntS_seq _ _ _ _ _ _ hoG_20.rd hM1 (by omega) (by omega)).mono ?_
        rintro e w21 ⟨rfl, rfl⟩
        go_wp2
        go_ret
        exact ⟨rfl, h03.trans (HB20.mono h03.size)⟩
    · have HS : Hid (∀ w, Calls Try.prog 48 #[.agg #[.int .i64 k, .slice A n c, .int .i64 v], .int .i64 1048576] w fun e w' => e = .returned (.int .i64 (-1)) ∧ Below w.heap.size w w') := Lib.hid (fun w => szRule_big _ _ _ _ _ _ hn hmx)
      go_enter Try.func12, Try.ntmps12
      go_wp2_with (go_at_call 48; refine (HS.out _).mono ?_; rintro e w1 ⟨rfl, hb1⟩)
      go_ret
      exact ⟨rfl, step hb0 hb1⟩
  · go_enter Try.func12, Try.ntmps12
    go_wp2
    go_ret
    exact ⟨rfl, hb0⟩
end Go.Proofs.Ytbfjkepelfmeeaa
