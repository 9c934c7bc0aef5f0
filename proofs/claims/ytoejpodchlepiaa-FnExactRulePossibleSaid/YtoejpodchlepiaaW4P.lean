import Derived.Test.YtoejpodchlepiaaW4E
import Derived.Test.YtoejpodchlepiaaI4P
set_option maxRecDepth 8000
namespace Go.Proofs.Ytoejpodchlepiaa
open Go.ChangeShapes Go.WideShapes Go.ChangeAt Go.RowKit

set_option maxHeartbeats 2000000 in
theorem exactRulePossible_walk (A : Option Addr) (c n : Nat) (xs : List Int) (k v : Int) (Ag : Option Addr) (cg ng : Nat) (g : List Int) (size : Int) (w : World) (h : Rd w w.heap.size A n xs) (hmx : n ≤ 9223372036854775807) (hg : Rd w w.heap.size Ag ng g) (b_size : -9223372036854775808 ≤ size ∧ size ≤ 9223372036854775807) :
    Calls Try.prog 5 #[.agg #[.int .i64 k, .slice A n c, .int .i64 v], .slice Ag ng cg, .int .i64 size] w fun e w' => e = .returned (.bool true) ∧ Below w.heap.size w w' := by
  have hx0 := rbox_new w k A n c v 34
  have hb0 : Below w.heap.size w (w.alloc (.cells #[.int .i64 k, .slice A n c, .int .i64 v] 34)) := (Below.refl _ _).alloc (Nat.le_refl _) _
  have hs0 : w.heap.size < (w.alloc (.cells #[.int .i64 k, .slice A n c, .int .i64 v] 34)).heap.size := by simp
  obtain ⟨a0, a1, a2⟩ := id hx0
  have B64s := Lib.hid b_size; clear b_size
  by_cases hng : ng ≤ 1048576
  · by_cases hn : n ≤ 1048576
    · have hm : n ≤ 1099511627776 := by omega
      have hmg : ng ≤ 1099511627776 := by omega
      have HS := Lib.hid (show (if (n : Int) ≤ 1048576 then (1048576 : Int) - n else -1) = 1048576 - n from if_pos (by omega))
      go_enter Try.func5, Try.ntmps5
      go_wp2_with fail
      refine (szRule_any _ _ _ _ _ _ _ hmx (by omega) (by omega)).mono ?_
      rintro e w1 ⟨rfl, hb1⟩
      rw [HS.out]
      have h01 := step hb0 hb1
      have hx1 := hx0.below hs0 hb1
      have hs1 := Nat.lt_of_lt_of_le hs0 hb1.size
      obtain ⟨c0, c1, c2⟩ := id hx1
      go_wp2_with fail
      refine (toRule_any _ _ _ _ _ _ _ _ (h.below h01) h01.size hm).mono ?_
      rintro e w2 ⟨A2, rfl, ho2, hb2⟩
      have h02 := step h01 hb2
      have hx2 := hx1.below hs1 hb2
      have hs2 := Nat.lt_of_lt_of_le hs1 hb2.size
      go_wp2_with fail
      refine (toIntS_any _ _ _ _ _ _ (hg.below h02) h02.size hmg).mono ?_
      rintro e w2a ⟨rfl, ho2a, hb2a⟩
      have h02a := step h02 hb2a
      have hx2a := hx2.below hs2 hb2a
      have hs2a := Nat.lt_of_lt_of_le hs2 hb2a.size
      go_wp2_with fail
      refine (specRulePossible _ _ _ _ _ _ _ _ _ _ _ _ _ _ (ho2.rd.below hb2a) hb2a.size hm ho2a.rd (Nat.le_refl _) hmg B64s.out).mono ?_
      rintro e w3 ⟨rfl, hb3⟩
      have h03 := step h02a hb3
      have hx3 := hx2a.below hs2a hb3
      have hs3 := Nat.lt_of_lt_of_le hs2a hb3.size
      obtain ⟨d0, d1, d2⟩ := id hx3
      go_wp2_with fail
      refine (toRule_any _ _ _ _ _ _ _ _ (h.below h03) h03.size hm).mono ?_
      rintro e w4 ⟨A4, rfl, ho4, hb4⟩
      have h04 := step h03 hb4
      have hx4 := hx3.below hs3 hb4
      have hs4 := Nat.lt_of_lt_of_le hs3 hb4.size
      have hy4 := rbox_new w4 k A4 n n v 25
      have hb5 : Below w4.heap.size w4 (w4.alloc (.cells #[.int .i64 k, .slice A4 n n, .int .i64 v] 25)) := (Below.refl _ _).alloc (Nat.le_refl _) _
      have h05 := step h04 hb5
      have hx5 := hx4.below hs4 hb5
      have hs5 := Nat.lt_of_lt_of_le hs4 hb5.size
      have hr5 := ho4.rd.below hb5
      have hB5 := hb5.size
      have ht5 : w4.heap.size < (w4.alloc (.cells #[.int .i64 k, .slice A4 n n, .int .i64 v] 25)).heap.size := by simp
      go_wp2_with fail
      refine (toIntS_any _ _ _ _ _ _ (hg.below h05) h05.size hmg).mono ?_
      rintro e w5 ⟨rfl, ho6, hb6⟩
      rw [World.size_alloc] at ho6
      have h06 := step h05 hb6
      have hx6 := hx5.below hs5 hb6
      have hs6 := Nat.lt_of_lt_of_le hs5 hb6.size
      have hy6 := hy4.below ht5 hb6
      have ht6 := Nat.lt_of_lt_of_le ht5 hb6.size
      have hr6 := hr5.below (hb6.mono hB5)
      have hB6 := Nat.le_trans hB5 hb6.size
      obtain ⟨e0, e1, e2⟩ := id hy6
      go_wp2_with fail
      refine (implRulePossible _ _ _ _ _ _ _ _ _ _ _ _ _ _ hr6 hB6 hm (Nat.le_refl _) ho6.rd (Nat.le_refl _) hmg B64s.out).mono ?_
      rintro e w6 ⟨rfl, hb7⟩
      have h07 := step h06 hb7
      have hx7 := hx6.below hs6 hb7
      have hs7 := Nat.lt_of_lt_of_le hs6 hb7.size
      have hy7 := hy6.below ht6 hb7
      have ht7 := Nat.lt_of_lt_of_le ht6 hb7.size
      have hr7 := hr6.below (hb7.mono hB6)
      have ho7 := ho6.below hb7
      have hne : (rpB k xs v g size != rpB k xs v g size) = false := by simp
      obtain ⟨f0, f1, f2⟩ := id hx7
      obtain ⟨g0, g1, g2⟩ := id hy7
      have hrA : Rd w6.drew w.heap.size A n xs := h.below h07.drew
      have hBA : w.heap.size ≤ w6.drew.heap.size := h07.size
      have hsame := same_refl g
      go_wp2
      go_region_with (first | (go_at_call 30; (with_reducible refine (toRule_any k A n c w.heap.size xs v _ ?hd ?hB hm).mono ?_); (case hd => exact hrA); (case hB => exact hBA); rintro e w7 ⟨A7, rfl, ho8, hb8d⟩; have hb8 := below_undrew hb8d; clear hb8d; have hy8 := hy7.below ht7 hb8; obtain ⟨q0, q1, q2⟩ := id hy8; have hrx8 := hr7.below (hb8.mono (Nat.le_of_lt ht7)); have hB8 := Nat.le_trans (Nat.le_of_lt ht7) hb8.size; have hr8 := ho8.rd; have h08 := step h07 hb8) | (go_at_call 32; (with_reducible refine (eqRule_any A4 A7 n n n n _ _ xs xs k v k v _ hrx8 hr8 ?hB ?hB2 hm rfl rfl rfl).mono ?_); (case hB => exact hB8); (case hB2 => exact Nat.le_refl _); rintro e w8 ⟨rfl, hb9⟩))
      all_goals
        have h09 := step h08 hb9
        have ho9 := (ho7.below hb8).below hb9
        go_wp2_with fail
        refine (toIntS_any _ _ _ _ _ _ (hg.below h09) h09.size hmg).mono ?_
        rintro e w9 ⟨rfl, ho10, hb10⟩
        have h10 := step h09 hb10
        go_wp2_with fail
        refine (eqIntS_any _ _ _ _ _ _ _ _ _ _ _ (ho9.below hb10).rd ho10.rd hmg).mono ?_
        rintro e w10 ⟨rfl, hb11⟩
        rw [hsame]
        go_wp2
        go_ret
        exact ⟨rfl, step h10 hb11⟩
    · have HS : Hid (∀ w, Calls Try.prog 29 #[.agg #[.int .i64 k, .slice A n c, .int .i64 v], .int .i64 1048576] w fun e w' => e = .returned (.int .i64 (-1)) ∧ Below w.heap.size w w') := Lib.hid (fun w => szRule_big _ _ _ _ _ _ hn hmx)
      go_enter Try.func5, Try.ntmps5
      go_wp2_with (go_at_call 29; refine (HS.out _).mono ?_; rintro e w1 ⟨rfl, hb1⟩)
      go_ret
      exact ⟨rfl, step hb0 hb1⟩
  · go_enter Try.func5, Try.ntmps5
    go_wp2
    go_ret
    exact ⟨rfl, hb0⟩
end Go.Proofs.Ytoejpodchlepiaa
