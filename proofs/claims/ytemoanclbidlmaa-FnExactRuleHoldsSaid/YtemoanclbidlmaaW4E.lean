import Derived.Test.YtemoanclbidlmaaQ4R
import Derived.Test.YtemoanclbidlmaaRInts
set_option maxRecDepth 8000
namespace Go.Proofs.Ytemoanclbidlmaa
open Go.ChangeShapes Go.WideShapes Go.ChangeAt Go.RowKit

theorem row_max {k : IntKind} {w : World} {a : Option Addr} {len cap : Nat} {zs : List Int} (h : IsRow k w a len cap zs) : len ≤ 9223372036854775807 := by
  rcases h with ⟨rfl, rfl, rfl, rfl⟩ | ⟨x, rfl, hl, hm, _⟩
  · omega
  · simp only [maxLen] at hm; omega
theorem below_undrew {w w2 : World} (h : Below w.drew.heap.size w.drew w2) : Below w.heap.size w w2 := ⟨h.os, h.tape, h.output, h.size, h.block⟩
theorem szRule_big (A : Option Addr) (c n : Nat) (k v : Int) (w : World) (hn : ¬ n ≤ 1048576) (hm : n ≤ 9223372036854775807) :
    Calls Try.prog 33 #[.agg #[.int .i64 k, .slice A n c, .int .i64 v], .int .i64 1048576] w fun e w' => e = .returned (.int .i64 (-1)) ∧ Below w.heap.size w w' := by
  refine (szRule_any A c n k v 1048576 w hm (by omega) (by omega)).mono ?_
  rintro e w' ⟨rfl, hb⟩
  exact ⟨by rw [if_neg (by omega)], hb⟩
set_option maxHeartbeats 1000000 in
theorem exactRuleValid_walk (A : Option Addr) (c n : Nat) (xs : List Int) (k v size : Int) (w : World) (h : Rd w w.heap.size A n xs) (hmx : n ≤ 9223372036854775807) (_b_size : -9223372036854775808 ≤ size ∧ size ≤ 9223372036854775807) :
    Calls Try.prog 9 #[.agg #[.int .i64 k, .slice A n c, .int .i64 v], .int .i64 size] w fun e w' => e = .returned (.bool true) ∧ Below w.heap.size w w' := by
  have hx0 := rbox_new w k A n c v 41
  have hb0 : Below w.heap.size w (w.alloc (.cells #[.int .i64 k, .slice A n c, .int .i64 v] 41)) := (Below.refl _ _).alloc (Nat.le_refl _) _
  have hs0 : w.heap.size < (w.alloc (.cells #[.int .i64 k, .slice A n c, .int .i64 v] 41)).heap.size := by simp
  obtain ⟨a0, a1, a2⟩ := id hx0
  by_cases hn : n ≤ 1048576
  · have hm : n ≤ 1099511627776 := by omega
    have HS := Lib.hid (show (if (n : Int) ≤ 1048576 then (1048576 : Int) - n else -1) = 1048576 - n from if_pos (by omega))
    go_enter Try.func9, Try.ntmps9
    go_wp2_with fail
    refine (szRule_any _ _ _ _ _ _ _ hmx (by omega) (by omega)).mono ?_
    rintro e w1 ⟨rfl, hb1⟩
    rw [HS.out]
    have h01 := step hb0 hb1
    have hx1 := hx0.below hs0 hb1
    have hs1 := Nat.lt_of_lt_of_le hs0 hb1.size
    obtain ⟨c0, c1, c2⟩ := id hx1
    go_wp2_with fail
    refine (toRule_any _ _ _ _ _ _ _ _ (h.below h01) h01.size hm).mono ?_
    rintro e w2 ⟨A2, rfl, ho2, hb2⟩
    have h02 := step h01 hb2
    have hx2 := hx1.below hs1 hb2
    have hs2 := Nat.lt_of_lt_of_le hs1 hb2.size
    go_wp2_with fail
    refine (specRuleValid _ _ _ _ _ _ _ _ _ ho2.rd (Nat.le_refl _) hm).mono ?_
    rintro e w3 ⟨rfl, hb3⟩
    have h03 := step h02 hb3
    have hx3 := hx2.below hs2 hb3
    have hs3 := Nat.lt_of_lt_of_le hs2 hb3.size
    obtain ⟨d0, d1, d2⟩ := id hx3
    go_wp2_with fail
    refine (toRule_any _ _ _ _ _ _ _ _ (h.below h03) h03.size hm).mono ?_
    rintro e w4 ⟨A4, rfl, ho4, hb4⟩
    have h04 := step h03 hb4
    have hx4 := hx3.below hs3 hb4
    have hs4 := Nat.lt_of_lt_of_le hs3 hb4.size
    have hy4 := rbox_new w4 k A4 n n v 30
    have hb5 : Below w4.heap.size w4 (w4.alloc (.cells #[.int .i64 k, .slice A4 n n, .int .i64 v] 30)) := (Below.refl _ _).alloc (Nat.le_refl _) _
    have h05 := step h04 hb5
    have hx5 := hx4.below hs4 hb5
    have hs5 := Nat.lt_of_lt_of_le hs4 hb5.size
    have hr5 := ho4.rd.below hb5
    have ht5 : w4.heap.size < (w4.alloc (.cells #[.int .i64 k, .slice A4 n n, .int .i64 v] 30)).heap.size := by simp
    obtain ⟨e0, e1, e2⟩ := id hy4
    go_wp2_with fail
    refine (implRuleValid _ _ _ _ _ _ _ _ _ hr5 hb5.size hm (Nat.le_refl _)).mono ?_
    rintro e w6 ⟨rfl, hb6⟩
    have h06 := step h05 hb6
    have hx6 := hx5.below hs5 hb6
    have hs6 := Nat.lt_of_lt_of_le hs5 hb6.size
    have hy6 := hy4.below ht5 hb6
    have ht6 := Nat.lt_of_lt_of_le ht5 hb6.size
    have hr6 := hr5.below (hb6.mono hb5.size)
    have hne : (rv k xs v size != rv k xs v size) = false := by simp
    obtain ⟨f0, f1, f2⟩ := id hx6
    obtain ⟨g0, g1, g2⟩ := id hy6
    have hrA : Rd w6.drew w.heap.size A n xs := h.below h06.drew
    have hBA : w.heap.size ≤ w6.drew.heap.size := h06.size
    go_wp2
    go_region_with (first | (go_at_call 34; go_loud (with_reducible refine (toRule_any k A n c w.heap.size xs v _ ?hd ?hB hm).mono ?_); (case hd => exact hrA); (case hB => exact hBA); rintro e w7 ⟨A7, rfl, ho7, hb7d⟩; have hb7 := below_undrew hb7d; clear hb7d; have hy7 := hy6.below ht6 hb7; obtain ⟨q0, q1, q2⟩ := id hy7; have hrx7 := hr6.below (hb7.mono (Nat.le_of_lt ht6)); have hB7 := Nat.le_trans (Nat.le_of_lt ht6) hb7.size; have hr7 := ho7.rd; have h07 := step h06 hb7) | (go_at_call 35; go_loud (with_reducible refine (eqRule_any A4 A7 n n n n _ _ xs xs k v k v _ hrx7 hr7 ?hB ?hB2 hm rfl rfl rfl).mono ?_); (case hB => exact hB7); (case hB2 => exact Nat.le_refl _); rintro e w8 ⟨rfl, hb8⟩))
    all_goals
      go_wp2
      go_ret
      exact ⟨rfl, step h07 hb8⟩
  · have HS : Hid (∀ w, Calls Try.prog 33 #[.agg #[.int .i64 k, .slice A n c, .int .i64 v], .int .i64 1048576] w fun e w' => e = .returned (.int .i64 (-1)) ∧ Below w.heap.size w w') := Lib.hid (fun w => szRule_big _ _ _ _ _ _ hn hmx)
    go_enter Try.func9, Try.ntmps9
    go_wp2_with (go_at_call 33; refine (HS.out _).mono ?_; rintro e w1 ⟨rfl, hb1⟩)
    go_ret
    exact ⟨rfl, step hb0 hb1⟩
end Go.Proofs.Ytemoanclbidlmaa
