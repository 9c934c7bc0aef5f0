import Derived.Test.YtmnacejmkjhpnaaCt
import Derived.Test.YtmnacejmkjhpnaaVl
import Derived.Test.YtmnacejmkjhpnaaW3E
import Derived.Test.YtmnacejmkjhpnaaCd
namespace Go.Proofs.Ytmnacejmkjhpnaa
open Go.ChangeShapes Go.WideShapes Go.ChangeAt Go.RowKit

theorem maskValid_any (x : Int) (s : Nat) (w : World) (hs : s ∈ [2, 3, 4]) (hx : -9223372036854775808 ≤ x ∧ x ≤ 9223372036854775807) :
    Calls Try.prog 82 #[.int .i64 x, .int .i64 s] w fun e w' => e = .returned (.bool (mkOk ((2 : Int) ^ (s + 1) - 2) x)) ∧ w = w' := by
  have hs4 : s ≤ 4 := by simp at hs; omega
  have ha := andNot_ok x s hs4 hx
  obtain ⟨m, hm⟩ : ∃ m, 2 ^ (s + 1) - 2 = m := ⟨_, rfl⟩
  rw [hm] at ha
  go_enter Try.func82, Try.ntmps82
  go_wp2_with (go_at_call 72; refine (allValues_any s hs _).mono ?_; rw [hm]; rintro e w' ⟨rfl, rfl⟩)
  go_ret
  exact ⟨by rw [← ha]; rfl, rfl⟩
theorem implMaskValues : IMaskValues := by
  intro m w hm
  have e30 : mkOk ((2 : Int) ^ (4 + 1) - 2) m = mvOk m := rfl
  cases hok : mvOk m
  · have HL := Lib.hid (show maskVals m = [] by simp [maskVals, hok])
    go_enter Try.func54, Try.ntmps54
    go_wp2_with (go_at_call 82; refine (maskValid_any m 4 _ (by simp) hm).mono ?_; rw [e30, hok]; rintro e w' ⟨rfl, rfl⟩)
    go_ret
    rw [HL.out]
    exact ⟨_, _, rfl, Ow.nil_ _ _, Below.refl _ _⟩
  · have hok' := hok
    simp only [mvOk, Bool.and_eq_true] at hok'
    obtain ⟨m0, m1⟩ := inr_t hok'.1
    obtain ⟨M, rfl⟩ := Int.eq_ofNat_of_zero_le m0
    have HL := Lib.hid (show maskVals M = bitsTo M 4 by simp [maskVals, hok])
    go_enter Try.func54, Try.ntmps54
    go_wp2_with (first | (go_at_call 82; refine (maskValid_any (M : Int) 4 _ (by simp) hm).mono ?_; rw [e30, hok]; rintro e w' ⟨rfl, rfl⟩) | (go_at_call 71; refine (valuesIn_any M (by omega) _).mono ?_; rintro e w1 ⟨A0, c0, rfl, ho0, hb1⟩))
    go_ret
    rw [HL.out]
    exact ⟨_, _, rfl, ho0, hb1⟩
theorem implMasksValid : IMasksValid := by
  intro A c n B xs size w h hx64 hB hm hsz
  have hlen := Lib.hid h.1
  cases hs : inr size 2 4
  · have HL := Lib.hid (show mvd xs size = false by simp [mvd, hs])
    go_enter Try.func52, Try.ntmps52
    go_wp2_with (go_at_call 74; refine (sizeValid_any _ _).mono ?_; rintro e w' ⟨rfl, rfl⟩)
    go_ret
    exact ⟨by rw [HL.out]; rfl, Below.refl _ _⟩
  · obtain ⟨h2, h4⟩ := inr_t hs
    have hw := sq_wrap h2 h4
    cases hsq : ((n : Int) == size * size)
    · have HL := Lib.hid (show mvd xs size = false by simp only [mvd, hlen.out, hsq]; simp)
      have hsq2 : ((n : Int) != wrap64 (size * size)) = true := by rw [hw, bne, hsq]; rfl
      clear hw hsq
      go_enter Try.func52, Try.ntmps52
      go_wp2_with (go_at_call 74; refine (sizeValid_any _ _).mono ?_; rintro e w' ⟨rfl, rfl⟩)
      go_ret
      exact ⟨by rw [HL.out]; rfl, Below.refl _ _⟩
    · obtain ⟨s, rfl⟩ := Int.eq_ofNat_of_zero_le (by omega : 0 ≤ size)
      have hsm : s ∈ [2, 3, 4] := by
        have : s = 2 ∨ s = 3 ∨ s = 4 := by omega
        simpa using this
      have HL := Lib.hid (show mvd xs s = xs.all (mkOk ((2 : Int) ^ (s + 1) - 2)) by simp only [mvd, hlen.out, hsq, hs, Int.toNat_natCast, Bool.true_and])
      have hsq2 : ((n : Int) != wrap64 ((s : Int) * s)) = false := by rw [hw, bne, hsq]; rfl
      clear hw hsq
      go_enter Try.func52, Try.ntmps52
      go_wp2_with (go_at_call 74; refine (sizeValid_any _ _).mono ?_; rintro e w' ⟨rfl, rfl⟩)
      go_loop [20] (fun i => ∃ k : Nat, k ≤ n ∧ i = .int .i64 k ∧ Hid (allTo (mkOk ((2 : Int) ^ (s + 1) - 2)) xs k)) (fun i => n - (intOf i).toNat)
      case atStart => exact ⟨0, Nat.zero_le _, rfl, Lib.hid (fun j hj => absurd hj (by omega))⟩
      case round =>
        obtain ⟨k, hk, rfl, hall⟩ := hrel
        by_cases hlt : k < n
        · obtain ⟨b, off, rfl, hb, hck⟩ := h.at_ hlt
          cases hok : mkOk ((2 : Int) ^ (s + 1) - 2) (nth xs k)
          · have Hf := Lib.hid (show mvd xs s = false by rw [HL.out]; exact all_not hlen.out hlt hok)
            go_wp2_with (go_at_call 82; refine (maskValid_any (nth xs k) s _ hsm (hx64 k)).mono ?_; rw [hok]; rintro e w' ⟨rfl, rfl⟩)
            go_ret
            exact ⟨by rw [Hf.out]; rfl, Below.refl _ _⟩
          · have hn2 := Lib.hid (allTo_succ hall.out hok)
            go_wp2_with (go_at_call 82; refine (maskValid_any (nth xs k) s _ hsm (hx64 k)).mono ?_; rw [hok]; rintro e w' ⟨rfl, rfl⟩)
            go_round
            case rel => exact ⟨k + 1, by omega, by go_num, hn2⟩
            case measure => simp [intOf]; omega
        · obtain rfl : k = n := by omega
          have Hf := Lib.hid (show mvd xs s = true by rw [HL.out]; exact allTo_all hall.out hlen.out)
          go_wp2
          go_ret
          exact ⟨by rw [Hf.out]; rfl, Below.refl _ _⟩
theorem implCandidatesOf : ICandidatesOf := by
  intro A c n B xs size w h hB hm
  have hlen := Lib.hid h.1
  cases hg : gv xs size
  · have HL := Lib.hid (show candL xs size = [] by simp [candL, hg])
    have h1 := h.alloc hB (.cells #[.slice A n c, .int .i64 size] 51)
    have hB1 : B ≤ (w.alloc (.cells #[.slice A n c, .int .i64 size] 51)).heap.size := by simp; omega
    have hB0 : Below w.heap.size w (w.alloc (.cells #[.slice A n c, .int .i64 size] 51)) := (Below.refl _ _).alloc (Nat.le_refl _) _
    go_enter Try.func50, Try.ntmps50
    go_wp2_with (go_at_call 59; refine (implValid _ _ _ _ _ _ _ h1 hB1 hm).mono ?_; rintro e w1 ⟨rfl, hb1⟩; rw [hg])
    go_ret
    rw [HL.out]
    exact ⟨_, _, rfl, Ow.nil_ _ _, step hB0 hb1⟩
  · obtain ⟨s, rfl, hs, hls⟩ := size_nat hg
    have hn : n = s * s := by have := hlen.out; omega
    have hok := Lib.hid (gv_okAll hg hlen.out)
    have HL := Lib.hid (show candL xs s = mapTo (candG xs s) n by simp [candL, hg, hlen.out])
    have Hn := Lib.hid hn; clear hn hls
    have h1 := h.alloc hB (.cells #[.slice A n c, .int .i64 s] 51)
    have hB1 : B ≤ (w.alloc (.cells #[.slice A n c, .int .i64 s] 51)).heap.size := by simp; omega
    have hB0 : Below w.heap.size w (w.alloc (.cells #[.slice A n c, .int .i64 s] 51)) := (Below.refl _ _).alloc (Nat.le_refl _) _
    go_enter Try.func50, Try.ntmps50
    go_wp2_with (first | (go_at_call 59; refine (implValid _ _ _ _ _ _ _ h1 hB1 hm).mono ?_; rintro e w1 ⟨rfl, hb1⟩; rw [hg]; have hr1 := h1.below (hb1.mono hB1); have c0 := box_cell hb1 0; have c1 := box_cell hb1 1; have hB2 := step hB0 hb1; have hBw : B ≤ w1.heap.size := Nat.le_trans hB hB2.size; clear hb1; simp only [List.getElem?_toArray, List.getElem?_cons_zero, List.getElem?_cons_succ] at c0 c1) | (go_at_call 80; refine (candidates_any _ _ _ _ _ _ _ hr1 hBw hs Hn.out hok).mono ?_; rintro e w2 ⟨A2, c2, rfl, ho2, hb2⟩; have hB3 := step hB2 hb2))
    go_ret
    rw [HL.out]
    exact ⟨_, _, rfl, ho2.mono hB2.size, hB3⟩
end Go.Proofs.Ytmnacejmkjhpnaa
