import Derived.Test.YtoejpodchlepiaaAn
import Derived.Test.YtoejpodchlepiaaW3E
namespace Go.Proofs.Ytoejpodchlepiaa
open Go.ChangeShapes Go.WideShapes Go.ChangeAt Go.RowKit

theorem maskValid_any (x : Int) (s : Nat) (w : World) (hs : s ∈ [2, 3, 4]) (hx : -9223372036854775808 ≤ x ∧ x ≤ 9223372036854775807) :
    Calls Try.prog 110 #[.int .i64 x, .int .i64 s] w fun e w' => e = .returned (.bool (mkOk ((2 : Int) ^ (s + 1) - 2) x)) ∧ w = w' := by
  have hs4 : s ≤ 4 := by simp at hs; omega
  have ha := andNot_ok x s hs4 hx
  obtain ⟨m, hm⟩ : ∃ m, 2 ^ (s + 1) - 2 = m := ⟨_, rfl⟩
  rw [hm] at ha
  go_enter Try.func110, Try.ntmps110
  go_wp2_with (go_at_call 121; refine (allValues_any s hs _).mono ?_; rw [hm]; rintro e w' ⟨rfl, rfl⟩)
  go_ret
  exact ⟨by rw [← ha]; rfl, rfl⟩
theorem implMasksValid : IMasksValid := by
  intro A c n B xs size w h hx64 hB hm hsz
  have hlen := Lib.hid h.1
  cases hs : inr size 2 4
  · have HL := Lib.hid (show mvd xs size = false by simp [mvd, hs])
    go_enter Try.func65, Try.ntmps65
    go_wp2_with (go_at_call 109; refine (sizeValid_any _ _).mono ?_; rintro e w' ⟨rfl, rfl⟩)
    go_ret
    exact ⟨by rw [HL.out]; rfl, Below.refl _ _⟩
  · obtain ⟨h2, h4⟩ := inr_t hs
    have hw := sq_wrap h2 h4
    cases hsq : ((n : Int) == size * size)
    · have HL := Lib.hid (show mvd xs size = false by simp only [mvd, hlen.out, hsq]; simp)
      have hsq2 : ((n : Int) != wrap64 (size * size)) = true := by rw [hw, bne, hsq]; rfl
      clear hw hsq
      go_enter Try.func65, Try.ntmps65
      go_wp2_with (go_at_call 109; refine (sizeValid_any _ _).mono ?_; rintro e w' ⟨rfl, rfl⟩)
      go_ret
      exact ⟨by rw [HL.out]; rfl, Below.refl _ _⟩
    · obtain ⟨s, rfl⟩ := Int.eq_ofNat_of_zero_le (by omega : 0 ≤ size)
      have hsm : s ∈ [2, 3, 4] := by
        have : s = 2 ∨ s = 3 ∨ s = 4 := by omega
        simpa using this
      have HL := Lib.hid (show mvd xs s = xs.all (mkOk ((2 : Int) ^ (s + 1) - 2)) by simp only [mvd, hlen.out, hsq, hs, Int.toNat_natCast, Bool.true_and])
      have hsq2 : ((n : Int) != wrap64 ((s : Int) * s)) = false := by rw [hw, bne, hsq]; rfl
      clear hw hsq
      go_enter Try.func65, Try.ntmps65
      go_wp2_with (go_at_call 109; refine (sizeValid_any _ _).mono ?_; rintro e w' ⟨rfl, rfl⟩)
      go_loop [20] (fun i => ∃ k : Nat, k ≤ n ∧ i = .int .i64 k ∧ Hid (allTo (mkOk ((2 : Int) ^ (s + 1) - 2)) xs k)) (fun i => n - (intOf i).toNat)
      case atStart => exact ⟨0, Nat.zero_le _, rfl, Lib.hid (fun j hj => absurd hj (by omega))⟩
      case round =>
        obtain ⟨k, hk, rfl, hall⟩ := hrel
        by_cases hlt : k < n
        · obtain ⟨b, off, rfl, hb, hck⟩ := h.at_ hlt
          cases hok : mkOk ((2 : Int) ^ (s + 1) - 2) (nth xs k)
          · have Hf := Lib.hid (show mvd xs s = false by rw [HL.out]; exact all_not hlen.out hlt hok)
            go_wp2_with (go_at_call 110; refine (maskValid_any (nth xs k) s _ hsm (hx64 k)).mono ?_; rw [hok]; rintro e w' ⟨rfl, rfl⟩)
            go_ret
            exact ⟨by rw [Hf.out]; rfl, Below.refl _ _⟩
          · have hn2 := Lib.hid (allTo_succ hall.out hok)
            go_wp2_with (go_at_call 110; refine (maskValid_any (nth xs k) s _ hsm (hx64 k)).mono ?_; rw [hok]; rintro e w' ⟨rfl, rfl⟩)
            go_round
            case rel => exact ⟨k + 1, by omega, by go_num, hn2⟩
            case measure => simp [intOf]; omega
        · obtain rfl : k = n := by omega
          have Hf := Lib.hid (show mvd xs s = true by rw [HL.out]; exact allTo_all hall.out hlen.out)
          go_wp2
          go_ret
          exact ⟨by rw [Hf.out]; rfl, Below.refl _ _⟩
end Go.Proofs.Ytoejpodchlepiaa
