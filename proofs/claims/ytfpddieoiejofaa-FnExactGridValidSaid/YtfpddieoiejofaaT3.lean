import Derived.Test.YtfpddieoiejofaaT2
namespace Go.Proofs.Ytfpddieoiejofaa
open Go.ChangeShapes Go.WideShapes Go.ChangeAt Go.RowKit

theorem sq_bd {size : Int} (h2 : 2 ≤ size) (h4 : size ≤ 4) : 4 ≤ size * size ∧ size * size ≤ 16 := by
  have : size = 2 ∨ size = 3 ∨ size = 4 := by omega
  rcases this with rfl | rfl | rfl <;> omega
theorem sq_wrap {size : Int} (h2 : 2 ≤ size) (h4 : size ≤ 4) : wrap64 (size * size) = size * size :=
  IntWalk.wrap64_in _ ⟨by have := sq_bd h2 h4; omega, by have := sq_bd h2 h4; omega⟩

theorem implValid (A : Option Addr) (c n B : Nat) (xs : List Int) (size : Int) (w : World) (h : Rd w B A n xs) (hB : B ≤ w.heap.size) (hm : n ≤ 1099511627776) :
    Calls Try.prog 39 #[.agg #[.slice A n c, .int .i64 size]] w fun e w' => e = .returned (.bool (gv xs size)) ∧ Below w.heap.size w w' := by
  have hlen := Lib.hid h.1
  cases hs : inr size 2 4
  · go_enter Try.func39, Try.ntmps39
    go_wp2_with (go_at_call 46; refine (sizeValid_any _ _).mono ?_; rintro e w' ⟨rfl, rfl⟩)
    go_ret
    exact ⟨by simp [gv, hs], (Below.refl _ _).alloc (Nat.le_refl _) _⟩
  · obtain ⟨h2, h4⟩ := inr_t hs
    have hw := sq_wrap h2 h4
    cases hsq : ((n : Int) == size * size)
    · have hg := Lib.hid (show gv xs size = false by simp [gv, hlen.out, hsq])
      have hsq2 : ((n : Int) != wrap64 (size * size)) = true := by rw [hw, bne, hsq]; rfl
      clear hw hsq
      go_enter Try.func39, Try.ntmps39
      go_wp2_with (go_at_call 46; refine (sizeValid_any _ _).mono ?_; rintro e w' ⟨rfl, rfl⟩)
      go_ret
      exact ⟨by rw [hg.out]; rfl, (Below.refl _ _).alloc (Nat.le_refl _) _⟩
    · have hg0 : xs.all (fun x => inr x 0 size) = true → gv xs size = true := fun h => by simp [gv, hlen.out, hsq, hs, h]
      have hg := Lib.hid hg0; clear hg0
      have hsq2 : ((n : Int) != wrap64 (size * size)) = false := by rw [hw, bne, hsq]; rfl
      clear hw hsq
      go_enter Try.func39, Try.ntmps39
      go_wp2_with (go_at_call 46; refine (sizeValid_any _ _).mono ?_; rintro e w' ⟨rfl, rfl⟩)
      go_loop [23] (fun i => ∃ k : Nat, k ≤ n ∧ i = .int .i64 k ∧ okTo xs size k) (fun i => n - (intOf i).toNat)
      case atStart => exact ⟨0, Nat.zero_le _, rfl, okTo_zero⟩
      case round =>
        obtain ⟨k, hk, rfl, hok⟩ := hrel
        by_cases hlt : k < n
        · obtain ⟨b, off, rfl, hb, hck⟩ := h.at_ hlt
          have hbw : b < w.heap.size := by omega
          by_cases hv0 : 0 ≤ nth xs k
          · by_cases hv1 : nth xs k ≤ size
            · go_wp2
              go_round
              case rel => exact ⟨k + 1, by omega, by go_num, okTo_succ hok (by simp [inr, hv0, hv1])⟩
              case measure => simp [intOf]; omega
            · go_wp2
              go_ret
              exact ⟨by rw [not_all hlen.out hlt (by simp [inr]; omega)]; rfl, (Below.refl _ _).alloc (Nat.le_refl _) _⟩
          · go_wp2
            go_ret
            exact ⟨by rw [not_all hlen.out hlt (by simp [inr]; omega)]; rfl, (Below.refl _ _).alloc (Nat.le_refl _) _⟩
        · obtain rfl : k = n := by omega
          have hall := Lib.hid (okTo_all hok hlen.out)
          go_wp2
          go_ret
          exact ⟨by rw [hg.out hall.out]; rfl, (Below.refl _ _).alloc (Nat.le_refl _) _⟩
end Go.Proofs.Ytfpddieoiejofaa
