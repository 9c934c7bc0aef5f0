import Derived.Test.YtgejahkdiciplabC3G
import Derived.Lib.BitFns
namespace Go.Proofs.Ytgejahkdiciplab
open Go.ChangeShapes Go.WideShapes Go.ChangeAt Go.RowKit
theorem ones64_any (M : Nat) (h : M < 32) (he : M % 2 = 0) (w : World) : Calls Try.prog 119 #[.int .u64 M] w fun e w' => e = .returned (.int .i64 (Lib.onesCount M : Nat)) ∧ w = w' := by
  have : M = 0 ∨ M = 2 ∨ M = 4 ∨ M = 6 ∨ M = 8 ∨ M = 10 ∨ M = 12 ∨ M = 14 ∨ M = 16 ∨ M = 18 ∨ M = 20 ∨ M = 22 ∨ M = 24 ∨ M = 26 ∨ M = 28 ∨ M = 30 := by omega
  rcases this with rfl | rfl | rfl | rfl | rfl | rfl | rfl | rfl | rfl | rfl | rfl | rfl | rfl | rfl | rfl | rfl
  all_goals
    go_enter Try.func119, Try.ntmps119
    go_wp2
    go_ret
    exact ⟨by kernel_rfl, rfl⟩
theorem ones_any (M : Nat) (h : M < 32) (he : M % 2 = 0) (w : World) : Calls Try.prog 110 #[.int .u64 M] w fun e w' => e = .returned (.int .i64 (Lib.onesCount M : Nat)) ∧ w = w' := by
  go_enter Try.func110, Try.ntmps110
  go_wp2_with (go_at_call 119; refine (ones64_any M h he _).mono ?_; rintro e w' ⟨rfl, rfl⟩)
  go_ret
  exact ⟨rfl, rfl⟩
theorem ones_lt : ∀ M, M < 32 → Lib.onesCount M < 32 := by decide +kernel
theorem ones_bits : ∀ M, M < 32 → M % 2 = 0 → Lib.onesCount M = (bitsTo M 4).length := by decide +kernel
end Go.Proofs.Ytgejahkdiciplab
