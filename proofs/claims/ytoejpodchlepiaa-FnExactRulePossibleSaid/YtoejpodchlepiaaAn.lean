import Derived.Test.YtoejpodchlepiaaC3
namespace Go.Proofs.Ytoejpodchlepiaa
open Go.ChangeShapes Go.WideShapes Go.ChangeAt Go.RowKit

theorem subset_and (a m : Nat) (ha : a < 2 ^ 64) (hm : m < 2 ^ 64) (h : a &&& (2 ^ 64 - (m + 1)) = 0) : a = a &&& m := by
  apply Nat.eq_of_testBit_eq
  intro i
  rw [Nat.testBit_and]
  cases hai : a.testBit i
  · rfl
  · have hi : i < 64 := by
      rcases Nat.lt_or_ge i 64 with h | h
      · exact h
      · have := Nat.testBit_lt_two_pow (Nat.lt_of_lt_of_le ha (Nat.pow_le_pow_right (by decide) h))
        rw [hai] at this; cases this
    have h2 := congrArg (fun z => z.testBit i) h
    simp only [Nat.testBit_and, hai, Nat.testBit_two_pow_sub_succ hm, hi, Nat.zero_testBit, decide_true, Bool.true_and, Bool.not_eq_false'] at h2
    rw [h2]; rfl
theorem small_and : ∀ s, s < 5 → ∀ a, a < 32 → a ≤ 2 ^ (s + 1) - 2 → a % 2 = 0 → a &&& (18446744073709551616 - (2 ^ (s + 1) - 2 + 1)) = 0 := by decide +kernel
theorem even_and : ∀ s, s < 5 → ∀ a, a % 2 = 1 → a &&& (2 ^ (s + 1) - 2) ≠ a := by
  intro s hs a ha h
  have h0 := congrArg (fun z => z.testBit 0) h
  have e : (2 ^ (s + 1) - 2).testBit 0 = false := by
    have : s = 0 ∨ s = 1 ∨ s = 2 ∨ s = 3 ∨ s = 4 := by omega
    rcases this with rfl | rfl | rfl | rfl | rfl <;> rfl
  simp only [Nat.testBit_and, e, Bool.and_false] at h0
  rw [Nat.testBit_zero] at h0
  simp [ha] at h0
theorem andNot_ok (x : Int) (s : Nat) (hs : s ≤ 4) (hx : -9223372036854775808 ≤ x ∧ x ≤ 9223372036854775807) :
    (bits .andNot .i64 x ((2 ^ (s + 1) - 2 : Nat) : Int) == 0) = mkOk ((2 : Int) ^ (s + 1) - 2) x := by
  have hp : (2 : Int) ^ (s + 1) - 2 = ((2 ^ (s + 1) - 2 : Nat) : Int) := by
    have : s = 0 ∨ s = 1 ∨ s = 2 ∨ s = 3 ∨ s = 4 := by omega
    rcases this with rfl | rfl | rfl | rfl | rfl <;> rfl
  have hm30 : 2 ^ (s + 1) - 2 ≤ 30 := by
    have : s = 0 ∨ s = 1 ∨ s = 2 ∨ s = 3 ∨ s = 4 := by omega
    rcases this with rfl | rfl | rfl | rfl | rfl <;> decide
  rw [hp]
  have hsa := small_and s (by omega)
  have hev := even_and s (by omega)
  generalize 2 ^ (s + 1) - 2 = m at *
  have hmm : (BitVec.ofInt 64 (m : Int)).toNat = m := ofInt_i64 m (by omega)
  have hb : bits .andNot .i64 x (m : Int) = IntKind.i64.wrap (((BitVec.ofInt 64 x).toNat &&& (2 ^ 64 - (m + 1)) : Nat) : Int) := by
    show IntKind.i64.wrap ((BitVec.ofInt 64 x &&& ~~~BitVec.ofInt 64 (m : Int)).toNat : Int) = _
    rw [BitVec.toNat_and, BitVec.toNat_not, hmm]
    congr 3
    omega
  have hA : (BitVec.ofInt 64 x).toNat < 2 ^ 64 := (BitVec.ofInt 64 x).isLt
  have hAx : ((BitVec.ofInt 64 x).toNat : Int) = x % 2 ^ 64 := by
    rw [BitVec.toNat_ofInt]; exact Int.toNat_of_nonneg (Int.emod_nonneg _ (by decide))
  rw [hb]
  generalize (BitVec.ofInt 64 x).toNat = a at *
  have hlt : a &&& (2 ^ 64 - (m + 1)) < 2 ^ 64 := Nat.and_lt_two_pow _ (by omega)
  have hw : (IntKind.i64.wrap ((a &&& (2 ^ 64 - (m + 1)) : Nat) : Int) == 0) = (a &&& (2 ^ 64 - (m + 1)) == 0) := by
    rw [IntKind.wrap_i64]
    rw [Bool.eq_iff_iff, beq_iff_eq, beq_iff_eq]
    generalize a &&& (2 ^ 64 - (m + 1)) = y at *
    omega
  rw [hw, Bool.eq_iff_iff, beq_iff_eq]
  simp only [mkOk, inr, Bool.and_eq_true, decide_eq_true_eq, beq_iff_eq]
  constructor
  · intro h
    have e := subset_and a m hA (by omega) h
    have hle : a ≤ m := by rw [e]; exact Nat.and_le_right
    have h2 : a % 2 = 0 := by
      rcases Nat.mod_two_eq_zero_or_one a with h' | h'
      · exact h'
      · exact absurd e.symm (hev a h')
    have hxa : x = a := by omega
    refine ⟨⟨by omega, by omega⟩, ?_⟩
    rw [Int.tmod_eq_emod_of_nonneg (by omega)]; omega
  · rintro ⟨⟨h1, h2⟩, h3⟩
    rw [Int.tmod_eq_emod_of_nonneg h1] at h3
    exact hsa a (by omega) (by omega) (by omega)
theorem allValues_any (s : Nat) (hs : s ∈ [2, 3, 4]) (w : World) :
    Calls Try.prog 121 #[.int .i64 s] w fun e w' => e = .returned (.int .i64 ((2 ^ (s + 1) - 2 : Nat) : Int)) ∧ w = w' := by
  simp only [List.mem_cons, List.not_mem_nil, or_false] at hs
  rcases hs with rfl | rfl | rfl
  all_goals
    go_enter Try.func121, Try.ntmps121
    go_wp2
    go_ret
    exact ⟨rfl, rfl⟩
end Go.Proofs.Ytoejpodchlepiaa
