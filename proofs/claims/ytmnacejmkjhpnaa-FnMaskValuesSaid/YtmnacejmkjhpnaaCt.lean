import Derived.Test.YtmnacejmkjhpnaaM3
import Derived.Test.YtmnacejmkjhpnaaMt
namespace Go.Proofs.Ytmnacejmkjhpnaa
open Go.ChangeShapes Go.WideShapes Go.ChangeAt Go.RowKit

/-- one more at j. -/
def bump (C : Nat → Nat) (j : Nat) : Nat → Nat := fun i => if i = j then C i + 1 else C i
/-- how many of the first k cells have each value, a line behind the other, five values each. -/
def cnt (xs : List Int) (s : Nat) : Nat → (Nat → Nat)
  | 0 => fun _ => 0
  | k + 1 => bump (bump (cnt xs s k) (k / s * 5 + (nth xs k).toNat)) ((s + k % s) * 5 + (nth xs k).toNat)
theorem bump_zero (C : Nat → Nat) (a b j : Nat) : bump (bump C a) b j = 0 ↔ C j = 0 ∧ j ≠ a ∧ j ≠ b := by
  show (if j = b then (if j = a then C j + 1 else C j) + 1 else (if j = a then C j + 1 else C j)) = 0 ↔ _
  split <;> split <;> omega
theorem bump_le (C : Nat → Nat) (a j : Nat) : bump C a j ≤ C j + 1 := by
  unfold bump
  split <;> omega
theorem cnt_le (xs : List Int) (s k j : Nat) : cnt xs s k j ≤ 2 * k := by
  induction k with
  | zero => simp [cnt]
  | succ k ih =>
    simp only [cnt]
    have h1 := bump_le (bump (cnt xs s k) (k / s * 5 + (nth xs k).toNat)) ((s + k % s) * 5 + (nth xs k).toNat) j
    have h2 := bump_le (cnt xs s k) (k / s * 5 + (nth xs k).toNat) j
    omega
theorem cnt_zero {xs : List Int} {s n : Nat} (hs4 : s ≤ 4) (hok : okAll xs s n) (l v : Nat) (hv : v < 5) : ∀ k, k ≤ n → (cnt xs s k (l * 5 + v) = 0 ↔ ∀ i, i < k → onL s l i = true → nth xs i ≠ (v : Int)) := by
  intro k
  induction k with
  | zero => intro _; simp [cnt]
  | succ k ih =>
    intro hk
    obtain ⟨x0, x4⟩ := hok k (by omega)
    simp only [cnt]
    rw [bump_zero, ih (by omega)]
    have hon : onL s l k = true ↔ (k / s = l ∨ s + k % s = l) := by simp [onL]
    constructor
    · rintro ⟨h0, h1, h2⟩ i hi ho he
      by_cases e : i = k
      · subst e
        rcases hon.1 ho with h | h
        · exact h1 (by rw [h]; omega)
        · exact h2 (by rw [h]; omega)
      · exact h0 i (by omega) ho he
    · intro h
      refine ⟨fun i hi => h i (by omega), fun e => ?_, fun e => ?_⟩
      · exact h k (by omega) (hon.2 (.inl (by omega))) (by omega)
      · exact h k (by omega) (hon.2 (.inr (by omega))) (by omega)
/-- the values up to v that stand in neither of two lines. -/
def freeTo (C : Nat → Nat) (r c : Nat) : Nat → Nat
  | 0 => 0
  | v + 1 => if C (r * 5 + (v + 1)) + C (c * 5 + (v + 1)) = 0 then freeTo C r c v ||| 2 ^ (v + 1) else freeTo C r c v
theorem freeTo_lt (C : Nat → Nat) (r c v : Nat) (hv : v ≤ 4) : freeTo C r c v < 32 := by
  induction v with
  | zero => simp [freeTo]
  | succ v ih =>
    simp only [freeTo]
    split
    · exact Nat.or_lt_two_pow (n := 5) (ih (by omega)) (Nat.pow_lt_pow_right (by omega) (by omega))
    · exact ih (by omega)
theorem free_cand {xs : List Int} {s n k : Nat} (hs : s ∈ [2, 3, 4]) (hn : n = s * s) (hok : okAll xs s n) (hk : k < n) (hz : nth xs k = 0) : ∀ v, v ≤ s → freeTo (cnt xs s n) (k / s) (s + k % s) v = candTo xs s k v := by
  have hs4 : s ≤ 4 := by simp at hs; omega
  intro v
  induction v with
  | zero => intro _; rfl
  | succ v ih =>
    intro hv
    simp only [freeTo, candTo, Int.toNat_natCast]
    have hc : ((v : Int) + 1) = ((v + 1 : Nat) : Int) := by omega
    have key : cnt xs s n (k / s * 5 + (v + 1)) + cnt xs s n ((s + k % s) * 5 + (v + 1)) = 0 ↔ okTo3 xs s k ((v : Int) + 1) s = true := by
      rw [hc, ok3_adj hs (by omega), Nat.add_eq_zero_iff, cnt_zero hs4 hok _ _ (by omega) n (Nat.le_refl _), cnt_zero hs4 hok _ _ (by omega) n (Nat.le_refl _)]
      constructor
      · rintro ⟨h1, h2⟩ i hi ha
        rw [onL_adj s hs i hi k (by omega)] at ha
        simp only [Bool.and_eq_true, Bool.or_eq_true] at ha
        rcases ha.2 with h | h
        · exact h1 i (by omega) h
        · exact h2 i (by omega) h
      · intro h
        have side : ∀ l, (l = k / s ∨ l = s + k % s) → ∀ i, i < n → onL s l i = true → nth xs i ≠ ((v + 1 : Nat) : Int) := by
          intro l hl i hi ho
          by_cases e : i = k
          · subst e; rw [hz]; omega
          · refine h i (by omega) ?_
            rw [onL_adj s hs i (by omega) k (by omega)]
            rcases hl with rfl | rfl
            · simp [ho, e]
            · simp [ho, e]
        exact ⟨side _ (.inl rfl), side _ (.inr rfl)⟩
    rw [ih (by omega)]
    by_cases h : cnt xs s n (k / s * 5 + (v + 1)) + cnt xs s n ((s + k % s) * 5 + (v + 1)) = 0
    · rw [if_pos h, if_pos (key.1 h)]
    · rw [if_neg h, if_neg (fun h' => h (key.2 h'))]

theorem subset_and (a m : Nat) (ha : a < 2 ^ 64) (hm : m < 2 ^ 64) (h : a &&& (2 ^ 64 - (m + 1)) = 0) : a = a &&& m := by
  apply Nat.eq_of_testBit_eq
  intro i
  rw [Nat.testBit_and]
  cases hai : a.testBit i
  · rfl
  · have hi : i < 64 := by
      rcases Nat.lt_or_ge i 64 with h | h
      · exact h
      · have := Nat.testBit_lt_two_pow (Nat.lt_of_lt_of_le ha (Nat.pow_le_pow_right (by decide) h))
        rw [hai] at this; cases this
    have h2 := congrArg (fun z => z.testBit i) h
    simp only [Nat.testBit_and, hai, Nat.testBit_two_pow_sub_succ hm, hi, Nat.zero_testBit, decide_true, Bool.true_and, Bool.not_eq_false'] at h2
    rw [h2]; rfl
theorem small_and : ∀ s, s < 5 → ∀ a, a < 32 → a ≤ 2 ^ (s + 1) - 2 → a % 2 = 0 → a &&& (18446744073709551616 - (2 ^ (s + 1) - 2 + 1)) = 0 := by decide +kernel
theorem even_and : ∀ s, s < 5 → ∀ a, a % 2 = 1 → a &&& (2 ^ (s + 1) - 2) ≠ a := by
  intro s hs a ha h
  have h0 := congrArg (fun z => z.testBit 0) h
  have e : (2 ^ (s + 1) - 2).testBit 0 = false := by
    have : s = 0 ∨ s = 1 ∨ s = 2 ∨ s = 3 ∨ s = 4 := by omega
    rcases this with rfl | rfl | rfl | rfl | rfl <;> rfl
  simp only [Nat.testBit_and, e, Bool.and_false] at h0
  rw [Nat.testBit_zero] at h0
  simp [ha] at h0
theorem andNot_ok (x : Int) (s : Nat) (hs : s ≤ 4) (hx : -9223372036854775808 ≤ x ∧ x ≤ 9223372036854775807) :
    (bits .andNot .i64 x ((2 ^ (s + 1) - 2 : Nat) : Int) == 0) = mkOk ((2 : Int) ^ (s + 1) - 2) x := by
  have hp : (2 : Int) ^ (s + 1) - 2 = ((2 ^ (s + 1) - 2 : Nat) : Int) := by
    have : s = 0 ∨ s = 1 ∨ s = 2 ∨ s = 3 ∨ s = 4 := by omega
    rcases this with rfl | rfl | rfl | rfl | rfl <;> rfl
  have hm30 : 2 ^ (s + 1) - 2 ≤ 30 := by
    have : s = 0 ∨ s = 1 ∨ s = 2 ∨ s = 3 ∨ s = 4 := by omega
    rcases this with rfl | rfl | rfl | rfl | rfl <;> decide
  rw [hp]
  have hsa := small_and s (by omega)
  have hev := even_and s (by omega)
  generalize 2 ^ (s + 1) - 2 = m at *
  have hmm : (BitVec.ofInt 64 (m : Int)).toNat = m := ofInt_i64 m (by omega)
  have hb : bits .andNot .i64 x (m : Int) = IntKind.i64.wrap (((BitVec.ofInt 64 x).toNat &&& (2 ^ 64 - (m + 1)) : Nat) : Int) := by
    show IntKind.i64.wrap ((BitVec.ofInt 64 x &&& ~~~BitVec.ofInt 64 (m : Int)).toNat : Int) = _
    rw [BitVec.toNat_and, BitVec.toNat_not, hmm]
    congr 3
    omega
  have hA : (BitVec.ofInt 64 x).toNat < 2 ^ 64 := (BitVec.ofInt 64 x).isLt
  have hAx : ((BitVec.ofInt 64 x).toNat : Int) = x % 2 ^ 64 := by
    rw [BitVec.toNat_ofInt]; exact Int.toNat_of_nonneg (Int.emod_nonneg _ (by decide))
  rw [hb]
  generalize (BitVec.ofInt 64 x).toNat = a at *
  have hlt : a &&& (2 ^ 64 - (m + 1)) < 2 ^ 64 := Nat.and_lt_two_pow _ (by omega)
  have hw : (IntKind.i64.wrap ((a &&& (2 ^ 64 - (m + 1)) : Nat) : Int) == 0) = (a &&& (2 ^ 64 - (m + 1)) == 0) := by
    rw [IntKind.wrap_i64]
    rw [Bool.eq_iff_iff, beq_iff_eq, beq_iff_eq]
    generalize a &&& (2 ^ 64 - (m + 1)) = y at *
    omega
  rw [hw, Bool.eq_iff_iff, beq_iff_eq]
  simp only [mkOk, inr, Bool.and_eq_true, decide_eq_true_eq, beq_iff_eq]
  constructor
  · intro h
    have e := subset_and a m hA (by omega) h
    have hle : a ≤ m := by rw [e]; exact Nat.and_le_right
    have h2 : a % 2 = 0 := by
      rcases Nat.mod_two_eq_zero_or_one a with h' | h'
      · exact h'
      · exact absurd e.symm (hev a h')
    have hxa : x = a := by omega
    refine ⟨⟨by omega, by omega⟩, ?_⟩
    rw [Int.tmod_eq_emod_of_nonneg (by omega)]; omega
  · rintro ⟨⟨h1, h2⟩, h3⟩
    rw [Int.tmod_eq_emod_of_nonneg h1] at h3
    exact hsa a (by omega) (by omega) (by omega)
end Go.Proofs.Ytmnacejmkjhpnaa
