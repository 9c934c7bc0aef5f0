import Derived.Test.YtgeedgljabdllaaSq
import Derived.Test.YtgeedgljabdllaaC1L
import Derived.Test.YtgeedgljabdllaaDraw
namespace Go.Proofs.Ytgeedgljabdllaa
open Go.ChangeShapes Go.WideShapes Go.ChangeAt Go.RowKit

/-- all values lie in 0..size. -/
def okAll (xs : List Int) (size : Int) (n : Nat) : Prop := ∀ k, k < n → 0 ≤ nth xs k ∧ nth xs k ≤ size

theorem line_ix {size line : Int} {n k : Nat} (h2 : 2 ≤ size) (h4 : size ≤ 4) (hn : (n : Int) = size * size) (l0 : 0 ≤ line) (l1 : line < 2 * size) (hk : (k : Int) < size) :
    0 ≤ lineAt size line k ∧ lineAt size line k < n := by
  unfold lineAt
  have : size = 2 ∨ size = 3 ∨ size = 4 := by omega
  rcases this with rfl | rfl | rfl <;> split <;> omega
theorem lineL_ok {size : Int} {l : Nat} (h2 : 2 ≤ size) (h4 : size ≤ 4) (hl : (l : Int) < 2 * size) : lineL size l = lineTo size l size.toNat := by
  have h1 : inr size 2 4 = true := by simp [inr, h2, h4]
  have h3 : inr (l : Int) 0 (2 * size - 1) = true := by simp [inr]; omega
  simp [lineL, lineOk, h1, h3]

theorem shr_test (f : Nat → Int) (k : Nat) (v : Int) (hf : ∀ i, i < k → 0 ≤ f i) (h0 : 0 ≤ v) : ((((seenN f k : Nat) : Int) / 2 ^ v.toNat).tmod 2 == 1) = hasTo f k v := by
  obtain ⟨u, rfl⟩ := Int.eq_ofNat_of_zero_le h0
  rw [← seenN_test f k u hf, Nat.testBit_eq_decide_div_mod_eq, Int.toNat_natCast]
  have e : (((seenN f k : Nat) : Int) / 2 ^ u) = ((seenN f k / 2 ^ u : Nat) : Int) := by simp
  rw [e, Int.tmod_eq_emod_of_nonneg (Int.natCast_nonneg _)]
  rw [Bool.eq_iff_iff]
  simp
  omega
theorem i64_or_nat (a b : Nat) (ha : a < 9223372036854775808) (hb : b < 9223372036854775808) : bits .or .i64 (a : Int) (b : Int) = ((a ||| b : Nat) : Int) := by
  have hx : a ||| b < 2 ^ 63 := Nat.or_lt_two_pow (by omega) (by omega)
  show IntKind.i64.wrap ((BitVec.ofInt 64 (a : Int) ||| BitVec.ofInt 64 (b : Int)).toNat : Int) = _
  rw [BitVec.toNat_or, ofInt_i64 a ha, ofInt_i64 b hb, IntKind.wrap_i64]
  omega
theorem or_step (f : Nat → Int) (k : Nat) (v : Int) (hv : f k = v) (h0 : 0 ≤ v) (h4 : v ≤ 4) (hs : seenN f k < 32) : bits .or .i64 ((seenN f k : Nat) : Int) (wrap64 (2 ^ v.toNat)) = ((seenN f (k + 1) : Nat) : Int) := by
  have e : (2 : Int) ^ v.toNat = ((1 <<< v.toNat : Nat) : Int) := by rw [Nat.one_shiftLeft]; simp
  have hlt : 1 <<< v.toNat < 2 ^ 5 := by rw [Nat.one_shiftLeft]; exact Nat.pow_lt_pow_right (by omega) (by omega)
  rw [seenN, hv, e]
  generalize 1 <<< v.toNat = N at *
  rw [IntWalk.wrap64_in _ ⟨by omega, by omega⟩, i64_or_nat _ _ (by omega) (by omega)]

theorem dup_mono (f : Nat → Int) {k n : Nat} (h : dupTo f k = true) (hk : k ≤ n) : dupTo f n = true := by
  induction n with
  | zero =>
    have : k = 0 := by omega
    subst this; exact h
  | succ n ih =>
    by_cases e : k = n + 1
    · subst e; exact h
    · rw [dupTo, ih (by omega)]; rfl
theorem clashTo_mono (xs : List Int) (size : Int) {k n : Nat} (h : clashTo xs size k = true) (hk : k ≤ n) : clashTo xs size n = true := by
  induction n with
  | zero =>
    have : k = 0 := by omega
    subst this; exact h
  | succ n ih =>
    by_cases e : k = n + 1
    · subst e; exact h
    · rw [clashTo, ih (by omega)]; rfl
theorem clash_at {xs : List Int} {size : Int} {l : Nat} (hl : (l : Int) < 2 * size) (hd : dupTo (lineV xs size l) size.toNat = true) : clash xs size = true :=
  clashTo_mono xs size (k := l + 1) (by rw [clashTo, hd, Bool.or_true]) (by omega)

end Go.Proofs.Ytgeedgljabdllaa
