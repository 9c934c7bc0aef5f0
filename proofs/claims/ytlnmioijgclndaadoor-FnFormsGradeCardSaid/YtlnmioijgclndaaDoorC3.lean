import Derived.Test.YtlnmioijgclndaaDoorClash
import Derived.Deep.QuietTactic
import Derived.BigQuiet
namespace Go.Proofs.YtlnmioijgclndaaDoor
open Go.ChangeShapes Go.WideShapes Go.ChangeAt Go.RowKit

/-- the values 1..v whose powers are in a mask. -/
def bitsTo (M : Nat) : Nat → List Int
  | 0 => []
  | v + 1 => bitsTo M v ++ (if M.testBit (v + 1) = true then [(v : Int) + 1] else [])
def mvOk (m : Int) : Bool := inr m 0 30 && (m.tmod 2 == 0)
def maskVals (m : Int) : List Int := if mvOk m = true then bitsTo m.toNat 4 else []
theorem bitsTo_length (M v : Nat) : (bitsTo M v).length ≤ v := by
  induction v with
  | zero => simp [bitsTo]
  | succ v ih => simp only [bitsTo, List.length_append]; split <;> simp <;> omega
theorem maskVals_length (m : Int) : (maskVals m).length ≤ 4 := by
  unfold maskVals
  split
  · exact bitsTo_length _ 4
  · simp
theorem shr_bit (M v : Nat) : ((((M : Nat) : Int) / 2 ^ v).tmod 2 == 1) = M.testBit v := by
  rw [Nat.testBit_eq_decide_div_mod_eq]
  have e : (((M : Nat) : Int) / 2 ^ v) = ((M / 2 ^ v : Nat) : Int) := by simp
  rw [e, Int.tmod_eq_emod_of_nonneg (Int.natCast_nonneg _)]
  rw [Bool.eq_iff_iff]
  simp
  omega


theorem and7 (a : Int) (ha : -9223372036854775808 ≤ a ∧ a ≤ 9223372036854775807) : ∃ n : Nat, bits .and .i64 a 7 = (n : Int) ∧ n ≤ 7 ∧ (0 ≤ a → a ≤ 7 → (n : Int) = a) := by
  have h7 : (BitVec.ofInt 64 7).toNat = 7 := by decide
  have hx : ((BitVec.ofInt 64 a).toNat &&& 7) ≤ 7 := Nat.and_le_right
  have e : bits .and .i64 a 7 = (((BitVec.ofInt 64 a).toNat &&& 7 : Nat) : Int) := by
    show IntKind.i64.wrap ((BitVec.ofInt 64 a &&& BitVec.ofInt 64 7).toNat : Int) = _
    rw [BitVec.toNat_and, h7, IntKind.wrap_i64]
    omega
  refine ⟨_, e, hx, fun h0 h1 => ?_⟩
  obtain ⟨k, rfl⟩ := Int.eq_ofNat_of_zero_le h0
  rw [ofInt_i64 k (by omega)]
  have key : ∀ k, k < 8 → k &&& 7 = k := by decide
  rw [key k (by omega)]

/-- masks of a size. -/
def mkOk (T : Int) (x : Int) : Bool := inr x 0 T && (x.tmod 2 == 0)
def mvd (xs : List Int) (size : Int) : Bool := inr size 2 4 && ((xs.length : Int) == size * size) && xs.all (mkOk (2 ^ (size.toNat + 1) - 2))
def allTo (p : Int → Bool) (xs : List Int) (k : Nat) : Prop := ∀ j, j < k → p (nth xs j) = true
theorem allTo_succ {p : Int → Bool} {xs : List Int} {k : Nat} (h : allTo p xs k) (hv : p (nth xs k) = true) : allTo p xs (k + 1) := fun j hj => by
  by_cases e : j = k
  · subst e; exact hv
  · exact h j (by omega)
theorem allTo_all {p : Int → Bool} {xs : List Int} {n : Nat} (h : allTo p xs n) (hn : xs.length = n) : xs.all p = true := by
  subst hn
  rw [List.all_eq_true]
  intro x hx
  obtain ⟨j, hj, rfl⟩ := List.getElem_of_mem hx
  have := h j hj
  simpa [nth, List.getD_eq_getElem?_getD, hj] using this
theorem all_not {p : Int → Bool} {xs : List Int} {n k : Nat} (hn : xs.length = n) (hk : k < n) (h : p (nth xs k) = false) : xs.all p = false := by
  subst hn
  rw [List.all_eq_false]
  exact ⟨xs[k], List.getElem_mem hk, by simpa [nth, List.getD_eq_getElem?_getD, hk] using h⟩
theorem two_pow_int (a : Nat) (h : a ≤ 7) : wrap64 (wrap64 (2 ^ (a + 1)) - 2) = (2 : Int) ^ (a + 1) - 2 ∧ 0 ≤ (2 : Int) ^ (a + 1) - 2 ∧ (2 : Int) ^ (a + 1) - 2 ≤ 254 := by
  have : a = 0 ∨ a = 1 ∨ a = 2 ∨ a = 3 ∨ a = 4 ∨ a = 5 ∨ a = 6 ∨ a = 7 := by omega
  have hb : 0 ≤ (2 : Int) ^ (a + 1) - 2 ∧ (2 : Int) ^ (a + 1) - 2 ≤ 254 := by
    rcases this with rfl | rfl | rfl | rfl | rfl | rfl | rfl | rfl <;> decide
  refine ⟨?_, hb⟩
  rw [IntWalk.wrap64_in (2 ^ (a + 1)) ⟨by omega, by omega⟩]
  exact IntWalk.wrap64_in _ ⟨by omega, by omega⟩

end Go.Proofs.YtlnmioijgclndaaDoor
