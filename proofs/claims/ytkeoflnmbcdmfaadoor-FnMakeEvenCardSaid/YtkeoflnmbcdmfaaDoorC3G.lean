import Derived.Test.YtkeoflnmbcdmfaaDoorC3
namespace Go.Proofs.YtkeoflnmbcdmfaaDoor
open Go.ChangeShapes Go.WideShapes Go.ChangeAt Go.RowKit

/-- the value of a list that has exactly one. -/
def oneOf (L : List Int) : Int := if L.length = 1 then nth L 0 else 0
def mgG (xs : List Int) (k : Nat) : Int := oneOf (maskVals (nth xs k))
def mgL (xs : List Int) (size : Int) : List Int := if mvd xs size = true then mapTo (mgG xs) xs.length else []
theorem mvd_at {xs : List Int} {size : Int} (h : mvd xs size = true) : (2 ≤ size ∧ size ≤ 4) ∧ (xs.length : Int) = size * size ∧ xs.length ≤ 16 ∧ ∀ k, k < xs.length → 0 ≤ nth xs k ∧ nth xs k ≤ 30 ∧ (nth xs k).tmod 2 = 0 := by
  simp only [mvd, Bool.and_eq_true, beq_iff_eq, List.all_eq_true] at h
  obtain ⟨⟨h1, h2⟩, h3⟩ := h
  obtain ⟨s2, s4⟩ := inr_t h1
  obtain ⟨q4, q16⟩ := sq_bd s2 s4
  refine ⟨⟨s2, s4⟩, h2, by omega, fun k hk => ?_⟩
  have hm := h3 _ (List.getElem_mem hk)
  simp only [mkOk, Bool.and_eq_true, beq_iff_eq] at hm
  have e : nth xs k = xs[k] := by simp [nth, List.getD_eq_getElem?_getD, hk]
  rw [e]
  obtain ⟨m0, m1⟩ := inr_t hm.1
  have hp : (2 : Int) ^ (size.toNat + 1) ≤ 32 := by
    have : size = 2 ∨ size = 3 ∨ size = 4 := by omega
    rcases this with rfl | rfl | rfl <;> decide
  exact ⟨m0, by omega, hm.2⟩

end Go.Proofs.YtkeoflnmbcdmfaaDoor
