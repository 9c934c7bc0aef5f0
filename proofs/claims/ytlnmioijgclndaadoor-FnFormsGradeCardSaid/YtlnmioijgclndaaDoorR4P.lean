import Derived.Test.YtlnmioijgclndaaDoorR4M
set_option maxRecDepth 8000
namespace Go.Proofs.YtlnmioijgclndaaDoor
open Go.ChangeShapes Go.WideShapes Go.ChangeAt Go.RowKit

/-- what a cell of a grid can have: its own value, or everything. -/
def emN (g : List Int) (s k : Nat) : Nat := if nth g k = 0 then 2 ^ (s + 1) - 2 else 2 ^ (nth g k).toNat
def emG (g : List Int) (s : Int) (k : Nat) : Int := (emN g s.toNat k : Int)
def emL (g : List Int) (s : Int) : List Int := mapTo (emG g s) g.length
theorem pow_even : ∀ s ∈ [2, 3, 4], ∀ v, v < 5 → 1 ≤ v → v ≤ s → 2 ^ v ≤ 2 ^ (s + 1) - 2 ∧ 2 ^ v % 2 = 0 := by decide
theorem all_even : ∀ s ∈ [2, 3, 4], (2 ^ (s + 1) - 2) % 2 = 0 ∧ 2 ^ (s + 1) - 2 ≤ 30 := by decide
theorem emL_valid {g : List Int} {s : Nat} (hs : s ∈ [2, 3, 4]) (hg : gv g s = true) : mvd (emL g s) s = true := by
  have hl := gv_len hg
  have h24 := gv_size hg
  have h1 : inr (s : Int) 2 4 = true := by simp [inr]; omega
  have h3 : (emL g s).all (mkOk (2 ^ ((s : Int).toNat + 1) - 2)) = true := by
    refine allTo_all (n := g.length) (fun j hj => ?_) (mapTo_length _ _)
    unfold emL
    rw [mapTo_nth hj]
    have hp : ((2 : Int) ^ (s + 1) - 2) = ((2 ^ (s + 1) - 2 : Nat) : Int) := by
      simp at hs
      rcases hs with rfl | rfl | rfl <;> rfl
    obtain ⟨v0, v4⟩ := gv_nth hg hj
    have key : emN g s j ≤ 2 ^ (s + 1) - 2 ∧ emN g s j % 2 = 0 := by
      unfold emN
      split
      · exact ⟨Nat.le_refl _, (all_even s hs).1⟩
      · exact pow_even s hs _ (by omega) (by omega) (by omega)
    simp only [mkOk, emG, Int.toNat_natCast, Bool.and_eq_true, beq_iff_eq]
    rw [hp, Int.tmod_eq_emod_of_nonneg (Int.natCast_nonneg _)]
    refine ⟨by simp only [inr, decide_eq_true_eq]; omega, by omega⟩
  have h2 : ((emL g s).length : Int) = (s : Int) * s := by unfold emL; rw [mapTo_length]; exact hl
  simp only [mvd, h1, h3, Bool.true_and, Bool.and_true, beq_iff_eq]
  exact h2
/-- whether a rule can hold for a grid. -/
def rpB (k : Int) (xs : List Int) (v : Int) (g : List Int) (s : Int) : Bool := rv k xs v s && gv g s && (nth (rmL k xs v (emL g s) s) 0 != 0)

end Go.Proofs.YtlnmioijgclndaaDoor
