import Derived.Test.YtlnmioijgclndaaDoorR4
namespace Go.Proofs.YtlnmioijgclndaaDoor
open Go.ChangeShapes Go.WideShapes Go.ChangeAt Go.RowKit

/-- the sum and the product of the first k values. -/
def sumN (vs : List Int) : Nat → Nat
  | 0 => 0
  | k + 1 => sumN vs k + (nth vs k).toNat
def prodN (vs : List Int) : Nat → Nat
  | 0 => 1
  | k + 1 => prodN vs k * (nth vs k).toNat
def newTo (vs : List Int) (k : Nat) : Nat → Bool
  | 0 => true
  | q + 1 => newTo vs k q && (nth vs q != nth vs k)
def diffTo (vs : List Int) : Nat → Bool
  | 0 => true
  | k + 1 => diffTo vs k && newTo vs k k
def gap (vs : List Int) : Int := max (nth vs 0 - nth vs 1) (-(nth vs 0 - nth vs 1))
/-- whether a rule of kind k and value v holds for the values of its cells. -/
def holdsB (k v : Int) (vs : List Int) : Bool :=
  if k = 1 then diffTo vs vs.length else if k = 2 then ((sumN vs vs.length : Int) == v) else if k = 3 then ((prodN vs vs.length : Int) == v) else if k = 4 then decide (nth vs 0 < nth vs 1) else (gap vs == v)
def small4 (vs : List Int) (n : Nat) : Prop := ∀ i, i < n → 0 ≤ nth vs i ∧ nth vs i ≤ 4
theorem sumN_le {vs : List Int} {n : Nat} (h : small4 vs n) : ∀ k, k ≤ n → sumN vs k ≤ 4 * k := by
  intro k
  induction k with
  | zero => intro _; simp [sumN]
  | succ k ih =>
    intro hk
    have := h k (by omega)
    have := ih (by omega)
    simp only [sumN]
    omega
theorem prodN_le {vs : List Int} {n : Nat} (h : small4 vs n) : ∀ k, k ≤ n → prodN vs k ≤ 4 ^ k := by
  intro k
  induction k with
  | zero => intro _; simp [prodN]
  | succ k ih =>
    intro hk
    have h1 := h k (by omega)
    have h2 := ih (by omega)
    simp only [prodN]
    rw [Nat.pow_succ]
    exact Nat.mul_le_mul h2 (by omega)

end Go.Proofs.YtlnmioijgclndaaDoor
