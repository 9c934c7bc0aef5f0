import Derived.Test.YtgeedgljabdllaaC1L
import Derived.Deep.RegionHeld3
namespace Go.Proofs.Ytgeedgljabdllaa
open Go.ChangeShapes Go.WideShapes Go.ChangeAt Go.RowKit

def turnIx (size : Int) (k : Nat) : Nat := ((size - 1 - (k : Int) % size) * size + (k : Int) / size).toNat
def turnG (xs : List Int) (size : Int) (k : Nat) : Int := nth xs (turnIx size k)
def turnL (xs : List Int) (size : Int) : List Int := if gv xs size = true then mapTo (turnG xs size) xs.length else []

theorem turn_facts {size : Int} {n k : Nat} (h2 : 2 ≤ size) (h4 : size ≤ 4) (hn : (n : Int) = size * size) (hk : k < n) :
    (0 ≤ (k : Int) % size ∧ (k : Int) % size < size) ∧ (0 ≤ (k : Int) / size ∧ (k : Int) / size < size) ∧ turnIx size k < n ∧ ((turnIx size k : Nat) : Int) = (size - 1 - (k : Int) % size) * size + (k : Int) / size := by
  unfold turnIx
  have : size = 2 ∨ size = 3 ∨ size = 4 := by omega
  rcases this with rfl | rfl | rfl <;> omega

end Go.Proofs.Ytgeedgljabdllaa
