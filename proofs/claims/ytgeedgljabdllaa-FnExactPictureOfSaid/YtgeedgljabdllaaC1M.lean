import Derived.Test.YtgeedgljabdllaaC1L
import Derived.Test.YtgeedgljabdllaaC1I
import Derived.Deep.RegionHeld3
namespace Go.Proofs.Ytgeedgljabdllaa
open Go.ChangeShapes Go.WideShapes Go.ChangeAt Go.RowKit

def mirIx (size : Int) (k : Nat) : Nat := ((k : Int) / size * size + size - 1 - (k : Int) % size).toNat
def mirG (xs : List Int) (size : Int) (k : Nat) : Int := nth xs (mirIx size k)
def mirL (xs : List Int) (size : Int) : List Int := if gv xs size = true then mapTo (mirG xs size) xs.length else []

theorem mir_facts {size : Int} {n k : Nat} (h2 : 2 ≤ size) (h4 : size ≤ 4) (hn : (n : Int) = size * size) (hk : k < n) :
    (0 ≤ (k : Int) % size ∧ (k : Int) % size < size) ∧ (0 ≤ (k : Int) / size ∧ (k : Int) / size < size) ∧ mirIx size k < n ∧ ((mirIx size k : Nat) : Int) = (k : Int) / size * size + size - 1 - (k : Int) % size := by
  unfold mirIx
  have : size = 2 ∨ size = 3 ∨ size = 4 := by omega
  rcases this with rfl | rfl | rfl <;> omega

theorem mir_ix {s r c : Nat} (h2 : 2 ≤ s) (h4 : s ≤ 4) (hr : r < s) (hc : c < s) : cellIx s r ((s : Int) - 1 - c) = mirIx s (r * s + c) := by
  obtain ⟨hd, hm⟩ := divmod_ix h2 h4 hr hc
  unfold cellIx mirIx
  rw [hd, hm]
  congr 1
  omega
end Go.Proofs.Ytgeedgljabdllaa
