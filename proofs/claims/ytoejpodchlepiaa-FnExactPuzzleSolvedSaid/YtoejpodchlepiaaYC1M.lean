import Derived.Test.YtoejpodchlepiaaYC1L
import Derived.Deep.RegionHeld3
namespace Go.Proofs.Ytoejpodchlepiaa
open Go.ChangeShapes Go.WideShapes Go.ChangeAt Go.RowKit

def turnIx (size : Int) (k : Nat) : Nat := ((size - 1 - (k : Int) % size) * size + (k : Int) / size).toNat
def turnG (xs : List Int) (size : Int) (k : Nat) : Int := nth xs (turnIx size k)
def turnL (xs : List Int) (size : Int) : List Int := if gv xs size = true then mapTo (turnG xs size) xs.length else []

theorem turn_facts {size : Int} {n k : Nat} (h2 : 2 ≤ size) (h4 : size ≤ 4) (hn : (n : Int) = size * size) (hk : k < n) :
    (0 ≤ (k : Int) % size ∧ (k : Int) % size < size) ∧ (0 ≤ (k : Int) / size ∧ (k : Int) / size < size) ∧ turnIx size k < n ∧ ((turnIx size k : Nat) : Int) = (size - 1 - (k : Int) % size) * size + (k : Int) / size := by
  unfold turnIx
  have : size = 2 ∨ size = 3 ∨ size = 4 := by omega
  rcases this with rfl | rfl | rfl <;> omega

end Go.Proofs.Ytoejpodchlepiaa
namespace Go.Proofs.Ytoejpodchlepiaa
open Go.ChangeShapes Go.WideShapes Go.ChangeAt Go.RowKit

/-- the number of the cell in a row and a column. -/
def cellIx (size row col : Int) : Nat := (row * size + col).toNat
theorem cell_facts {size row col : Int} {n : Nat} (h2 : 2 ≤ size) (h4 : size ≤ 4) (hn : (n : Int) = size * size) (r0 : 0 ≤ row) (r1 : row < size) (c0 : 0 ≤ col) (c1 : col < size) :
    (0 ≤ row * size ∧ row * size ≤ 12) ∧ cellIx size row col < n ∧ ((cellIx size row col : Nat) : Int) = row * size + col := by
  unfold cellIx
  have : size = 2 ∨ size = 3 ∨ size = 4 := by omega
  rcases this with rfl | rfl | rfl <;> omega

theorem ix_lt {r q s : Nat} (hr : r < s) (hq : q < s) : r * s + q < s * s := by
  have : (r + 1) * s ≤ s * s := Nat.mul_le_mul_right s hr
  rw [Nat.succ_mul] at this
  omega
theorem of_drew_below {w w2 : World} (h : Below w.drew.heap.size w.drew w2) : Below w.heap.size w w2 := ⟨h.os, h.tape, h.output, h.size, h.block⟩
theorem below_drew' {B : Nat} {a w : World} (h : Below B a w) : Below B a w.drew := h.drew
theorem divmod_ix {s r c : Nat} (h2 : 2 ≤ s) (h4 : s ≤ 4) (hr : r < s) (hc : c < s) : ((r * s + c : Nat) : Int) / (s : Int) = r ∧ ((r * s + c : Nat) : Int) % (s : Int) = c := by
  have : s = 2 ∨ s = 3 ∨ s = 4 := by omega
  rcases this with rfl | rfl | rfl <;> omega
theorem turn_ix {s r c : Nat} (h2 : 2 ≤ s) (h4 : s ≤ 4) (hr : r < s) (hc : c < s) : cellIx s ((s : Int) - 1 - c) r = turnIx s (r * s + c) := by
  obtain ⟨hd, hm⟩ := divmod_ix h2 h4 hr hc
  unfold cellIx turnIx
  rw [hd, hm]
end Go.Proofs.Ytoejpodchlepiaa
namespace Go.Proofs.Ytoejpodchlepiaa
open Go.ChangeShapes Go.WideShapes Go.ChangeAt Go.RowKit

def mirIx (size : Int) (k : Nat) : Nat := ((k : Int) / size * size + size - 1 - (k : Int) % size).toNat
def mirG (xs : List Int) (size : Int) (k : Nat) : Int := nth xs (mirIx size k)
def mirL (xs : List Int) (size : Int) : List Int := if gv xs size = true then mapTo (mirG xs size) xs.length else []

theorem mir_facts {size : Int} {n k : Nat} (h2 : 2 ≤ size) (h4 : size ≤ 4) (hn : (n : Int) = size * size) (hk : k < n) :
    (0 ≤ (k : Int) % size ∧ (k : Int) % size < size) ∧ (0 ≤ (k : Int) / size ∧ (k : Int) / size < size) ∧ mirIx size k < n ∧ ((mirIx size k : Nat) : Int) = (k : Int) / size * size + size - 1 - (k : Int) % size := by
  unfold mirIx
  have : size = 2 ∨ size = 3 ∨ size = 4 := by omega
  rcases this with rfl | rfl | rfl <;> omega

theorem mir_ix {s r c : Nat} (h2 : 2 ≤ s) (h4 : s ≤ 4) (hr : r < s) (hc : c < s) : cellIx s r ((s : Int) - 1 - c) = mirIx s (r * s + c) := by
  obtain ⟨hd, hm⟩ := divmod_ix h2 h4 hr hc
  unfold cellIx mirIx
  rw [hd, hm]
  congr 1
  omega
end Go.Proofs.Ytoejpodchlepiaa
