import Derived.Test.YtlnmioijgclndaaSol
import Derived.Deep.RegionHeld3
import Derived.Test.YtlnmioijgclndaaPushAt
namespace Go.Proofs.Ytlnmioijgclndaa
open Go.ChangeShapes Go.WideShapes Go.ChangeAt Go.RowKit

theorem gv_okAll {xs : List Int} {size : Int} {n : Nat} (hg : gv xs size = true) (hl : xs.length = n) : okAll xs size n := fun k hk => gv_nth hg (by rw [hl]; exact hk)

def sqOfG (size : Int) (k : Nat) : Int := ((k : Int) / size + (k : Int)) % size + 1
def sqOfL (size : Int) : List Int := if inr size 2 4 = true then mapTo (sqOfG size) (size * size).toNat else []

def missTo (has : Int → Bool) : Nat → List Int
  | 0 => []
  | v + 1 => missTo has v ++ (if has ((v : Int) + 1) = true then [] else [(v : Int) + 1])
def missL (xs : List Int) (size line : Int) : List Int := if (gv xs size && lineOk size line) = true then missTo (hasTo (lineV xs size line) size.toNat) size.toNat else []
theorem missTo_length (has : Int → Bool) (v : Nat) : (missTo has v).length ≤ v := by
  induction v with
  | zero => simp [missTo]
  | succ v ih => simp only [missTo, List.length_append]; split <;> simp <;> omega
theorem missL_length (xs : List Int) (size line : Int) : (missL xs size line).length ≤ 4 := by
  unfold missL
  split
  · next h =>
    simp only [Bool.and_eq_true] at h
    have := gv_size h.1
    have := missTo_length (hasTo (lineV xs size line) size.toNat) size.toNat
    omega
  · simp
end Go.Proofs.Ytlnmioijgclndaa
