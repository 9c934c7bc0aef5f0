import Derived.Test.YtcjdjcpappfkgaaGreatDoorGC1L
namespace Go.Proofs.YtcjdjcpappfkgaaGreatDoor
open Go.ChangeShapes Go.WideShapes Go.ChangeAt Go.RowKit
def hasTo (f : Nat → Int) (k : Nat) (v : Int) : Bool := (List.range k).any fun i => f i == v
def dupTo (f : Nat → Int) : Nat → Bool
  | 0 => false
  | k + 1 => dupTo f k || (decide (0 < f k) && hasTo f k (f k))
def lineV (xs : List Int) (size line : Int) (k : Nat) : Int := nth xs (lineAt size line k).toNat
def clashTo (xs : List Int) (size : Int) : Nat → Bool
  | 0 => false
  | l + 1 => clashTo xs size l || dupTo (lineV xs size l) size.toNat
def clash (xs : List Int) (size : Int) : Bool := clashTo xs size (2 * size).toNat
def seenN (f : Nat → Int) : Nat → Nat
  | 0 => 0
  | k + 1 => seenN f k ||| 1 <<< (f k).toNat
theorem hasTo_succ (f : Nat → Int) (k : Nat) (v : Int) : hasTo f (k + 1) v = (hasTo f k v || (f k == v)) := by
  simp [hasTo, List.range_succ, List.any_append]
theorem seenN_test (f : Nat → Int) (k v : Nat) (hf : ∀ i, i < k → 0 ≤ f i) : (seenN f k).testBit v = hasTo f k v := by
  induction k with
  | zero => simp [seenN, hasTo]
  | succ k ih =>
    rw [hasTo_succ, ← ih (fun i hi => hf i (by omega))]; rw [seenN, Nat.testBit_or, Nat.one_shiftLeft, Nat.testBit_two_pow]
    congr 1
    have := hf k (by omega); rw [Bool.eq_iff_iff]
    simp
    omega
theorem seenN_lt (f : Nat → Int) (k : Nat) (hf : ∀ i, i < k → 0 ≤ f i ∧ f i ≤ 4) : seenN f k < 32 := by
  induction k with
  | zero => simp [seenN]
  | succ k ih =>
    have h1 := ih (fun i hi => hf i (by omega)); have h2 := hf k (by omega)
    have h3 : 1 <<< (f k).toNat < 2 ^ 5 := by
      rw [Nat.one_shiftLeft]; exact Nat.pow_lt_pow_right (by omega) (by omega)
    exact Nat.or_lt_two_pow (by omega) h3
def zeros (n : Nat) : List Int := List.replicate n 0
end Go.Proofs.YtcjdjcpappfkgaaGreatDoor
