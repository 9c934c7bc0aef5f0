import Derived.Test.YtmnacejmkjhpnaaDrawL
import Derived.Test.YtmnacejmkjhpnaaInts
import Derived.Test.YtmnacejmkjhpnaaC1L
namespace Go.Proofs.Ytmnacejmkjhpnaa
open Go.ChangeShapes Go.WideShapes Go.ChangeAt Go.RowKit

def cntTo (v : Int) (ys : List Int) : Nat → Nat
  | 0 => 0
  | j + 1 => cntTo v ys j + if v = nth ys j then 1 else 0
def comTo (xs ys : List Int) : Nat → Nat
  | 0 => 0
  | i + 1 => comTo xs ys i + cntTo (nth xs i) ys ys.length
theorem cntTo_le (v : Int) (ys : List Int) (j : Nat) : cntTo v ys j ≤ j := by
  induction j with
  | zero => simp [cntTo]
  | succ j ih => simp only [cntTo]; split <;> omega
theorem comTo_le (xs ys : List Int) (h : ys.length ≤ 4) (i : Nat) : comTo xs ys i ≤ 4 * i := by
  induction i with
  | zero => simp [comTo]
  | succ i ih => have := cntTo_le (nth xs i) ys ys.length; simp only [comTo]; omega
def wantI (s l o : Int) : Int := if o = l then s else if decide (o < s) != decide (l < s) then 1 else 0
theorem com_all : ∀ s ∈ [2, 3, 4], ∀ l, l < 2 * s → ∀ o, o < 2 * s → (comTo (lineL (s : Nat) (l : Nat)) (lineL (s : Nat) (o : Nat)) s : Int) = wantI (s : Nat) (l : Nat) (o : Nat) := by decide +kernel
theorem lineL_full {s l : Nat} (h2 : 2 ≤ s) (h4 : s ≤ 4) (hl : l < 2 * s) : (lineL s l).length = s := by
  have h1 : inr (s : Int) 2 4 = true := by simp [inr]; omega
  have h3 : inr (l : Int) 0 (2 * (s : Int) - 1) = true := by simp [inr]; omega
  have : lineOk (s : Int) (l : Int) = true := by simp [lineOk, h1, h3]
  rw [lineL, if_pos this, lineTo_length, Int.toNat_natCast]
theorem lineL_cases (s l : Int) : lineL s l = [] ∨ (2 ≤ s ∧ s ≤ 4 ∧ 0 ≤ l ∧ l < 2 * s) := by
  by_cases h : lineOk s l = true
  · right
    simp only [lineOk, Bool.and_eq_true] at h
    have h1 := inr_t h.1
    have h2 := inr_t h.2
    omega
  · left
    rw [lineL, if_neg h]

end Go.Proofs.Ytmnacejmkjhpnaa
