import Derived.Test.YtlnmioijgclndaaDraw
set_option maxRecDepth 8000
namespace Go.Proofs.Ytlnmioijgclndaa
open Go.ChangeShapes Go.WideShapes Go.ChangeAt Go.RowKit

theorem pow_int (v : Nat) : ((2 : Int) ^ v) = ((2 ^ v : Nat) : Int) := by simp
theorem and_pow (a v : Nat) (ha : a < 32) (hv : v ≤ 4) : (bits .and .i64 (a : Int) (wrap64 (2 ^ v)) != 0) = a.testBit v := by
  have hlt : 2 ^ v < 2 ^ 5 := Nat.pow_lt_pow_right (by omega) (by omega)
  have hb : (a &&& 2 ^ v) = (a.testBit v).toNat * 2 ^ v := by
    have : v = 0 ∨ v = 1 ∨ v = 2 ∨ v = 3 ∨ v = 4 := by omega
    have key : ∀ a, a < 32 → ∀ v, v < 5 → (a &&& 2 ^ v) = (a.testBit v).toNat * 2 ^ v := by decide
    exact key a ha v (by omega)
  have hp0 : 0 < 2 ^ v := Nat.two_pow_pos v
  rw [pow_int]
  generalize 2 ^ v = p at *
  rw [IntWalk.wrap64_in _ ⟨by omega, by omega⟩]
  have h : bits .and .i64 (a : Int) (p : Int) = ((a &&& p : Nat) : Int) := by
    have hx : a &&& p ≤ a := Nat.and_le_left
    show IntKind.i64.wrap ((BitVec.ofInt 64 (a : Int) &&& BitVec.ofInt 64 (p : Int)).toNat : Int) = _
    rw [BitVec.toNat_and, ofInt_i64 a (by omega), ofInt_i64 p (by omega), IntKind.wrap_i64]
    omega
  rw [h, hb]
  cases a.testBit v
  · simp
  · simp; omega
theorem and_pow0 (a v : Nat) (ha : a < 32) (hv : v ≤ 4) : (bits .and .i64 (a : Int) (wrap64 (2 ^ v)) == 0) = !a.testBit v := by
  have h := and_pow a v ha hv
  rw [← h]
  simp [bne]
end Go.Proofs.Ytlnmioijgclndaa
