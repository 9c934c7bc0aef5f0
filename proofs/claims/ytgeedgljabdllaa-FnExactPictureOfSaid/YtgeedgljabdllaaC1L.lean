import Derived.Test.YtgeedgljabdllaaC1
set_option maxRecDepth 8000
namespace Go.Proofs.Ytgeedgljabdllaa
open Go.ChangeShapes Go.WideShapes Go.ChangeAt Go.RowKit

def lineOk (size line : Int) : Bool := inr size 2 4 && inr line 0 (2 * size - 1)
def lineAt (size line : Int) (k : Nat) : Int := if line < size then line * size + k else k * size + line - size
def lineTo (size line : Int) (k : Nat) : List Int := (List.range k).map (lineAt size line)
def lineL (size line : Int) : List Int := if lineOk size line = true then lineTo size line size.toNat else []
theorem lineTo_length (size line : Int) (k : Nat) : (lineTo size line k).length = k := by simp [lineTo]
theorem lineTo_succ (size line : Int) (k : Nat) : lineTo size line (k + 1) = lineTo size line k ++ [lineAt size line k] := by simp [lineTo, List.range_succ]
theorem lineAt_row {size line : Int} (h : line < size) (k : Nat) : lineAt size line k = line * size + k := by simp [lineAt, h]
theorem lineAt_col {size line : Int} (h : ¬ line < size) (k : Nat) : lineAt size line k = k * size + line - size := by simp [lineAt, h]

theorem small_mul {a b : Int} (a0 : 0 ≤ a) (a4 : a ≤ 4) (b0 : 0 ≤ b) (b4 : b ≤ 4) : 0 ≤ a * b ∧ a * b ≤ 16 := by
  have : a = 0 ∨ a = 1 ∨ a = 2 ∨ a = 3 ∨ a = 4 := by omega
  rcases this with rfl | rfl | rfl | rfl | rfl <;> omega
theorem small_wrap {a b : Int} (a0 : 0 ≤ a) (a4 : a ≤ 4) (b0 : 0 ≤ b) (b4 : b ≤ 4) : wrap64 (a * b) = a * b :=
  IntWalk.wrap64_in _ ⟨by have := small_mul a0 a4 b0 b4; omega, by have := small_mul a0 a4 b0 b4; omega⟩

theorem lineL_length (size line : Int) : (lineL size line).length ≤ 4 := by
  unfold lineL
  split
  · next h =>
    simp only [lineOk, Bool.and_eq_true] at h
    have := inr_t h.1
    rw [lineTo_length]
    omega
  · simp
theorem lineTo_nth {size line : Int} {k n : Nat} (h : k < n) : nth (lineTo size line n) k = lineAt size line k := by simp [nth, lineTo, List.getD_eq_getElem?_getD, h]
theorem lineAt_col' {size line : Int} (h : ¬ line < size) (k : Nat) : lineAt size line k = line - size + k * size := by rw [lineAt_col h]; omega
theorem wide_mul {a b : Int} (a0 : 0 ≤ a) (a8 : a ≤ 8) (b0 : 0 ≤ b) (b4 : b ≤ 4) : 0 ≤ a * b ∧ a * b ≤ 32 := by
  have : b = 0 ∨ b = 1 ∨ b = 2 ∨ b = 3 ∨ b = 4 := by omega
  rcases this with rfl | rfl | rfl | rfl | rfl <;> omega
theorem wide_wrap {a b : Int} (a0 : 0 ≤ a) (a8 : a ≤ 8) (b0 : 0 ≤ b) (b4 : b ≤ 4) : wrap64 (a * b) = a * b :=
  IntWalk.wrap64_in _ ⟨by have := wide_mul a0 a8 b0 b4; omega, by have := wide_mul a0 a8 b0 b4; omega⟩
end Go.Proofs.Ytgeedgljabdllaa
