import Derived.Test.YtlnmioijgclndaaC2
import Derived.Test.YtlnmioijgclndaaInts
namespace Go.Proofs.Ytlnmioijgclndaa
open Go.ChangeShapes Go.WideShapes Go.ChangeAt Go.RowKit

/- what the program's own functions of chapter 2 must be shown to do. -/
def ISquareFits : Prop := ∀ (A : Option Addr) (c n B : Nat) (xs : List Int) (size : Int) (w : World), Rd w B A n xs → B ≤ w.heap.size → n ≤ 1099511627776 →
    Calls Try.prog 24 #[.slice A n c, .int .i64 size] w fun e w' => e = .returned (.bool (sqFits xs size)) ∧ Below w.heap.size w w'
def ISquareSolved : Prop := ∀ (A : Option Addr) (c n B : Nat) (xs : List Int) (size : Int) (w : World), Rd w B A n xs → B ≤ w.heap.size → n ≤ 1099511627776 →
    Calls Try.prog 34 #[.slice A n c, .int .i64 size] w fun e w' => e = .returned (.bool (sqSolved xs size)) ∧ Below w.heap.size w w'
def ISquareNumber : Prop := ∀ (size number : Int) (w : World), (-9223372036854775808 ≤ size ∧ size ≤ 9223372036854775807) → (-9223372036854775808 ≤ number ∧ number ≤ 9223372036854775807) → Calls Try.prog 32 #[.int .i64 size, .int .i64 number] w (RetSl w (sqn size number))
theorem sqOfL_length (size : Int) : (sqOfL size).length ≤ 16 := by
  unfold sqOfL
  split
  · next h =>
    obtain ⟨h2, h4⟩ := inr_t h
    have := sq_bd h2 h4
    rw [mapTo_length]; omega
  · simp
end Go.Proofs.Ytlnmioijgclndaa
