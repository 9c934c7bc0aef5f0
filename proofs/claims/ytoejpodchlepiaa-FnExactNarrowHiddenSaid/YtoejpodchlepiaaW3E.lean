import Derived.Test.YtoejpodchlepiaaC3C
import Derived.Test.YtoejpodchlepiaaC3G
import Derived.Test.YtoejpodchlepiaaInts
namespace Go.Proofs.Ytoejpodchlepiaa
open Go.ChangeShapes Go.WideShapes Go.ChangeAt Go.RowKit

/- what the program's own functions of chapter 3 must be shown to do. -/
def IMasksValid : Prop := ∀ (A : Option Addr) (c n B : Nat) (xs : List Int) (size : Int) (w : World), Rd w B A n xs → B64 xs → B ≤ w.heap.size → n ≤ 1099511627776 → (-9223372036854775808 ≤ size ∧ size ≤ 9223372036854775807) →
    Calls Try.prog 65 #[.slice A n c, .int .i64 size] w fun e w' => e = .returned (.bool (mvd xs size)) ∧ Below w.heap.size w w'
theorem candL_length (xs : List Int) (size : Int) : (candL xs size).length ≤ 16 := by
  unfold candL
  split
  · next h =>
    obtain ⟨h2, h4⟩ := gv_size h
    have := sq_bd h2 h4
    have := gv_len h
    rw [mapTo_length]; omega
  · simp
theorem mgL_length (xs : List Int) (size : Int) : (mgL xs size).length ≤ 16 := by
  unfold mgL
  split
  · next h => rw [mapTo_length]; exact (mvd_at h).2.2.1
  · simp
end Go.Proofs.Ytoejpodchlepiaa
