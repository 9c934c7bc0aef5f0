import Derived.Test.YtgeedgljabdllaaSearch
import Derived.Test.YtgeedgljabdllaaSqN
import Derived.Laws.AppendOwnNone
set_option maxRecDepth 8000
namespace Go.Proofs.Ytgeedgljabdllaa
open Go.ChangeShapes Go.WideShapes Go.ChangeAt Go.RowKit

/-- the grid with a number; no grid if there are not so many. -/
def sqn (size number : Int) : List Int :=
  if inr size 2 4 = true ∧ 0 ≤ number then ((sols size (size * size).toNat (zeros (size * size).toNat) 0)[number.toNat]?).getD [] else []
theorem zeros_length (n : Nat) : (zeros n).length = n := by simp [zeros]
theorem zeros_nth (n k : Nat) : nth (zeros n) k = 0 := by
  simp only [nth, zeros, List.getD_eq_getElem?_getD, List.getElem?_replicate]
  split <;> rfl
theorem part_zeros (n : Nat) : part (zeros n) 0 n = zeros n := by
  apply ext_nth (by rw [part_length, zeros_length])
  intro k hk
  rw [part_length] at hk
  rw [part_nth _ _ _ _ hk, zeros_nth]
  simp
theorem okAll_zeros {size : Int} (h : 0 ≤ size) (n : Nat) : okAll (zeros n) size n := fun k _ => by rw [zeros_nth]; omega
theorem pickL_getD (L : List (List Int)) (l : Int) : (pickL L l).1 = L[l.toNat]? := by
  unfold pickL
  cases L[l.toNat]? <;> rfl
theorem sqn_length {size number : Int} : (sqn size number).length ≤ 16 := by
  unfold sqn
  split
  · next h =>
    obtain ⟨h2, h4⟩ := inr_t h.1
    have := sq_bd h2 h4
    cases e : (sols size (size * size).toNat (zeros (size * size).toNat) 0)[number.toNat]? with
    | none => simp
    | some y =>
      have := sols_length size _ _ _ y (List.mem_of_getElem? e)
      rw [zeros_length] at this
      simp only [Option.getD_some]
      omega
  · simp

end Go.Proofs.Ytgeedgljabdllaa
