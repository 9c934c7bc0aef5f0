import Derived.Test.YtcjdjcpappfkgaaGreatDoorGClash
namespace Go.Proofs.YtcjdjcpappfkgaaGreatDoor
open Go.ChangeShapes Go.WideShapes Go.ChangeAt Go.RowKit
def Box1 (w : World) (L : Nat) (v : Int) : Prop := w.heap[L]? = some (.cells #[.int .i64 v] 3 (0, 0))
theorem Box1.cell {w : World} {L : Nat} {v : Int} (h : Box1 w L v) : w.cell? ⟨L, 0, none⟩ = some (.int .i64 v) := cell_of_row _ _ 0 _ _ _ h
theorem Box1.free {w : World} {L : Nat} {v : Int} (h : Box1 w L v) : w.frozen? ⟨L, 0, none⟩ = false := frozen_of_row w L 0 _ _ h
theorem Box1.lt {w : World} {L : Nat} {v : Int} (h : Box1 w L v) : L < w.heap.size := cell_lt h.cell
theorem Box1.below {w w' : World} {L : Nat} {v : Int} (h : Box1 w L v) (hb : Below w.heap.size w w') : Box1 w' L v := (hb.block L h.lt).trans h
theorem okAll_set {xs : List Int} {size v : Int} {n p : Nat} (h : okAll xs size n) (hl : xs.length = n) (hp : p < n) (v0 : 0 ≤ v) (v1 : v ≤ size) : okAll (xs.set p v) size n := by
  intro k hk; rw [nth_set (by omega)]
  split
  · exact ⟨v0, v1⟩
  · exact h k hk
end Go.Proofs.YtcjdjcpappfkgaaGreatDoor
