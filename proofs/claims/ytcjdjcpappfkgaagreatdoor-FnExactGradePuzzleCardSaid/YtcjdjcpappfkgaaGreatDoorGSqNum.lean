import Derived.Test.YtcjdjcpappfkgaaGreatDoorGSearch
import Derived.Test.YtcjdjcpappfkgaaGreatDoorGSqN
import Derived.Laws.AppendOwnNone
set_option maxRecDepth 8000
namespace Go.Proofs.YtcjdjcpappfkgaaGreatDoor
open Go.ChangeShapes Go.WideShapes Go.ChangeAt Go.RowKit
theorem zeros_nth (n k : Nat) : nth (zeros n) k = 0 := by
  simp only [nth, zeros, List.getD_eq_getElem?_getD, List.getElem?_replicate]
  split <;> rfl
end Go.Proofs.YtcjdjcpappfkgaaGreatDoor
