import Derived.Test.YtkeoflnmbcdmfaaGreatDoorQ4
import Derived.Test.YtkeoflnmbcdmfaaGreatDoorIx
namespace Go.Proofs.YtkeoflnmbcdmfaaGreatDoor
open Go.ChangeShapes Go.WideShapes Go.ChangeAt Go.RowKit
theorem newTo_has (vs:List Int) (k q:Nat):newTo vs k q= !(memTo vs (nth vs k) q):=by
 induction q with
 |zero=>rfl
 |succ q ih=>simp only [newTo,memTo,ih,Bool.not_or];rfl
end Go.Proofs.YtkeoflnmbcdmfaaGreatDoor
