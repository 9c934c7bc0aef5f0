import Derived.Test.YtcjdjcpappfkgaaGreatDoorGSq
namespace Go.Proofs.YtcjdjcpappfkgaaGreatDoor
open Go.ChangeShapes Go.WideShapes Go.ChangeAt Go.RowKit
end Go.Proofs.YtcjdjcpappfkgaaGreatDoor
