import Derived.Test.YtlnmioijgclndaaDoorBase
namespace Go.Proofs.YtlnmioijgclndaaDoor
open Go.ChangeShapes Go.WideShapes Go.ChangeAt Go.RowKit

end Go.Proofs.YtlnmioijgclndaaDoor
