import Derived.Test.YtlnmioijgclndaaC1L
import Derived.Test.YtlnmioijgclndaaC1I
import Derived.Deep.RegionHeld3
namespace Go.Proofs.Ytlnmioijgclndaa
open Go.ChangeShapes Go.WideShapes Go.ChangeAt Go.RowKit

def swapV (a b v : Int) : Int := if v = a then b else if v = b then a else v
def swapG (xs : List Int) (a b : Int) (k : Nat) : Int := swapV a b (nth xs k)
def swapOk (xs : List Int) (size a b : Int) : Bool := gv xs size && inr a 1 size && inr b 1 size
def swapL (xs : List Int) (size a b : Int) : List Int := if swapOk xs size a b = true then mapTo (swapG xs a b) xs.length else []

end Go.Proofs.Ytlnmioijgclndaa
