import Derived.Test.YtlnmioijgclndaaDoorRows
import Derived.JoinedOf
namespace Go.Proofs.YtlnmioijgclndaaDoor
def spaceSign : Char := Char.ofNat 32
def mainWord : List Char := [Char.ofNat 104, Char.ofNat 97, Char.ofNat 114, Char.ofNat 110, Char.ofNat 101, Char.ofNat 115, Char.ofNat 115]
def sumWord : List Char := [Char.ofNat 50, Char.ofNat 51, Char.ofNat 49, Char.ofNat 50, Char.ofNat 99, Char.ofNat 50, Char.ofNat 102, Char.ofNat 48, Char.ofNat 54, Char.ofNat 102, Char.ofNat 51, Char.ofNat 100, Char.ofNat 99, Char.ofNat 101, Char.ofNat 100, Char.ofNat 98, Char.ofNat 100, Char.ofNat 50, Char.ofNat 99, Char.ofNat 57, Char.ofNat 102, Char.ofNat 97, Char.ofNat 52, Char.ofNat 57, Char.ofNat 98, Char.ofNat 56, Char.ofNat 100, Char.ofNat 98, Char.ofNat 97, Char.ofNat 52, Char.ofNat 51, Char.ofNat 56, Char.ofNat 99, Char.ofNat 50, Char.ofNat 100, Char.ofNat 56, Char.ofNat 54, Char.ofNat 102, Char.ofNat 100, Char.ofNat 56, Char.ofNat 54, Char.ofNat 101, Char.ofNat 98, Char.ofNat 101, Char.ofNat 99, Char.ofNat 57, Char.ofNat 51, Char.ofNat 48, Char.ofNat 102, Char.ofNat 99, Char.ofNat 100, Char.ofNat 98, Char.ofNat 48, Char.ofNat 48, Char.ofNat 54, Char.ofNat 55, Char.ofNat 53, Char.ofNat 100, Char.ofNat 55, Char.ofNat 100, Char.ofNat 57, Char.ofNat 55, Char.ofNat 100, Char.ofNat 97]
def cutWord : List Char := [Char.ofNat 99, Char.ofNat 117, Char.ofNat 116]
def restWords : List Char := [Char.ofNat 97, Char.ofNat 116, Char.ofNat 32, Char.ofNat 108, Char.ofNat 111, Char.ofNat 111, Char.ofNat 112, Char.ofNat 46, Char.ofNat 101, Char.ofNat 120, Char.ofNat 97, Char.ofNat 109, Char.ofNat 112, Char.ofNat 108, Char.ofNat 101, Char.ofNat 47, Char.ofNat 103, Char.ofNat 114, Char.ofNat 105, Char.ofNat 100, Char.ofNat 112, Char.ofNat 117, Char.ofNat 122, Char.ofNat 122, Char.ofNat 108, Char.ofNat 101, Char.ofNat 115, Char.ofNat 47, Char.ofNat 108, Char.ofNat 97, Char.ofNat 119, Char.ofNat 115, Char.ofNat 46, Char.ofNat 70, Char.ofNat 110, Char.ofNat 70, Char.ofNat 111, Char.ofNat 114, Char.ofNat 109, Char.ofNat 115, Char.ofNat 71, Char.ofNat 114, Char.ofNat 97, Char.ofNat 100, Char.ofNat 101]
theorem words_step : forall (cs r : List Char), (forall c, c ∈ cs -> c ≠ spaceSign) -> wordsSigns (cs ++ spaceSign :: r) = cs :: wordsSigns r
  | [], r, _ => rfl
  | c :: cs, r, h => by
    have ih := words_step cs r (fun d hd => h d (List.mem_cons_of_mem _ hd))
    have hc : c ≠ spaceSign := h c (List.mem_cons_self ..)
    show wordsSigns (c :: (cs ++ spaceSign :: r)) = _
    rw [wordsSigns.eq_3 _ _ (fun e => hc e), ih]
theorem order_is : Tryd.pinned.checked.prog.initOrder = String.ofList (mainWord ++ spaceSign :: (sumWord ++ spaceSign :: (cutWord ++ spaceSign :: restWords))) := by kernel_rfl
theorem behind_word : forall W, behindMainWord (mainWord :: sumWord :: cutWord :: W) = cutWord :: W := by
  intro W
  kernel_rfl
theorem behind_is : behindMainWord (wordsSigns Tryd.pinned.checked.prog.initOrder.toList) = cutWord :: wordsSigns restWords := by
  rw [order_is, String.toList_ofList, words_step _ _ (by decide +kernel), words_step _ _ (by decide +kernel), words_step _ _ (by decide +kernel), behind_word]
theorem make_of (P : Program) (W : List (List Char)) (h : behindMainWord (wordsSigns P.initOrder.toList) = cutWord :: W) : P.make = some .cut := by
  unfold Program.make
  rw [h]
  kernel_rfl
theorem may_of (P : Program) (W : List (List Char)) (h : behindMainWord (wordsSigns P.initOrder.toList) = cutWord :: W) (hl : P.laysLater = false) (hr : P.bearsReflect = false) (hd : P.doorFits [] = true) : P.mayEnter = true := by
  have hs : stripLifts liftWords (cutWord :: W) = ([], cutWord :: W) := by kernel_rfl
  unfold Program.mayEnter
  rw [h]
  simp only [hs, hl, hr, hd]
  rfl
theorem lifts_of (P : Program) (W : List (List Char)) (h : behindMainWord (wordsSigns P.initOrder.toList) = cutWord :: W) : P.liftsFinal = false := by
  have hs : stripLifts liftWords (cutWord :: W) = ([], cutWord :: W) := by kernel_rfl
  unfold Program.liftsFinal Program.headLifts
  rw [h, hs]
  rfl
theorem make_is : Tryd.pinned.checked.prog.make = some .cut := make_of _ _ behind_is
theorem may_enter : Tryd.pinned.checked.prog.mayEnter = true := may_of _ _ behind_is (by kernel_rfl) (by kernel_rfl) (by kernel_rfl)
theorem lifts_final : Tryd.pinned.checked.prog.liftsFinal = false := lifts_of _ _ behind_is
theorem and_mk {a b : Bool} (ha : a = true) (hb : b = true) : (a && b) = true := by rw [ha, hb]; rfl
end Go.Proofs.YtlnmioijgclndaaDoor
