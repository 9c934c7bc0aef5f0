import Derived.Test.YtchcmgaohcldjaaDoorOwn
import Derived.Test.YtchcmgaohcldjaaDoorP5A
set_option maxRecDepth 8000
namespace Go.Proofs.YtchcmgaohcldjaaDoor
open Go.ChangeShapes Go.WideShapes Go.ChangeAt Go.RowKit

theorem specL6Copy (A : Option Addr) (n c B : Nat) (xs : List Int) (w : World) (h : Rd w B A n xs) (hB : B ≤ w.heap.size) (hm : n ≤ 1099511627776) :
    Calls Tryd.prog 21 #[.slice A n c] w fun e w' => ∃ A' c', e = .returned (.slice A' n c') ∧ Ow w' w.heap.size A' n c' xs ∧ Below w.heap.size w w' := by
  have hb0 : Below w.heap.size w (w.alloc (.cells #[] 3)) := (Below.refl _ _).alloc (Nat.le_refl _) _
  have HO := Lib.hid (Ow.made0 w w.heap.size (Nat.le_refl _))
  have HR := Lib.hid (h.below (hb0.mono hB))
  have hsO : w.heap.size ≤ (w.alloc (.cells #[] 3)).heap.size := by simp
  go_enter Tryd.func21, Tryd.ntmps21
  go_wp2_with (at_builtin; (refine push_new rfl (.tmp 3) (.tmp 4) rfl w.heap.size (some ⟨w.heap.size, 0, none⟩) A n c B xs rfl rfl HO.out HR.out hm hsO ?_); intro A1 c1 w1 ho1 hg1; have hb1 := hb0.grown hg1 hb0.size (fun k hk => HO.out.own_lo k hk))
  go_ret
  exact ⟨_, _, rfl, ho1, hb1⟩
/-- what a cell may have at first. -/
def startC (gi : List Int) (s : Nat) (j : Nat) : Int := if 0 < nth gi j then 2 ^ (nth gi j).toNat else 2 ^ (s + 1) - 2
def startL (s : Int) (gi : List Int) (rs : List RuleM) (n : Nat) : List Int := if pvB s gi rs = true then mapTo (startC gi s.toNat) n else []
end Go.Proofs.YtchcmgaohcldjaaDoor
