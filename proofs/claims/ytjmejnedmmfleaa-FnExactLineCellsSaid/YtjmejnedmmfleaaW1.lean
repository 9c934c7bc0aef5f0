import Derived.Test.YtjmejnedmmfleaaInts
import Derived.Test.YtjmejnedmmfleaaC1L
namespace Go.Proofs.Ytjmejnedmmfleaa
open Go.ChangeShapes Go.WideShapes Go.ChangeAt Go.RowKit

theorem exactLineCells_walk (size line : Int) (w : World) (_hs : -9223372036854775808 ≤ size ∧ size ≤ 9223372036854775807) (hl : -9223372036854775808 ≤ line ∧ line ≤ 9223372036854775807) :
    Calls Try.prog 4 #[.int .i64 size, .int .i64 line] w fun e w' => e = .returned (.bool true) ∧ Below w.heap.size w w' := by
  have hlen := lineL_length size line
  have hsame := same_refl (lineL size line)
  go_enter Try.func4, Try.ntmps4
  go_wp2_with fail
  refine (specLineCells _ _ _ hl).mono ?_
  rintro e w1 ⟨A0, c0, rfl, ho0, hb1⟩
  have hr0 := ho0.rd
  go_wp2_with fail
  refine (implLineCells _ _ _ hl).mono ?_
  rintro e w2 ⟨A1, c1, rfl, ho1, hb2⟩
  go_wp2_with fail
  refine (eqIntS_any _ _ _ _ _ _ _ _ _ _ _ ho1.rd (hr0.below hb2) (by omega)).mono ?_
  rintro e w3 ⟨rfl, hb3⟩
  have ho3 := ho1.below hb3
  have hb13 := step hb2 hb3
  go_wp2_with fail
  refine (markIntS_any _ _ _ _ _ _ _ ho3 (by omega) (by omega) (by omega)).mono ?_
  rintro e w4 ⟨rfl, ho4, hg4⟩
  rw [marked_all] at ho4
  have hb4 := below_own hg4 ho3.own_lo hb13.size
  have hb14 := hb13.trans hb4
  clear hg4
  go_wp2_with fail
  refine (heldIntS_seq _ _ _ _ _ _ ho4.rd (by omega) (by omega) (by omega)).mono ?_
  rintro e w4' ⟨rfl, rfl⟩
  have hb04 := step hb1 hb14
  go_wp2_with fail
  refine (implLineCells _ _ _ hl).mono ?_
  rintro e w5 ⟨A2, c2, rfl, ho5, hb5⟩
  go_wp2_with fail
  refine (eqIntS_any _ _ _ _ _ _ _ _ _ _ _ ho5.rd (hr0.below (step hb14 hb5)) (by omega)).mono ?_
  rintro e w6 ⟨rfl, hb6⟩
  go_wp2_with fail
  refine (heldIntS_seq _ _ _ _ _ _ ((ho4.below hb5).below hb6).rd (by omega) (by omega) (by omega)).mono ?_
  rintro e w6' ⟨rfl, rfl⟩
  go_wp2
  go_ret
  exact ⟨rfl, step (step hb04 hb5) hb6⟩
end Go.Proofs.Ytjmejnedmmfleaa
