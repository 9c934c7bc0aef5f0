import Derived.Test.YtfpddieoiejofaaInts
import Derived.Test.YtfpddieoiejofaaC1L
namespace Go.Proofs.Ytfpddieoiejofaa
open Go.ChangeShapes Go.WideShapes Go.ChangeAt Go.RowKit

theorem exactGridValid_walk (A : Option Addr) (c n : Nat) (xs : List Int) (size : Int) (w : World) (h : Rd w w.heap.size A n xs) (_hs : -9223372036854775808 ≤ size ∧ size ≤ 9223372036854775807) :
    Calls Try.prog 8 #[.slice A n c, .int .i64 size] w fun e w' => e = .returned (.bool true) ∧ Below w.heap.size w w' := by
  by_cases hn : n ≤ 1048576
  · go_enter Try.func8, Try.ntmps8
    go_wp2_with fail
    refine (toIntS_any _ _ _ _ _ _ h (Nat.le_refl _) (by omega)).mono ?_
    rintro e w1 ⟨rfl, ho1, hb1⟩
    go_wp2_with fail
    refine (specGridValid _ _ _ _ _ _ _ ho1.rd (by omega)).mono ?_
    rintro e w1' ⟨rfl, rfl⟩
    go_wp2_with fail
    refine (toIntS_any _ _ _ _ _ _ (h.below hb1) hb1.size (by omega)).mono ?_
    rintro e w2 ⟨rfl, ho2, hb2⟩
    go_wp2_with fail
    refine (implGridValid _ _ _ _ _ _ _ ho2.rd (Nat.le_refl _) (by omega)).mono ?_
    rintro e w3 ⟨rfl, hb3⟩
    have hne : (gv xs size != gv xs size) = false := by simp
    go_wp2_with fail
    have hbb : Below w.heap.size w w3 := (hb1.trans (hb2.mono hb1.size)).trans (hb3.mono (Nat.le_trans hb1.size hb2.size))
    refine (toIntS_any _ _ _ _ _ _ (h.below hbb) hbb.size (by omega)).mono ?_
    rintro e w4 ⟨rfl, ho4, hb4⟩
    go_wp2_with fail
    refine (eqIntS_any _ _ _ _ _ _ _ _ _ _ _ ((ho2.below hb3).below hb4).rd ho4.rd (by omega)).mono ?_
    rintro e w5 ⟨rfl, hb5⟩
    have hs := same_refl xs
    go_wp2
    go_ret
    exact ⟨rfl, (hbb.trans (hb4.mono hbb.size)).trans (hb5.mono (Nat.le_trans hbb.size hb4.size))⟩
  · go_enter Try.func8, Try.ntmps8
    go_wp2
    go_ret
    exact ⟨rfl, Below.refl _ _⟩
theorem exactGridFilled_walk (A : Option Addr) (c n : Nat) (xs : List Int) (size : Int) (w : World) (h : Rd w w.heap.size A n xs) (_hs : -9223372036854775808 ≤ size ∧ size ≤ 9223372036854775807) :
    Calls Try.prog 9 #[.slice A n c, .int .i64 size] w fun e w' => e = .returned (.bool true) ∧ Below w.heap.size w w' := by
  by_cases hn : n ≤ 1048576
  · go_enter Try.func9, Try.ntmps9
    go_wp2_with fail
    refine (toIntS_any _ _ _ _ _ _ h (Nat.le_refl _) (by omega)).mono ?_
    rintro e w1 ⟨rfl, ho1, hb1⟩
    go_wp2_with fail
    refine (specGridFilled _ _ _ _ _ _ _ ho1.rd (by omega)).mono ?_
    rintro e w1' ⟨rfl, rfl⟩
    go_wp2_with fail
    refine (toIntS_any _ _ _ _ _ _ (h.below hb1) hb1.size (by omega)).mono ?_
    rintro e w2 ⟨rfl, ho2, hb2⟩
    go_wp2_with fail
    refine (implGridFilled _ _ _ _ _ _ _ ho2.rd (Nat.le_refl _) (by omega)).mono ?_
    rintro e w3 ⟨rfl, hb3⟩
    have hne : (gf xs size != gf xs size) = false := by simp
    go_wp2_with fail
    have hbb : Below w.heap.size w w3 := (hb1.trans (hb2.mono hb1.size)).trans (hb3.mono (Nat.le_trans hb1.size hb2.size))
    refine (toIntS_any _ _ _ _ _ _ (h.below hbb) hbb.size (by omega)).mono ?_
    rintro e w4 ⟨rfl, ho4, hb4⟩
    go_wp2_with fail
    refine (eqIntS_any _ _ _ _ _ _ _ _ _ _ _ ((ho2.below hb3).below hb4).rd ho4.rd (by omega)).mono ?_
    rintro e w5 ⟨rfl, hb5⟩
    have hs := same_refl xs
    go_wp2
    go_ret
    exact ⟨rfl, (hbb.trans (hb4.mono hbb.size)).trans (hb5.mono (Nat.le_trans hbb.size hb4.size))⟩
  · go_enter Try.func9, Try.ntmps9
    go_wp2
    go_ret
    exact ⟨rfl, Below.refl _ _⟩
theorem exactLineCells_walk (size line : Int) (w : World) (_hs : -9223372036854775808 ≤ size ∧ size ≤ 9223372036854775807) (hl : -9223372036854775808 ≤ line ∧ line ≤ 9223372036854775807) :
    Calls Try.prog 13 #[.int .i64 size, .int .i64 line] w fun e w' => e = .returned (.bool true) ∧ Below w.heap.size w w' := by
  have hlen := lineL_length size line
  have hsame := same_refl (lineL size line)
  go_enter Try.func13, Try.ntmps13
  go_wp2_with fail
  refine (specLineCells _ _ _ hl).mono ?_
  rintro e w1 ⟨A0, c0, rfl, ho0, hb1⟩
  have hr0 := ho0.rd
  go_wp2_with fail
  refine (implLineCells _ _ _ hl).mono ?_
  rintro e w2 ⟨A1, c1, rfl, ho1, hb2⟩
  go_wp2_with fail
  refine (eqIntS_any _ _ _ _ _ _ _ _ _ _ _ ho1.rd (hr0.below hb2) (by omega)).mono ?_
  rintro e w3 ⟨rfl, hb3⟩
  have ho3 := ho1.below hb3
  have hb13 := step hb2 hb3
  go_wp2_with fail
  refine (markIntS_any _ _ _ _ _ _ _ ho3 (by omega) (by omega) (by omega)).mono ?_
  rintro e w4 ⟨rfl, ho4, hg4⟩
  rw [marked_all] at ho4
  have hb4 := below_own hg4 ho3.own_lo hb13.size
  have hb14 := hb13.trans hb4
  clear hg4
  go_wp2_with fail
  refine (heldIntS_seq _ _ _ _ _ _ ho4.rd (by omega) (by omega) (by omega)).mono ?_
  rintro e w4' ⟨rfl, rfl⟩
  have hb04 := step hb1 hb14
  go_wp2_with fail
  refine (implLineCells _ _ _ hl).mono ?_
  rintro e w5 ⟨A2, c2, rfl, ho5, hb5⟩
  go_wp2_with fail
  refine (eqIntS_any _ _ _ _ _ _ _ _ _ _ _ ho5.rd (hr0.below (step hb14 hb5)) (by omega)).mono ?_
  rintro e w6 ⟨rfl, hb6⟩
  go_wp2_with fail
  refine (heldIntS_seq _ _ _ _ _ _ ((ho4.below hb5).below hb6).rd (by omega) (by omega) (by omega)).mono ?_
  rintro e w6' ⟨rfl, rfl⟩
  go_wp2
  go_ret
  exact ⟨rfl, step (step hb04 hb5) hb6⟩
end Go.Proofs.Ytfpddieoiejofaa
