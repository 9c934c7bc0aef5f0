import Derived.Test.YtfpddieoiejofaaT3
import Derived.Test.YtfpddieoiejofaaT4
import Derived.Test.YtfpddieoiejofaaT6
namespace Go.Proofs.Ytfpddieoiejofaa
open Go.ChangeShapes Go.WideShapes Go.ChangeAt Go.RowKit

theorem implGridValid (A : Option Addr) (c n B : Nat) (xs : List Int) (size : Int) (w : World) (h : Rd w B A n xs) (hB : B ≤ w.heap.size) (hm : n ≤ 1099511627776) :
    Calls Try.prog 15 #[.slice A n c, .int .i64 size] w fun e w' => e = .returned (.bool (gv xs size)) ∧ Below w.heap.size w w' := by
  go_enter Try.func15, Try.ntmps15
  go_wp2_with (go_at_call 39; refine (implValid _ _ _ _ _ _ _ h hB hm).mono ?_; rintro e w' ⟨rfl, hb⟩)
  go_ret
  exact ⟨rfl, hb⟩

theorem exactGridValid_walk (A : Option Addr) (c n : Nat) (xs : List Int) (size : Int) (w : World) (h : Rd w w.heap.size A n xs) (_hs : -9223372036854775808 ≤ size ∧ size ≤ 9223372036854775807) :
    Calls Try.prog 8 #[.slice A n c, .int .i64 size] w fun e w' => e = .returned (.bool true) ∧ Below w.heap.size w w' := by
  by_cases hn : n ≤ 1048576
  · go_enter Try.func8, Try.ntmps8
    go_wp2_with fail
    refine (toIntS_any _ _ _ _ _ _ h (Nat.le_refl _) (by omega)).mono ?_
    rintro e w1 ⟨rfl, ho1, hb1⟩
    go_wp2_with fail
    refine (specGridValid _ _ _ _ _ _ _ ho1.rd (by omega)).mono ?_
    rintro e w1' ⟨rfl, rfl⟩
    go_wp2_with fail
    refine (toIntS_any _ _ _ _ _ _ (h.below hb1) hb1.size (by omega)).mono ?_
    rintro e w2 ⟨rfl, ho2, hb2⟩
    go_wp2_with fail
    refine (implGridValid _ _ _ _ _ _ _ ho2.rd (Nat.le_refl _) (by omega)).mono ?_
    rintro e w3 ⟨rfl, hb3⟩
    have hne : (gv xs size != gv xs size) = false := by simp
    go_wp2_with fail
    have hbb : Below w.heap.size w w3 := (hb1.trans (hb2.mono hb1.size)).trans (hb3.mono (Nat.le_trans hb1.size hb2.size))
    refine (toIntS_any _ _ _ _ _ _ (h.below hbb) hbb.size (by omega)).mono ?_
    rintro e w4 ⟨rfl, ho4, hb4⟩
    go_wp2_with fail
    refine (eqIntS_any _ _ _ _ _ _ _ _ _ _ _ ((ho2.below hb3).below hb4).rd ho4.rd (by omega)).mono ?_
    rintro e w5 ⟨rfl, hb5⟩
    have hs := same_refl xs
    go_wp2
    go_ret
    exact ⟨rfl, (hbb.trans (hb4.mono hbb.size)).trans (hb5.mono (Nat.le_trans hbb.size hb4.size))⟩
  · go_enter Try.func8, Try.ntmps8
    go_wp2
    go_ret
    exact ⟨rfl, Below.refl _ _⟩
end Go.Proofs.Ytfpddieoiejofaa
