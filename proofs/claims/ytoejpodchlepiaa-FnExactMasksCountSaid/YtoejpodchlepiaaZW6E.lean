import Derived.Test.YtoejpodchlepiaaZI6H
import Derived.Test.YtoejpodchlepiaaInts
set_option maxRecDepth 8000
namespace Go.Proofs.Ytoejpodchlepiaa
open Go.ChangeShapes Go.WideShapes Go.ChangeAt Go.RowKit
theorem nhL_len (m : List Int) (S : Int) : (nhL m S).length ≤ 16 := by
  unfold nhL
  split
  · next h => rw [hU_len]; exact (mvd_at h).2.2.1
  · simp
theorem exactNarrowHidden_walk (A : Option Addr) (c n : Nat) (xs : List Int) (size : Int) (w : World) (h : Rd w w.heap.size A n xs) (hx64 : B64 xs) (b_size : -9223372036854775808 ≤ size ∧ size ≤ 9223372036854775807) :
    Calls Try.prog 9 #[.slice A n c, .int .i64 size] w fun e w' => e = .returned (.bool true) ∧ Below w.heap.size w w' := by
  by_cases hn : n ≤ 1048576
  · have hlen : (nhL xs size).length ≤ 1099511627776 := by have := nhL_len xs size; have := h.1; omega
    have hsame := same_refl (nhL xs size)
    have hsamex := same_refl xs
    go_enter Try.func9, Try.ntmps9
    go_wp2_with fail
    refine (toIntS_any _ _ _ _ _ _ h (Nat.le_refl _) (by omega)).mono ?_
    rintro e wa ⟨rfl, hoa, hba⟩
    go_wp2_with fail
    refine (specNarrowHidden _ _ _ _ _ _ _ hoa.rd (Nat.le_refl _) (by omega) b_size).mono ?_
    rintro e w1 ⟨A0, c0, rfl, ho0, hb1⟩
    have hr0 := ho0.rd
    have hw1 := step hba hb1
    go_wp2_with fail
    refine (toIntS_any _ _ _ _ _ _ (h.below hw1) hw1.size (by omega)).mono ?_
    rintro e w2 ⟨rfl, hox, hb2⟩
    have hrx := hox.rd
    go_wp2_with fail
    refine (implNarrowHidden _ _ _ _ _ _ _ hox.rd hx64 (Nat.le_refl _) (by omega) b_size).mono ?_
    rintro e w3 ⟨A1, c1, rfl, hog, hb3⟩
    have hrg := hog.rd
    have h13 := step hb2 hb3
    go_wp2_with fail
    refine (eqIntS_any _ _ _ _ _ _ _ _ _ _ _ hog.rd (hr0.below h13) (by omega)).mono ?_
    rintro e w4 ⟨rfl, hb4⟩
    have h14 := step h13 hb4
    have hw4 := step hw1 h14
    go_wp2_with fail
    refine (toIntS_any _ _ _ _ _ _ (h.below hw4) hw4.size (by omega)).mono ?_
    rintro e w5 ⟨rfl, hoy, hb5⟩
    go_wp2_with fail
    refine (eqIntS_any _ _ _ _ _ _ _ _ _ _ _ (hrx.below (step (step hb3 hb4) hb5)) hoy.rd (by omega)).mono ?_
    rintro e w6 ⟨rfl, hb6⟩
    have h36 := step (step hb4 hb5) hb6
    have h26 := step hb3 h36
    have h16 := step hb2 h26
    go_wp2_with fail
    refine (markIntS_any _ _ _ _ _ _ _ (hox.below h26) (by omega) (by omega) (by omega)).mono ?_
    rintro e w7 ⟨rfl, _, hg7⟩
    have h17 := h16.trans (below_own hg7 hox.own_lo h16.size)
    have hog7 := (hog.below h36).kept hg7 hox.own_hi
    clear hg7
    go_wp2_with fail
    refine (eqIntS_any _ _ _ _ _ _ _ _ _ _ _ hog7.rd (hr0.below h17) (by omega)).mono ?_
    rintro e w8 ⟨rfl, hb8⟩
    have h18 := step h17 hb8
    have hog8 := hog7.below hb8
    go_wp2_with fail
    refine (markIntS_any _ _ _ _ _ _ _ hog8 (by omega) (by omega) (by omega)).mono ?_
    rintro e w9 ⟨rfl, hog9, hg9⟩
    rw [marked_all] at hog9
    have h19 := h18.trans (below_own hg9 (fun g hg => Nat.le_trans hb2.size (hog8.own_lo g hg)) h18.size)
    clear hg9
    go_wp2_with fail
    refine (heldIntS_seq _ _ _ _ _ _ hog9.rd (by omega) (by omega) (by omega)).mono ?_
    rintro e w9' ⟨rfl, rfl⟩
    have hw9 := step hw1 h19
    go_wp2_with fail
    refine (toIntS_any _ _ _ _ _ _ (h.below hw9) hw9.size (by omega)).mono ?_
    rintro e w10 ⟨rfl, hoz, hb10⟩
    go_wp2_with fail
    refine (implNarrowHidden _ _ _ _ _ _ _ hoz.rd hx64 (Nat.le_refl _) (by omega) b_size).mono ?_
    rintro e w11 ⟨A2, c2, rfl, hoh, hb11⟩
    have h1b := step (step h19 hb10) hb11
    go_wp2_with fail
    refine (eqIntS_any _ _ _ _ _ _ _ _ _ _ _ hoh.rd (hr0.below h1b) (by omega)).mono ?_
    rintro e w12 ⟨rfl, hb12⟩
    have h1c := step h1b hb12
    have hwc := step hw1 h1c
    go_wp2_with fail
    refine (heldIntS_seq _ _ _ _ _ _ (((hog9.below hb10).below hb11).below hb12).rd (by omega) (by omega) (by omega)).mono ?_
    rintro e w12' ⟨rfl, rfl⟩
    go_wp2
    go_ret
    exact ⟨rfl, hwc⟩
  · go_enter Try.func9, Try.ntmps9
    go_wp2
    go_ret
    exact ⟨rfl, Below.refl _ _⟩
theorem exactMasksCount_walk (A : Option Addr) (c n : Nat) (xs : List Int) (size : Int) (w : World) (h : Rd w w.heap.size A n xs) (hx64 : B64 xs) (b_size : -9223372036854775808 ≤ size ∧ size ≤ 9223372036854775807) :
    Calls Try.prog 10 #[.slice A n c, .int .i64 size] w fun e w' => e = .returned (.bool true) ∧ Below w.heap.size w w' := by
  by_cases hn : n ≤ 1048576
  · go_enter Try.func10, Try.ntmps10
    go_wp2_with fail
    refine (toIntS_any _ _ _ _ _ _ h (Nat.le_refl _) (by omega)).mono ?_
    rintro e w1 ⟨rfl, ho1, hb1⟩
    go_wp2_with fail
    refine (specMasksCount _ _ _ _ _ _ _ ho1.rd (Nat.le_refl _) (by omega) b_size).mono ?_
    rintro e w1a ⟨rfl, hb1a⟩
    have h1a := step hb1 hb1a
    go_wp2_with fail
    refine (toIntS_any _ _ _ _ _ _ (h.below h1a) h1a.size (by omega)).mono ?_
    rintro e w2 ⟨rfl, ho2, hb2⟩
    go_wp2_with fail
    refine (implMasksCount _ _ _ _ _ _ _ ho2.rd hx64 (Nat.le_refl _) (by omega) b_size).mono ?_
    rintro e w3 ⟨rfl, hb3⟩
    have hne : (mcI xs size != mcI xs size) = false := by simp
    go_wp2_with fail
    have hbb := step (step h1a hb2) hb3
    refine (toIntS_any _ _ _ _ _ _ (h.below hbb) hbb.size (by omega)).mono ?_
    rintro e w4 ⟨rfl, ho4, hb4⟩
    go_wp2_with fail
    refine (eqIntS_any _ _ _ _ _ _ _ _ _ _ _ ((ho2.below hb3).below hb4).rd ho4.rd (by omega)).mono ?_
    rintro e w5 ⟨rfl, hb5⟩
    have hs := same_refl xs
    go_wp2
    go_ret
    exact ⟨rfl, step (step hbb hb4) hb5⟩
  · go_enter Try.func10, Try.ntmps10
    go_wp2
    go_ret
    exact ⟨rfl, Below.refl _ _⟩
theorem exactMasksHave_walk (A : Option Addr) (c n : Nat) (xs : List Int) (size : Int) (Ag : Option Addr) (cg ng : Nat) (g : List Int) (w : World) (h : Rd w w.heap.size A n xs) (hx64 : B64 xs) (b_size : -9223372036854775808 ≤ size ∧ size ≤ 9223372036854775807) (hg : Rd w w.heap.size Ag ng g) :
    Calls Try.prog 11 #[.slice A n c, .int .i64 size, .slice Ag ng cg] w fun e w' => e = .returned (.bool true) ∧ Below w.heap.size w w' := by
  by_cases hn : n ≤ 1048576
  · by_cases hng : ng ≤ 1048576
    · have hs := same_refl xs
      have hsg := same_refl g
      go_enter Try.func11, Try.ntmps11
      go_wp2_with fail
      refine (toIntS_any _ _ _ _ _ _ h (Nat.le_refl _) (by omega)).mono ?_
      rintro e w1 ⟨rfl, ho1, hb1⟩
      go_wp2_with fail
      refine (toIntS_any _ _ _ _ _ _ (hg.below hb1) hb1.size (by omega)).mono ?_
      rintro e w2 ⟨rfl, ho2, hb2⟩
      have h12 := step hb1 hb2
      go_wp2_with fail
      refine (specMasksHave _ _ _ _ _ _ _ _ _ _ _ _ (ho1.below hb2).rd (Nat.le_refl _) (by omega) ho2.rd (Nat.le_refl _) (by omega) b_size).mono ?_
      rintro e w3 ⟨rfl, hb3⟩
      have h13 := step h12 hb3
      go_wp2_with fail
      refine (toIntS_any _ _ _ _ _ _ (h.below h13) h13.size (by omega)).mono ?_
      rintro e w4 ⟨rfl, ho4, hb4⟩
      have h14 := step h13 hb4
      go_wp2_with fail
      refine (toIntS_any _ _ _ _ _ _ (hg.below h14) h14.size (by omega)).mono ?_
      rintro e w5 ⟨rfl, ho5, hb5⟩
      have h15 := step h14 hb5
      have ho45 := ho4.below hb5
      go_wp2_with fail
      refine (implMasksHave _ _ _ _ _ _ _ _ _ _ _ _ ho45.rd hx64 (Nat.le_refl _) (by omega) ho5.rd (Nat.le_refl _) (by omega) b_size).mono ?_
      rintro e w6 ⟨rfl, hb6⟩
      have h16 := step h15 hb6
      have hne : (mhB xs size g != mhB xs size g) = false := by simp
      go_wp2_with fail
      refine (toIntS_any _ _ _ _ _ _ (h.below h16) h16.size (by omega)).mono ?_
      rintro e w7 ⟨rfl, ho7, hb7⟩
      have h17 := step h16 hb7
      go_wp2_with fail
      refine (eqIntS_any _ _ _ _ _ _ _ _ _ _ _ ((ho45.below hb6).below hb7).rd ho7.rd (by omega)).mono ?_
      rintro e w8 ⟨rfl, hb8⟩
      have h18 := step h17 hb8
      go_wp2_with fail
      refine (toIntS_any _ _ _ _ _ _ (hg.below h18) h18.size (by omega)).mono ?_
      rintro e w9 ⟨rfl, ho9, hb9⟩
      have h19 := step h18 hb9
      go_wp2_with fail
      refine (eqIntS_any _ _ _ _ _ _ _ _ _ _ _ ((((ho5.below hb6).below hb7).below hb8).below hb9).rd ho9.rd (by omega)).mono ?_
      rintro e w10 ⟨rfl, hb10⟩
      go_wp2
      go_ret
      exact ⟨rfl, step h19 hb10⟩
    · go_enter Try.func11, Try.ntmps11
      go_wp2
      go_ret
      exact ⟨rfl, Below.refl _ _⟩
  · go_enter Try.func11, Try.ntmps11
    go_wp2
    go_ret
    exact ⟨rfl, Below.refl _ _⟩
end Go.Proofs.Ytoejpodchlepiaa
