import Derived.Test.YtlnmioijgclndaaCmp
import Derived.Test.YtlnmioijgclndaaInts
set_option maxRecDepth 8000
namespace Go.Proofs.Ytlnmioijgclndaa
open Go.ChangeShapes Go.WideShapes Go.ChangeAt Go.RowKit
theorem rgL_length (xs : List Int) (s : Int) (n : Nat) : (rgL xs s n).length ≤ n := by
  unfold rgL; split
  · rw [rnL_len]; exact Nat.le_refl _
  · simp
theorem cnL_length (xs : List Int) (s : Int) (n : Nat) : (cnL xs s n).length ≤ n := by
  unfold cnL; split
  · rw [bestT_len (by omega)]; exact Nat.le_refl _
  · simp
theorem exactRenameGrid_walk (A : Option Addr) (c n : Nat) (xs : List Int) (size : Int) (w : World) (h : Rd w w.heap.size A n xs) (_hs : -9223372036854775808 ≤ size ∧ size ≤ 9223372036854775807) :
    Calls Try.prog 10 #[.slice A n c, .int .i64 size] w fun e w' => e = .returned (.bool true) ∧ Below w.heap.size w w' := by
  by_cases hn : n ≤ 1048576
  · have hlen : (rgL xs size n).length ≤ 1099511627776 := by have := rgL_length xs size n; have := h.1; omega
    have hsame := same_refl (rgL xs size n)
    have hsamex := same_refl xs
    go_enter Try.func10, Try.ntmps10
    go_wp2_with fail
    refine (toIntS_any _ _ _ _ _ _ h (Nat.le_refl _) (by omega)).mono ?_
    rintro e wa ⟨rfl, hoa, hba⟩
    go_wp2_with fail
    refine (specRenameGrid _ _ _ _ _ _ _ hoa.rd (Nat.le_refl _) (by omega)).mono ?_
    rintro e w1 ⟨A0, c0, rfl, ho0, hb1⟩
    have hr0 := ho0.rd
    have hw1 := step hba hb1
    go_wp2_with fail
    refine (toIntS_any _ _ _ _ _ _ (h.below hw1) hw1.size (by omega)).mono ?_
    rintro e w2 ⟨rfl, hox, hb2⟩
    have hrx := hox.rd
    go_wp2_with fail
    refine (implRenameGrid _ _ _ _ _ _ _ hox.rd (Nat.le_refl _) (by omega)).mono ?_
    rintro e w3 ⟨A1, c1, rfl, hog, hb3⟩
    have hrg := hog.rd
    have h13 := step hb2 hb3
    go_wp2_with fail
    refine (eqIntS_any _ _ _ _ _ _ _ _ _ _ _ hog.rd (hr0.below h13) (by omega)).mono ?_
    rintro e w4 ⟨rfl, hb4⟩
    have h14 := step h13 hb4
    have hw4 := step hw1 h14
    go_wp2_with fail
    refine (toIntS_any _ _ _ _ _ _ (h.below hw4) hw4.size (by omega)).mono ?_
    rintro e w5 ⟨rfl, hoy, hb5⟩
    go_wp2_with fail
    refine (eqIntS_any _ _ _ _ _ _ _ _ _ _ _ (hrx.below (step (step hb3 hb4) hb5)) hoy.rd (by omega)).mono ?_
    rintro e w6 ⟨rfl, hb6⟩
    have h36 := step (step hb4 hb5) hb6
    have h26 := step hb3 h36
    have h16 := step hb2 h26
    go_wp2_with fail
    refine (markIntS_any _ _ _ _ _ _ _ (hox.below h26) (by omega) (by omega) (by omega)).mono ?_
    rintro e w7 ⟨rfl, _, hg7⟩
    have h17 := h16.trans (below_own hg7 hox.own_lo h16.size)
    have hog7 := (hog.below h36).kept hg7 hox.own_hi
    clear hg7
    go_wp2_with fail
    refine (eqIntS_any _ _ _ _ _ _ _ _ _ _ _ hog7.rd (hr0.below h17) (by omega)).mono ?_
    rintro e w8 ⟨rfl, hb8⟩
    have h18 := step h17 hb8
    have hog8 := hog7.below hb8
    go_wp2_with fail
    refine (markIntS_any _ _ _ _ _ _ _ hog8 (by omega) (by omega) (by omega)).mono ?_
    rintro e w9 ⟨rfl, hog9, hg9⟩
    rw [marked_all] at hog9
    have h19 := h18.trans (below_own hg9 (fun g hg => Nat.le_trans hb2.size (hog8.own_lo g hg)) h18.size)
    clear hg9
    go_wp2_with fail
    refine (heldIntS_seq _ _ _ _ _ _ hog9.rd (by omega) (by omega) (by omega)).mono ?_
    rintro e w9' ⟨rfl, rfl⟩
    have hw9 := step hw1 h19
    go_wp2_with fail
    refine (toIntS_any _ _ _ _ _ _ (h.below hw9) hw9.size (by omega)).mono ?_
    rintro e w10 ⟨rfl, hoz, hb10⟩
    go_wp2_with fail
    refine (implRenameGrid _ _ _ _ _ _ _ hoz.rd (Nat.le_refl _) (by omega)).mono ?_
    rintro e w11 ⟨A2, c2, rfl, hoh, hb11⟩
    have h1b := step (step h19 hb10) hb11
    go_wp2_with fail
    refine (eqIntS_any _ _ _ _ _ _ _ _ _ _ _ hoh.rd (hr0.below h1b) (by omega)).mono ?_
    rintro e w12 ⟨rfl, hb12⟩
    have h1c := step h1b hb12
    have hwc := step hw1 h1c
    go_wp2_with fail
    refine (heldIntS_seq _ _ _ _ _ _ (((hog9.below hb10).below hb11).below hb12).rd (by omega) (by omega) (by omega)).mono ?_
    rintro e w12' ⟨rfl, rfl⟩
    go_wp2
    go_ret
    exact ⟨rfl, hwc⟩
  · go_enter Try.func10, Try.ntmps10
    go_wp2
    go_ret
    exact ⟨rfl, Below.refl _ _⟩
theorem exactCanonicalGrid_walk (A : Option Addr) (c n : Nat) (xs : List Int) (size : Int) (w : World) (h : Rd w w.heap.size A n xs) (_hs : -9223372036854775808 ≤ size ∧ size ≤ 9223372036854775807) :
    Calls Try.prog 11 #[.slice A n c, .int .i64 size] w fun e w' => e = .returned (.bool true) ∧ Below w.heap.size w w' := by
  by_cases hn : n ≤ 1048576
  · have hlen : (cnL xs size n).length ≤ 1099511627776 := by have := cnL_length xs size n; have := h.1; omega
    have hsame := same_refl (cnL xs size n)
    have hsamex := same_refl xs
    go_enter Try.func11, Try.ntmps11
    go_wp2_with fail
    refine (toIntS_any _ _ _ _ _ _ h (Nat.le_refl _) (by omega)).mono ?_
    rintro e wa ⟨rfl, hoa, hba⟩
    go_wp2_with fail
    refine (specCanonicalGrid _ _ _ _ _ _ _ hoa.rd (Nat.le_refl _) (by omega)).mono ?_
    rintro e w1 ⟨A0, c0, rfl, ho0, hb1⟩
    have hr0 := ho0.rd
    have hw1 := step hba hb1
    go_wp2_with fail
    refine (toIntS_any _ _ _ _ _ _ (h.below hw1) hw1.size (by omega)).mono ?_
    rintro e w2 ⟨rfl, hox, hb2⟩
    have hrx := hox.rd
    go_wp2_with fail
    refine (implCanonicalGrid _ _ _ _ _ _ _ hox.rd (Nat.le_refl _) (by omega)).mono ?_
    rintro e w3 ⟨A1, c1, rfl, hog, hb3⟩
    have hrg := hog.rd
    have h13 := step hb2 hb3
    go_wp2_with fail
    refine (eqIntS_any _ _ _ _ _ _ _ _ _ _ _ hog.rd (hr0.below h13) (by omega)).mono ?_
    rintro e w4 ⟨rfl, hb4⟩
    have h14 := step h13 hb4
    have hw4 := step hw1 h14
    go_wp2_with fail
    refine (toIntS_any _ _ _ _ _ _ (h.below hw4) hw4.size (by omega)).mono ?_
    rintro e w5 ⟨rfl, hoy, hb5⟩
    go_wp2_with fail
    refine (eqIntS_any _ _ _ _ _ _ _ _ _ _ _ (hrx.below (step (step hb3 hb4) hb5)) hoy.rd (by omega)).mono ?_
    rintro e w6 ⟨rfl, hb6⟩
    have h36 := step (step hb4 hb5) hb6
    have h26 := step hb3 h36
    have h16 := step hb2 h26
    go_wp2_with fail
    refine (markIntS_any _ _ _ _ _ _ _ (hox.below h26) (by omega) (by omega) (by omega)).mono ?_
    rintro e w7 ⟨rfl, _, hg7⟩
    have h17 := h16.trans (below_own hg7 hox.own_lo h16.size)
    have hog7 := (hog.below h36).kept hg7 hox.own_hi
    clear hg7
    go_wp2_with fail
    refine (eqIntS_any _ _ _ _ _ _ _ _ _ _ _ hog7.rd (hr0.below h17) (by omega)).mono ?_
    rintro e w8 ⟨rfl, hb8⟩
    have h18 := step h17 hb8
    have hog8 := hog7.below hb8
    go_wp2_with fail
    refine (markIntS_any _ _ _ _ _ _ _ hog8 (by omega) (by omega) (by omega)).mono ?_
    rintro e w9 ⟨rfl, hog9, hg9⟩
    rw [marked_all] at hog9
    have h19 := h18.trans (below_own hg9 (fun g hg => Nat.le_trans hb2.size (hog8.own_lo g hg)) h18.size)
    clear hg9
    go_wp2_with fail
    refine (heldIntS_seq _ _ _ _ _ _ hog9.rd (by omega) (by omega) (by omega)).mono ?_
    rintro e w9' ⟨rfl, rfl⟩
    have hw9 := step hw1 h19
    go_wp2_with fail
    refine (toIntS_any _ _ _ _ _ _ (h.below hw9) hw9.size (by omega)).mono ?_
    rintro e w10 ⟨rfl, hoz, hb10⟩
    go_wp2_with fail
    refine (implCanonicalGrid _ _ _ _ _ _ _ hoz.rd (Nat.le_refl _) (by omega)).mono ?_
    rintro e w11 ⟨A2, c2, rfl, hoh, hb11⟩
    have h1b := step (step h19 hb10) hb11
    go_wp2_with fail
    refine (eqIntS_any _ _ _ _ _ _ _ _ _ _ _ hoh.rd (hr0.below h1b) (by omega)).mono ?_
    rintro e w12 ⟨rfl, hb12⟩
    have h1c := step h1b hb12
    have hwc := step hw1 h1c
    go_wp2_with fail
    refine (heldIntS_seq _ _ _ _ _ _ (((hog9.below hb10).below hb11).below hb12).rd (by omega) (by omega) (by omega)).mono ?_
    rintro e w12' ⟨rfl, rfl⟩
    go_wp2
    go_ret
    exact ⟨rfl, hwc⟩
  · go_enter Try.func11, Try.ntmps11
    go_wp2
    go_ret
    exact ⟨rfl, Below.refl _ _⟩
theorem exactFormCount_walk (A : Option Addr) (c n : Nat) (xs : List Int) (size : Int) (w : World) (h : Rd w w.heap.size A n xs) (_hs : -9223372036854775808 ≤ size ∧ size ≤ 9223372036854775807) :
    Calls Try.prog 12 #[.slice A n c, .int .i64 size] w fun e w' => e = .returned (.bool true) ∧ Below w.heap.size w w' := by
  by_cases hn : n ≤ 1048576
  · go_enter Try.func12, Try.ntmps12
    go_wp2_with fail
    refine (toIntS_any _ _ _ _ _ _ h (Nat.le_refl _) (by omega)).mono ?_
    rintro e w1 ⟨rfl, ho1, hb1⟩
    go_wp2_with fail
    refine (specFormCount _ _ _ _ _ _ _ ho1.rd (Nat.le_refl _) (by omega)).mono ?_
    rintro e w1' ⟨rfl, hb1'⟩
    have hb1x := step hb1 hb1'
    go_wp2_with fail
    refine (toIntS_any _ _ _ _ _ _ (h.below hb1x) hb1x.size (by omega)).mono ?_
    rintro e w2 ⟨rfl, ho2, hb2⟩
    go_wp2_with fail
    refine (implFormCount _ _ _ _ _ _ _ ho2.rd (Nat.le_refl _) (by omega)).mono ?_
    rintro e w3 ⟨rfl, hb3⟩
    have hne : (fcI xs size n != fcI xs size n) = false := by simp
    go_wp2_with fail
    have hbb : Below w.heap.size w w3 := (hb1x.trans (hb2.mono hb1x.size)).trans (hb3.mono (Nat.le_trans hb1x.size hb2.size))
    refine (toIntS_any _ _ _ _ _ _ (h.below hbb) hbb.size (by omega)).mono ?_
    rintro e w4 ⟨rfl, ho4, hb4⟩
    go_wp2_with fail
    refine (eqIntS_any _ _ _ _ _ _ _ _ _ _ _ ((ho2.below hb3).below hb4).rd ho4.rd (by omega)).mono ?_
    rintro e w5 ⟨rfl, hb5⟩
    have hs := same_refl xs
    go_wp2
    go_ret
    exact ⟨rfl, (hbb.trans (hb4.mono hbb.size)).trans (hb5.mono (Nat.le_trans hbb.size hb4.size))⟩
  · go_enter Try.func12, Try.ntmps12
    go_wp2
    go_ret
    exact ⟨rfl, Below.refl _ _⟩
end Go.Proofs.Ytlnmioijgclndaa
