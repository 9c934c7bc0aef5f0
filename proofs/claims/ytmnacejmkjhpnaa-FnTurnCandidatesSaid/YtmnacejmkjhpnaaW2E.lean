import Derived.Test.YtmnacejmkjhpnaaC2
import Derived.Test.YtmnacejmkjhpnaaInts
namespace Go.Proofs.Ytmnacejmkjhpnaa
open Go.ChangeShapes Go.WideShapes Go.ChangeAt Go.RowKit

/- what the program's own functions of chapter 2 must be shown to do. -/
def ISquareFits : Prop := ∀ (A : Option Addr) (c n B : Nat) (xs : List Int) (size : Int) (w : World), Rd w B A n xs → B ≤ w.heap.size → n ≤ 1099511627776 →
    Calls Try.prog 21 #[.slice A n c, .int .i64 size] w fun e w' => e = .returned (.bool (sqFits xs size)) ∧ Below w.heap.size w w'
def ISquareSolved : Prop := ∀ (A : Option Addr) (c n B : Nat) (xs : List Int) (size : Int) (w : World), Rd w B A n xs → B ≤ w.heap.size → n ≤ 1099511627776 →
    Calls Try.prog 28 #[.slice A n c, .int .i64 size] w fun e w' => e = .returned (.bool (sqSolved xs size)) ∧ Below w.heap.size w w'
def ISquareOf : Prop := ∀ (size : Int) (w : World), (-9223372036854775808 ≤ size ∧ size ≤ 9223372036854775807) → Calls Try.prog 33 #[.int .i64 size] w (RetSl w (sqOfL size))
def ISquareNumber : Prop := ∀ (size number : Int) (w : World), (-9223372036854775808 ≤ size ∧ size ≤ 9223372036854775807) → (-9223372036854775808 ≤ number ∧ number ≤ 9223372036854775807) → Calls Try.prog 37 #[.int .i64 size, .int .i64 number] w (RetSl w (sqn size number))
def IMissingIn : Prop := ∀ (A : Option Addr) (c n B : Nat) (xs : List Int) (size line : Int) (w : World), Rd w B A n xs → B ≤ w.heap.size → n ≤ 1099511627776 → (-9223372036854775808 ≤ line ∧ line ≤ 9223372036854775807) →
    Calls Try.prog 30 #[.slice A n c, .int .i64 size, .int .i64 line] w (RetSl w (missL xs size line))
theorem sqOfL_length (size : Int) : (sqOfL size).length ≤ 16 := by
  unfold sqOfL
  split
  · next h =>
    obtain ⟨h2, h4⟩ := inr_t h
    have := sq_bd h2 h4
    rw [mapTo_length]; omega
  · simp
theorem exactSquareFits_walk (himpl : ISquareFits) (A : Option Addr) (c n : Nat) (xs : List Int) (size : Int) (w : World) (h : Rd w w.heap.size A n xs) (_hs : -9223372036854775808 ≤ size ∧ size ≤ 9223372036854775807) :
    Calls Try.prog 10 #[.slice A n c, .int .i64 size] w fun e w' => e = .returned (.bool true) ∧ Below w.heap.size w w' := by
  have Himpl := Lib.hid himpl; clear himpl
  by_cases hn : n ≤ 1048576
  · go_enter Try.func10, Try.ntmps10
    go_wp2_with fail
    refine (toIntS_any _ _ _ _ _ _ h (Nat.le_refl _) (by omega)).mono ?_
    rintro e w1 ⟨rfl, ho1, hb1⟩
    go_wp2_with fail
    refine (specSquareFits _ _ _ _ _ _ _ ho1.rd (Nat.le_refl _) (by omega)).mono ?_
    rintro e w1a ⟨rfl, hb1a⟩
    have h1a := step hb1 hb1a
    go_wp2_with fail
    refine (toIntS_any _ _ _ _ _ _ (h.below h1a) h1a.size (by omega)).mono ?_
    rintro e w2 ⟨rfl, ho2, hb2⟩
    go_wp2_with fail
    refine (Himpl.out _ _ _ _ _ _ _ ho2.rd (Nat.le_refl _) (by omega)).mono ?_
    rintro e w3 ⟨rfl, hb3⟩
    have hne : (sqFits xs size != sqFits xs size) = false := by simp
    go_wp2_with fail
    have hbb := step (step h1a hb2) hb3
    refine (toIntS_any _ _ _ _ _ _ (h.below hbb) hbb.size (by omega)).mono ?_
    rintro e w4 ⟨rfl, ho4, hb4⟩
    go_wp2_with fail
    refine (eqIntS_any _ _ _ _ _ _ _ _ _ _ _ ((ho2.below hb3).below hb4).rd ho4.rd (by omega)).mono ?_
    rintro e w5 ⟨rfl, hb5⟩
    have hs := same_refl xs
    go_wp2
    go_ret
    exact ⟨rfl, step (step hbb hb4) hb5⟩
  · go_enter Try.func10, Try.ntmps10
    go_wp2
    go_ret
    exact ⟨rfl, Below.refl _ _⟩
theorem exactSquareSolved_walk (himpl : ISquareSolved) (A : Option Addr) (c n : Nat) (xs : List Int) (size : Int) (w : World) (h : Rd w w.heap.size A n xs) (_hs : -9223372036854775808 ≤ size ∧ size ≤ 9223372036854775807) :
    Calls Try.prog 11 #[.slice A n c, .int .i64 size] w fun e w' => e = .returned (.bool true) ∧ Below w.heap.size w w' := by
  have Himpl := Lib.hid himpl; clear himpl
  by_cases hn : n ≤ 1048576
  · go_enter Try.func11, Try.ntmps11
    go_wp2_with fail
    refine (toIntS_any _ _ _ _ _ _ h (Nat.le_refl _) (by omega)).mono ?_
    rintro e w1 ⟨rfl, ho1, hb1⟩
    go_wp2_with fail
    refine (specSquareSolved _ _ _ _ _ _ _ ho1.rd (Nat.le_refl _) (by omega)).mono ?_
    rintro e w1a ⟨rfl, hb1a⟩
    have h1a := step hb1 hb1a
    go_wp2_with fail
    refine (toIntS_any _ _ _ _ _ _ (h.below h1a) h1a.size (by omega)).mono ?_
    rintro e w2 ⟨rfl, ho2, hb2⟩
    go_wp2_with fail
    refine (Himpl.out _ _ _ _ _ _ _ ho2.rd (Nat.le_refl _) (by omega)).mono ?_
    rintro e w3 ⟨rfl, hb3⟩
    have hne : (sqSolved xs size != sqSolved xs size) = false := by simp
    go_wp2_with fail
    have hbb := step (step h1a hb2) hb3
    refine (toIntS_any _ _ _ _ _ _ (h.below hbb) hbb.size (by omega)).mono ?_
    rintro e w4 ⟨rfl, ho4, hb4⟩
    go_wp2_with fail
    refine (eqIntS_any _ _ _ _ _ _ _ _ _ _ _ ((ho2.below hb3).below hb4).rd ho4.rd (by omega)).mono ?_
    rintro e w5 ⟨rfl, hb5⟩
    have hs := same_refl xs
    go_wp2
    go_ret
    exact ⟨rfl, step (step hbb hb4) hb5⟩
  · go_enter Try.func11, Try.ntmps11
    go_wp2
    go_ret
    exact ⟨rfl, Below.refl _ _⟩
theorem exactSquareNumber_walk (himpl : ISquareNumber) (size number : Int) (w : World) (hs : -9223372036854775808 ≤ size ∧ size ≤ 9223372036854775807) (hq : -9223372036854775808 ≤ number ∧ number ≤ 9223372036854775807) :
    Calls Try.prog 12 #[.int .i64 size, .int .i64 number] w fun e w' => e = .returned (.bool true) ∧ Below w.heap.size w w' := by
  have Himpl := Lib.hid himpl; clear himpl
  have hlen := (sqn_length (size := size) (number := number))
  have hsame := same_refl (sqn size number)
  go_enter Try.func12, Try.ntmps12
  go_wp2_with fail
  refine (specSquareNumber _ _ _ hq.1 hq.2).mono ?_
  rintro e w1 ⟨A0, c0, rfl, ho0, hb1⟩
  have hr0 := ho0.rd
  go_wp2_with fail
  refine (Himpl.out _ _ _ hs hq).mono ?_
  rintro e w2 ⟨A1, c1, rfl, ho1, hb2⟩
  go_wp2_with fail
  refine (eqIntS_any _ _ _ _ _ _ _ _ _ _ _ ho1.rd (hr0.below hb2) (by omega)).mono ?_
  rintro e w3 ⟨rfl, hb3⟩
  have ho3 := ho1.below hb3
  have hb13 := step hb2 hb3
  go_wp2_with fail
  refine (markIntS_any _ _ _ _ _ _ _ ho3 (by omega) (by omega) (by omega)).mono ?_
  rintro e w4 ⟨rfl, ho4, hg4⟩
  rw [marked_all] at ho4
  have hb4 := below_own hg4 ho3.own_lo hb13.size
  have hb14 := hb13.trans hb4
  clear hg4
  go_wp2_with fail
  refine (heldIntS_seq _ _ _ _ _ _ ho4.rd (by omega) (by omega) (by omega)).mono ?_
  rintro e w4' ⟨rfl, rfl⟩
  have hb04 := step hb1 hb14
  go_wp2_with fail
  refine (Himpl.out _ _ _ hs hq).mono ?_
  rintro e w5 ⟨A2, c2, rfl, ho5, hb5⟩
  go_wp2_with fail
  refine (eqIntS_any _ _ _ _ _ _ _ _ _ _ _ ho5.rd (hr0.below (step hb14 hb5)) (by omega)).mono ?_
  rintro e w6 ⟨rfl, hb6⟩
  go_wp2_with fail
  refine (heldIntS_seq _ _ _ _ _ _ ((ho4.below hb5).below hb6).rd (by omega) (by omega) (by omega)).mono ?_
  rintro e w6' ⟨rfl, rfl⟩
  go_wp2
  go_ret
  exact ⟨rfl, step (step hb04 hb5) hb6⟩
theorem exactMissingIn_walk (himpl : IMissingIn) (A : Option Addr) (c n : Nat) (xs : List Int) (size line : Int) (w : World) (h : Rd w w.heap.size A n xs) (_hs : -9223372036854775808 ≤ size ∧ size ≤ 9223372036854775807) (hl : -9223372036854775808 ≤ line ∧ line ≤ 9223372036854775807) :
    Calls Try.prog 13 #[.slice A n c, .int .i64 size, .int .i64 line] w fun e w' => e = .returned (.bool true) ∧ Below w.heap.size w w' := by
  have Himpl := Lib.hid himpl; clear himpl
  by_cases hn : n ≤ 1048576
  · have hlen : (missL xs size line).length ≤ 1099511627776 := by have := missL_length xs size line; have := h.1; omega
    have hsame := same_refl (missL xs size line)
    have hsamex := same_refl xs
    go_enter Try.func13, Try.ntmps13
    go_wp2_with fail
    refine (toIntS_any _ _ _ _ _ _ h (Nat.le_refl _) (by omega)).mono ?_
    rintro e wa ⟨rfl, hoa, hba⟩
    go_wp2_with fail
    refine (specMissingIn _ _ _ _ _ _ _ _ hoa.rd (Nat.le_refl _) (by omega) hl).mono ?_
    rintro e w1 ⟨A0, c0, rfl, ho0, hb1⟩
    have hr0 := ho0.rd
    have hw1 := step hba hb1
    go_wp2_with fail
    refine (toIntS_any _ _ _ _ _ _ (h.below hw1) hw1.size (by omega)).mono ?_
    rintro e w2 ⟨rfl, hox, hb2⟩
    have hrx := hox.rd
    go_wp2_with fail
    refine (Himpl.out _ _ _ _ _ _ _ _ hox.rd (Nat.le_refl _) (by omega) hl).mono ?_
    rintro e w3 ⟨A1, c1, rfl, hog, hb3⟩
    have hrg := hog.rd
    have h13 := step hb2 hb3
    go_wp2_with fail
    refine (eqIntS_any _ _ _ _ _ _ _ _ _ _ _ hog.rd (hr0.below h13) (by omega)).mono ?_
    rintro e w4 ⟨rfl, hb4⟩
    have h14 := step h13 hb4
    have hw4 := step hw1 h14
    go_wp2_with fail
    refine (toIntS_any _ _ _ _ _ _ (h.below hw4) hw4.size (by omega)).mono ?_
    rintro e w5 ⟨rfl, hoy, hb5⟩
    go_wp2_with fail
    refine (eqIntS_any _ _ _ _ _ _ _ _ _ _ _ (hrx.below (step (step hb3 hb4) hb5)) hoy.rd (by omega)).mono ?_
    rintro e w6 ⟨rfl, hb6⟩
    have h36 := step (step hb4 hb5) hb6
    have h26 := step hb3 h36
    have h16 := step hb2 h26
    go_wp2_with fail
    refine (markIntS_any _ _ _ _ _ _ _ (hox.below h26) (by omega) (by omega) (by omega)).mono ?_
    rintro e w7 ⟨rfl, _, hg7⟩
    have h17 := h16.trans (below_own hg7 hox.own_lo h16.size)
    have hog7 := (hog.below h36).kept hg7 hox.own_hi
    clear hg7
    go_wp2_with fail
    refine (eqIntS_any _ _ _ _ _ _ _ _ _ _ _ hog7.rd (hr0.below h17) (by omega)).mono ?_
    rintro e w8 ⟨rfl, hb8⟩
    have h18 := step h17 hb8
    have hog8 := hog7.below hb8
    go_wp2_with fail
    refine (markIntS_any _ _ _ _ _ _ _ hog8 (by omega) (by omega) (by omega)).mono ?_
    rintro e w9 ⟨rfl, hog9, hg9⟩
    rw [marked_all] at hog9
    have h19 := h18.trans (below_own hg9 (fun g hg => Nat.le_trans hb2.size (hog8.own_lo g hg)) h18.size)
    clear hg9
    go_wp2_with fail
    refine (heldIntS_seq _ _ _ _ _ _ hog9.rd (by omega) (by omega) (by omega)).mono ?_
    rintro e w9' ⟨rfl, rfl⟩
    have hw9 := step hw1 h19
    go_wp2_with fail
    refine (toIntS_any _ _ _ _ _ _ (h.below hw9) hw9.size (by omega)).mono ?_
    rintro e w10 ⟨rfl, hoz, hb10⟩
    go_wp2_with fail
    refine (Himpl.out _ _ _ _ _ _ _ _ hoz.rd (Nat.le_refl _) (by omega) hl).mono ?_
    rintro e w11 ⟨A2, c2, rfl, hoh, hb11⟩
    have h1b := step (step h19 hb10) hb11
    go_wp2_with fail
    refine (eqIntS_any _ _ _ _ _ _ _ _ _ _ _ hoh.rd (hr0.below h1b) (by omega)).mono ?_
    rintro e w12 ⟨rfl, hb12⟩
    have h1c := step h1b hb12
    have hwc := step hw1 h1c
    go_wp2_with fail
    refine (heldIntS_seq _ _ _ _ _ _ (((hog9.below hb10).below hb11).below hb12).rd (by omega) (by omega) (by omega)).mono ?_
    rintro e w12' ⟨rfl, rfl⟩
    go_wp2
    go_ret
    exact ⟨rfl, hwc⟩
  · go_enter Try.func13, Try.ntmps13
    go_wp2
    go_ret
    exact ⟨rfl, Below.refl _ _⟩
end Go.Proofs.Ytmnacejmkjhpnaa
