import Derived.Test.YtfpddieoiejofaaPerm
namespace Go.Proofs.Ytfpddieoiejofaa
open Go.ChangeShapes Go.WideShapes Go.ChangeAt Go.RowKit

set_option maxHeartbeats 800000 in
theorem fnGridTurn_walk (A : Option Addr) (c n : Nat) (bs : List Int) (w : World) (h : Code_ w A n c bs) :
    Calls Try.prog 5 #[.slice A n c] w fun e w' => e = .returned (.bool true) ∧ Below w.heap.size w w' := by
  by_cases hn : n ≤ 1048576
  · go_enter Try.func5, Try.ntmps5
    go_wp2_with fail
    refine (drawGridTurn _ _ _ _ _ h).mono ?_
    rintro e w1 ⟨A1, n1, c1, xs, s, rfl, hr1, ⟨h16, hc1, hc2⟩, s0, s1, _, hb1⟩
    have hl := Lib.hid hr1.1
    go_wp2_with fail
    refine (implGridTurn _ _ _ _ _ _ _ hr1 (Nat.le_refl _) (by omega)).mono ?_
    rintro e w2 ⟨A2, c2, rfl, ho2, hb2⟩
    have hr2 := ho2.rd
    have h12 := step hb1 hb2
    have hle : (turnL xs s).length ≤ 16 := by
      have := hl.out
      unfold turnL; split
      · rw [mapTo_length]; omega
      · simp
    have hsame := same_refl (turnL xs s)
    go_wp2_with fail
    refine (specGridTurn _ _ _ _ _ _ _ (hr1.below hb2) hb2.size (by omega)).mono ?_
    rintro e w3 ⟨A3, c3, rfl, ho3, hb3⟩
    go_wp2_with fail
    refine (sameInts_any _ _ _ _ _ _ _ _ _ _ _ (hr2.below hb3) ho3.rd (by omega)).mono ?_
    rintro e w4 ⟨rfl, hb4⟩
    have h24 := step hb3 hb4
    have h14 := step hb2 h24
    have h04 := step h12 h24
    cases hg : gv xs s
    · have hz : (((turnL xs s).length : Int) == 0) = true := by simp [turnL, hg]
      go_wp2_with fail
      refine (alive_any _).mono ?_
      rintro e w5 ⟨rfl, hb5⟩
      go_wp2
      go_ret
      exact ⟨rfl, step h04 hb5⟩
    · obtain ⟨hn4, _, hsq⟩ := gv_n hg hl.out
      obtain ⟨h2, h4⟩ := gv_size hg
      obtain ⟨tl, tv, t4, tf, te⟩ := turn_all hg hl.out
      have Hsq := Lib.hid hsq
      have hz : (((turnL xs s).length : Int) == 0) = false := by rw [tl]; simp; omega
      have Tl := Lib.hid tl; clear tl
      have Tv := Lib.hid tv; clear tv
      have T4 := Lib.hid t4; clear t4
      have Tf := Lib.hid tf; clear tf
      have Te := Lib.hid te; clear te
      clear hsq
      go_wp2
      go_loopw [6] (fun i wr => ∃ k : Nat, (k : Int) ≤ s ∧ i = .int .i64 k ∧ Below w4.heap.size w4 wr) (fun i _ => (s - intOf i).toNat)
      case atStart => exact ⟨0, by omega, rfl, Below.refl _ _⟩
      case round =>
        obtain ⟨k, hk, rfl, hb⟩ := hrel
        by_cases hlt : (k : Int) < s
        · have hm := small_mul (Int.natCast_nonneg k) (by omega : (k : Int) ≤ 4) (by omega : 0 ≤ s) h4
          have hw := small_wrap (Int.natCast_nonneg k) (by omega : (k : Int) ≤ 4) (by omega : 0 ≤ s) h4
          have hmn : (k : Int) * s + s ≤ n1 := by
            have : ((k : Int) + 1) * s ≤ s * s := Int.mul_le_mul_of_nonneg_right (by omega) (by omega)
            rw [Int.add_mul, Int.one_mul] at this
            rw [Hsq.out]; exact this
          have hkn : k < n1 := by omega
          obtain ⟨i, hi⟩ := Int.eq_ofNat_of_zero_le (by omega : (0 : Int) ≤ (k : Int) * s + s - 1)
          have hix : i < (turnL xs s).length := by rw [Tl.out]; omega
          obtain ⟨b, off, rfl, _, hck⟩ := (hr2.below (h24.trans (hb.mono h24.size))).at_ hix
          have hte := Te.out k hlt
          rw [hi, Int.toNat_natCast] at hte
          rw [hte] at hck
          obtain ⟨b', off', rfl, _, hck'⟩ := (hr1.below (h14.trans (hb.mono h14.size))).at_ hkn
          have iI : (i : Int) < ((turnL xs s).length : Int) := by omega
          have kI : (k : Int) < (n1 : Int) := by omega
          have hne : (nth xs k != nth xs k) = false := by simp
          have e1 : IntKind.i64.wrap ((k : Int) * s) = (k : Int) * s := IntWalk.i64_in _ (by omega)
          have e2 : IntKind.i64.wrap ((k : Int) * s + s) = (k : Int) * s + s := IntWalk.i64_in _ (by omega)
          have e3 : IntKind.i64.wrap ((k : Int) * s + s - 1) = (i : Int) := by rw [IntWalk.i64_in _ (by omega)]; exact hi
          clear hix hw hi hte
          go_wp2
          go_quiet (fail)
          clear e1 e2 e3
          go_wp2
          go_roundw
          case rel => exact ⟨k + 1, by omega, by go_num, below_drewN hb _⟩
          case measure => simp [intOf]; omega
        · have hrx := hr2.below (h24.trans (hb.mono h24.size))
          have hrg := hr1.below (h14.trans (hb.mono h14.size))
          have hB2 : w2.heap.size ≤ wr.heap.size := Nat.le_trans h24.size hb.size
          have hB1 : w1.heap.size ≤ wr.heap.size := Nat.le_trans h14.size hb.size
          have tbd : ∀ ys : List Int, (turnL ys s).length ≤ ys.length := fun ys => by unfold turnL; split <;> simp [mapTo_length]
          have hb5' := tbd (turnL xs s)
          have hb6' := tbd (turnL (turnL xs s) s)
          have hb7' := tbd (turnL (turnL (turnL xs s) s) s)
          clear tbd
          go_wp2_with fail
          refine (implGridTurn _ _ _ _ _ _ _ hrx hB2 (by omega)).mono ?_
          rintro e w5 ⟨A5, c5, rfl, ho5, hb5⟩
          go_wp2_with fail
          refine (implGridTurn _ _ _ _ _ _ _ ho5.rd (Nat.le_refl _) (by omega)).mono ?_
          rintro e w6 ⟨A6, c6, rfl, ho6, hb6⟩
          go_wp2_with fail
          refine (implGridTurn _ _ _ _ _ _ _ ho6.rd (Nat.le_refl _) (by omega)).mono ?_
          rintro e w7 ⟨A7, c7, rfl, ho7, hb7⟩
          have h57 := step (step hb5 hb6) hb7
          go_wp2_with fail
          refine (sameInts_any _ _ _ _ _ _ _ _ _ _ _ ho7.rd (hrg.below (h57.mono hB1)) (by omega)).mono ?_
          rintro e w8 ⟨rfl, hb8⟩
          have h58 := step h57 hb8
          rw [show same (turnL (turnL (turnL (turnL xs s) s) s) s) xs = true by rw [T4.out]; exact same_refl _]
          go_wp2_with fail
          refine (implGridFilled _ _ _ _ _ _ _ (hrx.below (h58.mono hB2)) (Nat.le_trans hB2 h58.size) (by omega)).mono ?_
          rintro e w9 ⟨rfl, hb9⟩
          have h59 := step h58 hb9
          go_wp2_with fail
          refine (implGridFilled _ _ _ _ _ _ _ (hrg.below (h59.mono hB1)) (Nat.le_trans hB1 h59.size) (by omega)).mono ?_
          rintro e w10 ⟨rfl, hb10⟩
          have hq : (gf (turnL xs s) s == gf xs s) = true := by rw [Tf.out]; simp
          go_wp2
          go_ret
          exact ⟨rfl, step (step (step h04 hb) h59) hb10⟩
  · go_enter Try.func5, Try.ntmps5
    go_wp2
    go_ret
    exact ⟨rfl, Below.refl _ _⟩
set_option maxHeartbeats 800000 in
theorem fnGridMirror_walk (A : Option Addr) (c n : Nat) (bs : List Int) (w : World) (h : Code_ w A n c bs) :
    Calls Try.prog 6 #[.slice A n c] w fun e w' => e = .returned (.bool true) ∧ Below w.heap.size w w' := by
  by_cases hn : n ≤ 1048576
  · go_enter Try.func6, Try.ntmps6
    go_wp2_with fail
    refine (drawGridMirror _ _ _ _ _ h).mono ?_
    rintro e w1 ⟨A1, n1, c1, xs, s, rfl, hr1, ⟨h16, hc1, hc2⟩, s0, s1, _, hb1⟩
    have hl := Lib.hid hr1.1
    go_wp2_with fail
    refine (implGridMirror _ _ _ _ _ _ _ hr1 (Nat.le_refl _) (by omega)).mono ?_
    rintro e w2 ⟨A2, c2, rfl, ho2, hb2⟩
    have hr2 := ho2.rd
    have h12 := step hb1 hb2
    have hle : (mirL xs s).length ≤ 16 := by
      have := hl.out
      unfold mirL; split
      · rw [mapTo_length]; omega
      · simp
    have hsame := same_refl (mirL xs s)
    go_wp2_with fail
    refine (specGridMirror _ _ _ _ _ _ _ (hr1.below hb2) hb2.size (by omega)).mono ?_
    rintro e w3 ⟨A3, c3, rfl, ho3, hb3⟩
    go_wp2_with fail
    refine (sameInts_any _ _ _ _ _ _ _ _ _ _ _ (hr2.below hb3) ho3.rd (by omega)).mono ?_
    rintro e w4 ⟨rfl, hb4⟩
    have h24 := step hb3 hb4
    have h14 := step hb2 h24
    have h04 := step h12 h24
    cases hg : gv xs s
    · have hz : (((mirL xs s).length : Int) == 0) = true := by simp [mirL, hg]
      go_wp2_with fail
      refine (alive_any _).mono ?_
      rintro e w5 ⟨rfl, hb5⟩
      go_wp2
      go_ret
      exact ⟨rfl, step h04 hb5⟩
    · obtain ⟨hn4, _, hsq⟩ := gv_n hg hl.out
      obtain ⟨ml, mv, m2, mt⟩ := mir_all hg hl.out
      have hz : (((mirL xs s).length : Int) == 0) = false := by rw [ml]; simp; omega
      have tbd : ∀ ys : List Int, (turnL ys s).length ≤ ys.length := fun ys => by unfold turnL; split <;> simp [mapTo_length]
      have mbd : ∀ ys : List Int, (mirL ys s).length ≤ ys.length := fun ys => by unfold mirL; split <;> simp [mapTo_length]
      have b1 := tbd xs
      have b2 := tbd (turnL xs s)
      have b3 := tbd (turnL (turnL xs s) s)
      have b4 := mbd (mirL xs s)
      have b5 := tbd (mirL xs s)
      have hl' := hl.out
      have B1 : (turnL xs s).length ≤ 16 := by omega
      have B2 : (turnL (turnL xs s) s).length ≤ 16 := by omega
      have B3 : (turnL (turnL (turnL xs s) s) s).length ≤ 16 := by omega
      have B4 : (mirL (mirL xs s) s).length ≤ 16 := by omega
      have B5 : (turnL (mirL xs s) s).length ≤ 16 := by omega
      have M2 := Lib.hid m2; clear m2
      have Mt := Lib.hid mt; clear mt
      clear ml mv hsq tbd mbd b1 b2 b3 b4 b5 hl'
      go_wp2_with fail
      refine (implGridTurn _ _ _ _ _ _ _ (hr1.below h14) h14.size (by omega)).mono ?_
      rintro e w5 ⟨A5, c5, rfl, ho5, hb5⟩
      go_wp2_with fail
      refine (implGridTurn _ _ _ _ _ _ _ ho5.rd (Nat.le_refl _) (by omega)).mono ?_
      rintro e w6 ⟨A6, c6, rfl, ho6, hb6⟩
      go_wp2_with fail
      refine (implGridTurn _ _ _ _ _ _ _ ho6.rd (Nat.le_refl _) (by omega)).mono ?_
      rintro e w7 ⟨A7, c7, rfl, ho7, hb7⟩
      have hr7 := ho7.rd
      have h57 := step (step hb5 hb6) hb7
      have h27 := step h24 h57
      have h17 := step h14 h57
      go_wp2_with fail
      refine (implGridMirror _ _ _ _ _ _ _ (hr2.below h27) h27.size (by omega)).mono ?_
      rintro e w8 ⟨A8, c8, rfl, ho8, hb8⟩
      go_wp2_with fail
      refine (sameInts_any _ _ _ _ _ _ _ _ _ _ _ ho8.rd (hr1.below (step h17 hb8)) (by omega)).mono ?_
      rintro e w9 ⟨rfl, hb9⟩
      rw [show same (mirL (mirL xs s) s) xs = true by rw [M2.out]; exact same_refl _]
      have h79 := step hb8 hb9
      have h29 := step h27 h79
      go_wp2_with fail
      refine (implGridTurn _ _ _ _ _ _ _ (hr2.below h29) h29.size (by omega)).mono ?_
      rintro e w10 ⟨A10, c10, rfl, ho10, hb10⟩
      have h710 := step h79 hb10
      go_wp2_with fail
      refine (implGridMirror _ _ _ _ _ _ _ (hr7.below h710) h710.size (by omega)).mono ?_
      rintro e w11 ⟨A11, c11, rfl, ho11, hb11⟩
      go_wp2_with fail
      refine (sameInts_any _ _ _ _ _ _ _ _ _ _ _ (ho10.below hb11).rd ho11.rd (by omega)).mono ?_
      rintro e w12 ⟨rfl, hb12⟩
      rw [show same (turnL (mirL xs s) s) (mirL (turnL (turnL (turnL xs s) s) s) s) = true by rw [Mt.out]; exact same_refl _]
      go_wp2
      go_ret
      exact ⟨rfl, step (step (step (step h04 h57) h710) hb11) hb12⟩
  · go_enter Try.func6, Try.ntmps6
    go_wp2
    go_ret
    exact ⟨rfl, Below.refl _ _⟩
end Go.Proofs.Ytfpddieoiejofaa
