import Derived.Test.YtmnacejmkjhpnaaM3
import Derived.Test.YtmnacejmkjhpnaaW3E
import Derived.Test.YtmnacejmkjhpnaaDrawL
import Derived.Test.YtmnacejmkjhpnaaC1I
namespace Go.Proofs.Ytmnacejmkjhpnaa
open Go.ChangeShapes Go.WideShapes Go.ChangeAt Go.RowKit

theorem candL_len {xs : List Int} {size : Int} {n : Nat} (hg : gv xs size = true) (hl : xs.length = n) : (candL xs size).length = n := by
  simp [candL, hg, hl, mapTo_length]
theorem candL_at {xs : List Int} {size : Int} {n k : Nat} (hg : gv xs size = true) (hl : xs.length = n) (hk : k < n) : nth (candL xs size) k = candG xs size k := by
  have : candL xs size = mapTo (candG xs size) n := by simp [candL, hg, hl]
  rw [this, mapTo_nth hk]
theorem candL_bad {xs : List Int} {size : Int} (hg : gv xs size = false) : candL xs size = [] := by simp [candL, hg]
theorem turn_bad {xs : List Int} {size : Int} (hg : gv xs size = false) : candL (turnL xs size) size = [] := by
  have h1 : turnL xs size = [] := by simp [turnL, hg]
  rw [h1]
  apply candL_bad
  cases h : gv [] size
  · rfl
  · have := gv_len h
    obtain ⟨h2, h4⟩ := gv_size h
    have := sq_bd h2 h4
    simp at *
    omega
set_option maxHeartbeats 1000000 in
theorem fnTurnCandidates_walk (himpl : ICandidatesOf) (A : Option Addr) (c n : Nat) (bs : List Int) (w : World) (h : Code_ w A n c bs) :
    Calls Try.prog 16 #[.slice A n c] w fun e w' => e = .returned (.bool true) ∧ Below w.heap.size w w' := by
  have Himpl := Lib.hid himpl; clear himpl
  by_cases hn : n ≤ 1048576
  · go_enter Try.func16, Try.ntmps16
    go_wp2_with fail
    refine (drawCandidatesOf _ _ _ _ _ h).mono ?_
    rintro e w1 ⟨A1, n1, c1, xs, s, rfl, hr1, ⟨h16, hc1, hc2⟩, s0, s1, _, hb1⟩
    have hl := Lib.hid hr1.1
    have hle := candL_length xs s
    have hlet := candL_length (turnL xs s) s
    go_wp2_with fail
    refine (Himpl.out _ _ _ _ _ _ _ hr1 (Nat.le_refl _) (by omega)).mono ?_
    rintro e w2 ⟨A2, c2, rfl, ho2, hb2⟩
    have hsame := same_refl (candL xs s)
    go_wp2_with fail
    refine (specCandidatesOf _ _ _ _ _ _ _ (hr1.below hb2) hb2.size (by omega)).mono ?_
    rintro e w3 ⟨A3, c3, rfl, ho3, hb3⟩
    go_wp2_with fail
    refine (sameInts_any _ _ _ _ _ _ _ _ _ _ _ (ho2.rd.below hb3) ho3.rd (by omega)).mono ?_
    rintro e w4 ⟨rfl, hb4⟩
    have h24 := step hb3 hb4
    have h14 := step hb2 h24
    have htl : (turnL xs s).length ≤ 1099511627776 := by
      have : (turnL xs s).length ≤ n1 := by
        unfold turnL
        split
        · rw [mapTo_length, hl.out]; exact Nat.le_refl _
        · simp
      omega
    go_wp2_with fail
    refine (implGridTurn _ _ _ _ _ _ _ (hr1.below h14) h14.size (by omega)).mono ?_
    rintro e w5 ⟨A5, c5, rfl, ho5, hb5⟩
    go_wp2_with fail
    refine (Himpl.out _ _ _ _ _ _ _ ho5.rd (Nat.le_refl _) htl).mono ?_
    rintro e w6 ⟨A6, c6, rfl, ho6, hb6⟩
    have h26 := step (step h24 hb5) hb6
    have hrx := ho2.rd.below h26
    have hrt := ho6.rd
    have h06 := step (step hb1 hb2) h26
    have hB6 : w2.heap.size ≤ w6.heap.size := h26.size
    cases hg : gv xs s
    · have e1 := candL_bad hg
      have e2 := turn_bad hg
      rw [e1] at hrx
      rw [e2] at hrt
      rw [e1, e2]
      go_wp2
      go_loop [7, 8] (fun i _ => i = .int .i64 0) (fun _ _ => 0)
      case atStart => rfl
      case round =>
        obtain rfl := hrel
        go_wp2_with fail
        refine (alive_any _).mono ?_
        rintro e w7 ⟨rfl, hb7⟩
        go_wp2
        go_ret
        exact ⟨rfl, step h06 hb7⟩
    · have hn1 := (gv_n hg hl.out).2.2
      have hn4 := (gv_n hg hl.out).1
      obtain ⟨h2, h4⟩ := gv_size hg
      have e1 := candL_len hg hl.out
      have e2 := candL_len (turn_all hg hl.out).valid (turn_all hg hl.out).len
      have Hct := Lib.hid (fun k (hk : k < n1) => (cand_turn hg hl.out hk).trans (candL_at hg hl.out (turn_facts h2 h4 hn1 hk).2.2.1).symm)
      have Hn1 := Lib.hid hn1
      have Hg := Lib.hid hg
      rw [e1] at hrx
      rw [e2] at hrt
      rw [e1, e2]
      clear hn1 hg e1 e2 hle hlet hsame
      go_wp2
      go_loopw [7, 8] (fun i _ wr => ∃ k : Nat, k ≤ n1 ∧ i = .int .i64 k ∧ Below w6.heap.size w6 wr) (fun i _ _ => n1 - (intOf i).toNat)
      case atStart => exact ⟨0, Nat.zero_le _, rfl, Below.refl _ _⟩
      case round =>
        obtain ⟨k, hk, rfl, hb⟩ := hrel
        by_cases hlt : k < n1
        · obtain ⟨⟨hr0, hr1'⟩, ⟨hd0, hd1⟩, hix, hixe⟩ := turn_facts h2 h4 Hn1.out hlt
          have hval := Hct.out k hlt
          obtain ⟨bt, ot, rfl, gt_, hct⟩ := (hrt.below hb).at_ hlt
          obtain ⟨bx, ox, rfl, gx, hcx⟩ := (hrx.below (hb.mono hB6)).at_ hix
          rw [hval] at hct
          generalize hq : turnIx s k = q at *
          generalize hz : nth (candL xs s) q = z at *
          have hltI : (k : Int) < (n1 : Int) := by omega
          have hqI : (q : Int) < (n1 : Int) := by omega
          have hq0 : decide ((q : Int) < 0) = false := by simp
          have hq1 : decide ((n1 : Int) ≤ (q : Int)) = false := by rw [decide_eq_false_iff_not]; omega
          have hzs : (s == 0) = false := by simp; omega
          have hzs' : s ≠ 0 := by omega
          have hne : (z != z) = false := by simp
          have Hixe := Lib.hid hixe; clear hixe hval hq hz
          have hmul := small_mul (by omega : 0 ≤ s - 1 - (k : Int) % s) (by omega : s - 1 - (k : Int) % s ≤ 4) (by omega : 0 ≤ s) h4
          have w1 : IntKind.i64.wrap (s - 1) = s - 1 := IntWalk.i64_in _ (by omega)
          have w2 : IntKind.i64.wrap (s - 1 - (k : Int) % s) = s - 1 - (k : Int) % s := IntWalk.i64_in _ (by omega)
          have w3 : IntKind.i64.wrap ((s - 1 - (k : Int) % s) * s) = (s - 1 - (k : Int) % s) * s := IntWalk.i64_in _ (by omega)
          have w4 : IntKind.i64.wrap ((s - 1 - (k : Int) % s) * s + (k : Int) / s) = (q : Int) := (IntWalk.i64_in _ (by have := Hixe.out; omega)).trans Hixe.out.symm
          have w5 : (k : Int).tmod s = (k : Int) % s := Int.tmod_eq_emod_of_nonneg (by omega)
          have w6' : (k : Int).tdiv s = (k : Int) / s := Int.tdiv_eq_ediv_of_nonneg (by omega)
          have w7 : IntKind.i64.wrap ((k : Int) / s) = (k : Int) / s := IntWalk.i64_in _ (by omega)
          go_wp2
          go_quiet (fail)
          clear w1 w2 w3 w4 w5 w6' w7
          go_wp2
          go_quiet (fail)
          go_wp2
          go_roundw
          case rel => exact ⟨k + 1, by omega, by go_num, below_drewN hb _⟩
          case measure => simp [intOf]; omega
        · obtain rfl : k = n1 := by omega
          have hkk : ((k : Int) == (k : Int)) = true := by simp
          go_wp2_with fail
          refine (alive_any _).mono ?_
          rintro e w7 ⟨rfl, hb7⟩
          go_wp2
          go_ret
          exact ⟨rfl, step (step h06 hb) hb7⟩
  · go_enter Try.func16, Try.ntmps16
    go_wp2
    go_ret
    exact ⟨rfl, Below.refl _ _⟩
end Go.Proofs.Ytmnacejmkjhpnaa
