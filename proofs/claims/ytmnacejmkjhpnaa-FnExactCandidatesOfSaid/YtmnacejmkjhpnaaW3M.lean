import Derived.Test.YtmnacejmkjhpnaaDraw3
import Derived.Test.YtmnacejmkjhpnaaW3E
namespace Go.Proofs.Ytmnacejmkjhpnaa
open Go.ChangeShapes Go.WideShapes Go.ChangeAt Go.RowKit

def sumP (L : List Int) : Nat → Nat
  | 0 => 0
  | k + 1 => sumP L k + 2 ^ (nth L k).toNat
def chkM (m : Int) : Bool := (List.range (maskVals m).length).all fun k => decide (1 ≤ nth (maskVals m) k) && decide (nth (maskVals m) k ≤ 4) && (k == 0 || decide (nth (maskVals m) (k - 1) < nth (maskVals m) k)) && decide (sumP (maskVals m) k ≤ 30)
def endM (m : Int) : Bool := !(mvOk m) || decide ((sumP (maskVals m) (maskVals m).length : Int) = m)
theorem chk_all : ∀ j, j < 35 → chkM ((j : Nat) - 2 : Int) = true ∧ endM ((j : Nat) - 2 : Int) = true := by decide +kernel
theorem mask_at {m : Int} (h0 : -2 ≤ m) (h1 : m ≤ 32) : (∀ k, k < (maskVals m).length → 1 ≤ nth (maskVals m) k ∧ nth (maskVals m) k ≤ 4 ∧ (k = 0 ∨ nth (maskVals m) (k - 1) < nth (maskVals m) k) ∧ sumP (maskVals m) k ≤ 30) ∧ (mvOk m = true → (sumP (maskVals m) (maskVals m).length : Int) = m) := by
  have h := chk_all (m + 2).toNat (by omega)
  have e : (((m + 2).toNat : Nat) : Int) - 2 = m := by omega
  rw [e] at h
  obtain ⟨h1, h2⟩ := h
  refine ⟨fun k hk => ?_, fun hok => ?_⟩
  · simp only [chkM, List.all_eq_true, List.mem_range, Bool.and_eq_true, Bool.or_eq_true, decide_eq_true_eq, beq_iff_eq] at h1
    have := h1 k hk
    exact ⟨this.1.1.1, this.1.1.2, this.1.2, this.2⟩
  · simp only [endM, hok, Bool.not_true, Bool.false_or, decide_eq_true_eq] at h2
    exact h2
set_option maxHeartbeats 1000000 in
theorem fnMaskValues_walk (himpl : IMaskValues) (A : Option Addr) (c n : Nat) (bs : List Int) (w : World) (h : Code_ w A n c bs) :
    Calls Try.prog 15 #[.slice A n c] w fun e w' => e = .returned (.bool true) ∧ Below w.heap.size w w' := by
  have Himpl := Lib.hid himpl; clear himpl
  by_cases hn : n ≤ 1048576
  · go_enter Try.func15, Try.ntmps15
    go_wp2_with fail
    refine (drawMaskValues _ _ _ _ _ h).mono ?_
    rintro e w1 ⟨m, rfl, m0, m1, hb1⟩
    have hle := maskVals_length m
    go_wp2_with fail
    refine (Himpl.out _ _ (by omega)).mono ?_
    rintro e w2 ⟨A2, c2, rfl, ho2, hb2⟩
    have hsame := same_refl (maskVals m)
    go_wp2_with fail
    refine (specMaskValues _ _ (by omega)).mono ?_
    rintro e w3 ⟨A3, c3, rfl, ho3, hb3⟩
    go_wp2_with fail
    refine (sameInts_any _ _ _ _ _ _ _ _ _ _ _ (ho2.rd.below hb3) ho3.rd (by omega)).mono ?_
    rintro e w4 ⟨rfl, hb4⟩
    have h24 := step hb3 hb4
    have h04 := step (step hb1 hb2) h24
    have hrx := ho2.rd.below h24
    have hB2 : w2.heap.size ≤ w4.heap.size := h24.size
    obtain ⟨hat, hend⟩ := mask_at m0 m1
    have Hat := Lib.hid hat
    have Hend := Lib.hid hend
    clear hat hend
    go_wp2
    go_loopw [5, 6] (fun q i wr => ∃ k : Nat, k ≤ (maskVals m).length ∧ i = .int .i64 k ∧ q = .int .i64 (sumP (maskVals m) k : Int) ∧ Below w4.heap.size w4 wr) (fun _ i _ => (maskVals m).length - (intOf i).toNat)
    case atStart => exact ⟨0, Nat.zero_le _, rfl, rfl, Below.refl _ _⟩
    case round =>
      obtain ⟨k, hk, rfl, rfl, hb⟩ := hrel
      by_cases hlt : k < (maskVals m).length
      · obtain ⟨x1, x4, hprev, hsm⟩ := Hat.out k hlt
        have hxk := hrx.below (hb.mono hB2)
        obtain ⟨bx, ox, rfl, gx, hcx⟩ := hxk.at_ hlt
        have hltI : (k : Int) < ((maskVals m).length : Int) := by omega
        obtain ⟨v, hv⟩ := Int.eq_ofNat_of_zero_le (by omega : 0 ≤ nth (maskVals m) k)
        have Hs := Lib.hid (show sumP (maskVals m) (k + 1) = sumP (maskVals m) k + 2 ^ v by rw [sumP, hv, Int.toNat_natCast])
        have hv4 : v ≤ 4 := by omega
        have hpw := two_pow_nat v hv4
        have hpb : 2 ^ v < 2 ^ 5 := Nat.pow_lt_pow_right (by omega) (by omega)
        have g1 : decide ((v : Int) < 1) = false := by rw [decide_eq_false_iff_not]; omega
        have g4 : decide (4 < (v : Int)) = false := by rw [decide_eq_false_iff_not]; omega
        rw [hv] at hcx hprev
        generalize hP : 2 ^ v = p at *
        generalize hS : sumP (maskVals m) k = q at *
        clear hv x1 x4 hP hS
        by_cases h0 : k = 0
        · subst h0
          clear hprev
          rw [Nat.add_zero] at hcx
          go_wp2
          go_quiet (fail)
          go_wp2
          go_roundw
          case rel => exact ⟨0 + 1, by omega, rfl, by rw [Hs.out]; simp, below_drewN hb _⟩
          case measure => simp [intOf]; omega
        · obtain ⟨j, rfl⟩ : ∃ j, k = j + 1 := ⟨k - 1, by omega⟩
          have hlt2 : nth (maskVals m) j < (v : Int) := by
            rcases hprev with h | h
            · omega
            · simpa using h
          obtain ⟨by', oy, ey, _, hcy⟩ := hxk.at_ (k := j) (by omega)
          cases ey
          have g5 : decide (0 < ((j + 1 : Nat) : Int)) = true := by rw [decide_eq_true_eq]; omega
          have g6 : decide ((v : Int) ≤ nth (maskVals m) j) = false := by rw [decide_eq_false_iff_not]; omega
          have g7 : IntKind.i64.wrap (((j + 1 : Nat) : Int) - 1) = (j : Int) := (IntWalk.i64_in _ (by omega)).trans (by omega)
          have g8 : (j : Int) < ((maskVals m).length : Int) := by omega
          clear hprev h0
          go_wp2
          go_quiet (fail)
          go_wp2
          go_roundw
          case rel => exact ⟨j + 1 + 1, by omega, by go_num, by rw [Hs.out]; simp, below_drewN hb _⟩
          case measure => simp [intOf]; omega
      · obtain rfl : k = (maskVals m).length := by omega
        cases hok : mvOk m
        · have hnil := Lib.hid (show maskVals m = [] by simp [maskVals, hok])
          have hq : Hid ((sumP (maskVals m) (maskVals m).length : Int) = 0) := Lib.hid (by rw [hnil.out]; rfl)
          have hl0 : ((((maskVals m).length : Nat) : Int) == 0) = true := by rw [hnil.out]; rfl
          have hm0 : m ≠ 0 := by rintro rfl; simp [mvOk, inr] at hok
          have hm1 : (0 == m) = false := by simp; omega
          have Hok := Lib.hid hok
          rw [hq.out]
          clear hm0 hok
          rcases Int.lt_or_le m 0 with hneg | hpos
          · go_wp2_with fail
            refine (alive_any _).mono ?_
            rintro e w7 ⟨rfl, hb7⟩
            go_wp2
            go_ret
            exact ⟨rfl, step (step h04 hb) hb7⟩
          · have e2 : m.tmod 2 = m % 2 := Int.tmod_eq_emod_of_nonneg hpos
            cases hmod : (m % 2 == 0)
            · have hmod' : (m % 2 != 0) = true := by simp [bne, hmod]
              clear hmod e2
              go_wp2_with fail
              refine (alive_any _).mono ?_
              rintro e w7 ⟨rfl, hb7⟩
              go_wp2
              go_ret
              exact ⟨rfl, step (step h04 hb) hb7⟩
            · have hbig : 30 < m := by
                have h9 := Hok.out
                simp only [mvOk, e2, hmod, Bool.and_true] at h9
                have := inr_f h9
                omega
              have hmod' : (m % 2 != 0) = false := by simp [bne, hmod]
              clear hmod e2
              go_wp2_with fail
              refine (alive_any _).mono ?_
              rintro e w7 ⟨rfl, hb7⟩
              go_wp2
              go_ret
              exact ⟨rfl, step (step h04 hb) hb7⟩
        · have hq := Hend.out hok
          have hqe : ((sumP (maskVals m) (maskVals m).length : Int) == m) = true := by simp [hq]
          clear hq hok
          go_wp2_with fail
          refine (alive_any _).mono ?_
          rintro e w7 ⟨rfl, hb7⟩
          go_wp2
          go_ret
          exact ⟨rfl, step (step h04 hb) hb7⟩
  · go_enter Try.func15, Try.ntmps15
    go_wp2
    go_ret
    exact ⟨rfl, Below.refl _ _⟩
end Go.Proofs.Ytmnacejmkjhpnaa
