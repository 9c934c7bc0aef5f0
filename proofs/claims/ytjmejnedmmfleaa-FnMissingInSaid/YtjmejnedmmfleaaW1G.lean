import Derived.Test.YtjmejnedmmfleaaDrawL
import Derived.Test.YtjmejnedmmfleaaInts
import Derived.Test.YtjmejnedmmfleaaC1L
namespace Go.Proofs.Ytjmejnedmmfleaa
open Go.ChangeShapes Go.WideShapes Go.ChangeAt Go.RowKit

def cntTo (v : Int) (ys : List Int) : Nat → Nat
  | 0 => 0
  | j + 1 => cntTo v ys j + if v = nth ys j then 1 else 0
def comTo (xs ys : List Int) : Nat → Nat
  | 0 => 0
  | i + 1 => comTo xs ys i + cntTo (nth xs i) ys ys.length
theorem cntTo_le (v : Int) (ys : List Int) (j : Nat) : cntTo v ys j ≤ j := by
  induction j with
  | zero => simp [cntTo]
  | succ j ih => simp only [cntTo]; split <;> omega
theorem comTo_le (xs ys : List Int) (h : ys.length ≤ 4) (i : Nat) : comTo xs ys i ≤ 4 * i := by
  induction i with
  | zero => simp [comTo]
  | succ i ih => have := cntTo_le (nth xs i) ys ys.length; simp only [comTo]; omega
def wantI (s l o : Int) : Int := if o = l then s else if decide (o < s) != decide (l < s) then 1 else 0
theorem com_all : ∀ s ∈ [2, 3, 4], ∀ l, l < 2 * s → ∀ o, o < 2 * s → (comTo (lineL (s : Nat) (l : Nat)) (lineL (s : Nat) (o : Nat)) s : Int) = wantI (s : Nat) (l : Nat) (o : Nat) := by decide +kernel
theorem lineL_full {s l : Nat} (h2 : 2 ≤ s) (h4 : s ≤ 4) (hl : l < 2 * s) : (lineL s l).length = s := by
  have h1 : inr (s : Int) 2 4 = true := by simp [inr]; omega
  have h3 : inr (l : Int) 0 (2 * (s : Int) - 1) = true := by simp [inr]; omega
  have : lineOk (s : Int) (l : Int) = true := by simp [lineOk, h1, h3]
  rw [lineL, if_pos this, lineTo_length, Int.toNat_natCast]
theorem lineL_cases (s l : Int) : lineL s l = [] ∨ (2 ≤ s ∧ s ≤ 4 ∧ 0 ≤ l ∧ l < 2 * s) := by
  by_cases h : lineOk s l = true
  · right
    simp only [lineOk, Bool.and_eq_true] at h
    have h1 := inr_t h.1
    have h2 := inr_t h.2
    omega
  · left
    rw [lineL, if_neg h]

set_option maxHeartbeats 800000 in
theorem fnLineCells_walk (A : Option Addr) (c n : Nat) (bs : List Int) (w : World) (h : Code_ w A n c bs) :
    Calls Try.prog 3 #[.slice A n c] w fun e w' => e = .returned (.bool true) ∧ Below w.heap.size w w' := by
  by_cases hn : n ≤ 1048576
  · go_enter Try.func3, Try.ntmps3
    go_wp2_with fail
    refine (drawLineCells _ _ _ _ _ h).mono ?_
    rintro e w1 ⟨s, l, rfl, s0, s1, l0, l1, hb1⟩
    go_wp2_with fail
    refine (implLineCells _ _ _ (by omega)).mono ?_
    rintro e w2 ⟨A2, c2, rfl, ho2, hb2⟩
    have hr2 := ho2.rd
    have hle := lineL_length s l
    go_wp2_with fail
    refine (specLineCells _ _ _ (by omega)).mono ?_
    rintro e w3 ⟨A3, c3, rfl, ho3, hb3⟩
    go_wp2_with fail
    refine (sameInts_any _ _ _ _ _ _ _ _ _ _ _ (hr2.below hb3) ho3.rd (by omega)).mono ?_
    rintro e w4 ⟨rfl, hb4⟩
    have hsame := same_refl (lineL s l)
    have h24 := step hb3 hb4
    have h14 := step (step hb1 hb2) h24
    have hr4 := hr2.below h24
    clear ho3 ho2 hb3 hb4
    rcases lineL_cases s l with he | ⟨h2, h4, hl0, hl1⟩
    · have hz : (((lineL s l).length : Int) == 0) = true := by simp [he]
      clear he
      go_wp2_with fail
      refine (alive_any _).mono ?_
      rintro e w5 ⟨rfl, hb5⟩
      go_wp2
      go_ret
      exact ⟨rfl, step h14 hb5⟩
    · obtain ⟨S, rfl⟩ := Int.eq_ofNat_of_zero_le (by omega : 0 ≤ s)
      obtain ⟨L, rfl⟩ := Int.eq_ofNat_of_zero_le hl0
      have hlen := lineL_full (s := S) (l := L) (by omega) (by omega) (by omega)
      have hz : (((lineL (S : Int) (L : Int)).length : Int) == 0) = false := by rw [hlen]; simp; omega
      have hend : (((lineL (S : Int) (L : Int)).length : Int) == (S : Int)) = true := by rw [hlen]; simp
      have Hlen := Lib.hid hlen; clear hlen
      have hcom : ∀ o : Nat, (o : Int) < 2 * (S : Int) → (comTo (lineL (S : Int) (L : Int)) (lineL (S : Int) (o : Int)) S : Int) = wantI S L o := fun o ho =>
        com_all S (by simp; omega) L (by omega) o (by omega)
      have Hcom := Lib.hid hcom; clear hcom
      go_wp2
      go_loopw [6] (fun i wr => ∃ o : Nat, (o : Int) ≤ 2 * (S : Int) ∧ i = .int .i64 o ∧ Below w4.heap.size w4 wr) (fun i _ => (2 * (S : Int) - intOf i).toNat)
      case atStart => exact ⟨0, by omega, rfl, Below.refl _ _⟩
      case round =>
        obtain ⟨o, hO, rfl, hb⟩ := hrel
        by_cases hlt : (o : Int) < 2 * (S : Int)
        · have hcm := Lib.hid (Hcom.out o hlt)
          have hlo := Lib.hid (lineL_full (s := S) (l := o) (by omega) (by omega) (by omega))
          have hleo := lineL_length (S : Int) (o : Int)
          go_wp2_with fail
          refine (implLineCells _ _ _ (by omega)).mono ?_
          rintro e w5 ⟨A5, c5, rfl, ho5, hb5⟩
          have hr5 := ho5.rd
          have h45 := step hb hb5
          have hrx := hr4.below (h45.mono h24.size)
          go_wp2
          obtain ⟨wo, rfl⟩ : ∃ wo : World, wo = w5 := ⟨_, rfl⟩
          go_loopw [8, 9, 10] (fun q i j wr => ∃ (k : Nat), k ≤ (lineL (S : Int) (L : Int)).length ∧ i = .int .i64 k ∧ q = .int .i64 (comTo (lineL (S : Int) (L : Int)) (lineL (S : Int) (o : Int)) k) ∧ Below wo.heap.size wo wr) (fun q i j _ => (lineL (S : Int) (L : Int)).length - (intOf i).toNat)
          case atStart => exact ⟨0, by omega, rfl, rfl, Below.refl _ _⟩
          case round =>
            obtain ⟨k, hk, rfl, rfl, hbk⟩ := hrel
            have hcl := comTo_le (lineL (S : Int) (L : Int)) (lineL (S : Int) (o : Int)) hleo k
            by_cases hkl : k < (lineL (S : Int) (L : Int)).length
            · have hsucc := Lib.hid (show comTo (lineL (S : Int) (L : Int)) (lineL (S : Int) (o : Int)) (k + 1) = comTo (lineL (S : Int) (L : Int)) (lineL (S : Int) (o : Int)) k + cntTo (nth (lineL (S : Int) (L : Int)) k) (lineL (S : Int) (o : Int)) (lineL (S : Int) (o : Int)).length from rfl)
              go_wp2
              obtain ⟨wk, rfl⟩ : ∃ wk : World, wk = wr := ⟨_, rfl⟩
              go_loopw [8, 10] (fun q j wr => ∃ (t : Nat), t ≤ (lineL (S : Int) (o : Int)).length ∧ j = .int .i64 t ∧ q = .int .i64 (comTo (lineL (S : Int) (L : Int)) (lineL (S : Int) (o : Int)) k + cntTo (nth (lineL (S : Int) (L : Int)) k) (lineL (S : Int) (o : Int)) t) ∧ Below wk.heap.size wk wr) (fun q j _ => (lineL (S : Int) (o : Int)).length - (intOf j).toNat)
              case atStart => exact ⟨0, by omega, rfl, by simp [cntTo], Below.refl _ _⟩
              case round =>
                obtain ⟨t, ht, rfl, rfl, hbt⟩ := hrel
                have hcn := cntTo_le (nth (lineL (S : Int) (L : Int)) k) (lineL (S : Int) (o : Int)) t
                by_cases htl : t < (lineL (S : Int) (o : Int)).length
                · have hbw := step hbk hbt
                  obtain ⟨b, off, rfl, _, hck⟩ := (hrx.below (hbw.mono (Nat.le_trans h24.size h45.size))).at_ hkl
                  obtain ⟨b', off', rfl, _, hct⟩ := (hr5.below hbw).at_ htl
                  have kI : (k : Int) < ((lineL (S : Int) (L : Int)).length : Int) := by omega
                  have tI : (t : Int) < ((lineL (S : Int) (o : Int)).length : Int) := by omega
                  by_cases e : nth (lineL (S : Int) (L : Int)) k = nth (lineL (S : Int) (o : Int)) t
                  · have hq : (nth (lineL (S : Int) (L : Int)) k == nth (lineL (S : Int) (o : Int)) t) = true := by simp [e]
                    have hs := Lib.hid (show cntTo (nth (lineL (S : Int) (L : Int)) k) (lineL (S : Int) (o : Int)) (t + 1) = cntTo (nth (lineL (S : Int) (L : Int)) k) (lineL (S : Int) (o : Int)) t + 1 by rw [cntTo, if_pos e])
                    clear e
                    go_wp2
                    go_quiet (fail)
                    go_wp2
                    go_roundw
                    case rel => exact ⟨t + 1, by omega, by go_num, by rw [hs.out]; go_num, below_drewN hbt _⟩
                    case measure => simp [intOf]; omega
                  · have hq : (nth (lineL (S : Int) (L : Int)) k == nth (lineL (S : Int) (o : Int)) t) = false := by simp [e]
                    have hs := Lib.hid (show cntTo (nth (lineL (S : Int) (L : Int)) k) (lineL (S : Int) (o : Int)) (t + 1) = cntTo (nth (lineL (S : Int) (L : Int)) k) (lineL (S : Int) (o : Int)) t by rw [cntTo, if_neg e]; rfl)
                    clear e
                    go_wp2
                    go_quiet (fail)
                    go_wp2
                    go_roundw
                    case rel => exact ⟨t + 1, by omega, by go_num, by rw [hs.out], below_drewN hbt _⟩
                    case measure => simp [intOf]; omega
                · obtain rfl : t = (lineL (S : Int) (o : Int)).length := by omega
                  go_wp2
                  go_roundw
                  case rel => exact ⟨k + 1, by omega, by go_num, by rw [hsucc.out]; go_num, step hbk hbt⟩
                  case measure => simp [intOf]; omega
            · have hke : k = S := by have := Hlen.out; omega
              have hres : (comTo (lineL (S : Int) (L : Int)) (lineL (S : Int) (o : Int)) k : Int) = wantI S L o := by rw [hke]; exact hcm.out
              have Hres := Lib.hid hres; clear hres hke
              have h4k := step h45 hbk
              by_cases e1 : o = L
              · have b1 : ((o : Int) == (L : Int)) = true := by simp [e1]
                have b2 : ((comTo (lineL (S : Int) (L : Int)) (lineL (S : Int) (o : Int)) k : Int) != (S : Int)) = false := by rw [Hres.out, wantI, if_pos (by omega)]; simp
                clear e1
                go_wp2
                go_roundw
                case rel => exact ⟨o + 1, by omega, by go_num, h4k⟩
                case measure => simp [intOf]; omega
              · have b1 : ((o : Int) == (L : Int)) = false := by simp; omega
                have e1' : (o : Int) ≠ (L : Int) := by omega
                by_cases e2 : (o : Int) < S <;> by_cases e3 : (L : Int) < S
                · have b2 : ((comTo (lineL (S : Int) (L : Int)) (lineL (S : Int) (o : Int)) k : Int) != 0) = false := by rw [Hres.out, wantI, if_neg e1']; simp [e2, e3]
                  clear e1 e1'
                  go_wp2
                  go_roundw
                  case rel => exact ⟨o + 1, by omega, by go_num, h4k⟩
                  case measure => simp [intOf]; omega
                · have b2 : ((comTo (lineL (S : Int) (L : Int)) (lineL (S : Int) (o : Int)) k : Int) != 1) = false := by rw [Hres.out, wantI, if_neg e1']; simp [e2, e3]
                  clear e1 e1'
                  go_wp2
                  go_roundw
                  case rel => exact ⟨o + 1, by omega, by go_num, h4k⟩
                  case measure => simp [intOf]; omega
                · have b2 : ((comTo (lineL (S : Int) (L : Int)) (lineL (S : Int) (o : Int)) k : Int) != 1) = false := by rw [Hres.out, wantI, if_neg e1']; simp [e2, e3]
                  clear e1 e1'
                  go_wp2
                  go_roundw
                  case rel => exact ⟨o + 1, by omega, by go_num, h4k⟩
                  case measure => simp [intOf]; omega
                · have b2 : ((comTo (lineL (S : Int) (L : Int)) (lineL (S : Int) (o : Int)) k : Int) != 0) = false := by rw [Hres.out, wantI, if_neg e1']; simp [e2, e3]
                  clear e1 e1'
                  go_wp2
                  go_roundw
                  case rel => exact ⟨o + 1, by omega, by go_num, h4k⟩
                  case measure => simp [intOf]; omega
        · go_wp2
          go_ret
          exact ⟨rfl, step h14 hb⟩
  · go_enter Try.func3, Try.ntmps3
    go_wp2
    go_ret
    exact ⟨rfl, Below.refl _ _⟩
end Go.Proofs.Ytjmejnedmmfleaa
