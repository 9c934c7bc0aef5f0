import Derived.Test.YtoejpodchlepiaaPow
import Derived.Test.YtoejpodchlepiaaC3G
import Derived.Test.YtoejpodchlepiaaC1
set_option maxRecDepth 8000
namespace Go.Proofs.Ytoejpodchlepiaa
open Go.ChangeShapes Go.WideShapes Go.ChangeAt Go.RowKit
/-- how many values the first k masks have. -/
def mcTo (m : List Int) : Nat → Nat
  | 0 => 0
  | k + 1 => mcTo m k + (maskVals (nth m k)).length
def mcI (m : List Int) (s : Int) : Int := if mvd m s = true then (mcTo m m.length : Nat) else -1
theorem mcTo_le (m : List Int) (k : Nat) : mcTo m k ≤ 4 * k := by
  induction k with
  | zero => exact Nat.le_refl _
  | succ k ih => have := maskVals_length (nth m k); simp only [mcTo]; omega
theorem specMasksCount (A : Option Addr) (c n B : Nat) (m : List Int) (s : Int) (w : World) (h : Rd w B A n m) (hB : B ≤ w.heap.size) (hm : n ≤ 1099511627776) (hsb : -9223372036854775808 ≤ s ∧ s ≤ 9223372036854775807) :
    Calls Try.prog 48 #[.slice A n c, .int .i64 s] w fun e w' => e = .returned (.int .i64 (mcI m s)) ∧ Below w.heap.size w w' := by
  have hlen := Lib.hid h.1
  have HV := Lib.hid (specMasksValid A c n B m s w h hB hm hsb)
  cases hv : mvd m s
  · have HL := Lib.hid (show mcI m s = -1 by simp [mcI, hv])
    go_enter Try.func48, Try.ntmps48
    go_wp2_with (go_at_call 63; refine HV.out.mono ?_; rintro e w1 ⟨rfl, hb1⟩; rw [hv])
    go_ret
    exact ⟨by rw [HL.out]; rfl, hb1⟩
  · have HL := Lib.hid (show mcI m s = (mcTo m n : Nat) by rw [mcI, if_pos hv, hlen.out])
    obtain ⟨_, _, hn16, hrng⟩ := mvd_at hv
    rw [hlen.out] at hn16 hrng
    have Hrng := Lib.hid hrng
    clear hrng
    go_enter Try.func48, Try.ntmps48
    go_wp2_with (go_at_call 63; refine HV.out.mono ?_; rintro e w1 ⟨rfl, hb1⟩; rw [hv])
    go_loopw [5, 6] (fun q i wr => ∃ k : Nat, k ≤ n ∧ i = .int .i64 k ∧ q = .int .i64 (mcTo m k : Nat) ∧ Below w.heap.size w wr) (fun _ i _ => n - (intOf i).toNat)
    case atStart => exact ⟨0, Nat.zero_le _, rfl, rfl, hb1⟩
    case round =>
      obtain ⟨k, hk, rfl, rfl, hb⟩ := hrel
      have hle := mcTo_le m k
      by_cases hlt : k < n
      · obtain ⟨b, off, rfl, hbB, hck⟩ := (h.below (hb.mono hB)).at_ hlt
        obtain ⟨x0, x1, _⟩ := Hrng.out k hlt
        have HM := Lib.hid (fun w' => specMaskValues (nth m k) w' (by omega))
        have hl4 := maskVals_length (nth m k)
        have Hs := Lib.hid (show mcTo m (k + 1) = mcTo m k + (maskVals (nth m k)).length from rfl)
        obtain ⟨l, hl⟩ : ∃ l, (maskVals (nth m k)).length = l := ⟨_, rfl⟩
        rw [hl] at Hs hl4
        have Hl := Lib.hid hl
        clear x0 x1 hl
        go_wp2_with (go_at_call 97; refine (HM.out _).mono ?_; rintro e w3 ⟨A3, c3, rfl, _, hb3⟩; rw [Hl.out])
        go_roundw
        case rel => exact ⟨k + 1, by omega, by go_num, by rw [Hs.out]; simp, step hb hb3⟩
        case measure => simp [intOf]; omega
      · obtain rfl : k = n := by omega
        go_wp2
        go_ret
        exact ⟨by rw [HL.out]; rfl, hb⟩
/-- whether a full grid is in masks. -/
def inMask (m g : List Int) (k : Nat) : Bool := (nth m k).toNat.testBit (nth g k).toNat
def mhB (m : List Int) (s : Int) (g : List Int) : Bool := mvd m s && gv g s && (List.range g.length).all (inMask m g)
theorem all_stop {f : Nat → Bool} {n k : Nat} (hk : k < n) (h : f k = false) : (List.range n).all f = false := by
  rw [List.all_eq_false]
  exact ⟨k, List.mem_range.2 hk, by simp [h]⟩
theorem all_done {f : Nat → Bool} {n : Nat} (h : ∀ k, k < n → f k = true) : (List.range n).all f = true := by
  rw [List.all_eq_true]
  exact fun k hk => h k (List.mem_range.1 hk)
theorem shr_bit0 (M v : Nat) : ((((M : Nat) : Int) / 2 ^ v).tmod 2 == 0) = !M.testBit v := by
  have h := shr_bit M v
  have h0 : (0 : Int) ≤ ((M : Nat) : Int) / 2 ^ v := Int.ediv_nonneg (by omega) (Int.le_of_lt (Int.pow_pos (by decide)))
  rw [Int.tmod_eq_emod_of_nonneg h0] at h ⊢
  rw [← h, Bool.eq_iff_iff]
  simp only [beq_iff_eq, Bool.not_eq_true', beq_eq_false_iff_ne]
  omega
set_option maxHeartbeats 1000000 in
theorem specMasksHave (A : Option Addr) (c n B : Nat) (m : List Int) (s : Int) (Ag : Option Addr) (cg ng Bg : Nat) (g : List Int) (w : World) (h : Rd w B A n m) (hB : B ≤ w.heap.size) (hm : n ≤ 1099511627776) (hg : Rd w Bg Ag ng g) (hBg : Bg ≤ w.heap.size) (hmg : ng ≤ 1099511627776) (hsb : -9223372036854775808 ≤ s ∧ s ≤ 9223372036854775807) :
    Calls Try.prog 50 #[.slice A n c, .int .i64 s, .slice Ag ng cg] w fun e w' => e = .returned (.bool (mhB m s g)) ∧ Below w.heap.size w w' := by
  have hlen := Lib.hid h.1
  have hleng := Lib.hid hg.1
  have HV := Lib.hid (specMasksValid A c n B m s w h hB hm hsb)
  have HG := Lib.hid (fun w' (hb : Below w.heap.size w w') => specGridValid Ag cg ng Bg g s w' (hg.below (hb.mono hBg)) hmg)
  cases hv : mvd m s
  · have HL := Lib.hid (show mhB m s g = false by simp [mhB, hv])
    go_enter Try.func50, Try.ntmps50
    go_wp2_with (go_at_call 63; refine HV.out.mono ?_; rintro e w1 ⟨rfl, hb1⟩; rw [hv])
    go_ret
    exact ⟨by rw [HL.out]; rfl, hb1⟩
  · cases hgv : gv g s
    · have HL := Lib.hid (show mhB m s g = false by simp [mhB, hgv])
      go_enter Try.func50, Try.ntmps50
      go_wp2_with (first | (go_at_call 63; refine HV.out.mono ?_; rintro e w1 ⟨rfl, hb1⟩; rw [hv]) | (go_at_call 23; refine (HG.out _ hb1).mono ?_; rintro e w2 ⟨rfl, rfl⟩; rw [hgv]))
      go_ret
      exact ⟨by rw [HL.out]; rfl, hb1⟩
    · have HL := Lib.hid (show mhB m s g = (List.range ng).all (inMask m g) by simp [mhB, hv, hgv, hleng.out])
      obtain ⟨_, hsq, hn16, hrng⟩ := mvd_at hv
      rw [hlen.out] at hsq hn16 hrng
      have hlg := gv_len hgv
      rw [hleng.out] at hlg
      obtain rfl : n = ng := by omega
      have Hrng := Lib.hid hrng
      have Hg := Lib.hid (fun k (hk : k < n) => gv_nth hgv (show k < g.length by rw [hleng.out]; exact hk))
      obtain ⟨s2, s4⟩ := gv_size hgv
      clear hrng hsq hlg
      go_enter Try.func50, Try.ntmps50
      go_wp2_with (first | (go_at_call 63; refine HV.out.mono ?_; rintro e w1 ⟨rfl, hb1⟩; rw [hv]) | (go_at_call 23; refine (HG.out _ hb1).mono ?_; rintro e w2 ⟨rfl, rfl⟩; rw [hgv]; have h02 := hb1))
      go_loopw [7] (fun i wr => ∃ k : Nat, k ≤ n ∧ i = .int .i64 k ∧ Hid (∀ j, j < k → inMask m g j = true) ∧ Below w.heap.size w wr) (fun i _ => n - (intOf i).toNat)
      case atStart => exact ⟨0, Nat.zero_le _, rfl, Lib.hid (fun j hj => absurd hj (by omega)), h02⟩
      case round =>
        obtain ⟨k, hk, rfl, hall, hb⟩ := hrel
        by_cases hlt : k < n
        · obtain ⟨b, off, rfl, hbB, hck⟩ := (h.below (hb.mono hB)).at_ hlt
          obtain ⟨b', off', rfl, hbB', hck'⟩ := (hg.below (hb.mono hBg)).at_ hlt
          obtain ⟨x0, x1, _⟩ := Hrng.out k hlt
          obtain ⟨y0, y1⟩ := Hg.out k hlt
          obtain ⟨M, hM⟩ := Int.eq_ofNat_of_zero_le x0
          obtain ⟨v, hV⟩ := Int.eq_ofNat_of_zero_le y0
          have hbit : inMask m g k = M.testBit v := by simp only [inMask, hM, hV, Int.toNat_natCast]
          have hsh := shr_bit0 M v
          rw [hM] at hck x1
          rw [hV] at hck' y1
          have hvs : v < 64 := by omega
          cases hh : M.testBit v
          · rw [hh] at hsh hbit
            have Hf := Lib.hid (show mhB m s g = false by rw [HL.out]; exact all_stop hlt hbit)
            clear hh hbit hM hV x0 y0
            go_wp2
            go_quiet (fail)
            go_wp2
            go_ret
            exact ⟨by rw [Hf.out]; rfl, below_drewN hb _⟩
          · rw [hh] at hsh hbit
            have Hn := Lib.hid (show ∀ j, j < k + 1 → inMask m g j = true from fun j hj => by
              by_cases e : j = k
              · subst e; exact hbit
              · exact hall.out j (by omega))
            clear hh hbit hM hV x0 y0
            go_wp2
            go_quiet (fail)
            go_wp2
            go_roundw
            case rel => exact ⟨k + 1, by omega, by go_num, Hn, below_drewN hb _⟩
            case measure => simp [intOf]; omega
        · obtain rfl : k = n := by omega
          have Hf := Lib.hid (show mhB m s g = true by rw [HL.out]; exact all_done hall.out)
          go_wp2
          go_ret
          exact ⟨by rw [Hf.out]; rfl, hb⟩
end Go.Proofs.Ytoejpodchlepiaa
