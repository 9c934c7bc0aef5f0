import Derived.Test.YtgejahkdiciplabC3
import Derived.Test.YtgejahkdiciplabC3C
import Derived.Test.YtgejahkdiciplabC3G
import Derived.Test.YtgejahkdiciplabInts
import Derived.Test.YtgejahkdiciplabDraw
import Derived.Test.YtgejahkdiciplabC1
namespace Go.Proofs.Ytgejahkdiciplab
open Go.ChangeShapes Go.WideShapes Go.ChangeAt Go.RowKit

theorem subset_and (a m : Nat) (ha : a < 2 ^ 64) (hm : m < 2 ^ 64) (h : a &&& (2 ^ 64 - (m + 1)) = 0) : a = a &&& m := by
  apply Nat.eq_of_testBit_eq
  intro i
  rw [Nat.testBit_and]
  cases hai : a.testBit i
  · rfl
  · have hi : i < 64 := by
      rcases Nat.lt_or_ge i 64 with h | h
      · exact h
      · have := Nat.testBit_lt_two_pow (Nat.lt_of_lt_of_le ha (Nat.pow_le_pow_right (by decide) h))
        rw [hai] at this; cases this
    have h2 := congrArg (fun z => z.testBit i) h
    simp only [Nat.testBit_and, hai, Nat.testBit_two_pow_sub_succ hm, hi, Nat.zero_testBit, decide_true, Bool.true_and, Bool.not_eq_false'] at h2
    rw [h2]; rfl
theorem small_and : ∀ s, s < 5 → ∀ a, a < 32 → a ≤ 2 ^ (s + 1) - 2 → a % 2 = 0 → a &&& (18446744073709551616 - (2 ^ (s + 1) - 2 + 1)) = 0 := by decide +kernel
theorem even_and : ∀ s, s < 5 → ∀ a, a % 2 = 1 → a &&& (2 ^ (s + 1) - 2) ≠ a := by
  intro s hs a ha h
  have h0 := congrArg (fun z => z.testBit 0) h
  have e : (2 ^ (s + 1) - 2).testBit 0 = false := by
    have : s = 0 ∨ s = 1 ∨ s = 2 ∨ s = 3 ∨ s = 4 := by omega
    rcases this with rfl | rfl | rfl | rfl | rfl <;> rfl
  simp only [Nat.testBit_and, e, Bool.and_false] at h0
  rw [Nat.testBit_zero] at h0
  simp [ha] at h0
theorem andNot_ok (x : Int) (s : Nat) (hs : s ≤ 4) (hx : -9223372036854775808 ≤ x ∧ x ≤ 9223372036854775807) :
    (bits .andNot .i64 x ((2 ^ (s + 1) - 2 : Nat) : Int) == 0) = mkOk ((2 : Int) ^ (s + 1) - 2) x := by
  have hp : (2 : Int) ^ (s + 1) - 2 = ((2 ^ (s + 1) - 2 : Nat) : Int) := by
    have : s = 0 ∨ s = 1 ∨ s = 2 ∨ s = 3 ∨ s = 4 := by omega
    rcases this with rfl | rfl | rfl | rfl | rfl <;> rfl
  have hm30 : 2 ^ (s + 1) - 2 ≤ 30 := by
    have : s = 0 ∨ s = 1 ∨ s = 2 ∨ s = 3 ∨ s = 4 := by omega
    rcases this with rfl | rfl | rfl | rfl | rfl <;> decide
  rw [hp]
  have hsa := small_and s (by omega)
  have hev := even_and s (by omega)
  generalize 2 ^ (s + 1) - 2 = m at *
  have hmm : (BitVec.ofInt 64 (m : Int)).toNat = m := ofInt_i64 m (by omega)
  have hb : bits .andNot .i64 x (m : Int) = IntKind.i64.wrap (((BitVec.ofInt 64 x).toNat &&& (2 ^ 64 - (m + 1)) : Nat) : Int) := by
    show IntKind.i64.wrap ((BitVec.ofInt 64 x &&& ~~~BitVec.ofInt 64 (m : Int)).toNat : Int) = _
    rw [BitVec.toNat_and, BitVec.toNat_not, hmm]
    congr 3
    omega
  have hA : (BitVec.ofInt 64 x).toNat < 2 ^ 64 := (BitVec.ofInt 64 x).isLt
  have hAx : ((BitVec.ofInt 64 x).toNat : Int) = x % 2 ^ 64 := by
    rw [BitVec.toNat_ofInt]; exact Int.toNat_of_nonneg (Int.emod_nonneg _ (by decide))
  rw [hb]
  generalize (BitVec.ofInt 64 x).toNat = a at *
  have hlt : a &&& (2 ^ 64 - (m + 1)) < 2 ^ 64 := Nat.and_lt_two_pow _ (by omega)
  have hw : (IntKind.i64.wrap ((a &&& (2 ^ 64 - (m + 1)) : Nat) : Int) == 0) = (a &&& (2 ^ 64 - (m + 1)) == 0) := by
    rw [IntKind.wrap_i64]
    rw [Bool.eq_iff_iff, beq_iff_eq, beq_iff_eq]
    generalize a &&& (2 ^ 64 - (m + 1)) = y at *
    omega
  rw [hw, Bool.eq_iff_iff, beq_iff_eq]
  simp only [mkOk, inr, Bool.and_eq_true, decide_eq_true_eq, beq_iff_eq]
  constructor
  · intro h
    have e := subset_and a m hA (by omega) h
    have hle : a ≤ m := by rw [e]; exact Nat.and_le_right
    have h2 : a % 2 = 0 := by
      rcases Nat.mod_two_eq_zero_or_one a with h' | h'
      · exact h'
      · exact absurd e.symm (hev a h')
    have hxa : x = a := by omega
    refine ⟨⟨by omega, by omega⟩, ?_⟩
    rw [Int.tmod_eq_emod_of_nonneg (by omega)]; omega
  · rintro ⟨⟨h1, h2⟩, h3⟩
    rw [Int.tmod_eq_emod_of_nonneg h1] at h3
    exact hsa a (by omega) (by omega) (by omega)
theorem allValues_any (s : Nat) (hs : s ∈ [2, 3, 4]) (w : World) :
    Calls Try.prog 90 #[.int .i64 s] w fun e w' => e = .returned (.int .i64 ((2 ^ (s + 1) - 2 : Nat) : Int)) ∧ w = w' := by
  simp only [List.mem_cons, List.not_mem_nil, or_false] at hs
  rcases hs with rfl | rfl | rfl
  all_goals
    go_enter Try.func90, Try.ntmps90
    go_wp2
    go_ret
    exact ⟨rfl, rfl⟩
end Go.Proofs.Ytgejahkdiciplab
namespace Go.Proofs.Ytgejahkdiciplab
open Go.ChangeShapes Go.WideShapes Go.ChangeAt Go.RowKit

/- what the program's own functions of chapter 3 must be shown to do. -/
def IMasksValid : Prop := ∀ (A : Option Addr) (c n B : Nat) (xs : List Int) (size : Int) (w : World), Rd w B A n xs → B64 xs → B ≤ w.heap.size → n ≤ 1099511627776 → (-9223372036854775808 ≤ size ∧ size ≤ 9223372036854775807) →
    Calls Try.prog 59 #[.slice A n c, .int .i64 size] w fun e w' => e = .returned (.bool (mvd xs size)) ∧ Below w.heap.size w w'
theorem candL_length (xs : List Int) (size : Int) : (candL xs size).length ≤ 16 := by
  unfold candL
  split
  · next h =>
    obtain ⟨h2, h4⟩ := gv_size h
    have := sq_bd h2 h4
    have := gv_len h
    rw [mapTo_length]; omega
  · simp
theorem mgL_length (xs : List Int) (size : Int) : (mgL xs size).length ≤ 16 := by
  unfold mgL
  split
  · next h => rw [mapTo_length]; exact (mvd_at h).2.2.1
  · simp
end Go.Proofs.Ytgejahkdiciplab
namespace Go.Proofs.Ytgejahkdiciplab
open Go.ChangeShapes Go.WideShapes Go.ChangeAt Go.RowKit

theorem maskValid_any (x : Int) (s : Nat) (w : World) (hs : s ∈ [2, 3, 4]) (hx : -9223372036854775808 ≤ x ∧ x ≤ 9223372036854775807) :
    Calls Try.prog 94 #[.int .i64 x, .int .i64 s] w fun e w' => e = .returned (.bool (mkOk ((2 : Int) ^ (s + 1) - 2) x)) ∧ w = w' := by
  have hs4 : s ≤ 4 := by simp at hs; omega
  have ha := andNot_ok x s hs4 hx
  obtain ⟨m, hm⟩ : ∃ m, 2 ^ (s + 1) - 2 = m := ⟨_, rfl⟩
  rw [hm] at ha
  go_enter Try.func94, Try.ntmps94
  go_wp2_with (go_at_call 90; refine (allValues_any s hs _).mono ?_; rw [hm]; rintro e w' ⟨rfl, rfl⟩)
  go_ret
  exact ⟨by rw [← ha]; rfl, rfl⟩
theorem implMasksValid : IMasksValid := by
  intro A c n B xs size w h hx64 hB hm hsz
  have hlen := Lib.hid h.1
  cases hs : inr size 2 4
  · have HL := Lib.hid (show mvd xs size = false by simp [mvd, hs])
    go_enter Try.func59, Try.ntmps59
    go_wp2_with (go_at_call 85; refine (sizeValid_any _ _).mono ?_; rintro e w' ⟨rfl, rfl⟩)
    go_ret
    exact ⟨by rw [HL.out]; rfl, Below.refl _ _⟩
  · obtain ⟨h2, h4⟩ := inr_t hs
    have hw := sq_wrap h2 h4
    cases hsq : ((n : Int) == size * size)
    · have HL := Lib.hid (show mvd xs size = false by simp only [mvd, hlen.out, hsq]; simp)
      have hsq2 : ((n : Int) != wrap64 (size * size)) = true := by rw [hw, bne, hsq]; rfl
      clear hw hsq
      go_enter Try.func59, Try.ntmps59
      go_wp2_with (go_at_call 85; refine (sizeValid_any _ _).mono ?_; rintro e w' ⟨rfl, rfl⟩)
      go_ret
      exact ⟨by rw [HL.out]; rfl, Below.refl _ _⟩
    · obtain ⟨s, rfl⟩ := Int.eq_ofNat_of_zero_le (by omega : 0 ≤ size)
      have hsm : s ∈ [2, 3, 4] := by
        have : s = 2 ∨ s = 3 ∨ s = 4 := by omega
        simpa using this
      have HL := Lib.hid (show mvd xs s = xs.all (mkOk ((2 : Int) ^ (s + 1) - 2)) by simp only [mvd, hlen.out, hsq, hs, Int.toNat_natCast, Bool.true_and])
      have hsq2 : ((n : Int) != wrap64 ((s : Int) * s)) = false := by rw [hw, bne, hsq]; rfl
      clear hw hsq
      go_enter Try.func59, Try.ntmps59
      go_wp2_with (go_at_call 85; refine (sizeValid_any _ _).mono ?_; rintro e w' ⟨rfl, rfl⟩)
      go_loop [20] (fun i => ∃ k : Nat, k ≤ n ∧ i = .int .i64 k ∧ Hid (allTo (mkOk ((2 : Int) ^ (s + 1) - 2)) xs k)) (fun i => n - (intOf i).toNat)
      case atStart => exact ⟨0, Nat.zero_le _, rfl, Lib.hid (fun j hj => absurd hj (by omega))⟩
      case round =>
        obtain ⟨k, hk, rfl, hall⟩ := hrel
        by_cases hlt : k < n
        · obtain ⟨b, off, rfl, hb, hck⟩ := h.at_ hlt
          cases hok : mkOk ((2 : Int) ^ (s + 1) - 2) (nth xs k)
          · have Hf := Lib.hid (show mvd xs s = false by rw [HL.out]; exact all_not hlen.out hlt hok)
            go_wp2_with (go_at_call 94; refine (maskValid_any (nth xs k) s _ hsm (hx64 k)).mono ?_; rw [hok]; rintro e w' ⟨rfl, rfl⟩)
            go_ret
            exact ⟨by rw [Hf.out]; rfl, Below.refl _ _⟩
          · have hn2 := Lib.hid (allTo_succ hall.out hok)
            go_wp2_with (go_at_call 94; refine (maskValid_any (nth xs k) s _ hsm (hx64 k)).mono ?_; rw [hok]; rintro e w' ⟨rfl, rfl⟩)
            go_round
            case rel => exact ⟨k + 1, by omega, by go_num, hn2⟩
            case measure => simp [intOf]; omega
        · obtain rfl : k = n := by omega
          have Hf := Lib.hid (show mvd xs s = true by rw [HL.out]; exact allTo_all hall.out hlen.out)
          go_wp2
          go_ret
          exact ⟨by rw [Hf.out]; rfl, Below.refl _ _⟩
end Go.Proofs.Ytgejahkdiciplab
set_option maxRecDepth 8000
namespace Go.Proofs.Ytgejahkdiciplab
open Go.ChangeShapes Go.WideShapes Go.ChangeAt Go.RowKit

theorem pow_int (v : Nat) : ((2 : Int) ^ v) = ((2 ^ v : Nat) : Int) := by simp
theorem and_pow (a v : Nat) (ha : a < 32) (hv : v ≤ 4) : (bits .and .i64 (a : Int) (wrap64 (2 ^ v)) != 0) = a.testBit v := by
  have hlt : 2 ^ v < 2 ^ 5 := Nat.pow_lt_pow_right (by omega) (by omega)
  have hb : (a &&& 2 ^ v) = (a.testBit v).toNat * 2 ^ v := by
    have : v = 0 ∨ v = 1 ∨ v = 2 ∨ v = 3 ∨ v = 4 := by omega
    have key : ∀ a, a < 32 → ∀ v, v < 5 → (a &&& 2 ^ v) = (a.testBit v).toNat * 2 ^ v := by decide
    exact key a ha v (by omega)
  have hp0 : 0 < 2 ^ v := Nat.two_pow_pos v
  rw [pow_int]
  generalize 2 ^ v = p at *
  rw [IntWalk.wrap64_in _ ⟨by omega, by omega⟩]
  have h : bits .and .i64 (a : Int) (p : Int) = ((a &&& p : Nat) : Int) := by
    have hx : a &&& p ≤ a := Nat.and_le_left
    show IntKind.i64.wrap ((BitVec.ofInt 64 (a : Int) &&& BitVec.ofInt 64 (p : Int)).toNat : Int) = _
    rw [BitVec.toNat_and, ofInt_i64 a (by omega), ofInt_i64 p (by omega), IntKind.wrap_i64]
    omega
  rw [h, hb]
  cases a.testBit v
  · simp
  · simp; omega
theorem and_pow0 (a v : Nat) (ha : a < 32) (hv : v ≤ 4) : (bits .and .i64 (a : Int) (wrap64 (2 ^ v)) == 0) = !a.testBit v := by
  have h := and_pow a v ha hv
  rw [← h]
  simp [bne]
end Go.Proofs.Ytgejahkdiciplab
set_option maxRecDepth 8000
namespace Go.Proofs.Ytgejahkdiciplab
open Go.ChangeShapes Go.WideShapes Go.ChangeAt Go.RowKit
/-- how many values the first k masks have. -/
def mcTo (m : List Int) : Nat → Nat
  | 0 => 0
  | k + 1 => mcTo m k + (maskVals (nth m k)).length
def mcI (m : List Int) (s : Int) : Int := if mvd m s = true then (mcTo m m.length : Nat) else -1
theorem mcTo_le (m : List Int) (k : Nat) : mcTo m k ≤ 4 * k := by
  induction k with
  | zero => exact Nat.le_refl _
  | succ k ih => have := maskVals_length (nth m k); simp only [mcTo]; omega
/-- whether a full grid is in masks. -/
def inMask (m g : List Int) (k : Nat) : Bool := (nth m k).toNat.testBit (nth g k).toNat
def mhB (m : List Int) (s : Int) (g : List Int) : Bool := mvd m s && gv g s && (List.range g.length).all (inMask m g)
theorem all_stop {f : Nat → Bool} {n k : Nat} (hk : k < n) (h : f k = false) : (List.range n).all f = false := by
  rw [List.all_eq_false]
  exact ⟨k, List.mem_range.2 hk, by simp [h]⟩
theorem all_done {f : Nat → Bool} {n : Nat} (h : ∀ k, k < n → f k = true) : (List.range n).all f = true := by
  rw [List.all_eq_true]
  exact fun k hk => h k (List.mem_range.1 hk)
theorem shr_bit0 (M v : Nat) : ((((M : Nat) : Int) / 2 ^ v).tmod 2 == 0) = !M.testBit v := by
  have h := shr_bit M v
  have h0 : (0 : Int) ≤ ((M : Nat) : Int) / 2 ^ v := Int.ediv_nonneg (by omega) (Int.le_of_lt (Int.pow_pos (by decide)))
  rw [Int.tmod_eq_emod_of_nonneg h0] at h ⊢
  rw [← h, Bool.eq_iff_iff]
  simp only [beq_iff_eq, Bool.not_eq_true', beq_eq_false_iff_ne]
  omega
set_option maxHeartbeats 1000000 in
theorem specMasksHave (A : Option Addr) (c n B : Nat) (m : List Int) (s : Int) (Ag : Option Addr) (cg ng Bg : Nat) (g : List Int) (w : World) (h : Rd w B A n m) (hB : B ≤ w.heap.size) (hm : n ≤ 1099511627776) (hg : Rd w Bg Ag ng g) (hBg : Bg ≤ w.heap.size) (hmg : ng ≤ 1099511627776) (hsb : -9223372036854775808 ≤ s ∧ s ≤ 9223372036854775807) :
    Calls Try.prog 70 #[.slice A n c, .int .i64 s, .slice Ag ng cg] w fun e w' => e = .returned (.bool (mhB m s g)) ∧ Below w.heap.size w w' := by
  have hlen := Lib.hid h.1
  have hleng := Lib.hid hg.1
  have HV := Lib.hid (specMasksValid A c n B m s w h hB hm hsb)
  have HG := Lib.hid (fun w' (hb : Below w.heap.size w w') => specGridValid Ag cg ng Bg g s w' (hg.below (hb.mono hBg)) hmg)
  cases hv : mvd m s
  · have HL := Lib.hid (show mhB m s g = false by simp [mhB, hv])
    go_enter Try.func70, Try.ntmps70
    go_wp2_with (go_at_call 28; refine HV.out.mono ?_; rintro e w1 ⟨rfl, hb1⟩; rw [hv])
    go_ret
    exact ⟨by rw [HL.out]; rfl, hb1⟩
  · cases hgv : gv g s
    · have HL := Lib.hid (show mhB m s g = false by simp [mhB, hgv])
      go_enter Try.func70, Try.ntmps70
      go_wp2_with (first | (go_at_call 28; refine HV.out.mono ?_; rintro e w1 ⟨rfl, hb1⟩; rw [hv]) | (go_at_call 21; refine (HG.out _ hb1).mono ?_; rintro e w2 ⟨rfl, rfl⟩; rw [hgv]))
      go_ret
      exact ⟨by rw [HL.out]; rfl, hb1⟩
    · have HL := Lib.hid (show mhB m s g = (List.range ng).all (inMask m g) by simp [mhB, hv, hgv, hleng.out])
      obtain ⟨_, hsq, hn16, hrng⟩ := mvd_at hv
      rw [hlen.out] at hsq hn16 hrng
      have hlg := gv_len hgv
      rw [hleng.out] at hlg
      obtain rfl : n = ng := by omega
      have Hrng := Lib.hid hrng
      have Hg := Lib.hid (fun k (hk : k < n) => gv_nth hgv (show k < g.length by rw [hleng.out]; exact hk))
      obtain ⟨s2, s4⟩ := gv_size hgv
      clear hrng hsq hlg
      go_enter Try.func70, Try.ntmps70
      go_wp2_with (first | (go_at_call 28; refine HV.out.mono ?_; rintro e w1 ⟨rfl, hb1⟩; rw [hv]) | (go_at_call 21; refine (HG.out _ hb1).mono ?_; rintro e w2 ⟨rfl, rfl⟩; rw [hgv]; have h02 := hb1))
      go_loopw [7] (fun i wr => ∃ k : Nat, k ≤ n ∧ i = .int .i64 k ∧ Hid (∀ j, j < k → inMask m g j = true) ∧ Below w.heap.size w wr) (fun i _ => n - (intOf i).toNat)
      case atStart => exact ⟨0, Nat.zero_le _, rfl, Lib.hid (fun j hj => absurd hj (by omega)), h02⟩
      case round =>
        obtain ⟨k, hk, rfl, hall, hb⟩ := hrel
        by_cases hlt : k < n
        · obtain ⟨b, off, rfl, hbB, hck⟩ := (h.below (hb.mono hB)).at_ hlt
          obtain ⟨b', off', rfl, hbB', hck'⟩ := (hg.below (hb.mono hBg)).at_ hlt
          obtain ⟨x0, x1, _⟩ := Hrng.out k hlt
          obtain ⟨y0, y1⟩ := Hg.out k hlt
          obtain ⟨M, hM⟩ := Int.eq_ofNat_of_zero_le x0
          obtain ⟨v, hV⟩ := Int.eq_ofNat_of_zero_le y0
          have hbit : inMask m g k = M.testBit v := by simp only [inMask, hM, hV, Int.toNat_natCast]
          have hsh := shr_bit0 M v
          rw [hM] at hck x1
          rw [hV] at hck' y1
          have hvs : v < 64 := by omega
          cases hh : M.testBit v
          · rw [hh] at hsh hbit
            have Hf := Lib.hid (show mhB m s g = false by rw [HL.out]; exact all_stop hlt hbit)
            clear hh hbit hM hV x0 y0
            go_wp2
            go_quiet (fail)
            go_wp2
            go_ret
            exact ⟨by rw [Hf.out]; rfl, below_drewN hb _⟩
          · rw [hh] at hsh hbit
            have Hn := Lib.hid (show ∀ j, j < k + 1 → inMask m g j = true from fun j hj => by
              by_cases e : j = k
              · subst e; exact hbit
              · exact hall.out j (by omega))
            clear hh hbit hM hV x0 y0
            go_wp2
            go_quiet (fail)
            go_wp2
            go_roundw
            case rel => exact ⟨k + 1, by omega, by go_num, Hn, below_drewN hb _⟩
            case measure => simp [intOf]; omega
        · obtain rfl : k = n := by omega
          have Hf := Lib.hid (show mhB m s g = true by rw [HL.out]; exact all_done hall.out)
          go_wp2
          go_ret
          exact ⟨by rw [Hf.out]; rfl, hb⟩
end Go.Proofs.Ytgejahkdiciplab
set_option maxRecDepth 8000
namespace Go.Proofs.Ytgejahkdiciplab
open Go.ChangeShapes Go.WideShapes Go.ChangeAt Go.RowKit
set_option maxHeartbeats 1000000 in
theorem implMasksHave (A : Option Addr) (c n B : Nat) (m : List Int) (s : Int) (Ag : Option Addr) (cg ng Bg : Nat) (g : List Int) (w : World) (h : Rd w B A n m) (hm64 : B64 m) (hB : B ≤ w.heap.size) (hm : n ≤ 1099511627776) (hg : Rd w Bg Ag ng g) (hBg : Bg ≤ w.heap.size) (hmg : ng ≤ 1099511627776) (hsb : -9223372036854775808 ≤ s ∧ s ≤ 9223372036854775807) :
    Calls Try.prog 71 #[.slice A n c, .int .i64 s, .slice Ag ng cg] w fun e w' => e = .returned (.bool (mhB m s g)) ∧ Below w.heap.size w w' := by
  have hlen := Lib.hid h.1
  have hleng := Lib.hid hg.1
  have HV := Lib.hid (implMasksValid A c n B m s w h hm64 hB hm hsb)
  have HG := Lib.hid (fun w' (hb : Below w.heap.size w w') => implGridValid Ag cg ng Bg g s w' (hg.below (hb.mono hBg)) (Nat.le_trans hBg hb.size) hmg)
  cases hv : mvd m s
  · have HL := Lib.hid (show mhB m s g = false by simp [mhB, hv])
    go_enter Try.func71, Try.ntmps71
    go_wp2_with (go_at_call 59; refine HV.out.mono ?_; rintro e w1 ⟨rfl, hb1⟩; rw [hv])
    go_ret
    exact ⟨by rw [HL.out]; rfl, hb1⟩
  · cases hgv : gv g s
    · have HL := Lib.hid (show mhB m s g = false by simp [mhB, hgv])
      go_enter Try.func71, Try.ntmps71
      go_wp2_with (first | (go_at_call 59; refine HV.out.mono ?_; rintro e w1 ⟨rfl, hb1⟩; rw [hv]) | (go_at_call 44; refine (HG.out _ hb1).mono ?_; rintro e w2 ⟨rfl, hb2⟩; rw [hgv]))
      go_ret
      exact ⟨by rw [HL.out]; rfl, step hb1 hb2⟩
    · have HL := Lib.hid (show mhB m s g = (List.range ng).all (inMask m g) by simp [mhB, hv, hgv, hleng.out])
      obtain ⟨_, hsq, hn16, hrng⟩ := mvd_at hv
      rw [hlen.out] at hsq hn16 hrng
      have hlg := gv_len hgv
      rw [hleng.out] at hlg
      obtain rfl : n = ng := by omega
      have Hrng := Lib.hid hrng
      have Hg := Lib.hid (fun k (hk : k < n) => gv_nth hgv (show k < g.length by rw [hleng.out]; exact hk))
      obtain ⟨s2, s4⟩ := gv_size hgv
      clear hrng hsq hlg
      go_enter Try.func71, Try.ntmps71
      go_wp2_with (first | (go_at_call 59; refine HV.out.mono ?_; rintro e w1 ⟨rfl, hb1⟩; rw [hv]) | (go_at_call 44; refine (HG.out _ hb1).mono ?_; rintro e w2 ⟨rfl, hb2⟩; rw [hgv]; have h02 := step hb1 hb2))
      go_loop [21] (fun i => ∃ k : Nat, k ≤ n ∧ i = .int .i64 k ∧ Hid (∀ j, j < k → inMask m g j = true)) (fun i => n - (intOf i).toNat)
      case atStart => exact ⟨0, Nat.zero_le _, rfl, Lib.hid (fun j hj => absurd hj (by omega))⟩
      case round =>
        obtain ⟨k, hk, rfl, hall⟩ := hrel
        by_cases hlt : k < n
        · obtain ⟨b, off, rfl, hbB, hck⟩ := (h.below (h02.mono hB)).at_ hlt
          obtain ⟨b', off', rfl, hbB', hck'⟩ := (hg.below (h02.mono hBg)).at_ hlt
          obtain ⟨x0, x1, _⟩ := Hrng.out k hlt
          obtain ⟨y0, y1⟩ := Hg.out k hlt
          obtain ⟨M, hM⟩ := Int.eq_ofNat_of_zero_le x0
          obtain ⟨v, hV⟩ := Int.eq_ofNat_of_zero_le y0
          have hbit : inMask m g k = M.testBit v := by simp only [inMask, hM, hV, Int.toNat_natCast]
          have hsh := and_pow0 M v (by omega) (by omega)
          rw [hM] at hck x1
          rw [hV] at hck' y1
          have hvs : v < 64 := by omega
          cases hh : M.testBit v
          · rw [hh] at hsh hbit
            have Hf := Lib.hid (show mhB m s g = false by rw [HL.out]; exact all_stop hlt hbit)
            clear hh hbit hM hV x0 y0
            go_wp2
            go_ret
            exact ⟨by rw [Hf.out]; rfl, h02⟩
          · rw [hh] at hsh hbit
            have Hn := Lib.hid (show ∀ j, j < k + 1 → inMask m g j = true from fun j hj => by
              by_cases e : j = k
              · subst e; exact hbit
              · exact hall.out j (by omega))
            clear hh hbit hM hV x0 y0
            go_wp2
            go_round
            case rel => exact ⟨k + 1, by omega, by go_num, Hn⟩
            case measure => simp [intOf]; omega
        · obtain rfl : k = n := by omega
          have Hf := Lib.hid (show mhB m s g = true by rw [HL.out]; exact all_done hall.out)
          go_wp2
          go_ret
          exact ⟨by rw [Hf.out]; rfl, h02⟩
end Go.Proofs.Ytgejahkdiciplab
