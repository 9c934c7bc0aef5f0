import Derived.Test.YtgejahkdiciplaaDoorC3
import Derived.Test.YtgejahkdiciplaaDoorC3G
import Derived.Lib.BitFns
import Derived.Test.YtgejahkdiciplaaDoorC3C
import Derived.Test.YtgejahkdiciplaaDoorWNa
import Derived.Test.YtgejahkdiciplaaDoorWW4E
import Derived.Deep.RegionHeld3
import Derived.Test.YtgejahkdiciplaaDoorWLM
namespace Go.Proofs.YtgejahkdiciplaaDoor
open Go.ChangeShapes Go.WideShapes Go.ChangeAt Go.RowKit

theorem subset_and (a m : Nat) (ha : a < 2 ^ 64) (hm : m < 2 ^ 64) (h : a &&& (2 ^ 64 - (m + 1)) = 0) : a = a &&& m := by
  apply Nat.eq_of_testBit_eq
  intro i
  rw [Nat.testBit_and]
  cases hai : a.testBit i
  · rfl
  · have hi : i < 64 := by
      rcases Nat.lt_or_ge i 64 with h | h
      · exact h
      · have := Nat.testBit_lt_two_pow (Nat.lt_of_lt_of_le ha (Nat.pow_le_pow_right (by decide) h))
        rw [hai] at this; cases this
    have h2 := congrArg (fun z => z.testBit i) h
    simp only [Nat.testBit_and, hai, Nat.testBit_two_pow_sub_succ hm, hi, Nat.zero_testBit, decide_true, Bool.true_and, Bool.not_eq_false'] at h2
    rw [h2]; rfl
theorem small_and : ∀ s, s < 5 → ∀ a, a < 32 → a ≤ 2 ^ (s + 1) - 2 → a % 2 = 0 → a &&& (18446744073709551616 - (2 ^ (s + 1) - 2 + 1)) = 0 := by decide +kernel
theorem even_and : ∀ s, s < 5 → ∀ a, a % 2 = 1 → a &&& (2 ^ (s + 1) - 2) ≠ a := by
  intro s hs a ha h
  have h0 := congrArg (fun z => z.testBit 0) h
  have e : (2 ^ (s + 1) - 2).testBit 0 = false := by
    have : s = 0 ∨ s = 1 ∨ s = 2 ∨ s = 3 ∨ s = 4 := by omega
    rcases this with rfl | rfl | rfl | rfl | rfl <;> rfl
  simp only [Nat.testBit_and, e, Bool.and_false] at h0
  rw [Nat.testBit_zero] at h0
  simp [ha] at h0
theorem andNot_ok (x : Int) (s : Nat) (hs : s ≤ 4) (hx : -9223372036854775808 ≤ x ∧ x ≤ 9223372036854775807) :
    (bits .andNot .i64 x ((2 ^ (s + 1) - 2 : Nat) : Int) == 0) = mkOk ((2 : Int) ^ (s + 1) - 2) x := by
  have hp : (2 : Int) ^ (s + 1) - 2 = ((2 ^ (s + 1) - 2 : Nat) : Int) := by
    have : s = 0 ∨ s = 1 ∨ s = 2 ∨ s = 3 ∨ s = 4 := by omega
    rcases this with rfl | rfl | rfl | rfl | rfl <;> rfl
  have hm30 : 2 ^ (s + 1) - 2 ≤ 30 := by
    have : s = 0 ∨ s = 1 ∨ s = 2 ∨ s = 3 ∨ s = 4 := by omega
    rcases this with rfl | rfl | rfl | rfl | rfl <;> decide
  rw [hp]
  have hsa := small_and s (by omega)
  have hev := even_and s (by omega)
  generalize 2 ^ (s + 1) - 2 = m at *
  have hmm : (BitVec.ofInt 64 (m : Int)).toNat = m := ofInt_i64 m (by omega)
  have hb : bits .andNot .i64 x (m : Int) = IntKind.i64.wrap (((BitVec.ofInt 64 x).toNat &&& (2 ^ 64 - (m + 1)) : Nat) : Int) := by
    show IntKind.i64.wrap ((BitVec.ofInt 64 x &&& ~~~BitVec.ofInt 64 (m : Int)).toNat : Int) = _
    rw [BitVec.toNat_and, BitVec.toNat_not, hmm]
    congr 3
    omega
  have hA : (BitVec.ofInt 64 x).toNat < 2 ^ 64 := (BitVec.ofInt 64 x).isLt
  have hAx : ((BitVec.ofInt 64 x).toNat : Int) = x % 2 ^ 64 := by
    rw [BitVec.toNat_ofInt]; exact Int.toNat_of_nonneg (Int.emod_nonneg _ (by decide))
  rw [hb]
  generalize (BitVec.ofInt 64 x).toNat = a at *
  have hlt : a &&& (2 ^ 64 - (m + 1)) < 2 ^ 64 := Nat.and_lt_two_pow _ (by omega)
  have hw : (IntKind.i64.wrap ((a &&& (2 ^ 64 - (m + 1)) : Nat) : Int) == 0) = (a &&& (2 ^ 64 - (m + 1)) == 0) := by
    rw [IntKind.wrap_i64]
    rw [Bool.eq_iff_iff, beq_iff_eq, beq_iff_eq]
    generalize a &&& (2 ^ 64 - (m + 1)) = y at *
    omega
  rw [hw, Bool.eq_iff_iff, beq_iff_eq]
  simp only [mkOk, inr, Bool.and_eq_true, decide_eq_true_eq, beq_iff_eq]
  constructor
  · intro h
    have e := subset_and a m hA (by omega) h
    have hle : a ≤ m := by rw [e]; exact Nat.and_le_right
    have h2 : a % 2 = 0 := by
      rcases Nat.mod_two_eq_zero_or_one a with h' | h'
      · exact h'
      · exact absurd e.symm (hev a h')
    have hxa : x = a := by omega
    refine ⟨⟨by omega, by omega⟩, ?_⟩
    rw [Int.tmod_eq_emod_of_nonneg (by omega)]; omega
  · rintro ⟨⟨h1, h2⟩, h3⟩
    rw [Int.tmod_eq_emod_of_nonneg h1] at h3
    exact hsa a (by omega) (by omega) (by omega)
theorem allValues_any (s : Nat) (hs : s ∈ [2, 3, 4]) (w : World) :
    Calls Tryd.prog 86 #[.int .i64 s] w fun e w' => e = .returned (.int .i64 ((2 ^ (s + 1) - 2 : Nat) : Int)) ∧ w = w' := by
  simp only [List.mem_cons, List.not_mem_nil, or_false] at hs
  rcases hs with rfl | rfl | rfl
  all_goals
    go_enter Tryd.func86, Tryd.ntmps86
    go_wp2
    go_ret
    exact ⟨rfl, rfl⟩
end Go.Proofs.YtgejahkdiciplaaDoor
namespace Go.Proofs.YtgejahkdiciplaaDoor
open Go.ChangeShapes Go.WideShapes Go.ChangeAt Go.RowKit
theorem ones64_any (M : Nat) (h : M < 32) (he : M % 2 = 0) (w : World) : Calls Tryd.prog 102 #[.int .u64 M] w fun e w' => e = .returned (.int .i64 (Lib.onesCount M : Nat)) ∧ w = w' := by
  have : M = 0 ∨ M = 2 ∨ M = 4 ∨ M = 6 ∨ M = 8 ∨ M = 10 ∨ M = 12 ∨ M = 14 ∨ M = 16 ∨ M = 18 ∨ M = 20 ∨ M = 22 ∨ M = 24 ∨ M = 26 ∨ M = 28 ∨ M = 30 := by omega
  rcases this with rfl | rfl | rfl | rfl | rfl | rfl | rfl | rfl | rfl | rfl | rfl | rfl | rfl | rfl | rfl | rfl
  all_goals
    go_enter Tryd.func102, Tryd.ntmps102
    go_wp2
    go_ret
    exact ⟨by kernel_rfl, rfl⟩
theorem ones_any (M : Nat) (h : M < 32) (he : M % 2 = 0) (w : World) : Calls Tryd.prog 71 #[.int .u64 M] w fun e w' => e = .returned (.int .i64 (Lib.onesCount M : Nat)) ∧ w = w' := by
  go_enter Tryd.func71, Tryd.ntmps71
  go_wp2_with (go_at_call 102; refine (ones64_any M h he _).mono ?_; rintro e w' ⟨rfl, rfl⟩)
  go_ret
  exact ⟨rfl, rfl⟩
theorem ones_lt : ∀ M, M < 32 → Lib.onesCount M < 32 := by decide +kernel
theorem ones_bits : ∀ M, M < 32 → M % 2 = 0 → Lib.onesCount M = (bitsTo M 4).length := by decide +kernel
end Go.Proofs.YtgejahkdiciplaaDoor
namespace Go.Proofs.YtgejahkdiciplaaDoor
open Go.ChangeShapes Go.WideShapes Go.ChangeAt Go.RowKit

/-- the table of trailing zeros lies in its variable: what is read of it here. -/
def Tz (w : World) : Prop := w.cell? ⟨1, 1, none⟩ = some (.int .u8 1) ∧ w.cell? ⟨1, 3, none⟩ = some (.int .u8 2) ∧ w.cell? ⟨1, 7, none⟩ = some (.int .u8 3) ∧ w.cell? ⟨1, 15, none⟩ = some (.int .u8 4)
theorem Tz.below {w w' : World} {B : Nat} (h : Tz w) (hB : 1 < B) (hb : Below B w w') : Tz w' :=
  ⟨(hb.cell (p := ⟨1, 1, none⟩) hB).trans h.1, (hb.cell (p := ⟨1, 3, none⟩) hB).trans h.2.1, (hb.cell (p := ⟨1, 7, none⟩) hB).trans h.2.2.1, (hb.cell (p := ⟨1, 15, none⟩) hB).trans h.2.2.2⟩
theorem Tz.lt {w : World} (h : Tz w) : 1 < w.heap.size := cell_lt h.1

theorem tz64_core (x k idx : Nat) (w : World) (hx0 : ((x : Int) == 0) = false)
    (key : IntKind.u64.wrap (bits BinOp.and IntKind.u64 (x : Int) (IntKind.u64.wrap (-(x : Int))) * 285870213051353865) / 288230376151711744 = (idx : Int))
    (hi : idx < 64) (hk : k < 64) (hcell : w.cell? ⟨1, idx, none⟩ = some (.int .u8 k)) :
    Calls Tryd.prog 115 #[.int .u64 x] w fun e w' => e = .returned (.int .i64 k) ∧ w = w' := by
  go_enter Tryd.func115, Tryd.ntmps115
  go_wp2_with (simp only [key])
  go_ret
  exact ⟨rfl, rfl⟩
theorem tz_core (x k idx : Nat) (w : World) (hx0 : ((x : Int) == 0) = false)
    (key : IntKind.u64.wrap (bits BinOp.and IntKind.u64 (x : Int) (IntKind.u64.wrap (-(x : Int))) * 285870213051353865) / 288230376151711744 = (idx : Int))
    (hi : idx < 64) (hk : k < 64) (hcell : w.cell? ⟨1, idx, none⟩ = some (.int .u8 k)) :
    Calls Tryd.prog 84 #[.int .u64 x] w fun e w' => e = .returned (.int .i64 k) ∧ w = w' := by
  have Key := Lib.hid key
  clear key
  go_enter Tryd.func84, Tryd.ntmps84
  go_wp2_with (go_at_call 115; refine (tz64_core x k idx _ hx0 Key.out hi hk hcell).mono ?_; rintro e w' ⟨rfl, rfl⟩)
  go_ret
  exact ⟨rfl, rfl⟩
theorem tz_any (M v : Nat) (w : World) (hT : Tz w) (h : (M = 2 ∧ v = 1) ∨ (M = 4 ∧ v = 2) ∨ (M = 8 ∧ v = 3) ∨ (M = 16 ∧ v = 4)) : Calls Tryd.prog 84 #[.int .u64 M] w fun e w' => e = .returned (.int .i64 v) ∧ w = w' := by
  obtain ⟨t1, t2, t3, t4⟩ := hT
  rcases h with ⟨rfl, rfl⟩ | ⟨rfl, rfl⟩ | ⟨rfl, rfl⟩ | ⟨rfl, rfl⟩
  · exact tz_core 2 1 1 w (by decide) (by decide +kernel) (by decide) (by decide) t1
  · exact tz_core 4 2 3 w (by decide) (by decide +kernel) (by decide) (by decide) t2
  · exact tz_core 8 3 7 w (by decide) (by decide +kernel) (by decide) (by decide) t3
  · exact tz_core 16 4 15 w (by decide) (by decide +kernel) (by decide) (by decide) t4
def oneCase (M : Nat) : Bool := if Lib.onesCount M = 1 then ((M == 2 && oneOf (bitsTo M 4) == 1) || (M == 4 && oneOf (bitsTo M 4) == 2) || (M == 8 && oneOf (bitsTo M 4) == 3) || (M == 16 && oneOf (bitsTo M 4) == 4)) else oneOf (bitsTo M 4) == 0
theorem one_case : ∀ M, M < 32 → M % 2 = 0 → oneCase M = true := by decide +kernel
theorem onlyValue_any (M : Nat) (h : M < 32) (he : M % 2 = 0) (w : World) (hT : Tz w) : Calls Tryd.prog 51 #[.int .i64 M] w fun e w' => e = .returned (.int .i64 (oneOf (bitsTo M 4))) ∧ w = w' := by
  have hc := one_case M h he
  have hl := ones_lt M h
  unfold oneCase at hc
  obtain ⟨p, hp⟩ : ∃ p, p = Lib.onesCount M := ⟨_, rfl⟩
  have Ho := Lib.hid (fun w => ones_any M h he w)
  rw [← hp] at hc hl Ho
  by_cases h1 : p = 1
  · rw [if_pos h1] at hc
    simp only [Bool.or_eq_true, Bool.and_eq_true, beq_iff_eq] at hc
    subst h1
    have hv : ∃ v, oneOf (bitsTo M 4) = (v : Nat) ∧ ((M = 2 ∧ v = 1) ∨ (M = 4 ∧ v = 2) ∨ (M = 8 ∧ v = 3) ∨ (M = 16 ∧ v = 4)) := by
      rcases hc with ((⟨h1, h2⟩ | ⟨h1, h2⟩) | ⟨h1, h2⟩) | ⟨h1, h2⟩
      · exact ⟨1, h2, .inl ⟨h1, rfl⟩⟩
      · exact ⟨2, h2, .inr (.inl ⟨h1, rfl⟩)⟩
      · exact ⟨3, h2, .inr (.inr (.inl ⟨h1, rfl⟩))⟩
      · exact ⟨4, h2, .inr (.inr (.inr ⟨h1, rfl⟩))⟩
    obtain ⟨v, hv1, hv2⟩ := hv
    rw [hv1]
    have Ht := Lib.hid (fun w hT => tz_any M v w hT hv2)
    clear hv1 hv2 hc hp
    go_enter Tryd.func51, Tryd.ntmps51
    go_wp2_with (first | (go_at_call 71; refine (Ho.out _).mono ?_; rintro e w' ⟨rfl, rfl⟩) | (go_at_call 84; refine (Ht.out _ hT).mono ?_; rintro e w' ⟨rfl, rfl⟩))
    go_ret
    exact ⟨rfl, rfl⟩
  · rw [if_neg h1] at hc
    have hv := beq_iff_eq.1 hc
    rw [hv]
    have hne : ((p : Int) != 1) = true := by simp; omega
    clear hv hc hp h1
    go_enter Tryd.func51, Tryd.ntmps51
    go_wp2_with (go_at_call 71; refine (Ho.out _).mono ?_; rintro e w' ⟨rfl, rfl⟩)
    go_ret
    exact ⟨rfl, rfl⟩
end Go.Proofs.YtgejahkdiciplaaDoor
namespace Go.Proofs.YtgejahkdiciplaaDoor
open Go.ChangeShapes Go.WideShapes Go.ChangeAt Go.RowKit

/- what the program's own functions of chapter 3 must be shown to do. -/
def ICandidatesOf : Prop := ∀ (A : Option Addr) (c n B : Nat) (xs : List Int) (size : Int) (w : World), Rd w B A n xs → B ≤ w.heap.size → n ≤ 1099511627776 →
    Calls Tryd.prog 36 #[.slice A n c, .int .i64 size] w (RetSl w (candL xs size))
def IMasksValid : Prop := ∀ (A : Option Addr) (c n B : Nat) (xs : List Int) (size : Int) (w : World), Rd w B A n xs → B64 xs → B ≤ w.heap.size → n ≤ 1099511627776 → (-9223372036854775808 ≤ size ∧ size ≤ 9223372036854775807) →
    Calls Tryd.prog 24 #[.slice A n c, .int .i64 size] w fun e w' => e = .returned (.bool (mvd xs size)) ∧ Below w.heap.size w w'
def IMaskValues : Prop := ∀ (m : Int) (w : World), (-9223372036854775808 ≤ m ∧ m ≤ 9223372036854775807) → Calls Tryd.prog 17 #[.int .i64 m] w (RetSl w (maskVals m))
def IMasksGrid : Prop := ∀ (A : Option Addr) (c n B : Nat) (xs : List Int) (size : Int) (w : World), Rd w B A n xs → B64 xs → Tz w → B ≤ w.heap.size → n ≤ 1099511627776 → (-9223372036854775808 ≤ size ∧ size ≤ 9223372036854775807) →
    Calls Tryd.prog 13 #[.slice A n c, .int .i64 size] w (RetSl w (mgL xs size))
theorem candL_length (xs : List Int) (size : Int) : (candL xs size).length ≤ 16 := by
  unfold candL
  split
  · next h =>
    obtain ⟨h2, h4⟩ := gv_size h
    have := sq_bd h2 h4
    have := gv_len h
    rw [mapTo_length]; omega
  · simp
theorem mgL_length (xs : List Int) (size : Int) : (mgL xs size).length ≤ 16 := by
  unfold mgL
  split
  · next h => rw [mapTo_length]; exact (mvd_at h).2.2.1
  · simp
end Go.Proofs.YtgejahkdiciplaaDoor
namespace Go.Proofs.YtgejahkdiciplaaDoor
open Go.ChangeShapes Go.WideShapes Go.ChangeAt Go.RowKit

theorem maskValid_any (x : Int) (s : Nat) (w : World) (hs : s ∈ [2, 3, 4]) (hx : -9223372036854775808 ≤ x ∧ x ≤ 9223372036854775807) :
    Calls Tryd.prog 54 #[.int .i64 x, .int .i64 s] w fun e w' => e = .returned (.bool (mkOk ((2 : Int) ^ (s + 1) - 2) x)) ∧ w = w' := by
  have hs4 : s ≤ 4 := by simp at hs; omega
  have ha := andNot_ok x s hs4 hx
  obtain ⟨m, hm⟩ : ∃ m, 2 ^ (s + 1) - 2 = m := ⟨_, rfl⟩
  rw [hm] at ha
  go_enter Tryd.func54, Tryd.ntmps54
  go_wp2_with (go_at_call 86; refine (allValues_any s hs _).mono ?_; rw [hm]; rintro e w' ⟨rfl, rfl⟩)
  go_ret
  exact ⟨by rw [← ha]; rfl, rfl⟩
theorem implMasksValid : IMasksValid := by
  intro A c n B xs size w h hx64 hB hm hsz
  have hlen := Lib.hid h.1
  cases hs : inr size 2 4
  · have HL := Lib.hid (show mvd xs size = false by simp [mvd, hs])
    go_enter Tryd.func24, Tryd.ntmps24
    go_wp2_with (go_at_call 64; refine (sizeValid_any _ _).mono ?_; rintro e w' ⟨rfl, rfl⟩)
    go_ret
    exact ⟨by rw [HL.out]; rfl, Below.refl _ _⟩
  · obtain ⟨h2, h4⟩ := inr_t hs
    have hw := sq_wrap h2 h4
    cases hsq : ((n : Int) == size * size)
    · have HL := Lib.hid (show mvd xs size = false by simp only [mvd, hlen.out, hsq]; simp)
      have hsq2 : ((n : Int) != wrap64 (size * size)) = true := by rw [hw, bne, hsq]; rfl
      clear hw hsq
      go_enter Tryd.func24, Tryd.ntmps24
      go_wp2_with (go_at_call 64; refine (sizeValid_any _ _).mono ?_; rintro e w' ⟨rfl, rfl⟩)
      go_ret
      exact ⟨by rw [HL.out]; rfl, Below.refl _ _⟩
    · obtain ⟨s, rfl⟩ := Int.eq_ofNat_of_zero_le (by omega : 0 ≤ size)
      have hsm : s ∈ [2, 3, 4] := by
        have : s = 2 ∨ s = 3 ∨ s = 4 := by omega
        simpa using this
      have HL := Lib.hid (show mvd xs s = xs.all (mkOk ((2 : Int) ^ (s + 1) - 2)) by simp only [mvd, hlen.out, hsq, hs, Int.toNat_natCast, Bool.true_and])
      have hsq2 : ((n : Int) != wrap64 ((s : Int) * s)) = false := by rw [hw, bne, hsq]; rfl
      clear hw hsq
      go_enter Tryd.func24, Tryd.ntmps24
      go_wp2_with (go_at_call 64; refine (sizeValid_any _ _).mono ?_; rintro e w' ⟨rfl, rfl⟩)
      go_loop [20] (fun i => ∃ k : Nat, k ≤ n ∧ i = .int .i64 k ∧ Hid (allTo (mkOk ((2 : Int) ^ (s + 1) - 2)) xs k)) (fun i => n - (intOf i).toNat)
      case atStart => exact ⟨0, Nat.zero_le _, rfl, Lib.hid (fun j hj => absurd hj (by omega))⟩
      case round =>
        obtain ⟨k, hk, rfl, hall⟩ := hrel
        by_cases hlt : k < n
        · obtain ⟨b, off, rfl, hb, hck⟩ := h.at_ hlt
          cases hok : mkOk ((2 : Int) ^ (s + 1) - 2) (nth xs k)
          · have Hf := Lib.hid (show mvd xs s = false by rw [HL.out]; exact all_not hlen.out hlt hok)
            go_wp2_with (go_at_call 54; refine (maskValid_any (nth xs k) s _ hsm (hx64 k)).mono ?_; rw [hok]; rintro e w' ⟨rfl, rfl⟩)
            go_ret
            exact ⟨by rw [Hf.out]; rfl, Below.refl _ _⟩
          · have hn2 := Lib.hid (allTo_succ hall.out hok)
            go_wp2_with (go_at_call 54; refine (maskValid_any (nth xs k) s _ hsm (hx64 k)).mono ?_; rw [hok]; rintro e w' ⟨rfl, rfl⟩)
            go_round
            case rel => exact ⟨k + 1, by omega, by go_num, hn2⟩
            case measure => simp [intOf]; omega
        · obtain rfl : k = n := by omega
          have Hf := Lib.hid (show mvd xs s = true by rw [HL.out]; exact allTo_all hall.out hlen.out)
          go_wp2
          go_ret
          exact ⟨by rw [Hf.out]; rfl, Below.refl _ _⟩
end Go.Proofs.YtgejahkdiciplaaDoor
set_option maxRecDepth 8000
namespace Go.Proofs.YtgejahkdiciplaaDoor
open Go.ChangeShapes Go.WideShapes Go.ChangeAt Go.RowKit

def DrawnRule (w : World) (e : Ending) (w' : World) : Prop :=
  ∃ (k : Int) (A : Option Addr) (n c : Nat) (v : Int) (xs : List Int) (s : Int), e = .returned (.tuple #[.agg #[.int .i64 k, .slice A n c, .int .i64 v], .int .i64 s]) ∧ Ow w' w.heap.size A n c xs ∧ n ≤ 5 ∧ -1 ≤ s ∧ s ≤ 5 ∧ Below w.heap.size w w'
end Go.Proofs.YtgejahkdiciplaaDoor
set_option maxRecDepth 8000
namespace Go.Proofs.YtgejahkdiciplaaDoor
open Go.ChangeShapes Go.WideShapes Go.ChangeAt Go.RowKit
/-- what a draw of masks hands back. -/
def DrawnM (w : World) (e : Ending) (w' : World) : Prop := ∃ s A n c xs, e = .returned (.tuple #[.slice A n c, .int .i64 s]) ∧ -1 ≤ s ∧ s ≤ 5 ∧ n ≤ 16 ∧ n ≤ c ∧ c ≤ 9223372036854775807 ∧ Rd w' w'.heap.size A n xs ∧ Hid (smallM xs n) ∧ (∀ b off, A = some ⟨b, off, none⟩ → w.heap.size ≤ b) ∧ Below w.heap.size w w'


theorem draw_DrawNarrowSingles (A : Option Addr) (n c : Nat) (bs : List Int) (w : World) (h : Code_ w A n c bs) : Calls Tryd.prog 26 #[.slice A n c] w (DrawnM w) := by
  go_enter Tryd.func26, Tryd.ntmps26
  go_wp2_with fail
  refine (specOpen A c n bs w h.1 h.2.1 h.2.2).mono ?_
  rintro e w1 ⟨rfl, hr, hb⟩
  go_wp2_with fail
  refine (l20Masks_any w.heap.size w.heap.size 0 12 w1 hr (Nat.le_refl _) (by omega) (by omega)).mono ?_
  rintro e w2 ⟨s, A2, n2, c2, xs, rfl, s1, s5, n16, hnc, hcm, hrd, hsm, hlo, hr2, hg, _⟩
  go_wp2
  go_ret2
  exact ⟨s, A2, n2, c2, xs, rfl, s1, s5, n16, hnc, hcm, hrd, hsm, fun b off e => Nat.le_trans hb.size (hlo b off e), hb.grown hg hb.size (fun k hk => by injection hk with hk; omega)⟩

theorem draw_DrawMasksCount (A : Option Addr) (n c : Nat) (bs : List Int) (w : World) (h : Code_ w A n c bs) : Calls Tryd.prog 32 #[.slice A n c] w (DrawnM w) := by
  go_enter Tryd.func32, Tryd.ntmps32
  go_wp2_with fail
  refine (specOpen A c n bs w h.1 h.2.1 h.2.2).mono ?_
  rintro e w1 ⟨rfl, hr, hb⟩
  go_wp2_with fail
  refine (l20Masks_any w.heap.size w.heap.size 0 9 w1 hr (Nat.le_refl _) (by omega) (by omega)).mono ?_
  rintro e w2 ⟨s, A2, n2, c2, xs, rfl, s1, s5, n16, hnc, hcm, hrd, hsm, hlo, hr2, hg, _⟩
  go_wp2
  go_ret2
  exact ⟨s, A2, n2, c2, xs, rfl, s1, s5, n16, hnc, hcm, hrd, hsm, fun b off e => Nat.le_trans hb.size (hlo b off e), hb.grown hg hb.size (fun k hk => by injection hk with hk; omega)⟩

theorem draw_DrawMasksGrid (A : Option Addr) (n c : Nat) (bs : List Int) (w : World) (h : Code_ w A n c bs) : Calls Tryd.prog 12 #[.slice A n c] w (DrawnM w) := by
  go_enter Tryd.func12, Tryd.ntmps12
  go_wp2_with fail
  refine (specOpen A c n bs w h.1 h.2.1 h.2.2).mono ?_
  rintro e w1 ⟨rfl, hr, hb⟩
  go_wp2_with fail
  refine (l20Masks_any w.heap.size w.heap.size 0 9 w1 hr (Nat.le_refl _) (by omega) (by omega)).mono ?_
  rintro e w2 ⟨s, A2, n2, c2, xs, rfl, s1, s5, n16, hnc, hcm, hrd, hsm, hlo, hr2, hg, _⟩
  go_wp2
  go_ret2
  exact ⟨s, A2, n2, c2, xs, rfl, s1, s5, n16, hnc, hcm, hrd, hsm, fun b off e => Nat.le_trans hb.size (hlo b off e), hb.grown hg hb.size (fun k hk => by injection hk with hk; omega)⟩

theorem rd_tail {w : World} {B b off n : Nat} {xs : List Int} (h : Rd w B (some ⟨b, off, none⟩) n xs) (hn : 1 ≤ n) : Rd w B (some ⟨b, off + 1, none⟩) (n - 1) (xs.drop 1) := by
  refine ⟨by rw [List.length_drop, h.1], fun hn1 => ?_⟩
  obtain ⟨b', off', e, hlt, hc⟩ := h.2 (by omega)
  injection e with e
  injection e with e1 e2 _
  subst e1 e2
  refine ⟨_, off + 1, rfl, hlt, fun k hk => ?_⟩
  have := hc (k + 1) (by omega)
  rw [show nth (xs.drop 1) k = nth xs (k + 1) by simp [nth, List.getD_eq_getElem?_getD]]
  rw [← this]
  congr 2
  omega
theorem mvd_odd {m : List Int} {s : Int} (_hm : mvd m s = true) (h0 : 0 < m.length) : mvd (m.set 0 1) s = false := by
  unfold mvd
  rw [all_not (xs := m.set 0 1) (k := 0) rfl (by rw [List.length_set]; exact h0) (by rw [nth_set h0, if_pos rfl]; unfold mkOk; simp)]
  simp
theorem mvd_less {m : List Int} {s : Int} (hm : mvd m s = true) : mvd (m.drop 1) s = false := by
  obtain ⟨⟨s2, s4⟩, hl, _, _⟩ := mvd_at hm
  have h4 := (sq_bd s2 s4).1
  have : ((m.drop 1).length : Int) ≠ s * s := by rw [List.length_drop]; omega
  unfold mvd
  rw [show (((m.drop 1).length : Int) == s * s) = false by simpa using this]
  simp
end Go.Proofs.YtgejahkdiciplaaDoor
