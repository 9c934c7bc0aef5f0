import Derived.Test.YtcjdjcpappfkgaaGreatDoorSqNum
import Derived.Test.YtcjdjcpappfkgaaGreatDoorMCv
import Derived.Test.YtcjdjcpappfkgaaGreatDoorC3
import Derived.Test.YtcjdjcpappfkgaaGreatDoorC3G
import Derived.Lib.BitFns
import Derived.Test.YtcjdjcpappfkgaaGreatDoorC3C
import Derived.Test.YtcjdjcpappfkgaaGreatDoorDraw
import Derived.Test.YtcjdjcpappfkgaaGreatDoorC1
import Derived.Test.YtcjdjcpappfkgaaGreatDoorOwn
import Derived.Test.YtcjdjcpappfkgaaGreatDoorP5A
namespace Go.Proofs.YtcjdjcpappfkgaaGreatDoor
open Go.ChangeShapes Go.WideShapes Go.ChangeAt Go.RowKit
def sqCnt (s : Int) : Int := if s = 2 then 2 else if s = 3 then 12 else 576
theorem sols_cnt {s : Int} (h2 : 2 ≤ s) (h4 : s ≤ 4) : ((sols s (s * s).toNat (zeros (s * s).toNat) 0).length : Int) = sqCnt s := by
  have : s = 2 ∨ s = 3 ∨ s = 4 := by omega
  rcases this with rfl | rfl | rfl
  · exact congrArg Int.ofNat sols2
  · exact congrArg Int.ofNat sols3
  · exact congrArg Int.ofNat sols4
theorem sqn_none {s n : Int} (h2 : 2 ≤ s) (h4 : s ≤ 4) (h : n < 0 ∨ sqCnt s ≤ n) : sqn s n = [] := by
  unfold sqn
  split
  · next hh =>
    have hc := sols_cnt h2 h4
    rw [List.getElem?_eq_none (by omega)]
    rfl
  · rfl
theorem sqn_bad {s n : Int} (h : ¬ (2 ≤ s ∧ s ≤ 4)) : sqn s n = [] := by
  have : inr s 2 4 = false := by simp only [inr, decide_eq_false_iff_not]; exact h
  simp [sqn, this]
/-- the grid with a number is solved; the next one is a later one. -/
theorem sqn_some {s n : Int} (h2 : 2 ≤ s) (h4 : s ≤ 4) (n0 : 0 ≤ n) (n1 : n < sqCnt s) : (sqn s n).length = (s * s).toNat ∧ sqSolved (sqn s n) s = true ∧ (n + 1 < sqCnt s → (sqn s (n + 1)).length = (s * s).toNat ∧ lexlt (s * s).toNat (sqn s n) (sqn s (n + 1))) := by
  obtain ⟨q4, q16⟩ := sq_bd h2 h4
  have hs : inr s 2 4 = true := by simp [inr, h2, h4]
  have hc := sols_cnt h2 h4
  have hnn : (((s * s).toNat : Nat) : Int) = s * s := Int.toNat_of_nonneg (by omega)
  have get : ∀ m : Int, 0 ≤ m → (hm : m < sqCnt s) → ∃ h : m.toNat < (sols s (s * s).toNat (zeros (s * s).toNat) 0).length, sqn s m = (sols s (s * s).toNat (zeros (s * s).toNat) 0)[m.toNat] := fun m m0 hm => by
    have h : m.toNat < (sols s (s * s).toNat (zeros (s * s).toNat) 0).length := by omega
    refine ⟨h, ?_⟩
    unfold sqn
    rw [if_pos ⟨hs, m0⟩, List.getElem?_eq_getElem h]
    rfl
  obtain ⟨hl, e⟩ := get n n0 n1
  have hmem := List.getElem_mem hl
  obtain ⟨a1, a2⟩ := sols_solved h2 h4 hnn hmem
  rw [e]
  refine ⟨a1, a2, fun n2 => ?_⟩
  obtain ⟨hl2, e2⟩ := get (n + 1) (by omega) n2
  rw [e2]
  refine ⟨(sols_solved h2 h4 hnn (List.getElem_mem hl2)).1, ?_⟩
  have hs := sols_sorted (size := s) (s * s).toNat (s * s).toNat (zeros (s * s).toNat) 0 (Nat.zero_add _) (zeros_length _)
  rw [List.pairwise_iff_getElem] at hs
  exact hs n.toNat (n + 1).toNat hl hl2 (by omega)
end Go.Proofs.YtcjdjcpappfkgaaGreatDoor
namespace Go.Proofs.YtcjdjcpappfkgaaGreatDoor
open Go.ChangeShapes Go.WideShapes Go.ChangeAt Go.RowKit

theorem subset_and (a m : Nat) (ha : a < 2 ^ 64) (hm : m < 2 ^ 64) (h : a &&& (2 ^ 64 - (m + 1)) = 0) : a = a &&& m := by
  apply Nat.eq_of_testBit_eq
  intro i
  rw [Nat.testBit_and]
  cases hai : a.testBit i
  · rfl
  · have hi : i < 64 := by
      rcases Nat.lt_or_ge i 64 with h | h
      · exact h
      · have := Nat.testBit_lt_two_pow (Nat.lt_of_lt_of_le ha (Nat.pow_le_pow_right (by decide) h))
        rw [hai] at this; cases this
    have h2 := congrArg (fun z => z.testBit i) h
    simp only [Nat.testBit_and, hai, Nat.testBit_two_pow_sub_succ hm, hi, Nat.zero_testBit, decide_true, Bool.true_and, Bool.not_eq_false'] at h2
    rw [h2]; rfl
theorem small_and : ∀ s, s < 5 → ∀ a, a < 32 → a ≤ 2 ^ (s + 1) - 2 → a % 2 = 0 → a &&& (18446744073709551616 - (2 ^ (s + 1) - 2 + 1)) = 0 := by decide +kernel
theorem even_and : ∀ s, s < 5 → ∀ a, a % 2 = 1 → a &&& (2 ^ (s + 1) - 2) ≠ a := by
  intro s hs a ha h
  have h0 := congrArg (fun z => z.testBit 0) h
  have e : (2 ^ (s + 1) - 2).testBit 0 = false := by
    have : s = 0 ∨ s = 1 ∨ s = 2 ∨ s = 3 ∨ s = 4 := by omega
    rcases this with rfl | rfl | rfl | rfl | rfl <;> rfl
  simp only [Nat.testBit_and, e, Bool.and_false] at h0
  rw [Nat.testBit_zero] at h0
  simp [ha] at h0
theorem andNot_ok (x : Int) (s : Nat) (hs : s ≤ 4) (hx : -9223372036854775808 ≤ x ∧ x ≤ 9223372036854775807) :
    (bits .andNot .i64 x ((2 ^ (s + 1) - 2 : Nat) : Int) == 0) = mkOk ((2 : Int) ^ (s + 1) - 2) x := by
  have hp : (2 : Int) ^ (s + 1) - 2 = ((2 ^ (s + 1) - 2 : Nat) : Int) := by
    have : s = 0 ∨ s = 1 ∨ s = 2 ∨ s = 3 ∨ s = 4 := by omega
    rcases this with rfl | rfl | rfl | rfl | rfl <;> rfl
  have hm30 : 2 ^ (s + 1) - 2 ≤ 30 := by
    have : s = 0 ∨ s = 1 ∨ s = 2 ∨ s = 3 ∨ s = 4 := by omega
    rcases this with rfl | rfl | rfl | rfl | rfl <;> decide
  rw [hp]
  have hsa := small_and s (by omega)
  have hev := even_and s (by omega)
  generalize 2 ^ (s + 1) - 2 = m at *
  have hmm : (BitVec.ofInt 64 (m : Int)).toNat = m := ofInt_i64 m (by omega)
  have hb : bits .andNot .i64 x (m : Int) = IntKind.i64.wrap (((BitVec.ofInt 64 x).toNat &&& (2 ^ 64 - (m + 1)) : Nat) : Int) := by
    show IntKind.i64.wrap ((BitVec.ofInt 64 x &&& ~~~BitVec.ofInt 64 (m : Int)).toNat : Int) = _
    rw [BitVec.toNat_and, BitVec.toNat_not, hmm]
    congr 3
    omega
  have hA : (BitVec.ofInt 64 x).toNat < 2 ^ 64 := (BitVec.ofInt 64 x).isLt
  have hAx : ((BitVec.ofInt 64 x).toNat : Int) = x % 2 ^ 64 := by
    rw [BitVec.toNat_ofInt]; exact Int.toNat_of_nonneg (Int.emod_nonneg _ (by decide))
  rw [hb]
  generalize (BitVec.ofInt 64 x).toNat = a at *
  have hlt : a &&& (2 ^ 64 - (m + 1)) < 2 ^ 64 := Nat.and_lt_two_pow _ (by omega)
  have hw : (IntKind.i64.wrap ((a &&& (2 ^ 64 - (m + 1)) : Nat) : Int) == 0) = (a &&& (2 ^ 64 - (m + 1)) == 0) := by
    rw [IntKind.wrap_i64]
    rw [Bool.eq_iff_iff, beq_iff_eq, beq_iff_eq]
    generalize a &&& (2 ^ 64 - (m + 1)) = y at *
    omega
  rw [hw, Bool.eq_iff_iff, beq_iff_eq]
  simp only [mkOk, inr, Bool.and_eq_true, decide_eq_true_eq, beq_iff_eq]
  constructor
  · intro h
    have e := subset_and a m hA (by omega) h
    have hle : a ≤ m := by rw [e]; exact Nat.and_le_right
    have h2 : a % 2 = 0 := by
      rcases Nat.mod_two_eq_zero_or_one a with h' | h'
      · exact h'
      · exact absurd e.symm (hev a h')
    have hxa : x = a := by omega
    refine ⟨⟨by omega, by omega⟩, ?_⟩
    rw [Int.tmod_eq_emod_of_nonneg (by omega)]; omega
  · rintro ⟨⟨h1, h2⟩, h3⟩
    rw [Int.tmod_eq_emod_of_nonneg h1] at h3
    exact hsa a (by omega) (by omega) (by omega)
theorem allValues_any (s : Nat) (hs : s ∈ [2, 3, 4]) (w : World) :
    Calls Tryz.prog 128 #[.int .i64 s] w fun e w' => e = .returned (.int .i64 ((2 ^ (s + 1) - 2 : Nat) : Int)) ∧ w = w' := by
  simp only [List.mem_cons, List.not_mem_nil, or_false] at hs
  rcases hs with rfl | rfl | rfl
  all_goals
    go_enter Tryz.func128, Tryz.ntmps128
    go_wp2
    go_ret
    exact ⟨rfl, rfl⟩
end Go.Proofs.YtcjdjcpappfkgaaGreatDoor
namespace Go.Proofs.YtcjdjcpappfkgaaGreatDoor
open Go.ChangeShapes Go.WideShapes Go.ChangeAt Go.RowKit
theorem ones64_any (M : Nat) (h : M < 32) (he : M % 2 = 0) (w : World) : Calls Tryz.prog 126 #[.int .u64 M] w fun e w' => e = .returned (.int .i64 (Lib.onesCount M : Nat)) ∧ w = w' := by
  have : M = 0 ∨ M = 2 ∨ M = 4 ∨ M = 6 ∨ M = 8 ∨ M = 10 ∨ M = 12 ∨ M = 14 ∨ M = 16 ∨ M = 18 ∨ M = 20 ∨ M = 22 ∨ M = 24 ∨ M = 26 ∨ M = 28 ∨ M = 30 := by omega
  rcases this with rfl | rfl | rfl | rfl | rfl | rfl | rfl | rfl | rfl | rfl | rfl | rfl | rfl | rfl | rfl | rfl
  all_goals
    go_enter Tryz.func126, Tryz.ntmps126
    go_wp2
    go_ret
    exact ⟨by kernel_rfl, rfl⟩
theorem ones_any (M : Nat) (h : M < 32) (he : M % 2 = 0) (w : World) : Calls Tryz.prog 78 #[.int .u64 M] w fun e w' => e = .returned (.int .i64 (Lib.onesCount M : Nat)) ∧ w = w' := by
  go_enter Tryz.func78, Tryz.ntmps78
  go_wp2_with (go_at_call 126; refine (ones64_any M h he _).mono ?_; rintro e w' ⟨rfl, rfl⟩)
  go_ret
  exact ⟨rfl, rfl⟩
theorem ones_lt : ∀ M, M < 32 → Lib.onesCount M < 32 := by decide +kernel
theorem ones_bits : ∀ M, M < 32 → M % 2 = 0 → Lib.onesCount M = (bitsTo M 4).length := by decide +kernel
end Go.Proofs.YtcjdjcpappfkgaaGreatDoor
namespace Go.Proofs.YtcjdjcpappfkgaaGreatDoor
open Go.ChangeShapes Go.WideShapes Go.ChangeAt Go.RowKit

/-- the table of trailing zeros lies in its variable: what is read of it here, for the bits 0 to 15. -/
def tzI : List Nat := [0, 1, 3, 7, 15, 31, 63, 62, 61, 59, 55, 47, 30, 60, 57, 51]
def Tz (w : World) : Prop := ∀ p : Nat, p < 16 → w.cell? ⟨0, tzI.getD p 0, none⟩ = some (.int .u8 (p : Int))
theorem Tz.lt {w : World} (h : Tz w) : 0 < w.heap.size := cell_lt (h 0 (by decide))
theorem Tz.below {w w' : World} {B : Nat} (h : Tz w) (hB : 0 < B) (hb : Below B w w') : Tz w' :=
  fun p hp => (hb.cell (p := ⟨0, tzI.getD p 0, none⟩) hB).trans (h p hp)

theorem tz64_core (x k idx : Nat) (w : World) (hx0 : ((x : Int) == 0) = false)
    (key : IntKind.u64.wrap (bits BinOp.and IntKind.u64 (x : Int) (IntKind.u64.wrap (-(x : Int))) * 285870213051353865) / 288230376151711744 = (idx : Int))
    (hi : idx < 64) (hk : k < 64) (hcell : w.cell? ⟨0, idx, none⟩ = some (.int .u8 k)) :
    Calls Tryz.prog 151 #[.int .u64 x] w fun e w' => e = .returned (.int .i64 k) ∧ w = w' := by
  go_enter Tryz.func151, Tryz.ntmps151
  go_wp2_with (simp only [key])
  go_ret
  exact ⟨rfl, rfl⟩
theorem tz_core (x k idx : Nat) (w : World) (hx0 : ((x : Int) == 0) = false)
    (key : IntKind.u64.wrap (bits BinOp.and IntKind.u64 (x : Int) (IntKind.u64.wrap (-(x : Int))) * 285870213051353865) / 288230376151711744 = (idx : Int))
    (hi : idx < 64) (hk : k < 64) (hcell : w.cell? ⟨0, idx, none⟩ = some (.int .u8 k)) :
    Calls Tryz.prog 129 #[.int .u64 x] w fun e w' => e = .returned (.int .i64 k) ∧ w = w' := by
  have Key := Lib.hid key
  clear key
  go_enter Tryz.func129, Tryz.ntmps129
  go_wp2_with (go_at_call 151; refine (tz64_core x k idx _ hx0 Key.out hi hk hcell).mono ?_; rintro e w' ⟨rfl, rfl⟩)
  go_ret
  exact ⟨rfl, rfl⟩
theorem tz_any (M v : Nat) (w : World) (hT : Tz w) (h : (M = 2 ∧ v = 1) ∨ (M = 4 ∧ v = 2) ∨ (M = 8 ∧ v = 3) ∨ (M = 16 ∧ v = 4)) : Calls Tryz.prog 129 #[.int .u64 M] w fun e w' => e = .returned (.int .i64 v) ∧ w = w' := by
  have t1 := hT 1 (by decide)
  have t2 := hT 2 (by decide)
  have t3 := hT 3 (by decide)
  have t4 := hT 4 (by decide)
  rcases h with ⟨rfl, rfl⟩ | ⟨rfl, rfl⟩ | ⟨rfl, rfl⟩ | ⟨rfl, rfl⟩
  · exact tz_core 2 1 1 w (by decide) (by decide +kernel) (by decide) (by decide) t1
  · exact tz_core 4 2 3 w (by decide) (by decide +kernel) (by decide) (by decide) t2
  · exact tz_core 8 3 7 w (by decide) (by decide +kernel) (by decide) (by decide) t3
  · exact tz_core 16 4 15 w (by decide) (by decide +kernel) (by decide) (by decide) t4
def oneCase (M : Nat) : Bool := if Lib.onesCount M = 1 then ((M == 2 && oneOf (bitsTo M 4) == 1) || (M == 4 && oneOf (bitsTo M 4) == 2) || (M == 8 && oneOf (bitsTo M 4) == 3) || (M == 16 && oneOf (bitsTo M 4) == 4)) else oneOf (bitsTo M 4) == 0
theorem one_case : ∀ M, M < 32 → M % 2 = 0 → oneCase M = true := by decide +kernel
theorem onlyValue_any (M : Nat) (h : M < 32) (he : M % 2 = 0) (w : World) (hT : Tz w) : Calls Tryz.prog 83 #[.int .i64 M] w fun e w' => e = .returned (.int .i64 (oneOf (bitsTo M 4))) ∧ w = w' := by
  have hc := one_case M h he
  have hl := ones_lt M h
  unfold oneCase at hc
  obtain ⟨p, hp⟩ : ∃ p, p = Lib.onesCount M := ⟨_, rfl⟩
  have Ho := Lib.hid (fun w => ones_any M h he w)
  rw [← hp] at hc hl Ho
  by_cases h1 : p = 1
  · rw [if_pos h1] at hc
    simp only [Bool.or_eq_true, Bool.and_eq_true, beq_iff_eq] at hc
    subst h1
    have hv : ∃ v, oneOf (bitsTo M 4) = (v : Nat) ∧ ((M = 2 ∧ v = 1) ∨ (M = 4 ∧ v = 2) ∨ (M = 8 ∧ v = 3) ∨ (M = 16 ∧ v = 4)) := by
      rcases hc with ((⟨h1, h2⟩ | ⟨h1, h2⟩) | ⟨h1, h2⟩) | ⟨h1, h2⟩
      · exact ⟨1, h2, .inl ⟨h1, rfl⟩⟩
      · exact ⟨2, h2, .inr (.inl ⟨h1, rfl⟩)⟩
      · exact ⟨3, h2, .inr (.inr (.inl ⟨h1, rfl⟩))⟩
      · exact ⟨4, h2, .inr (.inr (.inr ⟨h1, rfl⟩))⟩
    obtain ⟨v, hv1, hv2⟩ := hv
    rw [hv1]
    have Ht := Lib.hid (fun w hT => tz_any M v w hT hv2)
    clear hv1 hv2 hc hp
    go_enter Tryz.func83, Tryz.ntmps83
    go_wp2_with (first | (go_at_call 78; refine (Ho.out _).mono ?_; rintro e w' ⟨rfl, rfl⟩) | (go_at_call 129; refine (Ht.out _ hT).mono ?_; rintro e w' ⟨rfl, rfl⟩))
    go_ret
    exact ⟨rfl, rfl⟩
  · rw [if_neg h1] at hc
    have hv := beq_iff_eq.1 hc
    rw [hv]
    have hne : ((p : Int) != 1) = true := by simp; omega
    clear hv hc hp h1
    go_enter Tryz.func83, Tryz.ntmps83
    go_wp2_with (go_at_call 78; refine (Ho.out _).mono ?_; rintro e w' ⟨rfl, rfl⟩)
    go_ret
    exact ⟨rfl, rfl⟩
end Go.Proofs.YtcjdjcpappfkgaaGreatDoor
namespace Go.Proofs.YtcjdjcpappfkgaaGreatDoor
open Go.ChangeShapes Go.WideShapes Go.ChangeAt Go.RowKit

/- what the program's own functions of chapter 3 must be shown to do. -/
def ICandidatesOf : Prop := ∀ (A : Option Addr) (c n B : Nat) (xs : List Int) (size : Int) (w : World), Rd w B A n xs → B ≤ w.heap.size → n ≤ 1099511627776 →
    Calls Tryz.prog 147 #[.slice A n c, .int .i64 size] w (RetSl w (candL xs size))
def IMasksValid : Prop := ∀ (A : Option Addr) (c n B : Nat) (xs : List Int) (size : Int) (w : World), Rd w B A n xs → B64 xs → B ≤ w.heap.size → n ≤ 1099511627776 → (-9223372036854775808 ≤ size ∧ size ≤ 9223372036854775807) →
    Calls Tryz.prog 70 #[.slice A n c, .int .i64 size] w fun e w' => e = .returned (.bool (mvd xs size)) ∧ Below w.heap.size w w'
def IMasksGrid : Prop := ∀ (A : Option Addr) (c n B : Nat) (xs : List Int) (size : Int) (w : World), Rd w B A n xs → B64 xs → Tz w → B ≤ w.heap.size → n ≤ 1099511627776 → (-9223372036854775808 ≤ size ∧ size ≤ 9223372036854775807) →
    Calls Tryz.prog 41 #[.slice A n c, .int .i64 size] w (RetSl w (mgL xs size))
theorem candL_length (xs : List Int) (size : Int) : (candL xs size).length ≤ 16 := by
  unfold candL
  split
  · next h =>
    obtain ⟨h2, h4⟩ := gv_size h
    have := sq_bd h2 h4
    have := gv_len h
    rw [mapTo_length]; omega
  · simp
theorem mgL_length (xs : List Int) (size : Int) : (mgL xs size).length ≤ 16 := by
  unfold mgL
  split
  · next h => rw [mapTo_length]; exact (mvd_at h).2.2.1
  · simp
end Go.Proofs.YtcjdjcpappfkgaaGreatDoor
namespace Go.Proofs.YtcjdjcpappfkgaaGreatDoor
open Go.ChangeShapes Go.WideShapes Go.ChangeAt Go.RowKit

theorem maskValid_any (x : Int) (s : Nat) (w : World) (hs : s ∈ [2, 3, 4]) (hx : -9223372036854775808 ≤ x ∧ x ≤ 9223372036854775807) :
    Calls Tryz.prog 113 #[.int .i64 x, .int .i64 s] w fun e w' => e = .returned (.bool (mkOk ((2 : Int) ^ (s + 1) - 2) x)) ∧ w = w' := by
  have hs4 : s ≤ 4 := by simp at hs; omega
  have ha := andNot_ok x s hs4 hx
  obtain ⟨m, hm⟩ : ∃ m, 2 ^ (s + 1) - 2 = m := ⟨_, rfl⟩
  rw [hm] at ha
  go_enter Tryz.func113, Tryz.ntmps113
  go_wp2_with (go_at_call 128; refine (allValues_any s hs _).mono ?_; rw [hm]; rintro e w' ⟨rfl, rfl⟩)
  go_ret
  exact ⟨by rw [← ha]; rfl, rfl⟩
theorem implMasksValid : IMasksValid := by
  intro A c n B xs size w h hx64 hB hm hsz
  have hlen := Lib.hid h.1
  cases hs : inr size 2 4
  · have HL := Lib.hid (show mvd xs size = false by simp [mvd, hs])
    go_enter Tryz.func70, Tryz.ntmps70
    go_wp2_with (go_at_call 55; refine (sizeValid_any _ _).mono ?_; rintro e w' ⟨rfl, rfl⟩)
    go_ret
    exact ⟨by rw [HL.out]; rfl, Below.refl _ _⟩
  · obtain ⟨h2, h4⟩ := inr_t hs
    have hw := sq_wrap h2 h4
    cases hsq : ((n : Int) == size * size)
    · have HL := Lib.hid (show mvd xs size = false by simp only [mvd, hlen.out, hsq]; simp)
      have hsq2 : ((n : Int) != wrap64 (size * size)) = true := by rw [hw, bne, hsq]; rfl
      clear hw hsq
      go_enter Tryz.func70, Tryz.ntmps70
      go_wp2_with (go_at_call 55; refine (sizeValid_any _ _).mono ?_; rintro e w' ⟨rfl, rfl⟩)
      go_ret
      exact ⟨by rw [HL.out]; rfl, Below.refl _ _⟩
    · obtain ⟨s, rfl⟩ := Int.eq_ofNat_of_zero_le (by omega : 0 ≤ size)
      have hsm : s ∈ [2, 3, 4] := by
        have : s = 2 ∨ s = 3 ∨ s = 4 := by omega
        simpa using this
      have HL := Lib.hid (show mvd xs s = xs.all (mkOk ((2 : Int) ^ (s + 1) - 2)) by simp only [mvd, hlen.out, hsq, hs, Int.toNat_natCast, Bool.true_and])
      have hsq2 : ((n : Int) != wrap64 ((s : Int) * s)) = false := by rw [hw, bne, hsq]; rfl
      clear hw hsq
      go_enter Tryz.func70, Tryz.ntmps70
      go_wp2_with (go_at_call 55; refine (sizeValid_any _ _).mono ?_; rintro e w' ⟨rfl, rfl⟩)
      go_loop [20] (fun i => ∃ k : Nat, k ≤ n ∧ i = .int .i64 k ∧ Hid (allTo (mkOk ((2 : Int) ^ (s + 1) - 2)) xs k)) (fun i => n - (intOf i).toNat)
      case atStart => exact ⟨0, Nat.zero_le _, rfl, Lib.hid (fun j hj => absurd hj (by omega))⟩
      case round =>
        obtain ⟨k, hk, rfl, hall⟩ := hrel
        by_cases hlt : k < n
        · obtain ⟨b, off, rfl, hb, hck⟩ := h.at_ hlt
          cases hok : mkOk ((2 : Int) ^ (s + 1) - 2) (nth xs k)
          · have Hf := Lib.hid (show mvd xs s = false by rw [HL.out]; exact all_not hlen.out hlt hok)
            go_wp2_with (go_at_call 113; refine (maskValid_any (nth xs k) s _ hsm (hx64 k)).mono ?_; rw [hok]; rintro e w' ⟨rfl, rfl⟩)
            go_ret
            exact ⟨by rw [Hf.out]; rfl, Below.refl _ _⟩
          · have hn2 := Lib.hid (allTo_succ hall.out hok)
            go_wp2_with (go_at_call 113; refine (maskValid_any (nth xs k) s _ hsm (hx64 k)).mono ?_; rw [hok]; rintro e w' ⟨rfl, rfl⟩)
            go_round
            case rel => exact ⟨k + 1, by omega, by go_num, hn2⟩
            case measure => simp [intOf]; omega
        · obtain rfl : k = n := by omega
          have Hf := Lib.hid (show mvd xs s = true by rw [HL.out]; exact allTo_all hall.out hlen.out)
          go_wp2
          go_ret
          exact ⟨by rw [Hf.out]; rfl, Below.refl _ _⟩
end Go.Proofs.YtcjdjcpappfkgaaGreatDoor
set_option maxRecDepth 8000
namespace Go.Proofs.YtcjdjcpappfkgaaGreatDoor
open Go.ChangeShapes Go.WideShapes Go.ChangeAt Go.RowKit

theorem pow_int (v : Nat) : ((2 : Int) ^ v) = ((2 ^ v : Nat) : Int) := by simp
theorem and_pow (a v : Nat) (ha : a < 32) (hv : v ≤ 4) : (bits .and .i64 (a : Int) (wrap64 (2 ^ v)) != 0) = a.testBit v := by
  have hlt : 2 ^ v < 2 ^ 5 := Nat.pow_lt_pow_right (by omega) (by omega)
  have hb : (a &&& 2 ^ v) = (a.testBit v).toNat * 2 ^ v := by
    have : v = 0 ∨ v = 1 ∨ v = 2 ∨ v = 3 ∨ v = 4 := by omega
    have key : ∀ a, a < 32 → ∀ v, v < 5 → (a &&& 2 ^ v) = (a.testBit v).toNat * 2 ^ v := by decide
    exact key a ha v (by omega)
  have hp0 : 0 < 2 ^ v := Nat.two_pow_pos v
  rw [pow_int]
  generalize 2 ^ v = p at *
  rw [IntWalk.wrap64_in _ ⟨by omega, by omega⟩]
  have h : bits .and .i64 (a : Int) (p : Int) = ((a &&& p : Nat) : Int) := by
    have hx : a &&& p ≤ a := Nat.and_le_left
    show IntKind.i64.wrap ((BitVec.ofInt 64 (a : Int) &&& BitVec.ofInt 64 (p : Int)).toNat : Int) = _
    rw [BitVec.toNat_and, ofInt_i64 a (by omega), ofInt_i64 p (by omega), IntKind.wrap_i64]
    omega
  rw [h, hb]
  cases a.testBit v
  · simp
  · simp; omega
theorem and_pow0 (a v : Nat) (ha : a < 32) (hv : v ≤ 4) : (bits .and .i64 (a : Int) (wrap64 (2 ^ v)) == 0) = !a.testBit v := by
  have h := and_pow a v ha hv
  rw [← h]
  simp [bne]
end Go.Proofs.YtcjdjcpappfkgaaGreatDoor
set_option maxRecDepth 8000
namespace Go.Proofs.YtcjdjcpappfkgaaGreatDoor
open Go.ChangeShapes Go.WideShapes Go.ChangeAt Go.RowKit
/-- how many values the first k masks have. -/
def mcTo (m : List Int) : Nat → Nat
  | 0 => 0
  | k + 1 => mcTo m k + (maskVals (nth m k)).length
def mcI (m : List Int) (s : Int) : Int := if mvd m s = true then (mcTo m m.length : Nat) else -1
theorem mcTo_le (m : List Int) (k : Nat) : mcTo m k ≤ 4 * k := by
  induction k with
  | zero => exact Nat.le_refl _
  | succ k ih => have := maskVals_length (nth m k); simp only [mcTo]; omega
/-- whether a full grid is in masks. -/
def inMask (m g : List Int) (k : Nat) : Bool := (nth m k).toNat.testBit (nth g k).toNat
def mhB (m : List Int) (s : Int) (g : List Int) : Bool := mvd m s && gv g s && (List.range g.length).all (inMask m g)
theorem all_stop {f : Nat → Bool} {n k : Nat} (hk : k < n) (h : f k = false) : (List.range n).all f = false := by
  rw [List.all_eq_false]
  exact ⟨k, List.mem_range.2 hk, by simp [h]⟩
theorem all_done {f : Nat → Bool} {n : Nat} (h : ∀ k, k < n → f k = true) : (List.range n).all f = true := by
  rw [List.all_eq_true]
  exact fun k hk => h k (List.mem_range.1 hk)
theorem shr_bit0 (M v : Nat) : ((((M : Nat) : Int) / 2 ^ v).tmod 2 == 0) = !M.testBit v := by
  have h := shr_bit M v
  have h0 : (0 : Int) ≤ ((M : Nat) : Int) / 2 ^ v := Int.ediv_nonneg (by omega) (Int.le_of_lt (Int.pow_pos (by decide)))
  rw [Int.tmod_eq_emod_of_nonneg h0] at h ⊢
  rw [← h, Bool.eq_iff_iff]
  simp only [beq_iff_eq, Bool.not_eq_true', beq_eq_false_iff_ne]
  omega
end Go.Proofs.YtcjdjcpappfkgaaGreatDoor
set_option maxRecDepth 8000
namespace Go.Proofs.YtcjdjcpappfkgaaGreatDoor
open Go.ChangeShapes Go.WideShapes Go.ChangeAt Go.RowKit
set_option maxHeartbeats 1000000 in
theorem implMasksHave (A : Option Addr) (c n B : Nat) (m : List Int) (s : Int) (Ag : Option Addr) (cg ng Bg : Nat) (g : List Int) (w : World) (h : Rd w B A n m) (hm64 : B64 m) (hB : B ≤ w.heap.size) (hm : n ≤ 1099511627776) (hg : Rd w Bg Ag ng g) (hBg : Bg ≤ w.heap.size) (hmg : ng ≤ 1099511627776) (hsb : -9223372036854775808 ≤ s ∧ s ≤ 9223372036854775807) :
    Calls Tryz.prog 32 #[.slice A n c, .int .i64 s, .slice Ag ng cg] w fun e w' => e = .returned (.bool (mhB m s g)) ∧ Below w.heap.size w w' := by
  have hlen := Lib.hid h.1
  have hleng := Lib.hid hg.1
  have HV := Lib.hid (implMasksValid A c n B m s w h hm64 hB hm hsb)
  have HG := Lib.hid (fun w' (hb : Below w.heap.size w w') => implGridValid Ag cg ng Bg g s w' (hg.below (hb.mono hBg)) (Nat.le_trans hBg hb.size) hmg)
  cases hv : mvd m s
  · have HL := Lib.hid (show mhB m s g = false by simp [mhB, hv])
    go_enter Tryz.func32, Tryz.ntmps32
    go_wp2_with (go_at_call 70; refine HV.out.mono ?_; rintro e w1 ⟨rfl, hb1⟩; rw [hv])
    go_ret
    exact ⟨by rw [HL.out]; rfl, hb1⟩
  · cases hgv : gv g s
    · have HL := Lib.hid (show mhB m s g = false by simp [mhB, hgv])
      go_enter Tryz.func32, Tryz.ntmps32
      go_wp2_with (first | (go_at_call 70; refine HV.out.mono ?_; rintro e w1 ⟨rfl, hb1⟩; rw [hv]) | (go_at_call 71; refine (HG.out _ hb1).mono ?_; rintro e w2 ⟨rfl, hb2⟩; rw [hgv]))
      go_ret
      exact ⟨by rw [HL.out]; rfl, step hb1 hb2⟩
    · have HL := Lib.hid (show mhB m s g = (List.range ng).all (inMask m g) by simp [mhB, hv, hgv, hleng.out])
      obtain ⟨_, hsq, hn16, hrng⟩ := mvd_at hv
      rw [hlen.out] at hsq hn16 hrng
      have hlg := gv_len hgv
      rw [hleng.out] at hlg
      obtain rfl : n = ng := by omega
      have Hrng := Lib.hid hrng
      have Hg := Lib.hid (fun k (hk : k < n) => gv_nth hgv (show k < g.length by rw [hleng.out]; exact hk))
      obtain ⟨s2, s4⟩ := gv_size hgv
      clear hrng hsq hlg
      go_enter Tryz.func32, Tryz.ntmps32
      go_wp2_with (first | (go_at_call 70; refine HV.out.mono ?_; rintro e w1 ⟨rfl, hb1⟩; rw [hv]) | (go_at_call 71; refine (HG.out _ hb1).mono ?_; rintro e w2 ⟨rfl, hb2⟩; rw [hgv]; have h02 := step hb1 hb2))
      go_loop [21] (fun i => ∃ k : Nat, k ≤ n ∧ i = .int .i64 k ∧ Hid (∀ j, j < k → inMask m g j = true)) (fun i => n - (intOf i).toNat)
      case atStart => exact ⟨0, Nat.zero_le _, rfl, Lib.hid (fun j hj => absurd hj (by omega))⟩
      case round =>
        obtain ⟨k, hk, rfl, hall⟩ := hrel
        by_cases hlt : k < n
        · obtain ⟨b, off, rfl, hbB, hck⟩ := (h.below (h02.mono hB)).at_ hlt
          obtain ⟨b', off', rfl, hbB', hck'⟩ := (hg.below (h02.mono hBg)).at_ hlt
          obtain ⟨x0, x1, _⟩ := Hrng.out k hlt
          obtain ⟨y0, y1⟩ := Hg.out k hlt
          obtain ⟨M, hM⟩ := Int.eq_ofNat_of_zero_le x0
          obtain ⟨v, hV⟩ := Int.eq_ofNat_of_zero_le y0
          have hbit : inMask m g k = M.testBit v := by simp only [inMask, hM, hV, Int.toNat_natCast]
          have hsh := and_pow0 M v (by omega) (by omega)
          rw [hM] at hck x1
          rw [hV] at hck' y1
          have hvs : v < 64 := by omega
          cases hh : M.testBit v
          · rw [hh] at hsh hbit
            have Hf := Lib.hid (show mhB m s g = false by rw [HL.out]; exact all_stop hlt hbit)
            clear hh hbit hM hV x0 y0
            go_wp2
            go_ret
            exact ⟨by rw [Hf.out]; rfl, h02⟩
          · rw [hh] at hsh hbit
            have Hn := Lib.hid (show ∀ j, j < k + 1 → inMask m g j = true from fun j hj => by
              by_cases e : j = k
              · subst e; exact hbit
              · exact hall.out j (by omega))
            clear hh hbit hM hV x0 y0
            go_wp2
            go_round
            case rel => exact ⟨k + 1, by omega, by go_num, Hn⟩
            case measure => simp [intOf]; omega
        · obtain rfl : k = n := by omega
          have Hf := Lib.hid (show mhB m s g = true by rw [HL.out]; exact all_done hall.out)
          go_wp2
          go_ret
          exact ⟨by rw [Hf.out]; rfl, h02⟩
end Go.Proofs.YtcjdjcpappfkgaaGreatDoor
set_option maxRecDepth 8000
namespace Go.Proofs.YtcjdjcpappfkgaaGreatDoor
open Go.ChangeShapes Go.WideShapes Go.ChangeAt Go.RowKit

theorem specL6Copy (A : Option Addr) (n c B : Nat) (xs : List Int) (w : World) (h : Rd w B A n xs) (hB : B ≤ w.heap.size) (hm : n ≤ 1099511627776) :
    Calls Tryz.prog 68 #[.slice A n c] w fun e w' => ∃ A' c', e = .returned (.slice A' n c') ∧ Ow w' w.heap.size A' n c' xs ∧ Below w.heap.size w w' := by
  have hb0 : Below w.heap.size w (w.alloc (.cells #[] 3)) := (Below.refl _ _).alloc (Nat.le_refl _) _
  have HO := Lib.hid (Ow.made0 w w.heap.size (Nat.le_refl _))
  have HR := Lib.hid (h.below (hb0.mono hB))
  have hsO : w.heap.size ≤ (w.alloc (.cells #[] 3)).heap.size := by simp
  go_enter Tryz.func68, Tryz.ntmps68
  go_wp2_with (at_builtin; (refine push_new rfl (.tmp 3) (.tmp 4) rfl w.heap.size (some ⟨w.heap.size, 0, none⟩) A n c B xs rfl rfl HO.out HR.out hm hsO ?_); intro A1 c1 w1 ho1 hg1; have hb1 := hb0.grown hg1 hb0.size (fun k hk => HO.out.own_lo k hk))
  go_ret
  exact ⟨_, _, rfl, ho1, hb1⟩
/-- what a cell may have at first. -/
def startC (gi : List Int) (s : Nat) (j : Nat) : Int := if 0 < nth gi j then 2 ^ (nth gi j).toNat else 2 ^ (s + 1) - 2
def startL (s : Int) (gi : List Int) (rs : List RuleM) (n : Nat) : List Int := if pvB s gi rs = true then mapTo (startC gi s.toNat) n else []
set_option maxHeartbeats 2000000 in
theorem specStartMasks (s : Int) (Ag : Option Addr) (n cg Bg : Nat) (gi : List Int) (Ar : Option Addr) (nr cr Br : Nat) (rs : List RuleM) (w : World) (hp : PGs w s Ag n cg Bg gi Ar nr cr Br rs) :
    Calls Tryz.prog 79 #[.agg #[.int .i64 s, .slice Ag n cg, .slice Ar nr cr]] w (RetSl w (startL s gi rs n)) := by
  have hx0 := pbox_new w s Ag n cg Ar nr cr 26
  have hb0 : Below w.heap.size w (w.alloc (.cells #[.int .i64 s, .slice Ag n cg, .slice Ar nr cr] 26)) := (Below.refl _ _).alloc (Nat.le_refl _) _
  have hs0 : w.heap.size < (w.alloc (.cells #[.int .i64 s, .slice Ag n cg, .slice Ar nr cr] 26)).heap.size := by simp
  have HP := Lib.hid (fun w' (hb : Below w.heap.size w w') => specPuzzleValid s Ag n cg Bg gi Ar nr cr Br rs w' (hp.below hb).g (hp.below hb).gB hp.gm (hp.below hb).r (hp.below hb).rB hp.rm)
  have hlen := Lib.hid hp.g.1
  have hm := hp.gm
  cases hv : pvB s gi rs
  · have HL := Lib.hid (show startL s gi rs n = [] by simp [startL, hv])
    go_enter Tryz.func79, Tryz.ntmps79
    go_wp2
    obtain ⟨W0, hW0⟩ : ∃ W0, W0 = w.alloc (.cells #[.int .i64 s, .slice Ag n cg, .slice Ar nr cr] 26) := ⟨_, rfl⟩
    rw [← hW0] at hx0 hb0 hs0
    rw [← hW0]
    have hsW : W0.heap.size = w.heap.size + 1 := by rw [hW0]; simp
    clear hW0
    have hb1 : Below W0.heap.size W0 (W0.alloc (.cells #[] 3)) := (Below.refl _ _).alloc (Nat.le_refl _) _
    have hO := Ow.made0 W0 W0.heap.size (Nat.le_refl _)
    obtain ⟨c0, c1, c2⟩ := hx0.below hs0 hb1
    have hb1' := step hb0 hb1
    rw [hsW] at hO
    go_loopw [3, 4] (fun v i wr => v = .slice (some ⟨w.heap.size + 1, 0, none⟩) 0 0 ∧ i = .int .i64 0 ∧ wr = W0.alloc (.cells #[] 3)) (fun _ _ _ => 0)
    case atStart => exact ⟨by first | rfl | rw [hsW], rfl, rfl⟩
    case round =>
      obtain ⟨rfl, rfl, rfl⟩ := hrel
      by_cases hlt : 0 < n
      · have hlt' : (0 : Int) < (n : Int) := by omega
        go_wp2_with (go_at_call 21; refine (HP.out _ hb1').mono ?_; rintro e w1 ⟨rfl, hb2⟩; rw [hv])
        go_ret
        rw [HL.out]
        exact ⟨_, _, rfl, ((show Ow _ (w.heap.size + 1) _ 0 0 [] from hO).below hb2).mono (by omega), step hb1' hb2⟩
      · obtain rfl : n = 0 := by omega
        go_wp2
        go_ret
        rw [HL.out]
        exact ⟨_, _, rfl, (show Ow _ (w.heap.size + 1) _ 0 0 [] from hO).mono (by omega), hb1'⟩
  · obtain ⟨t, hst, hs, hn', hn16, hok'⟩ := pv_grid hv hp.g.1
    have hs3 : s = 2 ∨ s = 3 ∨ s = 4 := by rw [hst]; simp at hs; omega
    rw [← hst] at hok'
    have hok := Lib.hid hok'
    clear hn' hok' hst hs
    rcases hs3 with rfl | rfl | rfl
    · have HL := Lib.hid (show startL 2 gi rs n = mapTo (startC gi 2) n by simp [startL, hv])
      go_enter Tryz.func79, Tryz.ntmps79
      go_wp2
      obtain ⟨W0, hW0⟩ : ∃ W0, W0 = w.alloc (.cells #[.int .i64 2, .slice Ag n cg, .slice Ar nr cr] 26) := ⟨_, rfl⟩
      rw [← hW0] at hx0 hb0 hs0
      rw [← hW0]
      have hsW : W0.heap.size = w.heap.size + 1 := by rw [hW0]; simp
      clear hW0
      have hb1 : Below W0.heap.size W0 (W0.alloc (.cells #[] 3)) := (Below.refl _ _).alloc (Nat.le_refl _) _
      have hO := Ow.made0 W0 W0.heap.size (Nat.le_refl _)
      go_loopw [3, 4] (fun v i wr => ∃ (u : Nat) (A' : Option Addr) (c' : Nat), u ≤ n ∧ i = .int .i64 u ∧ v = .slice A' u c' ∧ Ow wr W0.heap.size A' u c' (mapTo (startC gi 2) u) ∧ Below W0.heap.size W0 wr) (fun _ i _ => n - (intOf i).toNat)
      case atStart => exact ⟨0, _, _, Nat.zero_le _, rfl, by first | rfl | rw [hsW], hO, hb1⟩
      case round =>
        obtain ⟨u, A', c', hu, rfl, rfl, ho, hb⟩ := hrel
        obtain ⟨c0, c1, c2⟩ := hx0.below hs0 hb
        by_cases hlt : u < n
        · have hbw := step hb0 hb
          have hsw := hb.size
          have hlow : W0.heap.size ≤ wr.heap.size := hsw
          obtain ⟨b, off, hA, hbB, hck⟩ := (hp.below hbw).g.at_ hlt
          subst hA
          have hbwr : b < wr.heap.size := Nat.lt_of_lt_of_le hbB (hp.below hbw).gB
          have hu1 : u ≤ 1099511627776 := by omega
          have hx4 := hok.out u hlt
          have hcase : nth gi u = 0 ∨ nth gi u = 1 ∨ nth gi u = 2 ∨ nth gi u = 3 ∨ nth gi u = 4 := by
            have : (0 : Int) ≤ 0 := by omega
            omega
          have hwr0 : w.heap.size < wr.heap.size := by omega
          rcases hcase with h | h | h | h | h
          · rw [h] at hck
            have hq : startC gi 2 u = 6 := by simp [startC, h]
            clear h
            go_wp2_with (first
              | (go_at_call 21; refine (HP.out _ hbw).mono ?_; rintro e w1 ⟨rfl, hb2⟩; rw [hv]; obtain ⟨d0, d1, d2⟩ := PBox.below ⟨c0, c1, c2⟩ hwr0 hb2; have hck1 := (hb2.cell (p := ⟨b, off + u, none⟩) hbwr).trans hck; have ho2 := ho.below hb2; have hs2 := Nat.le_trans hlow hb2.size)
              | (at_builtin; refine push_int rfl (.tmp 32) (.tmp 38) rfl W0.heap.size A' u c' (mapTo (startC gi 2) u) _ rfl rfl ho2 hu1 hs2 ?_; intro A5 c5 w5 ho5 hg5))
            go_roundw
            case rel => exact ⟨u + 1, _, _, by omega, by go_num, rfl, by rw [mapTo_succ, hq]; exact ho5, push_below (hb.trans (hb2.mono hlow)) ho2 (Nat.le_refl _) hs2 hg5⟩
            case measure => simp [intOf]; omega
          · rw [h] at hck
            have hq : startC gi 2 u = 2 := by simp [startC, h]
            clear h
            go_wp2_with (first
              | (go_at_call 21; refine (HP.out _ hbw).mono ?_; rintro e w1 ⟨rfl, hb2⟩; rw [hv]; obtain ⟨d0, d1, d2⟩ := PBox.below ⟨c0, c1, c2⟩ hwr0 hb2; have hck1 := (hb2.cell (p := ⟨b, off + u, none⟩) hbwr).trans hck; have ho2 := ho.below hb2; have hs2 := Nat.le_trans hlow hb2.size)
              | (at_builtin; refine push_int rfl (.tmp 23) (.tmp 30) rfl W0.heap.size A' u c' (mapTo (startC gi 2) u) _ rfl rfl ho2 hu1 hs2 ?_; intro A5 c5 w5 ho5 hg5))
            go_roundw
            case rel => exact ⟨u + 1, _, _, by omega, by go_num, rfl, by rw [mapTo_succ, hq]; exact ho5, push_below (hb.trans (hb2.mono hlow)) ho2 (Nat.le_refl _) hs2 hg5⟩
            case measure => simp [intOf]; omega
          · rw [h] at hck
            have hq : startC gi 2 u = 4 := by simp [startC, h]
            clear h
            go_wp2_with (first
              | (go_at_call 21; refine (HP.out _ hbw).mono ?_; rintro e w1 ⟨rfl, hb2⟩; rw [hv]; obtain ⟨d0, d1, d2⟩ := PBox.below ⟨c0, c1, c2⟩ hwr0 hb2; have hck1 := (hb2.cell (p := ⟨b, off + u, none⟩) hbwr).trans hck; have ho2 := ho.below hb2; have hs2 := Nat.le_trans hlow hb2.size)
              | (at_builtin; refine push_int rfl (.tmp 23) (.tmp 30) rfl W0.heap.size A' u c' (mapTo (startC gi 2) u) _ rfl rfl ho2 hu1 hs2 ?_; intro A5 c5 w5 ho5 hg5))
            go_roundw
            case rel => exact ⟨u + 1, _, _, by omega, by go_num, rfl, by rw [mapTo_succ, hq]; exact ho5, push_below (hb.trans (hb2.mono hlow)) ho2 (Nat.le_refl _) hs2 hg5⟩
            case measure => simp [intOf]; omega
          · rw [h] at hck
            have hq : startC gi 2 u = 8 := by simp [startC, h]
            clear h
            go_wp2_with (first
              | (go_at_call 21; refine (HP.out _ hbw).mono ?_; rintro e w1 ⟨rfl, hb2⟩; rw [hv]; obtain ⟨d0, d1, d2⟩ := PBox.below ⟨c0, c1, c2⟩ hwr0 hb2; have hck1 := (hb2.cell (p := ⟨b, off + u, none⟩) hbwr).trans hck; have ho2 := ho.below hb2; have hs2 := Nat.le_trans hlow hb2.size)
              | (at_builtin; refine push_int rfl (.tmp 23) (.tmp 30) rfl W0.heap.size A' u c' (mapTo (startC gi 2) u) _ rfl rfl ho2 hu1 hs2 ?_; intro A5 c5 w5 ho5 hg5))
            go_roundw
            case rel => exact ⟨u + 1, _, _, by omega, by go_num, rfl, by rw [mapTo_succ, hq]; exact ho5, push_below (hb.trans (hb2.mono hlow)) ho2 (Nat.le_refl _) hs2 hg5⟩
            case measure => simp [intOf]; omega
          · rw [h] at hck
            have hq : startC gi 2 u = 16 := by simp [startC, h]
            clear h
            go_wp2_with (first
              | (go_at_call 21; refine (HP.out _ hbw).mono ?_; rintro e w1 ⟨rfl, hb2⟩; rw [hv]; obtain ⟨d0, d1, d2⟩ := PBox.below ⟨c0, c1, c2⟩ hwr0 hb2; have hck1 := (hb2.cell (p := ⟨b, off + u, none⟩) hbwr).trans hck; have ho2 := ho.below hb2; have hs2 := Nat.le_trans hlow hb2.size)
              | (at_builtin; refine push_int rfl (.tmp 23) (.tmp 30) rfl W0.heap.size A' u c' (mapTo (startC gi 2) u) _ rfl rfl ho2 hu1 hs2 ?_; intro A5 c5 w5 ho5 hg5))
            go_roundw
            case rel => exact ⟨u + 1, _, _, by omega, by go_num, rfl, by rw [mapTo_succ, hq]; exact ho5, push_below (hb.trans (hb2.mono hlow)) ho2 (Nat.le_refl _) hs2 hg5⟩
            case measure => simp [intOf]; omega
        · obtain rfl : u = n := by omega
          go_wp2
          go_ret
          rw [HL.out]
          exact retSl_mk (ho.mono (by omega)) (step hb0 hb)
    · have HL := Lib.hid (show startL 3 gi rs n = mapTo (startC gi 3) n by simp [startL, hv])
      go_enter Tryz.func79, Tryz.ntmps79
      go_wp2
      obtain ⟨W0, hW0⟩ : ∃ W0, W0 = w.alloc (.cells #[.int .i64 3, .slice Ag n cg, .slice Ar nr cr] 26) := ⟨_, rfl⟩
      rw [← hW0] at hx0 hb0 hs0
      rw [← hW0]
      have hsW : W0.heap.size = w.heap.size + 1 := by rw [hW0]; simp
      clear hW0
      have hb1 : Below W0.heap.size W0 (W0.alloc (.cells #[] 3)) := (Below.refl _ _).alloc (Nat.le_refl _) _
      have hO := Ow.made0 W0 W0.heap.size (Nat.le_refl _)
      go_loopw [3, 4] (fun v i wr => ∃ (u : Nat) (A' : Option Addr) (c' : Nat), u ≤ n ∧ i = .int .i64 u ∧ v = .slice A' u c' ∧ Ow wr W0.heap.size A' u c' (mapTo (startC gi 3) u) ∧ Below W0.heap.size W0 wr) (fun _ i _ => n - (intOf i).toNat)
      case atStart => exact ⟨0, _, _, Nat.zero_le _, rfl, by first | rfl | rw [hsW], hO, hb1⟩
      case round =>
        obtain ⟨u, A', c', hu, rfl, rfl, ho, hb⟩ := hrel
        obtain ⟨c0, c1, c2⟩ := hx0.below hs0 hb
        by_cases hlt : u < n
        · have hbw := step hb0 hb
          have hsw := hb.size
          have hlow : W0.heap.size ≤ wr.heap.size := hsw
          obtain ⟨b, off, hA, hbB, hck⟩ := (hp.below hbw).g.at_ hlt
          subst hA
          have hbwr : b < wr.heap.size := Nat.lt_of_lt_of_le hbB (hp.below hbw).gB
          have hu1 : u ≤ 1099511627776 := by omega
          have hx4 := hok.out u hlt
          have hcase : nth gi u = 0 ∨ nth gi u = 1 ∨ nth gi u = 2 ∨ nth gi u = 3 ∨ nth gi u = 4 := by
            have : (0 : Int) ≤ 0 := by omega
            omega
          have hwr0 : w.heap.size < wr.heap.size := by omega
          rcases hcase with h | h | h | h | h
          · rw [h] at hck
            have hq : startC gi 3 u = 14 := by simp [startC, h]
            clear h
            go_wp2_with (first
              | (go_at_call 21; refine (HP.out _ hbw).mono ?_; rintro e w1 ⟨rfl, hb2⟩; rw [hv]; obtain ⟨d0, d1, d2⟩ := PBox.below ⟨c0, c1, c2⟩ hwr0 hb2; have hck1 := (hb2.cell (p := ⟨b, off + u, none⟩) hbwr).trans hck; have ho2 := ho.below hb2; have hs2 := Nat.le_trans hlow hb2.size)
              | (at_builtin; refine push_int rfl (.tmp 32) (.tmp 38) rfl W0.heap.size A' u c' (mapTo (startC gi 3) u) _ rfl rfl ho2 hu1 hs2 ?_; intro A5 c5 w5 ho5 hg5))
            go_roundw
            case rel => exact ⟨u + 1, _, _, by omega, by go_num, rfl, by rw [mapTo_succ, hq]; exact ho5, push_below (hb.trans (hb2.mono hlow)) ho2 (Nat.le_refl _) hs2 hg5⟩
            case measure => simp [intOf]; omega
          · rw [h] at hck
            have hq : startC gi 3 u = 2 := by simp [startC, h]
            clear h
            go_wp2_with (first
              | (go_at_call 21; refine (HP.out _ hbw).mono ?_; rintro e w1 ⟨rfl, hb2⟩; rw [hv]; obtain ⟨d0, d1, d2⟩ := PBox.below ⟨c0, c1, c2⟩ hwr0 hb2; have hck1 := (hb2.cell (p := ⟨b, off + u, none⟩) hbwr).trans hck; have ho2 := ho.below hb2; have hs2 := Nat.le_trans hlow hb2.size)
              | (at_builtin; refine push_int rfl (.tmp 23) (.tmp 30) rfl W0.heap.size A' u c' (mapTo (startC gi 3) u) _ rfl rfl ho2 hu1 hs2 ?_; intro A5 c5 w5 ho5 hg5))
            go_roundw
            case rel => exact ⟨u + 1, _, _, by omega, by go_num, rfl, by rw [mapTo_succ, hq]; exact ho5, push_below (hb.trans (hb2.mono hlow)) ho2 (Nat.le_refl _) hs2 hg5⟩
            case measure => simp [intOf]; omega
          · rw [h] at hck
            have hq : startC gi 3 u = 4 := by simp [startC, h]
            clear h
            go_wp2_with (first
              | (go_at_call 21; refine (HP.out _ hbw).mono ?_; rintro e w1 ⟨rfl, hb2⟩; rw [hv]; obtain ⟨d0, d1, d2⟩ := PBox.below ⟨c0, c1, c2⟩ hwr0 hb2; have hck1 := (hb2.cell (p := ⟨b, off + u, none⟩) hbwr).trans hck; have ho2 := ho.below hb2; have hs2 := Nat.le_trans hlow hb2.size)
              | (at_builtin; refine push_int rfl (.tmp 23) (.tmp 30) rfl W0.heap.size A' u c' (mapTo (startC gi 3) u) _ rfl rfl ho2 hu1 hs2 ?_; intro A5 c5 w5 ho5 hg5))
            go_roundw
            case rel => exact ⟨u + 1, _, _, by omega, by go_num, rfl, by rw [mapTo_succ, hq]; exact ho5, push_below (hb.trans (hb2.mono hlow)) ho2 (Nat.le_refl _) hs2 hg5⟩
            case measure => simp [intOf]; omega
          · rw [h] at hck
            have hq : startC gi 3 u = 8 := by simp [startC, h]
            clear h
            go_wp2_with (first
              | (go_at_call 21; refine (HP.out _ hbw).mono ?_; rintro e w1 ⟨rfl, hb2⟩; rw [hv]; obtain ⟨d0, d1, d2⟩ := PBox.below ⟨c0, c1, c2⟩ hwr0 hb2; have hck1 := (hb2.cell (p := ⟨b, off + u, none⟩) hbwr).trans hck; have ho2 := ho.below hb2; have hs2 := Nat.le_trans hlow hb2.size)
              | (at_builtin; refine push_int rfl (.tmp 23) (.tmp 30) rfl W0.heap.size A' u c' (mapTo (startC gi 3) u) _ rfl rfl ho2 hu1 hs2 ?_; intro A5 c5 w5 ho5 hg5))
            go_roundw
            case rel => exact ⟨u + 1, _, _, by omega, by go_num, rfl, by rw [mapTo_succ, hq]; exact ho5, push_below (hb.trans (hb2.mono hlow)) ho2 (Nat.le_refl _) hs2 hg5⟩
            case measure => simp [intOf]; omega
          · rw [h] at hck
            have hq : startC gi 3 u = 16 := by simp [startC, h]
            clear h
            go_wp2_with (first
              | (go_at_call 21; refine (HP.out _ hbw).mono ?_; rintro e w1 ⟨rfl, hb2⟩; rw [hv]; obtain ⟨d0, d1, d2⟩ := PBox.below ⟨c0, c1, c2⟩ hwr0 hb2; have hck1 := (hb2.cell (p := ⟨b, off + u, none⟩) hbwr).trans hck; have ho2 := ho.below hb2; have hs2 := Nat.le_trans hlow hb2.size)
              | (at_builtin; refine push_int rfl (.tmp 23) (.tmp 30) rfl W0.heap.size A' u c' (mapTo (startC gi 3) u) _ rfl rfl ho2 hu1 hs2 ?_; intro A5 c5 w5 ho5 hg5))
            go_roundw
            case rel => exact ⟨u + 1, _, _, by omega, by go_num, rfl, by rw [mapTo_succ, hq]; exact ho5, push_below (hb.trans (hb2.mono hlow)) ho2 (Nat.le_refl _) hs2 hg5⟩
            case measure => simp [intOf]; omega
        · obtain rfl : u = n := by omega
          go_wp2
          go_ret
          rw [HL.out]
          exact retSl_mk (ho.mono (by omega)) (step hb0 hb)
    · have HL := Lib.hid (show startL 4 gi rs n = mapTo (startC gi 4) n by simp [startL, hv])
      go_enter Tryz.func79, Tryz.ntmps79
      go_wp2
      obtain ⟨W0, hW0⟩ : ∃ W0, W0 = w.alloc (.cells #[.int .i64 4, .slice Ag n cg, .slice Ar nr cr] 26) := ⟨_, rfl⟩
      rw [← hW0] at hx0 hb0 hs0
      rw [← hW0]
      have hsW : W0.heap.size = w.heap.size + 1 := by rw [hW0]; simp
      clear hW0
      have hb1 : Below W0.heap.size W0 (W0.alloc (.cells #[] 3)) := (Below.refl _ _).alloc (Nat.le_refl _) _
      have hO := Ow.made0 W0 W0.heap.size (Nat.le_refl _)
      go_loopw [3, 4] (fun v i wr => ∃ (u : Nat) (A' : Option Addr) (c' : Nat), u ≤ n ∧ i = .int .i64 u ∧ v = .slice A' u c' ∧ Ow wr W0.heap.size A' u c' (mapTo (startC gi 4) u) ∧ Below W0.heap.size W0 wr) (fun _ i _ => n - (intOf i).toNat)
      case atStart => exact ⟨0, _, _, Nat.zero_le _, rfl, by first | rfl | rw [hsW], hO, hb1⟩
      case round =>
        obtain ⟨u, A', c', hu, rfl, rfl, ho, hb⟩ := hrel
        obtain ⟨c0, c1, c2⟩ := hx0.below hs0 hb
        by_cases hlt : u < n
        · have hbw := step hb0 hb
          have hsw := hb.size
          have hlow : W0.heap.size ≤ wr.heap.size := hsw
          obtain ⟨b, off, hA, hbB, hck⟩ := (hp.below hbw).g.at_ hlt
          subst hA
          have hbwr : b < wr.heap.size := Nat.lt_of_lt_of_le hbB (hp.below hbw).gB
          have hu1 : u ≤ 1099511627776 := by omega
          have hx4 := hok.out u hlt
          have hcase : nth gi u = 0 ∨ nth gi u = 1 ∨ nth gi u = 2 ∨ nth gi u = 3 ∨ nth gi u = 4 := by
            have : (0 : Int) ≤ 0 := by omega
            omega
          have hwr0 : w.heap.size < wr.heap.size := by omega
          rcases hcase with h | h | h | h | h
          · rw [h] at hck
            have hq : startC gi 4 u = 30 := by simp [startC, h]
            clear h
            go_wp2_with (first
              | (go_at_call 21; refine (HP.out _ hbw).mono ?_; rintro e w1 ⟨rfl, hb2⟩; rw [hv]; obtain ⟨d0, d1, d2⟩ := PBox.below ⟨c0, c1, c2⟩ hwr0 hb2; have hck1 := (hb2.cell (p := ⟨b, off + u, none⟩) hbwr).trans hck; have ho2 := ho.below hb2; have hs2 := Nat.le_trans hlow hb2.size)
              | (at_builtin; refine push_int rfl (.tmp 32) (.tmp 38) rfl W0.heap.size A' u c' (mapTo (startC gi 4) u) _ rfl rfl ho2 hu1 hs2 ?_; intro A5 c5 w5 ho5 hg5))
            go_roundw
            case rel => exact ⟨u + 1, _, _, by omega, by go_num, rfl, by rw [mapTo_succ, hq]; exact ho5, push_below (hb.trans (hb2.mono hlow)) ho2 (Nat.le_refl _) hs2 hg5⟩
            case measure => simp [intOf]; omega
          · rw [h] at hck
            have hq : startC gi 4 u = 2 := by simp [startC, h]
            clear h
            go_wp2_with (first
              | (go_at_call 21; refine (HP.out _ hbw).mono ?_; rintro e w1 ⟨rfl, hb2⟩; rw [hv]; obtain ⟨d0, d1, d2⟩ := PBox.below ⟨c0, c1, c2⟩ hwr0 hb2; have hck1 := (hb2.cell (p := ⟨b, off + u, none⟩) hbwr).trans hck; have ho2 := ho.below hb2; have hs2 := Nat.le_trans hlow hb2.size)
              | (at_builtin; refine push_int rfl (.tmp 23) (.tmp 30) rfl W0.heap.size A' u c' (mapTo (startC gi 4) u) _ rfl rfl ho2 hu1 hs2 ?_; intro A5 c5 w5 ho5 hg5))
            go_roundw
            case rel => exact ⟨u + 1, _, _, by omega, by go_num, rfl, by rw [mapTo_succ, hq]; exact ho5, push_below (hb.trans (hb2.mono hlow)) ho2 (Nat.le_refl _) hs2 hg5⟩
            case measure => simp [intOf]; omega
          · rw [h] at hck
            have hq : startC gi 4 u = 4 := by simp [startC, h]
            clear h
            go_wp2_with (first
              | (go_at_call 21; refine (HP.out _ hbw).mono ?_; rintro e w1 ⟨rfl, hb2⟩; rw [hv]; obtain ⟨d0, d1, d2⟩ := PBox.below ⟨c0, c1, c2⟩ hwr0 hb2; have hck1 := (hb2.cell (p := ⟨b, off + u, none⟩) hbwr).trans hck; have ho2 := ho.below hb2; have hs2 := Nat.le_trans hlow hb2.size)
              | (at_builtin; refine push_int rfl (.tmp 23) (.tmp 30) rfl W0.heap.size A' u c' (mapTo (startC gi 4) u) _ rfl rfl ho2 hu1 hs2 ?_; intro A5 c5 w5 ho5 hg5))
            go_roundw
            case rel => exact ⟨u + 1, _, _, by omega, by go_num, rfl, by rw [mapTo_succ, hq]; exact ho5, push_below (hb.trans (hb2.mono hlow)) ho2 (Nat.le_refl _) hs2 hg5⟩
            case measure => simp [intOf]; omega
          · rw [h] at hck
            have hq : startC gi 4 u = 8 := by simp [startC, h]
            clear h
            go_wp2_with (first
              | (go_at_call 21; refine (HP.out _ hbw).mono ?_; rintro e w1 ⟨rfl, hb2⟩; rw [hv]; obtain ⟨d0, d1, d2⟩ := PBox.below ⟨c0, c1, c2⟩ hwr0 hb2; have hck1 := (hb2.cell (p := ⟨b, off + u, none⟩) hbwr).trans hck; have ho2 := ho.below hb2; have hs2 := Nat.le_trans hlow hb2.size)
              | (at_builtin; refine push_int rfl (.tmp 23) (.tmp 30) rfl W0.heap.size A' u c' (mapTo (startC gi 4) u) _ rfl rfl ho2 hu1 hs2 ?_; intro A5 c5 w5 ho5 hg5))
            go_roundw
            case rel => exact ⟨u + 1, _, _, by omega, by go_num, rfl, by rw [mapTo_succ, hq]; exact ho5, push_below (hb.trans (hb2.mono hlow)) ho2 (Nat.le_refl _) hs2 hg5⟩
            case measure => simp [intOf]; omega
          · rw [h] at hck
            have hq : startC gi 4 u = 16 := by simp [startC, h]
            clear h
            go_wp2_with (first
              | (go_at_call 21; refine (HP.out _ hbw).mono ?_; rintro e w1 ⟨rfl, hb2⟩; rw [hv]; obtain ⟨d0, d1, d2⟩ := PBox.below ⟨c0, c1, c2⟩ hwr0 hb2; have hck1 := (hb2.cell (p := ⟨b, off + u, none⟩) hbwr).trans hck; have ho2 := ho.below hb2; have hs2 := Nat.le_trans hlow hb2.size)
              | (at_builtin; refine push_int rfl (.tmp 23) (.tmp 30) rfl W0.heap.size A' u c' (mapTo (startC gi 4) u) _ rfl rfl ho2 hu1 hs2 ?_; intro A5 c5 w5 ho5 hg5))
            go_roundw
            case rel => exact ⟨u + 1, _, _, by omega, by go_num, rfl, by rw [mapTo_succ, hq]; exact ho5, push_below (hb.trans (hb2.mono hlow)) ho2 (Nat.le_refl _) hs2 hg5⟩
            case measure => simp [intOf]; omega
        · obtain rfl : u = n := by omega
          go_wp2
          go_ret
          rw [HL.out]
          exact retSl_mk (ho.mono (by omega)) (step hb0 hb)
end Go.Proofs.YtcjdjcpappfkgaaGreatDoor
set_option maxRecDepth 8000
namespace Go.Proofs.YtcjdjcpappfkgaaGreatDoor
open Go.ChangeShapes Go.WideShapes Go.ChangeAt Go.RowKit

theorem Ow.putN {w : World} {lo g n c : Nat} {xs : List Int} (h : Ow w lo (some ⟨g, 0, none⟩) n c xs) (k : Nat) (v : Int) : Ow (w.setCell ⟨g, k, none⟩ (.int .i64 v)) lo (some ⟨g, 0, none⟩) n c (xs.set k v) := by
  have := (World.ownsRow.stored h k (.int .i64 v)).1
  rw [vals_set] at this
  exact this
/-- the cells that lie in a line with another. -/
def seesB (s k i : Nat) : Bool := (k != i) && (k / s == i / s || k % s == i % s)
def nsIn (m : List Int) (s i : Nat) (o : List Int) : Nat → List Int
  | 0 => o
  | k + 1 => if seesB s k i = true then (nsIn m s i o k).set k (bits .andNot .i64 (nth (nsIn m s i o k) k) (nth m i)) else nsIn m s i o k
def nsTo (m : List Int) (s n : Nat) : Nat → List Int
  | 0 => m
  | i + 1 => if (maskVals (nth m i)).length = 1 then nsIn m s i (nsTo m s n i) n else nsTo m s n i
def nsL (m : List Int) (s : Int) (n : Nat) : List Int := if mvd m s = true then nsTo m s.toNat n n else []
theorem nsIn_len (m : List Int) (s i : Nat) (o : List Int) (k : Nat) : (nsIn m s i o k).length = o.length := by
  induction k with
  | zero => rfl
  | succ k ih =>
    simp only [nsIn]
    split
    · rw [List.length_set, ih]
    · exact ih
theorem nsTo_len (m : List Int) (s n i : Nat) : (nsTo m s n i).length = m.length := by
  induction i with
  | zero => rfl
  | succ i ih =>
    simp only [nsTo]
    split
    · rw [nsIn_len, ih]
    · exact ih
set_option maxHeartbeats 4000000 in
theorem specNarrowSingles (A : Option Addr) (c n B : Nat) (m : List Int) (s : Int) (w : World) (h : Rd w B A n m) (hB : B ≤ w.heap.size) (hm : n ≤ 1099511627776) (hsb : -9223372036854775808 ≤ s ∧ s ≤ 9223372036854775807) (h64 : Hid (∀ k, k < n → -9223372036854775808 ≤ nth m k ∧ nth m k ≤ 9223372036854775807)) :
    Calls Tryz.prog 118 #[.slice A n c, .int .i64 s] w (RetSl w (nsL m s n)) := by
  have hlen := Lib.hid h.1
  have HV := Lib.hid (specMasksValid A c n B m s w h hB hm hsb)
  cases hv : mvd m s
  · have HL := Lib.hid (show nsL m s n = [] by simp [nsL, hv])
    go_enter Tryz.func118, Tryz.ntmps118
    go_wp2_with (go_at_call 30; refine HV.out.mono ?_; rintro e w1 ⟨rfl, hb1⟩; rw [hv])
    go_ret
    rw [HL.out]
    exact ⟨_, _, rfl, Ow.made0 _ _ hb1.size, hb1.alloc hb1.size _⟩
  · have hs24 : inr s 2 4 = true := by
      simp only [mvd, Bool.and_eq_true] at hv
      exact hv.1.1
    obtain ⟨h2, h4⟩ := inr_t hs24
    have hs3 : s = 2 ∨ s = 3 ∨ s = 4 := by omega
    clear hs24 h2 h4
    have HCp := Lib.hid (fun w' (hb : Below w.heap.size w w') => specL6Copy A n c B m w' (h.below (hb.mono hB)) (Nat.le_trans hB hb.size) hm)
    rcases hs3 with rfl | rfl | rfl
    · have HL := Lib.hid (show nsL m 2 n = nsTo m 2 n n by simp [nsL, hv])
      have Hv := Lib.hid hv
      clear hv
      go_enter Tryz.func118, Tryz.ntmps118
      go_wp2_with (first
        | (go_at_call 30; refine HV.out.mono ?_; rintro e w1 ⟨rfl, hb1⟩; rw [Hv.out])
        | (go_at_call 68; refine (HCp.out _ hb1).mono ?_; rintro e w2 ⟨Ac, cc, rfl, ho2, hb2⟩))
      have hb12 := step hb1 hb2
      have ho2' := ho2.mono hb1.size
      go_loopw [6] (fun i wr => ∃ u : Nat, u ≤ n ∧ i = .int .i64 u ∧ Ow wr w.heap.size Ac n cc (nsTo m 2 n u) ∧ Below w.heap.size w wr) (fun i _ => n - (intOf i).toNat)
      case atStart => exact ⟨0, Nat.zero_le _, rfl, ho2', hb12⟩
      case round =>
        obtain ⟨u, hu, rfl, ho, hb⟩ := hrel
        by_cases hlt : u < n
        · obtain ⟨b, off, hA, hbB, hck⟩ := (h.below (hb.mono hB)).at_ hlt
          subst hA
          have hbw : b < w.heap.size := Nat.lt_of_lt_of_le hbB hB
          have hbwr : b < wr.heap.size := Nat.lt_of_lt_of_le hbw hb.size
          obtain ⟨g, rfl, hgl, hgw⟩ := ho.form (by omega)
          have HMv := Lib.hid (specMaskValues (nth m u) wr (h64.out u hlt))
          obtain ⟨q, hq⟩ : ∃ q, q = (maskVals (nth m u)).length := ⟨_, rfl⟩
          have Hq := Lib.hid hq
          have HMv2 : Hid (Calls Tryz.prog 127 #[.int .i64 (nth m u)] wr fun e w'' => ∃ A3 c3, e = .returned (.slice A3 q c3) ∧ Below wr.heap.size wr w'') := Lib.hid (HMv.out.mono (by rintro e w'' ⟨A3, c3, rfl, _, hb3⟩; exact ⟨A3, c3, by rw [hq], hb3⟩))
          clear hq HMv
          have hsw := hb.size
          by_cases h1 : q = 1
          · have hq1 : ((q : Int) != 1) = false := by simp [h1]
            have Hs := Lib.hid (show nsTo m 2 n (u + 1) = nsIn m 2 u (nsTo m 2 n u) n by simp only [nsTo]; rw [if_pos (by rw [← Hq.out]; exact h1)])
            clear h1
            go_wp2_with (go_at_call 127; refine HMv2.out.mono ?_; rintro e w3 ⟨A3, c3, rfl, hb3⟩)
            have ho3 := ho.below hb3
            have hb03 := hb.trans (hb3.mono hsw)
            go_loopw [7] (fun j wr => ∃ k : Nat, k ≤ n ∧ j = .int .i64 k ∧ Ow wr w.heap.size (some ⟨g, 0, none⟩) n cc (nsIn m 2 u (nsTo m 2 n u) k) ∧ Below w.heap.size w wr) (fun j _ => n - (intOf j).toNat)
            case atStart => exact ⟨0, Nat.zero_le _, rfl, ho3, hb03⟩
            case round =>
              clear ho3 hb03 hck
              obtain ⟨k, hk, rfl, hok, hbk⟩ := hrel
              by_cases hkn : k < n
              · have hck : wr.cell? ⟨b, off + u, none⟩ = some (.int .i64 (nth m u)) := by
                  obtain ⟨b', off', hA', _, hck'⟩ := (h.below (hbk.mono hB)).at_ hlt
                  cases hA'
                  exact hck'
                obtain ⟨hcell, hfr⟩ := hok.cell hkn
                have hsk := hbk.size
                have hput := Lib.hid (hok.putN k (bits .andNot .i64 (nth (nsIn m 2 u (nsTo m 2 n u) k) k) (nth m u)))
                by_cases e1 : k = u
                · have f1 : ((k : Int) != (u : Int)) = false := by simp [e1]
                  have Hk := Lib.hid (show nsIn m 2 u (nsTo m 2 n u) (k + 1) = nsIn m 2 u (nsTo m 2 n u) k by simp [nsIn, seesB, e1])
                  clear e1
                  go_wp2
                  go_quiet (fail)
                  go_wp2
                  go_roundw
                  case rel => exact ⟨k + 1, by omega, by go_num, by rw [Hk.out]; exact hok, below_drewN hbk _⟩
                  case measure => simp [intOf]; omega
                · have f1 : ((k : Int) != (u : Int)) = true := by simp; omega
                  by_cases e2 : k / 2 = u / 2 ∨ k % 2 = u % 2
                  · have Hk := Lib.hid (show nsIn m 2 u (nsTo m 2 n u) (k + 1) = (nsIn m 2 u (nsTo m 2 n u) k).set k (bits .andNot .i64 (nth (nsIn m 2 u (nsTo m 2 n u) k) k) (nth m u)) by simp [nsIn, seesB, e1, e2])
                    by_cases e3 : k / 2 = u / 2
                    · have f2 : ((k : Int) / 2 == (u : Int) / 2) = true := by simp; omega
                      clear e1 e2 e3
                      go_wp2
                      go_quiet (fail)
                      go_wp2
                      go_region
                      go_wp2
                      go_roundw
                      case rel => exact ⟨k + 1, by omega, by go_num, by rw [Hk.out]; exact hput.out, Below.setCell (p := (⟨g, k, none⟩ : Addr)) (below_drewN hbk _) hgl _⟩
                      case measure => simp [intOf]; omega
                    · have f2 : ((k : Int) / 2 == (u : Int) / 2) = false := by simp; omega
                      have f3 : ((k : Int) % 2 == (u : Int) % 2) = true := by simp; omega
                      clear e1 e2 e3
                      go_wp2
                      go_quiet (fail)
                      go_wp2
                      go_region
                      go_wp2
                      go_roundw
                      case rel => exact ⟨k + 1, by omega, by go_num, by rw [Hk.out]; exact hput.out, Below.setCell (p := (⟨g, k, none⟩ : Addr)) (below_drewN hbk _) hgl _⟩
                      case measure => simp [intOf]; omega
                  · have f2 : ((k : Int) / 2 == (u : Int) / 2) = false := by simp; omega
                    have f3 : ((k : Int) % 2 == (u : Int) % 2) = false := by simp; omega
                    have Hk := Lib.hid (show nsIn m 2 u (nsTo m 2 n u) (k + 1) = nsIn m 2 u (nsTo m 2 n u) k by
                      have e4 : ¬ k / 2 = u / 2 := fun e => e2 (.inl e)
                      have e5 : ¬ k % 2 = u % 2 := fun e => e2 (.inr e)
                      simp [nsIn, seesB, e4, e5])
                    clear e1 e2
                    go_wp2
                    go_quiet (fail)
                    go_wp2
                    go_roundw
                    case rel => exact ⟨k + 1, by omega, by go_num, by rw [Hk.out]; exact hok, below_drewN hbk _⟩
                    case measure => simp [intOf]; omega
              · obtain rfl : k = n := by omega
                go_wp2
                go_roundw
                case rel => exact ⟨u + 1, by omega, by go_num, by rw [Hs.out]; exact hok, hbk⟩
                case measure => simp [intOf]; omega
          · have hq1 : ((q : Int) != 1) = true := by simp; omega
            have Hs := Lib.hid (show nsTo m 2 n (u + 1) = nsTo m 2 n u by simp only [nsTo]; rw [if_neg (by rw [← Hq.out]; exact h1)])
            go_wp2_with (go_at_call 127; refine HMv2.out.mono ?_; rintro e w3 ⟨A3, c3, rfl, hb3⟩)
            go_roundw
            case rel => exact ⟨u + 1, by omega, by go_num, by rw [Hs.out]; exact ho.below hb3, hb.trans (hb3.mono hsw)⟩
            case measure => simp [intOf]; omega
        · obtain rfl : u = n := by omega
          go_wp2
          go_ret
          rw [HL.out]
          have hnl := Lib.hid (nsTo_len m 2 u u)
          exact ⟨_, _, by rw [hnl.out, hlen.out]; rfl, by rw [hnl.out, hlen.out]; exact ho, hb⟩
    · have HL := Lib.hid (show nsL m 3 n = nsTo m 3 n n by simp [nsL, hv])
      have Hv := Lib.hid hv
      clear hv
      go_enter Tryz.func118, Tryz.ntmps118
      go_wp2_with (first
        | (go_at_call 30; refine HV.out.mono ?_; rintro e w1 ⟨rfl, hb1⟩; rw [Hv.out])
        | (go_at_call 68; refine (HCp.out _ hb1).mono ?_; rintro e w2 ⟨Ac, cc, rfl, ho2, hb2⟩))
      have hb12 := step hb1 hb2
      have ho2' := ho2.mono hb1.size
      go_loopw [6] (fun i wr => ∃ u : Nat, u ≤ n ∧ i = .int .i64 u ∧ Ow wr w.heap.size Ac n cc (nsTo m 3 n u) ∧ Below w.heap.size w wr) (fun i _ => n - (intOf i).toNat)
      case atStart => exact ⟨0, Nat.zero_le _, rfl, ho2', hb12⟩
      case round =>
        obtain ⟨u, hu, rfl, ho, hb⟩ := hrel
        by_cases hlt : u < n
        · obtain ⟨b, off, hA, hbB, hck⟩ := (h.below (hb.mono hB)).at_ hlt
          subst hA
          have hbw : b < w.heap.size := Nat.lt_of_lt_of_le hbB hB
          have hbwr : b < wr.heap.size := Nat.lt_of_lt_of_le hbw hb.size
          obtain ⟨g, rfl, hgl, hgw⟩ := ho.form (by omega)
          have HMv := Lib.hid (specMaskValues (nth m u) wr (h64.out u hlt))
          obtain ⟨q, hq⟩ : ∃ q, q = (maskVals (nth m u)).length := ⟨_, rfl⟩
          have Hq := Lib.hid hq
          have HMv2 : Hid (Calls Tryz.prog 127 #[.int .i64 (nth m u)] wr fun e w'' => ∃ A3 c3, e = .returned (.slice A3 q c3) ∧ Below wr.heap.size wr w'') := Lib.hid (HMv.out.mono (by rintro e w'' ⟨A3, c3, rfl, _, hb3⟩; exact ⟨A3, c3, by rw [hq], hb3⟩))
          clear hq HMv
          have hsw := hb.size
          by_cases h1 : q = 1
          · have hq1 : ((q : Int) != 1) = false := by simp [h1]
            have Hs := Lib.hid (show nsTo m 3 n (u + 1) = nsIn m 3 u (nsTo m 3 n u) n by simp only [nsTo]; rw [if_pos (by rw [← Hq.out]; exact h1)])
            clear h1
            go_wp2_with (go_at_call 127; refine HMv2.out.mono ?_; rintro e w3 ⟨A3, c3, rfl, hb3⟩)
            have ho3 := ho.below hb3
            have hb03 := hb.trans (hb3.mono hsw)
            go_loopw [7] (fun j wr => ∃ k : Nat, k ≤ n ∧ j = .int .i64 k ∧ Ow wr w.heap.size (some ⟨g, 0, none⟩) n cc (nsIn m 3 u (nsTo m 3 n u) k) ∧ Below w.heap.size w wr) (fun j _ => n - (intOf j).toNat)
            case atStart => exact ⟨0, Nat.zero_le _, rfl, ho3, hb03⟩
            case round =>
              clear ho3 hb03 hck
              obtain ⟨k, hk, rfl, hok, hbk⟩ := hrel
              by_cases hkn : k < n
              · have hck : wr.cell? ⟨b, off + u, none⟩ = some (.int .i64 (nth m u)) := by
                  obtain ⟨b', off', hA', _, hck'⟩ := (h.below (hbk.mono hB)).at_ hlt
                  cases hA'
                  exact hck'
                obtain ⟨hcell, hfr⟩ := hok.cell hkn
                have hsk := hbk.size
                have hput := Lib.hid (hok.putN k (bits .andNot .i64 (nth (nsIn m 3 u (nsTo m 3 n u) k) k) (nth m u)))
                by_cases e1 : k = u
                · have f1 : ((k : Int) != (u : Int)) = false := by simp [e1]
                  have Hk := Lib.hid (show nsIn m 3 u (nsTo m 3 n u) (k + 1) = nsIn m 3 u (nsTo m 3 n u) k by simp [nsIn, seesB, e1])
                  clear e1
                  go_wp2
                  go_quiet (fail)
                  go_wp2
                  go_roundw
                  case rel => exact ⟨k + 1, by omega, by go_num, by rw [Hk.out]; exact hok, below_drewN hbk _⟩
                  case measure => simp [intOf]; omega
                · have f1 : ((k : Int) != (u : Int)) = true := by simp; omega
                  by_cases e2 : k / 3 = u / 3 ∨ k % 3 = u % 3
                  · have Hk := Lib.hid (show nsIn m 3 u (nsTo m 3 n u) (k + 1) = (nsIn m 3 u (nsTo m 3 n u) k).set k (bits .andNot .i64 (nth (nsIn m 3 u (nsTo m 3 n u) k) k) (nth m u)) by simp [nsIn, seesB, e1, e2])
                    by_cases e3 : k / 3 = u / 3
                    · have f2 : ((k : Int) / 3 == (u : Int) / 3) = true := by simp; omega
                      clear e1 e2 e3
                      go_wp2
                      go_quiet (fail)
                      go_wp2
                      go_region
                      go_wp2
                      go_roundw
                      case rel => exact ⟨k + 1, by omega, by go_num, by rw [Hk.out]; exact hput.out, Below.setCell (p := (⟨g, k, none⟩ : Addr)) (below_drewN hbk _) hgl _⟩
                      case measure => simp [intOf]; omega
                    · have f2 : ((k : Int) / 3 == (u : Int) / 3) = false := by simp; omega
                      have f3 : ((k : Int) % 3 == (u : Int) % 3) = true := by simp; omega
                      clear e1 e2 e3
                      go_wp2
                      go_quiet (fail)
                      go_wp2
                      go_region
                      go_wp2
                      go_roundw
                      case rel => exact ⟨k + 1, by omega, by go_num, by rw [Hk.out]; exact hput.out, Below.setCell (p := (⟨g, k, none⟩ : Addr)) (below_drewN hbk _) hgl _⟩
                      case measure => simp [intOf]; omega
                  · have f2 : ((k : Int) / 3 == (u : Int) / 3) = false := by simp; omega
                    have f3 : ((k : Int) % 3 == (u : Int) % 3) = false := by simp; omega
                    have Hk := Lib.hid (show nsIn m 3 u (nsTo m 3 n u) (k + 1) = nsIn m 3 u (nsTo m 3 n u) k by
                      have e4 : ¬ k / 3 = u / 3 := fun e => e2 (.inl e)
                      have e5 : ¬ k % 3 = u % 3 := fun e => e2 (.inr e)
                      simp [nsIn, seesB, e4, e5])
                    clear e1 e2
                    go_wp2
                    go_quiet (fail)
                    go_wp2
                    go_roundw
                    case rel => exact ⟨k + 1, by omega, by go_num, by rw [Hk.out]; exact hok, below_drewN hbk _⟩
                    case measure => simp [intOf]; omega
              · obtain rfl : k = n := by omega
                go_wp2
                go_roundw
                case rel => exact ⟨u + 1, by omega, by go_num, by rw [Hs.out]; exact hok, hbk⟩
                case measure => simp [intOf]; omega
          · have hq1 : ((q : Int) != 1) = true := by simp; omega
            have Hs := Lib.hid (show nsTo m 3 n (u + 1) = nsTo m 3 n u by simp only [nsTo]; rw [if_neg (by rw [← Hq.out]; exact h1)])
            go_wp2_with (go_at_call 127; refine HMv2.out.mono ?_; rintro e w3 ⟨A3, c3, rfl, hb3⟩)
            go_roundw
            case rel => exact ⟨u + 1, by omega, by go_num, by rw [Hs.out]; exact ho.below hb3, hb.trans (hb3.mono hsw)⟩
            case measure => simp [intOf]; omega
        · obtain rfl : u = n := by omega
          go_wp2
          go_ret
          rw [HL.out]
          have hnl := Lib.hid (nsTo_len m 3 u u)
          exact ⟨_, _, by rw [hnl.out, hlen.out]; rfl, by rw [hnl.out, hlen.out]; exact ho, hb⟩
    · have HL := Lib.hid (show nsL m 4 n = nsTo m 4 n n by simp [nsL, hv])
      have Hv := Lib.hid hv
      clear hv
      go_enter Tryz.func118, Tryz.ntmps118
      go_wp2_with (first
        | (go_at_call 30; refine HV.out.mono ?_; rintro e w1 ⟨rfl, hb1⟩; rw [Hv.out])
        | (go_at_call 68; refine (HCp.out _ hb1).mono ?_; rintro e w2 ⟨Ac, cc, rfl, ho2, hb2⟩))
      have hb12 := step hb1 hb2
      have ho2' := ho2.mono hb1.size
      go_loopw [6] (fun i wr => ∃ u : Nat, u ≤ n ∧ i = .int .i64 u ∧ Ow wr w.heap.size Ac n cc (nsTo m 4 n u) ∧ Below w.heap.size w wr) (fun i _ => n - (intOf i).toNat)
      case atStart => exact ⟨0, Nat.zero_le _, rfl, ho2', hb12⟩
      case round =>
        obtain ⟨u, hu, rfl, ho, hb⟩ := hrel
        by_cases hlt : u < n
        · obtain ⟨b, off, hA, hbB, hck⟩ := (h.below (hb.mono hB)).at_ hlt
          subst hA
          have hbw : b < w.heap.size := Nat.lt_of_lt_of_le hbB hB
          have hbwr : b < wr.heap.size := Nat.lt_of_lt_of_le hbw hb.size
          obtain ⟨g, rfl, hgl, hgw⟩ := ho.form (by omega)
          have HMv := Lib.hid (specMaskValues (nth m u) wr (h64.out u hlt))
          obtain ⟨q, hq⟩ : ∃ q, q = (maskVals (nth m u)).length := ⟨_, rfl⟩
          have Hq := Lib.hid hq
          have HMv2 : Hid (Calls Tryz.prog 127 #[.int .i64 (nth m u)] wr fun e w'' => ∃ A3 c3, e = .returned (.slice A3 q c3) ∧ Below wr.heap.size wr w'') := Lib.hid (HMv.out.mono (by rintro e w'' ⟨A3, c3, rfl, _, hb3⟩; exact ⟨A3, c3, by rw [hq], hb3⟩))
          clear hq HMv
          have hsw := hb.size
          by_cases h1 : q = 1
          · have hq1 : ((q : Int) != 1) = false := by simp [h1]
            have Hs := Lib.hid (show nsTo m 4 n (u + 1) = nsIn m 4 u (nsTo m 4 n u) n by simp only [nsTo]; rw [if_pos (by rw [← Hq.out]; exact h1)])
            clear h1
            go_wp2_with (go_at_call 127; refine HMv2.out.mono ?_; rintro e w3 ⟨A3, c3, rfl, hb3⟩)
            have ho3 := ho.below hb3
            have hb03 := hb.trans (hb3.mono hsw)
            go_loopw [7] (fun j wr => ∃ k : Nat, k ≤ n ∧ j = .int .i64 k ∧ Ow wr w.heap.size (some ⟨g, 0, none⟩) n cc (nsIn m 4 u (nsTo m 4 n u) k) ∧ Below w.heap.size w wr) (fun j _ => n - (intOf j).toNat)
            case atStart => exact ⟨0, Nat.zero_le _, rfl, ho3, hb03⟩
            case round =>
              clear ho3 hb03 hck
              obtain ⟨k, hk, rfl, hok, hbk⟩ := hrel
              by_cases hkn : k < n
              · have hck : wr.cell? ⟨b, off + u, none⟩ = some (.int .i64 (nth m u)) := by
                  obtain ⟨b', off', hA', _, hck'⟩ := (h.below (hbk.mono hB)).at_ hlt
                  cases hA'
                  exact hck'
                obtain ⟨hcell, hfr⟩ := hok.cell hkn
                have hsk := hbk.size
                have hput := Lib.hid (hok.putN k (bits .andNot .i64 (nth (nsIn m 4 u (nsTo m 4 n u) k) k) (nth m u)))
                by_cases e1 : k = u
                · have f1 : ((k : Int) != (u : Int)) = false := by simp [e1]
                  have Hk := Lib.hid (show nsIn m 4 u (nsTo m 4 n u) (k + 1) = nsIn m 4 u (nsTo m 4 n u) k by simp [nsIn, seesB, e1])
                  clear e1
                  go_wp2
                  go_quiet (fail)
                  go_wp2
                  go_roundw
                  case rel => exact ⟨k + 1, by omega, by go_num, by rw [Hk.out]; exact hok, below_drewN hbk _⟩
                  case measure => simp [intOf]; omega
                · have f1 : ((k : Int) != (u : Int)) = true := by simp; omega
                  by_cases e2 : k / 4 = u / 4 ∨ k % 4 = u % 4
                  · have Hk := Lib.hid (show nsIn m 4 u (nsTo m 4 n u) (k + 1) = (nsIn m 4 u (nsTo m 4 n u) k).set k (bits .andNot .i64 (nth (nsIn m 4 u (nsTo m 4 n u) k) k) (nth m u)) by simp [nsIn, seesB, e1, e2])
                    by_cases e3 : k / 4 = u / 4
                    · have f2 : ((k : Int) / 4 == (u : Int) / 4) = true := by simp; omega
                      clear e1 e2 e3
                      go_wp2
                      go_quiet (fail)
                      go_wp2
                      go_region
                      go_wp2
                      go_roundw
                      case rel => exact ⟨k + 1, by omega, by go_num, by rw [Hk.out]; exact hput.out, Below.setCell (p := (⟨g, k, none⟩ : Addr)) (below_drewN hbk _) hgl _⟩
                      case measure => simp [intOf]; omega
                    · have f2 : ((k : Int) / 4 == (u : Int) / 4) = false := by simp; omega
                      have f3 : ((k : Int) % 4 == (u : Int) % 4) = true := by simp; omega
                      clear e1 e2 e3
                      go_wp2
                      go_quiet (fail)
                      go_wp2
                      go_region
                      go_wp2
                      go_roundw
                      case rel => exact ⟨k + 1, by omega, by go_num, by rw [Hk.out]; exact hput.out, Below.setCell (p := (⟨g, k, none⟩ : Addr)) (below_drewN hbk _) hgl _⟩
                      case measure => simp [intOf]; omega
                  · have f2 : ((k : Int) / 4 == (u : Int) / 4) = false := by simp; omega
                    have f3 : ((k : Int) % 4 == (u : Int) % 4) = false := by simp; omega
                    have Hk := Lib.hid (show nsIn m 4 u (nsTo m 4 n u) (k + 1) = nsIn m 4 u (nsTo m 4 n u) k by
                      have e4 : ¬ k / 4 = u / 4 := fun e => e2 (.inl e)
                      have e5 : ¬ k % 4 = u % 4 := fun e => e2 (.inr e)
                      simp [nsIn, seesB, e4, e5])
                    clear e1 e2
                    go_wp2
                    go_quiet (fail)
                    go_wp2
                    go_roundw
                    case rel => exact ⟨k + 1, by omega, by go_num, by rw [Hk.out]; exact hok, below_drewN hbk _⟩
                    case measure => simp [intOf]; omega
              · obtain rfl : k = n := by omega
                go_wp2
                go_roundw
                case rel => exact ⟨u + 1, by omega, by go_num, by rw [Hs.out]; exact hok, hbk⟩
                case measure => simp [intOf]; omega
          · have hq1 : ((q : Int) != 1) = true := by simp; omega
            have Hs := Lib.hid (show nsTo m 4 n (u + 1) = nsTo m 4 n u by simp only [nsTo]; rw [if_neg (by rw [← Hq.out]; exact h1)])
            go_wp2_with (go_at_call 127; refine HMv2.out.mono ?_; rintro e w3 ⟨A3, c3, rfl, hb3⟩)
            go_roundw
            case rel => exact ⟨u + 1, by omega, by go_num, by rw [Hs.out]; exact ho.below hb3, hb.trans (hb3.mono hsw)⟩
            case measure => simp [intOf]; omega
        · obtain rfl : u = n := by omega
          go_wp2
          go_ret
          rw [HL.out]
          have hnl := Lib.hid (nsTo_len m 4 u u)
          exact ⟨_, _, by rw [hnl.out, hlen.out]; rfl, by rw [hnl.out, hlen.out]; exact ho, hb⟩
end Go.Proofs.YtcjdjcpappfkgaaGreatDoor
