import Derived.Test.YtoejpodchlepiaaYClash
import Derived.Deep.QuietTactic
import Derived.BigQuiet
import Derived.Test.YtoejpodchlepiaaBase
import Derived.Deep.Upon
import Derived.Deep.RegionHeld3
import Derived.Test.YtoejpodchlepiaaYR4H
namespace Go.Proofs.Ytoejpodchlepiaa
open Go.ChangeShapes Go.WideShapes Go.ChangeAt Go.RowKit

/-- the values 1..v whose powers are in a mask. -/
def bitsTo (M : Nat) : Nat → List Int
  | 0 => []
  | v + 1 => bitsTo M v ++ (if M.testBit (v + 1) = true then [(v : Int) + 1] else [])
def mvOk (m : Int) : Bool := inr m 0 30 && (m.tmod 2 == 0)
def maskVals (m : Int) : List Int := if mvOk m = true then bitsTo m.toNat 4 else []
theorem bitsTo_length (M v : Nat) : (bitsTo M v).length ≤ v := by
  induction v with
  | zero => simp [bitsTo]
  | succ v ih => simp only [bitsTo, List.length_append]; split <;> simp <;> omega
theorem maskVals_length (m : Int) : (maskVals m).length ≤ 4 := by
  unfold maskVals
  split
  · exact bitsTo_length _ 4
  · simp
theorem shr_bit (M v : Nat) : ((((M : Nat) : Int) / 2 ^ v).tmod 2 == 1) = M.testBit v := by
  rw [Nat.testBit_eq_decide_div_mod_eq]
  have e : (((M : Nat) : Int) / 2 ^ v) = ((M / 2 ^ v : Nat) : Int) := by simp
  rw [e, Int.tmod_eq_emod_of_nonneg (Int.natCast_nonneg _)]
  rw [Bool.eq_iff_iff]
  simp
  omega

theorem specMaskValues (m : Int) (w : World) (hm : -9223372036854775808 ≤ m ∧ m ≤ 9223372036854775807) : Calls Try.prog 97 #[.int .i64 m] w (RetSl w (maskVals m)) := by
  cases hok : mvOk m
  · have HL := Lib.hid (show maskVals m = [] by simp [maskVals, hok])
    have hor : inr m 0 30 = false ∨ (m.tmod 2 == 0) = false := by
      simp only [mvOk, Bool.and_eq_false_iff] at hok
      exact hok
    go_enter Try.func97, Try.ntmps97
    go_wp2
    go_loopw [3, 4] (fun v i wr => i = .int .i64 1 ∧ v = .slice (some ⟨w.heap.size, 0, none⟩) 0 0 ∧ wr = w.alloc (.cells #[] 3)) (fun _ _ _ => 0)
    case atStart => exact ⟨rfl, rfl, rfl⟩
    case round =>
      obtain ⟨rfl, rfl, rfl⟩ := hrel
      cases hi : inr m 0 30
      · go_wp2_with (go_at_call 79; refine (l1In_any _ _ _ _).mono ?_; rintro e w' ⟨rfl, rfl⟩)
        go_ret
        rw [HL.out]
        exact ⟨_, _, rfl, Ow.made0 _ _ (Nat.le_refl _), (Below.refl _ _).alloc (Nat.le_refl _) _⟩
      · have hmod : (m.tmod 2 == 0) = false := by
          rcases hor with h | h
          · rw [hi] at h; cases h
          · exact h
        obtain ⟨m0, m1⟩ := inr_t hi
        have hmod2 : (m % 2 == 0) = false := by rw [← Int.tmod_eq_emod_of_nonneg m0]; exact hmod
        clear hor
        go_wp2_with (go_at_call 79; refine (l1In_any _ _ _ _).mono ?_; rintro e w' ⟨rfl, rfl⟩)
        go_ret
        rw [HL.out]
        exact ⟨_, _, rfl, Ow.made0 _ _ (Nat.le_refl _), (Below.refl _ _).alloc (Nat.le_refl _) _⟩
  · have hok' := hok
    simp only [mvOk, Bool.and_eq_true] at hok'
    obtain ⟨hi, hmod⟩ := hok'
    obtain ⟨m0, m1⟩ := inr_t hi
    obtain ⟨M, rfl⟩ := Int.eq_ofNat_of_zero_le m0
    have HL := Lib.hid (show maskVals M = bitsTo M 4 by simp [maskVals, hok])
    have hmod2 : ((M : Int) % 2 == 0) = true := by rw [← Int.tmod_eq_emod_of_nonneg m0]; exact hmod
    clear hmod hok
    go_enter Try.func97, Try.ntmps97
    go_wp2
    go_loopw [3, 4] (fun v i wr => ∃ u : Nat, u ≤ 4 ∧ i = .int .i64 ((u : Int) + 1) ∧ OwV wr w.heap.size v (bitsTo M u) ∧ Below w.heap.size w wr) (fun _ i _ => (5 - intOf i).toNat)
    case atStart => exact ⟨0, by omega, rfl, ⟨_, _, rfl, Ow.made0 _ _ (Nat.le_refl _)⟩, (Below.refl _ _).alloc (Nat.le_refl _) _⟩
    case round =>
      obtain ⟨u, hu, rfl, ⟨A', c', rfl, ho⟩, hb⟩ := hrel
      have hmb := bitsTo_length M u
      have hkb : (bitsTo M u).length ≤ 1099511627776 := by omega
      by_cases hlt : u < 4
      · have hstep : bitsTo M (u + 1) = bitsTo M u ++ (if M.testBit (u + 1) = true then [(u : Int) + 1] else []) := rfl
        have hsh := shr_bit M (u + 1)
        cases hh : M.testBit (u + 1)
        · rw [hh] at hstep hsh
          have Hst := Lib.hid (show bitsTo M (u + 1) = bitsTo M u by rw [hstep]; simp)
          clear hh hstep
          go_wp2_with (go_at_call 79; refine (l1In_any _ _ _ _).mono ?_; rintro e w' ⟨rfl, rfl⟩)
          go_roundw
          case rel => exact ⟨u + 1, by omega, by go_num, ⟨A', c', by rw [Hst.out], by rw [Hst.out]; exact ho⟩, hb⟩
          case measure => simp [intOf]; omega
        · rw [hh] at hstep hsh
          have Hst := Lib.hid (show bitsTo M (u + 1) = bitsTo M u ++ [(u : Int) + 1] from hstep)
          clear hh hstep
          go_wp2_with (first
            | (go_at_call 79; refine (l1In_any _ _ _ _).mono ?_; rintro e w' ⟨rfl, rfl⟩)
            | (at_builtin; refine push_int rfl (.tmp 24) (.tmp 26) rfl w.heap.size A' _ c' (bitsTo M u) _ rfl rfl ho hkb hb.size ?_; intro A'' c'' w1 ho1 hg1))
          have ho2 : OwV w1 w.heap.size (.slice A'' ((bitsTo M u).length + 1) c'') (bitsTo M (u + 1)) := by
            refine ⟨A'', c'', by rw [Hst.out, List.length_append]; rfl, ?_⟩
            rw [Hst.out, List.length_append]
            exact ho1
          have hb2 := push_below hb ho (Nat.le_refl _) hb.size hg1
          clear ho1 hg1
          go_roundw
          case rel => exact ⟨u + 1, by omega, by go_num, ho2, hb2⟩
          case measure => simp [intOf]; omega
      · obtain rfl : u = 4 := by omega
        go_wp2_with (go_at_call 79; refine (l1In_any _ _ _ _).mono ?_; rintro e w' ⟨rfl, rfl⟩)
        go_ret
        rw [HL.out]
        exact retSl_mk ho hb

theorem and7 (a : Int) (ha : -9223372036854775808 ≤ a ∧ a ≤ 9223372036854775807) : ∃ n : Nat, bits .and .i64 a 7 = (n : Int) ∧ n ≤ 7 ∧ (0 ≤ a → a ≤ 7 → (n : Int) = a) := by
  have h7 : (BitVec.ofInt 64 7).toNat = 7 := by decide
  have hx : ((BitVec.ofInt 64 a).toNat &&& 7) ≤ 7 := Nat.and_le_right
  have e : bits .and .i64 a 7 = (((BitVec.ofInt 64 a).toNat &&& 7 : Nat) : Int) := by
    show IntKind.i64.wrap ((BitVec.ofInt 64 a &&& BitVec.ofInt 64 7).toNat : Int) = _
    rw [BitVec.toNat_and, h7, IntKind.wrap_i64]
    omega
  refine ⟨_, e, hx, fun h0 h1 => ?_⟩
  obtain ⟨k, rfl⟩ := Int.eq_ofNat_of_zero_le h0
  rw [ofInt_i64 k (by omega)]
  have key : ∀ k, k < 8 → k &&& 7 = k := by decide
  rw [key k (by omega)]

/-- masks of a size. -/
def mkOk (T : Int) (x : Int) : Bool := inr x 0 T && (x.tmod 2 == 0)
def mvd (xs : List Int) (size : Int) : Bool := inr size 2 4 && ((xs.length : Int) == size * size) && xs.all (mkOk (2 ^ (size.toNat + 1) - 2))
def allTo (p : Int → Bool) (xs : List Int) (k : Nat) : Prop := ∀ j, j < k → p (nth xs j) = true
theorem allTo_succ {p : Int → Bool} {xs : List Int} {k : Nat} (h : allTo p xs k) (hv : p (nth xs k) = true) : allTo p xs (k + 1) := fun j hj => by
  by_cases e : j = k
  · subst e; exact hv
  · exact h j (by omega)
theorem allTo_all {p : Int → Bool} {xs : List Int} {n : Nat} (h : allTo p xs n) (hn : xs.length = n) : xs.all p = true := by
  subst hn
  rw [List.all_eq_true]
  intro x hx
  obtain ⟨j, hj, rfl⟩ := List.getElem_of_mem hx
  have := h j hj
  simpa [nth, List.getD_eq_getElem?_getD, hj] using this
theorem all_not {p : Int → Bool} {xs : List Int} {n k : Nat} (hn : xs.length = n) (hk : k < n) (h : p (nth xs k) = false) : xs.all p = false := by
  subst hn
  rw [List.all_eq_false]
  exact ⟨xs[k], List.getElem_mem hk, by simpa [nth, List.getD_eq_getElem?_getD, hk] using h⟩
theorem two_pow_int (a : Nat) (h : a ≤ 7) : wrap64 (wrap64 (2 ^ (a + 1)) - 2) = (2 : Int) ^ (a + 1) - 2 ∧ 0 ≤ (2 : Int) ^ (a + 1) - 2 ∧ (2 : Int) ^ (a + 1) - 2 ≤ 254 := by
  have : a = 0 ∨ a = 1 ∨ a = 2 ∨ a = 3 ∨ a = 4 ∨ a = 5 ∨ a = 6 ∨ a = 7 := by omega
  have hb : 0 ≤ (2 : Int) ^ (a + 1) - 2 ∧ (2 : Int) ^ (a + 1) - 2 ≤ 254 := by
    rcases this with rfl | rfl | rfl | rfl | rfl | rfl | rfl | rfl <;> decide
  refine ⟨?_, hb⟩
  rw [IntWalk.wrap64_in (2 ^ (a + 1)) ⟨by omega, by omega⟩]
  exact IntWalk.wrap64_in _ ⟨by omega, by omega⟩

theorem l1In_q (n lo hi : Int) (w : World) : Calls Try.prog 79 #[.int .i64 n, .int .i64 lo, .int .i64 hi] w fun e w' => e = .returned (.bool (inr n lo hi)) ∧ w' = w :=
  (l1In_any n lo hi w).mono fun _ _ h => ⟨h.1, h.2.symm⟩
theorem specMasksValid (A : Option Addr) (c n B : Nat) (xs : List Int) (size : Int) (w : World) (h : Rd w B A n xs) (hB : B ≤ w.heap.size) (hm : n ≤ 1099511627776) (hs : -9223372036854775808 ≤ size ∧ size ≤ 9223372036854775807) :
    Calls Try.prog 63 #[.slice A n c, .int .i64 size] w fun e w' => e = .returned (.bool (mvd xs size)) ∧ Below w.heap.size w w' := by
  obtain ⟨a, ha, a7, has⟩ := and7 size hs
  obtain ⟨e1, t0, t1⟩ := two_pow_int a a7
  have hlen := Lib.hid h.1
  have Has := Lib.hid has; clear has
  have hpw : (2 : Int) ^ (a + 1) ≤ 256 := by omega
  have hpw0 : (2 : Int) ≤ (2 : Int) ^ (a + 1) := by omega
  go_enter Try.func63, Try.ntmps63
  go_wp2
  go_loopw [5] (fun i wr => ∃ k : Nat, k ≤ n ∧ i = .int .i64 k ∧ Hid (allTo (mkOk (2 ^ (a + 1) - 2)) xs k) ∧ Below w.heap.size w wr) (fun i _ => n - (intOf i).toNat)
  case atStart => exact ⟨0, Nat.zero_le _, rfl, Lib.hid (fun j hj => absurd hj (by omega)), Below.refl _ _⟩
  case round =>
    obtain ⟨k, hk, rfl, hall, hb⟩ := hrel
    by_cases hlt : k < n
    · obtain ⟨b, off, rfl, hbB, hck⟩ := (h.below (hb.mono hB)).at_ hlt
      have hltI : (k : Int) < (n : Int) := by omega
      have w1 : IntKind.i64.wrap ((a : Int) + 1) = (a : Int) + 1 := IntWalk.i64_in _ (by omega)
      have w2 : ((a : Int) + 1).toNat = a + 1 := by omega
      have w5 : IntKind.i64.wrap (2 ^ (a + 1)) = (2 : Int) ^ (a + 1) := IntWalk.i64_in _ (by omega)
      have w3 : IntKind.i64.wrap ((2 : Int) ^ (a + 1) - 2) = (2 : Int) ^ (a + 1) - 2 := IntWalk.i64_in _ (by omega)
      have w4 : (0 : Int) ≤ (a : Int) + 1 := by omega
      have hbad : mkOk (2 ^ (a + 1) - 2) (nth xs k) = false → mvd xs size = false := fun hf => by
        unfold mvd
        cases hi : inr size 2 4
        · rfl
        · obtain ⟨s2, s4⟩ := inr_t hi
          have : size.toNat = a := by have := Has.out (by omega) (by omega); omega
          rw [this, all_not hlen.out hlt hf, Bool.and_false]
      have Hbad := Lib.hid hbad; clear hbad
      cases hi : inr (nth xs k) 0 (2 ^ (a + 1) - 2)
      · have Hf := Lib.hid (Hbad.out (by simp [mkOk, hi]))
        go_wp2
        go_quiet ((go_at_call 79; exact Calls.quiet_of_same (l1In_q _ _ _ _)))
        go_wp2
        go_ret
        exact ⟨by rw [Hf.out]; rfl, below_drewN hb _⟩
      · obtain ⟨x0, x1⟩ := inr_t hi
        have e2 : (nth xs k).tmod 2 = nth xs k % 2 := Int.tmod_eq_emod_of_nonneg x0
        cases hmod : (nth xs k % 2 == 0)
        · have Hf := Lib.hid (Hbad.out (by simp only [mkOk, hi, e2, hmod]; rfl))
          have hmod' : (nth xs k % 2 != 0) = true := by simp [bne, hmod]
          go_wp2
          go_quiet ((go_at_call 79; exact Calls.quiet_of_same (l1In_q _ _ _ _)))
          go_wp2
          go_ret
          exact ⟨by rw [Hf.out]; rfl, below_drewN hb _⟩
        · have hn2 := Lib.hid (allTo_succ hall.out (by simp only [mkOk, hi, e2, hmod]; rfl))
          have hmod' : (nth xs k % 2 != 0) = false := by simp [bne, hmod]
          clear e2 hmod
          go_wp2
          go_quiet ((go_at_call 79; exact Calls.quiet_of_same (l1In_q _ _ _ _)))
          go_wp2
          go_roundw
          case rel => exact ⟨k + 1, by omega, by go_num, hn2, below_drewN hb _⟩
          case measure => simp [intOf]; omega
    · obtain rfl : k = n := by omega
      have hall2 := Lib.hid (allTo_all hall.out hlen.out)
      cases hi : inr size 2 4
      · have Hf := Lib.hid (show mvd xs size = false by simp [mvd, hi])
        go_wp2_with (go_at_call 79; refine (l1In_any _ _ _ _).mono ?_; rintro e w' ⟨rfl, rfl⟩)
        go_ret
        exact ⟨by rw [Hf.out]; rfl, hb⟩
      · obtain ⟨h2, h4⟩ := inr_t hi
        have hw := sq_wrap h2 h4
        have Hf := Lib.hid (show mvd xs size = ((k : Int) == size * size) by
          have : size.toNat = a := by have := Has.out (by omega) (by omega); omega
          simp only [mvd, hi, this, hall2.out, hlen.out]
          simp)
        go_wp2_with (go_at_call 79; refine (l1In_any _ _ _ _).mono ?_; rintro e w' ⟨rfl, rfl⟩)
        go_ret
        exact ⟨by rw [Hf.out]; rfl, hb⟩
end Go.Proofs.Ytoejpodchlepiaa
namespace Go.Proofs.Ytoejpodchlepiaa
open Go.ChangeShapes Go.WideShapes Go.ChangeAt Go.RowKit

/-- the cells of the row and of the column of a cell. -/
def rIx (s : Int) (k j : Nat) : Int := (k : Int) / s * s + j
def cIx (s : Int) (k j : Nat) : Int := (j : Int) * s + (k : Int) % s
def ok3 (xs : List Int) (s : Int) (k : Nat) (v : Int) (j : Nat) : Bool := (rIx s k j == (k : Int) || nth xs (rIx s k j).toNat != v) && (cIx s k j == (k : Int) || nth xs (cIx s k j).toNat != v)
def okTo3 (xs : List Int) (s : Int) (k : Nat) (v : Int) : Nat → Bool
  | 0 => true
  | j + 1 => okTo3 xs s k v j && ok3 xs s k v j
def candTo (xs : List Int) (s : Int) (k : Nat) : Nat → Nat
  | 0 => 0
  | v + 1 => if okTo3 xs s k ((v : Int) + 1) s.toNat = true then candTo xs s k v ||| 2 ^ (v + 1) else candTo xs s k v
def candN (xs : List Int) (s : Int) (k : Nat) : Nat := if 0 < nth xs k then 2 ^ (nth xs k).toNat else candTo xs s k s.toNat
def candG (xs : List Int) (s : Int) (k : Nat) : Int := (candN xs s k : Int)
def candL (xs : List Int) (s : Int) : List Int := if gv xs s = true then mapTo (candG xs s) xs.length else []
theorem candTo_lt (xs : List Int) (s : Int) (k v : Nat) (hv : v ≤ 4) : candTo xs s k v < 32 := by
  induction v with
  | zero => simp [candTo]
  | succ v ih =>
    simp only [candTo]
    split
    · exact Nat.or_lt_two_pow (n := 5) (ih (by omega)) (Nat.pow_lt_pow_right (by omega) (by omega))
    · exact ih (by omega)
theorem or_int (a v : Nat) (ha : a < 32) (hv : v ≤ 4) : bits .or .i64 (a : Int) (wrap64 (2 ^ v)) = ((a ||| 2 ^ v : Nat) : Int) := by
  have hlt : 2 ^ v < 2 ^ 5 := Nat.pow_lt_pow_right (by omega) (by omega)
  have c : ((2 : Int) ^ v) = ((2 ^ v : Nat) : Int) := by simp
  rw [c]
  generalize 2 ^ v = p at *
  rw [IntWalk.wrap64_in _ ⟨by omega, by omega⟩, i64_or_nat _ _ (by omega) (by omega)]
theorem two_pow_nat (v : Nat) (hv : v ≤ 4) : wrap64 (2 ^ v) = ((2 ^ v : Nat) : Int) := by
  have hlt : 2 ^ v < 2 ^ 5 := Nat.pow_lt_pow_right (by omega) (by omega)
  have c : ((2 : Int) ^ v) = ((2 ^ v : Nat) : Int) := by simp
  rw [c]
  generalize 2 ^ v = p at *
  exact IntWalk.wrap64_in _ ⟨by omega, by omega⟩
theorem ix_facts {s : Int} {n k j : Nat} (h2 : 2 ≤ s) (h4 : s ≤ 4) (hn : (n : Int) = s * s) (hk : k < n) (hj : (j : Int) < s) :
    (0 ≤ rIx s k j ∧ rIx s k j < n) ∧ (0 ≤ cIx s k j ∧ cIx s k j < n) ∧ (0 ≤ (k : Int) / s ∧ (k : Int) / s < s) ∧ (0 ≤ (k : Int) % s ∧ (k : Int) % s < s) := by
  unfold rIx cIx
  have : s = 2 ∨ s = 3 ∨ s = 4 := by omega
  rcases this with rfl | rfl | rfl <;> omega

end Go.Proofs.Ytoejpodchlepiaa
namespace Go.Proofs.Ytoejpodchlepiaa
open Go.ChangeShapes Go.WideShapes Go.ChangeAt Go.RowKit

theorem Rd.news {w : World} {B b off m : Nat} {ys : List Int} (hr : Rd w B (some ⟨b, off, none⟩) m ys) : ∀ j u, (vals ys)[j]? = some u → w.cell? ((⟨b, off, none⟩ : Addr).add j) = some u := by
  intro j u hj
  have hjl : j < ys.length := by
    have := (List.getElem?_eq_some_iff.1 hj).1
    rwa [vals_length] at this
  rw [vals_get hjl] at hj
  injection hj with hj
  subst hj
  have hjm : j < m := by rw [← hr.1]; exact hjl
  obtain ⟨b', off', he, _, hc⟩ := hr.at_ hjm
  cases he
  rw [← hc]
  unfold Addr.add
  by_cases h0 : j = 0
  · subst h0; simp
  · simp [h0]
theorem vals_one (ys : List Int) : ∀ u ∈ vals ys, u.oneCell' = true := by
  intro u hu
  simp only [vals, List.mem_map] at hu
  obtain ⟨y, _, rfl⟩ := hu
  rfl
/-- 'append(s, t...)' to a slice of the call's own: t may be empty if s is. -/
theorem run_push_all {w : World} (ty : TypeId) (lo : Nat) (A : Option Addr) (n c : Nat) (xs : List Int) (A2 : Option Addr) (m c2 B : Nat) (ys : List Int) (hown : Ow w lo A n c xs) (hr : Rd w B A2 m ys) (hmn : 0 < m ∨ n = 0)
    (hn : n ≤ 1099511627776) (hm : m ≤ 1099511627776) (hlo : lo ≤ w.heap.size) :
    ∃ A' c' w', (Builtin.append_ #[23, 23] ty #[.slice A n c, .slice A2 m c2]).run Try.prog w = .ok (.slice A' (n + m) c') w' ∧ Ow w' lo A' (n + m) c' (xs ++ ys) ∧ w.grownBy w' (Value.slice A n c).ownBlock ∧ (∀ g, (Value.slice A' (n + m) c').ownBlock = some g → (Value.slice A n c).ownBlock = some g ∨ g = w.heap.size) := by
  obtain ⟨i0, hi, hz0, hz1, hz2⟩ := info_parts int_info
  by_cases h0 : 0 < m
  · obtain ⟨b, off, rfl, _, _⟩ := hr.at_ h0
    obtain ⟨g, cap, w', hrun, h2, h3, h4, h5⟩ := run_append_lies (P := Try.prog) w 23 ty lo 3 i0 (.int .i64 0) 1 8 Try.underlying23 hi hz0 hz1 hz2 rfl (by decide) _ n (vals xs) hown ⟨b, off, none⟩ m c2 (vals ys) (by rw [vals_length, hr.1]; omega) hr.news (vals_one ys) h0 (by simp only [maxLen]; omega) (by omega) hlo _ rfl
    refine ⟨some ⟨g, 0, none⟩, cap, w', hrun, ?_, h3, ?_⟩
    · unfold Ow
      rw [show vals (xs ++ ys) = vals xs ++ vals ys by simp [vals]]
      exact h2
    · intro g' hg'
      have : g' = g := by simp [Value.ownBlock] at hg'; omega
      subst this
      exact h4
  · obtain rfl : m = 0 := by omega
    obtain rfl : n = 0 := by omega
    have hy : ys = [] := List.eq_nil_of_length_eq_zero hr.1
    subst hy
    have hsrc : Go.Src Try.prog i0.size 23 (.slice A2 0 c2) 0 [] w := by
      cases A2 with
      | none => exact Go.Src.ofNil w Try.underlying23 c2
      | some a => exact Go.Src.ofSlice w Try.underlying23 a 0 c2 [] (by simp) (fun j u hj => by simp at hj) (fun u hu => by simp at hu)
    refine ⟨A, c, w, run_append_nothing w 23 23 ty 3 i0 Try.underlying23 hi A 0 c (Nat.zero_le _) _ hsrc, ?_, World.grownBy.refl _ _, fun g hg => .inl hg⟩
    rw [List.append_nil]
    exact hown
/-- at a step of a region that draws its order. -/
theorem step_push_all {w : World} {ops : Array Oper} {o : Oper} {a : Act} {K : Act → World → Prop} {Q : Exit → Act → World → Prop} {E : Prop} (hgd : o.guard = none) (s x : Operand)
    (ho : o.op = .call { callee := .builtin .append, args := #[s, x], argTypes := #[23, 23] })
    (lo : Nat) (A : Option Addr) (n c : Nat) (xs : List Int) (A2 : Option Addr) (m c2 B : Nat) (ys : List Int) (hs : a.eval s = .slice A n c) (hx : a.eval x = .slice A2 m c2) (hown : Ow w lo A n c xs) (hr : Rd w B A2 m ys) (hmn : 0 < m ∨ n = 0)
    (hn : n ≤ 1099511627776) (hm : m ≤ 1099511627776) (hlo : lo ≤ w.heap.size)
    (h : ∀ A' c' w', Ow w' lo A' (n + m) c' (xs ++ ys) → w.grownBy w' (Value.slice A n c).ownBlock → (∀ g, (Value.slice A' (n + m) c').ownBlock = some g → (Value.slice A n c).ownBlock = some g ∨ g = w.heap.size) → K (a.put o.dst (.slice A' (n + m) c')) w') :
    if Region.wanted o (yielded ops a.tmps) = true then Oper.wp Try.prog o a w K Q else E := by
  obtain ⟨A', c', w', hrun, h1, h2, h3⟩ := run_push_all o.type lo A n c xs A2 m c2 B ys hown hr hmn hn hm hlo
  have hw : Region.wanted o (yielded ops a.tmps) = true := by simp [Region.wanted, hgd]
  rw [if_pos hw]
  unfold Oper.wp execOp
  simp only [ho, resolve, invoke, builtin, Sem.run_bind, Sem.run_pure, Result.andThen_ok, List.map_toArray, List.map_cons, List.map_nil, hs, hx, hrun]
  exact h A' c' w' h1 h2 h3
/-- 'append([]int{}, t...)' at such a step. -/
theorem step_push_new {w : World} {ops : Array Oper} {o : Oper} {a : Act} {K : Act → World → Prop} {Q : Exit → Act → World → Prop} {E : Prop} (hgd : o.guard = none) (s x : Operand)
    (ho : o.op = .call { callee := .builtin .append, args := #[s, x], argTypes := #[23, 23] })
    (lo : Nat) (A : Option Addr) (A2 : Option Addr) (m c2 B : Nat) (ys : List Int) (hs : a.eval s = .slice A 0 0) (hx : a.eval x = .slice A2 m c2) (hown : Ow w lo A 0 0 []) (hr : Rd w B A2 m ys)
    (hm : m ≤ 1099511627776) (hlo : lo ≤ w.heap.size)
    (h : ∀ A' c' w', Ow w' lo A' m c' ys → w.grownBy w' (Value.slice A 0 0).ownBlock → (∀ g, (Value.slice A' m c').ownBlock = some g → (Value.slice A 0 0).ownBlock = some g ∨ g = w.heap.size) → K (a.put o.dst (.slice A' m c')) w') :
    if Region.wanted o (yielded ops a.tmps) = true then Oper.wp Try.prog o a w K Q else E := by
  refine step_push_all hgd s x ho lo A 0 0 [] A2 m c2 B ys hs hx hown hr (.inr rfl) (by omega) hm hlo fun A' c' w' h1 h2 h3 => ?_
  rw [Nat.zero_add] at h1 h3 ⊢
  rw [List.nil_append] at h1
  exact h A' c' w' h1 h2 h3
end Go.Proofs.Ytoejpodchlepiaa
namespace Go.Proofs.Ytoejpodchlepiaa
open Go.ChangeShapes Go.WideShapes Go.ChangeAt Go.RowKit

def nats (F : List Nat) : List Int := F.map fun (n : Nat) => (n : Int)
theorem nats_length (F : List Nat) : (nats F).length = F.length := by simp [nats]
theorem nats_nth (F : List Nat) (i : Nat) : nth (nats F) i = ((F.getD i 0 : Nat) : Int) := by
  simp only [nth, nats, List.getD_eq_getElem?_getD, List.getElem?_map]
  cases F[i]? <;> rfl
/-- the powers of the first t values added. -/
def orTo (vs : List Int) (F : List Nat) (t : Nat) : List Nat := (List.range F.length).map fun i => if i < t then F.getD i 0 ||| 2 ^ (nth vs i).toNat else F.getD i 0
theorem orTo_length (vs : List Int) (F : List Nat) (t : Nat) : (orTo vs F t).length = F.length := by simp [orTo]
theorem orTo_zero (vs : List Int) (F : List Nat) : orTo vs F 0 = F := by
  apply List.ext_getElem (orTo_length _ _ _)
  intro i h1 h2
  simp [orTo, List.getD_eq_getElem?_getD, h2]
theorem orTo_get {vs : List Int} {F : List Nat} {t i : Nat} (h : i < F.length) : (orTo vs F t).getD i 0 = if i < t then F.getD i 0 ||| 2 ^ (nth vs i).toNat else F.getD i 0 := by
  simp [orTo, List.getD_eq_getElem?_getD, h]
theorem orTo_set (vs : List Int) (F : List Nat) (t : Nat) : (vals (nats (orTo vs F t))).set t (.int .i64 ((F.getD t 0 ||| 2 ^ (nth vs t).toNat : Nat) : Int)) = vals (nats (orTo vs F (t + 1))) := by
  apply List.ext_getElem
  · simp [vals, nats, orTo]
  · intro i h1 h2
    simp only [vals, nats, orTo, List.map_map, List.getElem_set, List.getElem_map, List.getElem_range, Function.comp]
    by_cases e : t = i
    · subst e; simp
    · rw [if_neg e]
      by_cases h : i < t
      · rw [if_pos h, if_pos (by omega)]
      · rw [if_neg h, if_neg (by omega)]
def lt32 (F : List Nat) : Prop := ∀ i, F.getD i 0 < 32
theorem orTo_lt {vs : List Int} {F : List Nat} {t n : Nat} (h : lt32 F) (hl : F.length = n) (hv : small4 vs n) : lt32 (orTo vs F t) := fun i => by
  by_cases hi : i < F.length
  · rw [orTo_get hi]
    split
    · have := hv i (by omega)
      exact Nat.or_lt_two_pow (n := 5) (h i) (Nat.pow_lt_pow_right (by omega) (by omega))
    · exact h i
  · have : (orTo vs F t).getD i 0 = 0 := by simp [List.getD_eq_getElem?_getD, List.getElem?_eq_none (by rw [orTo_length]; omega : (orTo vs F t).length ≤ i)]
    rw [this]; omega
/-- a list's elements taken one behind the other. -/
def foldN (step : Int → List Nat → List Nat) (L : List Int) : Nat → List Nat → List Nat
  | 0, F => F
  | t + 1, F => step (nth L t) (foldN step L t F)
/-- the masks with all ways in which the d cells that are left have values and the rule holds. -/
def waysF (k v : Int) (xs ms : List Int) : Nat → List Int → List Nat → List Nat
  | 0, vs, F => if holdsB k v vs = true then orTo vs F F.length else F
  | d + 1, vs, F => foldN (fun x G => waysF k v xs ms d (vs ++ [x]) G) (maskVals (nth ms (nth xs vs.length).toNat)) (maskVals (nth ms (nth xs vs.length).toNat)).length F
theorem bitsTo_small (M u : Nat) (hu : u ≤ 4) : ∀ i, i < (bitsTo M u).length → 1 ≤ nth (bitsTo M u) i ∧ nth (bitsTo M u) i ≤ 4 := by
  have key : ∀ y ∈ bitsTo M u, 1 ≤ y ∧ y ≤ (u : Int) := by
    induction u with
    | zero => intro y hy; simp [bitsTo] at hy
    | succ u ih =>
      intro y hy
      simp only [bitsTo, List.mem_append] at hy
      rcases hy with h | h
      · have := ih (by omega) y h; omega
      · split at h
        · simp at h; omega
        · simp at h
  intro i hi
  have e : nth (bitsTo M u) i = (bitsTo M u)[i] := by simp [nth, List.getD_eq_getElem?_getD, hi]
  rw [e]
  have := key _ (List.getElem_mem hi)
  omega
theorem maskVals_small (m : Int) : ∀ i, i < (maskVals m).length → 1 ≤ nth (maskVals m) i ∧ nth (maskVals m) i ≤ 4 := by
  intro i hi
  unfold maskVals at hi ⊢
  split
  · rename_i h
    rw [if_pos h] at hi
    exact bitsTo_small _ 4 (by omega) i hi
  · rename_i h
    rw [if_neg h] at hi
    simp at hi
theorem nth_push {vs : List Int} {x : Int} {n i : Nat} (hl : vs.length = n) : nth (vs ++ [x]) i = if i < n then nth vs i else if i = n then x else 0 := by
  simp only [nth, List.getD_eq_getElem?_getD]
  split
  · rw [List.getElem?_append_left (by omega)]
  · split
    · subst hl; rename_i h; subst h; simp
    · rw [List.getElem?_eq_none (by rw [List.length_append, List.length_singleton]; omega)]; rfl
theorem small4_push {vs : List Int} {x : Int} {n : Nat} (h : small4 vs n) (hl : vs.length = n) (x0 : 0 ≤ x) (x4 : x ≤ 4) : small4 (vs ++ [x]) (n + 1) := fun i hi => by
  rw [nth_push hl]
  split
  · exact h i (by omega)
  · rw [if_pos (by omega)]; exact ⟨x0, x4⟩
theorem foldN_inv {step : Int → List Nat → List Nat} {L : List Int} {P : List Nat → Prop} {m : Nat} (hs : ∀ i, i < m → ∀ F, P F → P (step (nth L i) F)) : ∀ t, t ≤ m → ∀ F, P F → P (foldN step L t F) := by
  intro t
  induction t with
  | zero => intro _ F h; exact h
  | succ t ih => intro ht F h; exact hs t (by omega) _ (ih (by omega) F h)
theorem waysF_inv (k v : Int) (xs ms : List Int) (n : Nat) : ∀ d vs F, vs.length + d = n → small4 vs vs.length → F.length = n → lt32 F → (waysF k v xs ms d vs F).length = n ∧ lt32 (waysF k v xs ms d vs F) := by
  intro d
  induction d with
  | zero =>
    intro vs F hd hv hl h
    simp only [waysF]
    split
    · exact ⟨by rw [orTo_length, hl], orTo_lt h hl (by rw [← hd]; exact hv)⟩
    · exact ⟨hl, h⟩
  | succ d ih =>
    intro vs F hd hv hl h
    simp only [waysF]
    refine foldN_inv (P := fun F => F.length = n ∧ lt32 F) (m := (maskVals (nth ms (nth xs vs.length).toNat)).length) (fun i hi F hF => ?_) _ (Nat.le_refl _) F ⟨hl, h⟩
    have := maskVals_small _ i hi
    exact ih _ F (by rw [List.length_append, List.length_singleton]; omega) (by rw [List.length_append, List.length_singleton]; exact small4_push hv rfl (by omega) (by omega)) hF.1 hF.2
theorem Rd.grown {w w' : World} {B : Nat} {A : Option Addr} {n : Nat} {xs : List Int} {G : Nat} (h : Rd w B A n xs) (hg : w.grownBy w' (some G)) (hne : ∀ b off, A = some ⟨b, off, none⟩ → b ≠ G) (hB : B ≤ w.heap.size) : Rd w' B A n xs :=
  ⟨h.1, fun hn => by
    obtain ⟨b, off, e, hlt, hc⟩ := h.2 hn
    exact ⟨b, off, e, hlt, fun k hk => (hg.cell_far ⟨b, off + k, none⟩ (by show b < _; omega) (fun e2 => hne b off e (by injection e2))).trans (hc k hk)⟩⟩
theorem grown_of_below {w w' : World} {G : Nat} (h : Below w.heap.size w w') : w.grownBy w' (some G) := ⟨h.os, h.tape, h.output, h.size, fun k hk _ => h.block k hk⟩
theorem grown_set {w : World} {G i : Nat} {v : Value} : w.grownBy (w.setCell ⟨G, i, none⟩ v) (some G) := ⟨rfl, rfl, rfl, by simp [World.setCell], fun k _ hk => heap_setCell_other w ⟨G, i, none⟩ k v (fun e => hk (by rw [e]))⟩
theorem grown_drew {w w' : World} {r : Option Nat} (h : w.grownBy w' r) : w.grownBy w'.drew r := ⟨h.os, h.tape, h.output, h.size, h.block⟩
theorem or_int' (a x : Nat) (ha : a < 32) (hx : x ≤ 4) : bits .or .i64 (a : Int) (wrap64 (2 ^ x)) = ((a ||| 2 ^ x : Nat) : Int) := or_int a x ha hx

def WaysPost (w : World) (lo G n c : Nat) (F : List Nat) (e : Ending) (w' : World) : Prop := e = .returned (.tuple #[]) ∧ Ow w' lo (some ⟨G, 0, none⟩) n c (nats F) ∧ w.grownBy w' (some G)
set_option maxHeartbeats 1000000 in
theorem ways_end (k v : Int) (xs ms : List Int) (A : Option Addr) (c n : Nat) (Am : Option Addr) (cm nm : Nat) (hk : k = 1 ∨ k = 2 ∨ k = 3 ∨ 2 ≤ n) (hn4 : n ≤ 4) (lo G cF : Nat) (A2 : Option Addr) (c2 B2 : Nat) (vs : List Int) (F : List Nat) (w : World)
    (hr2 : Rd w B2 A2 n vs) (hB2 : B2 ≤ w.heap.size) (hne2 : ∀ b off, A2 = some ⟨b, off, none⟩ → b ≠ G) (hv : Hid (small4 vs n)) (hF : Ow w lo (some ⟨G, 0, none⟩) n cF (nats F)) (hlF : F.length = n) (h32 : Hid (lt32 F)) :
    Calls Try.prog 108 #[.agg #[.int .i64 k, .slice A n c, .int .i64 v], .slice Am nm cm, .slice A2 n c2, .slice (some ⟨G, 0, none⟩) n cF] w (WaysPost w lo G n cF (waysF k v xs ms 0 vs F)) := by
  have hx0 := rbox_new w k A n c v 25
  have hb0 : Below w.heap.size w (w.alloc (.cells #[.int .i64 k, .slice A n c, .int .i64 v] 25)) := (Below.refl _ _).alloc (Nat.le_refl _) _
  have hr2' := hr2.below (hb0.mono hB2)
  have hF0 := hF.below hb0
  have hB2' : B2 ≤ (w.alloc (.cells #[.int .i64 k, .slice A n c, .int .i64 v] 25)).heap.size := Nat.le_trans hB2 hb0.size
  have hnn : ((n : Int) == (n : Int)) = true := by simp
  have Hx0 := Lib.hid hx0
  cases hh : holdsB k v vs
  · have HL := Lib.hid (show waysF k v xs ms 0 vs F = F by simp [waysF, hh])
    go_enter Try.func108, Try.ntmps108
    go_wp2_with (go_at_call 78; refine (specHolds A c n A2 c2 n B2 vs k v _ hr2' hB2' hn4 hv hk).mono ?_; rintro e w1 ⟨rfl, hb1⟩; rw [hh])
    (try simp only [Exit.inBlock, Exit.then])
    refine bodyPost_ret (results_none rfl _ _ _) rfl ?_
    rw [HL.out]
    exact ⟨rfl, hF0.below hb1, grown_of_below (step hb0 hb1)⟩
  · have HL := Lib.hid (show waysF k v xs ms 0 vs F = orTo vs F n by simp [waysF, hh, hlF])
    go_enter Try.func108, Try.ntmps108
    go_wp2_with (go_at_call 78; refine (specHolds A c n A2 c2 n B2 vs k v _ hr2' hB2' hn4 hv hk).mono ?_; rintro e w1 ⟨rfl, hb1⟩; rw [hh])
    have hF1 := hF0.below hb1
    have hB1 := step hb0 hb1
    have hg1 : w.grownBy w1 (some G) := grown_of_below hB1
    clear hb1 hx0 Hx0 hF0 hr2' hB2'
    go_loopw [9] (fun i wr => ∃ t : Nat, t ≤ n ∧ i = .int .i64 t ∧ Ow wr lo (some ⟨G, 0, none⟩) n cF (nats (orTo vs F t)) ∧ w.grownBy wr (some G)) (fun i _ => n - (intOf i).toNat)
    case atStart => exact ⟨0, Nat.zero_le _, rfl, by rw [orTo_zero]; exact hF1, hg1⟩
    case round =>
      obtain ⟨t, ht, rfl, hFt, hgt⟩ := hrel
      by_cases hlt : t < n
      · obtain ⟨b, off, rfl, hbB, hck⟩ := (hr2.grown hgt hne2 hB2).at_ hlt
        obtain ⟨x0, x4⟩ := hv.out t hlt
        obtain ⟨x, hxv⟩ := Int.eq_ofNat_of_zero_le x0
        rw [hxv] at hck
        obtain ⟨hold, hfr⟩ := hFt.cell hlt
        have hot : nth (nats (orTo vs F t)) t = ((F.getD t 0 : Nat) : Int) := by rw [nats_nth, orTo_get (by omega), if_neg (by omega)]
        rw [hot] at hold
        have hor := or_int (F.getD t 0) x (h32.out t) (by omega)
        have hst := (World.ownsRow.stored hFt t (.int .i64 ((F.getD t 0 ||| 2 ^ (nth vs t).toNat : Nat) : Int))).1
        rw [orTo_set vs F t, hxv, Int.toNat_natCast] at hst
        obtain ⟨f, hf⟩ : ∃ f, f = F.getD t 0 := ⟨_, rfl⟩
        rw [← hf] at hold hor hst
        have Hst := Lib.hid hst
        clear hf
        have hnG := hne2 b off rfl
        have hx5 : (x : Int) < 64 := by omega
        clear hst hot
        go_wp2
        go_region
        all_goals
          go_wp2
          go_roundw
          case rel => exact ⟨t + 1, by omega, by go_num, World.ownsRow.drew Hst.out, grown_drew (hgt.trans grown_set)⟩
          case measure => simp [intOf]; omega
      · obtain rfl : t = n := by omega
        go_wp2
        (try simp only [Exit.inBlock, Exit.then])
        refine bodyPost_ret (results_none rfl _ _ _) rfl ?_
        rw [HL.out]
        exact ⟨rfl, hFt, hgt⟩
end Go.Proofs.Ytoejpodchlepiaa
