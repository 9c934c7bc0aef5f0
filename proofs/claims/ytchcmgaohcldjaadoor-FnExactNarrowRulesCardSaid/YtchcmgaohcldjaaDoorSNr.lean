import Derived.Test.YtchcmgaohcldjaaDoorSPow
import Derived.Test.YtchcmgaohcldjaaDoorSW3E
import Derived.Test.YtchcmgaohcldjaaDoorC3G
import Derived.Test.YtchcmgaohcldjaaDoorC1
import Derived.Test.YtchcmgaohcldjaaDoorNh
import Derived.Laws.BitsAllLaws
import Derived.Test.YtchcmgaohcldjaaDoorOwn
import Derived.Test.YtchcmgaohcldjaaDoorP5S
import Derived.Test.YtchcmgaohcldjaaDoorQ4R
import Derived.Test.YtchcmgaohcldjaaDoorQ4S
import Derived.Test.YtchcmgaohcldjaaDoorSW1F
import Derived.Test.YtchcmgaohcldjaaDoorSix
namespace Go.Proofs.YtchcmgaohcldjaaDoor
open Go.ChangeShapes Go.WideShapes Go.ChangeAt Go.RowKit

theorem maskValid_any (x : Int) (s : Nat) (w : World) (hs : s ∈ [2, 3, 4]) (hx : -9223372036854775808 ≤ x ∧ x ≤ 9223372036854775807) :
    Calls Tryd.prog 53 #[.int .i64 x, .int .i64 s] w fun e w' => e = .returned (.bool (mkOk ((2 : Int) ^ (s + 1) - 2) x)) ∧ w = w' := by
  have hs4 : s ≤ 4 := by simp at hs; omega
  have ha := andNot_ok x s hs4 hx
  obtain ⟨m, hm⟩ : ∃ m, 2 ^ (s + 1) - 2 = m := ⟨_, rfl⟩
  rw [hm] at ha
  go_enter Tryd.func53, Tryd.ntmps53
  go_wp2_with (go_at_call 67; refine (allValues_any s hs _).mono ?_; rw [hm]; rintro e w' ⟨rfl, rfl⟩)
  go_ret
  exact ⟨by rw [← ha]; rfl, rfl⟩
theorem implMasksValid : IMasksValid := by
  intro A c n B xs size w h hx64 hB hm hsz
  have hlen := Lib.hid h.1
  cases hs : inr size 2 4
  · have HL := Lib.hid (show mvd xs size = false by simp [mvd, hs])
    go_enter Tryd.func43, Tryd.ntmps43
    go_wp2_with (go_at_call 52; refine (sizeValid_any _ _).mono ?_; rintro e w' ⟨rfl, rfl⟩)
    go_ret
    exact ⟨by rw [HL.out]; rfl, Below.refl _ _⟩
  · obtain ⟨h2, h4⟩ := inr_t hs
    have hw := sq_wrap h2 h4
    cases hsq : ((n : Int) == size * size)
    · have HL := Lib.hid (show mvd xs size = false by simp only [mvd, hlen.out, hsq]; simp)
      have hsq2 : ((n : Int) != wrap64 (size * size)) = true := by rw [hw, bne, hsq]; rfl
      clear hw hsq
      go_enter Tryd.func43, Tryd.ntmps43
      go_wp2_with (go_at_call 52; refine (sizeValid_any _ _).mono ?_; rintro e w' ⟨rfl, rfl⟩)
      go_ret
      exact ⟨by rw [HL.out]; rfl, Below.refl _ _⟩
    · obtain ⟨s, rfl⟩ := Int.eq_ofNat_of_zero_le (by omega : 0 ≤ size)
      have hsm : s ∈ [2, 3, 4] := by
        have : s = 2 ∨ s = 3 ∨ s = 4 := by omega
        simpa using this
      have HL := Lib.hid (show mvd xs s = xs.all (mkOk ((2 : Int) ^ (s + 1) - 2)) by simp only [mvd, hlen.out, hsq, hs, Int.toNat_natCast, Bool.true_and])
      have hsq2 : ((n : Int) != wrap64 ((s : Int) * s)) = false := by rw [hw, bne, hsq]; rfl
      clear hw hsq
      go_enter Tryd.func43, Tryd.ntmps43
      go_wp2_with (go_at_call 52; refine (sizeValid_any _ _).mono ?_; rintro e w' ⟨rfl, rfl⟩)
      go_loop [20] (fun i => ∃ k : Nat, k ≤ n ∧ i = .int .i64 k ∧ Hid (allTo (mkOk ((2 : Int) ^ (s + 1) - 2)) xs k)) (fun i => n - (intOf i).toNat)
      case atStart => exact ⟨0, Nat.zero_le _, rfl, Lib.hid (fun j hj => absurd hj (by omega))⟩
      case round =>
        obtain ⟨k, hk, rfl, hall⟩ := hrel
        by_cases hlt : k < n
        · obtain ⟨b, off, rfl, hb, hck⟩ := h.at_ hlt
          cases hok : mkOk ((2 : Int) ^ (s + 1) - 2) (nth xs k)
          · have Hf := Lib.hid (show mvd xs s = false by rw [HL.out]; exact all_not hlen.out hlt hok)
            go_wp2_with (go_at_call 53; refine (maskValid_any (nth xs k) s _ hsm (hx64 k)).mono ?_; rw [hok]; rintro e w' ⟨rfl, rfl⟩)
            go_ret
            exact ⟨by rw [Hf.out]; rfl, Below.refl _ _⟩
          · have hn2 := Lib.hid (allTo_succ hall.out hok)
            go_wp2_with (go_at_call 53; refine (maskValid_any (nth xs k) s _ hsm (hx64 k)).mono ?_; rw [hok]; rintro e w' ⟨rfl, rfl⟩)
            go_round
            case rel => exact ⟨k + 1, by omega, by go_num, hn2⟩
            case measure => simp [intOf]; omega
        · obtain rfl : k = n := by omega
          have Hf := Lib.hid (show mvd xs s = true by rw [HL.out]; exact allTo_all hall.out hlen.out)
          go_wp2
          go_ret
          exact ⟨by rw [Hf.out]; rfl, Below.refl _ _⟩
end Go.Proofs.YtchcmgaohcldjaaDoor
set_option maxRecDepth 8000
namespace Go.Proofs.YtchcmgaohcldjaaDoor
open Go.ChangeShapes Go.WideShapes Go.ChangeAt Go.RowKit
/-- how many values the first k masks have. -/
def mcTo (m : List Int) : Nat → Nat
  | 0 => 0
  | k + 1 => mcTo m k + (maskVals (nth m k)).length
def mcI (m : List Int) (s : Int) : Int := if mvd m s = true then (mcTo m m.length : Nat) else -1
theorem mcTo_le (m : List Int) (k : Nat) : mcTo m k ≤ 4 * k := by
  induction k with
  | zero => exact Nat.le_refl _
  | succ k ih => have := maskVals_length (nth m k); simp only [mcTo]; omega
/-- whether a full grid is in masks. -/
def inMask (m g : List Int) (k : Nat) : Bool := (nth m k).toNat.testBit (nth g k).toNat
def mhB (m : List Int) (s : Int) (g : List Int) : Bool := mvd m s && gv g s && (List.range g.length).all (inMask m g)
theorem all_stop {f : Nat → Bool} {n k : Nat} (hk : k < n) (h : f k = false) : (List.range n).all f = false := by
  rw [List.all_eq_false]
  exact ⟨k, List.mem_range.2 hk, by simp [h]⟩
theorem all_done {f : Nat → Bool} {n : Nat} (h : ∀ k, k < n → f k = true) : (List.range n).all f = true := by
  rw [List.all_eq_true]
  exact fun k hk => h k (List.mem_range.1 hk)
theorem shr_bit0 (M v : Nat) : ((((M : Nat) : Int) / 2 ^ v).tmod 2 == 0) = !M.testBit v := by
  have h := shr_bit M v
  have h0 : (0 : Int) ≤ ((M : Nat) : Int) / 2 ^ v := Int.ediv_nonneg (by omega) (Int.le_of_lt (Int.pow_pos (by decide)))
  rw [Int.tmod_eq_emod_of_nonneg h0] at h ⊢
  rw [← h, Bool.eq_iff_iff]
  simp only [beq_iff_eq, Bool.not_eq_true', beq_eq_false_iff_ne]
  omega
end Go.Proofs.YtchcmgaohcldjaaDoor
set_option maxRecDepth 8000
namespace Go.Proofs.YtchcmgaohcldjaaDoor
open Go.ChangeShapes Go.WideShapes Go.ChangeAt Go.RowKit
end Go.Proofs.YtchcmgaohcldjaaDoor
set_option maxRecDepth 8000
namespace Go.Proofs.YtchcmgaohcldjaaDoor
open Go.ChangeShapes Go.WideShapes Go.ChangeAt Go.RowKit
/-- masks within masks, bit by bit. -/
def Wi (a b : List Int) : Prop := ∀ k, k < b.length → bits .andNot .i64 (nth a k) (nth b k) = 0
theorem an_self : ∀ x, x < 32 → bits .andNot .i64 (x : Nat) (x : Nat) = 0 := by decide +kernel
theorem an_and : ∀ x, x < 32 → ∀ v, v < 5 → ∀ y, y < 32 → bits .andNot .i64 (x : Nat) (y : Nat) = 0 → bits .andNot .i64 (bits .and .i64 (x : Nat) (2 ^ v)) (y : Nat) = 0 := by decide +kernel
theorem and_bit : ∀ x, x < 32 → ∀ v, v < 5 → (bits .and .i64 (x : Nat) (2 ^ v)).toNat.testBit v = x.testBit v := by decide +kernel
theorem Wi.refl {m : List Int} {s : Int} (hm : mvd m s = true) : Wi m m := fun k hk => by
  obtain ⟨x0, x1, _⟩ := mvd_nth hm k
  obtain ⟨x, hx⟩ := Int.eq_ofNat_of_zero_le x0
  rw [hx]; exact an_self x (by omega)
end Go.Proofs.YtchcmgaohcldjaaDoor
set_option maxRecDepth 8000
namespace Go.Proofs.YtchcmgaohcldjaaDoor
open Go.ChangeShapes Go.WideShapes Go.ChangeAt Go.RowKit
theorem line_at {s u : Nat} (hs : s ∈ [2, 3, 4]) (hu : u < 2 * s) : ∀ j, j < s → (lineAt s u j).toNat < s * s := by
  intro j hj
  simp at hs
  by_cases hx : (u : Int) < (s : Int)
  · rw [lineAt_row hx]
    rcases hs with rfl | rfl | rfl <;> omega
  · rw [lineAt_col hx]
    rcases hs with rfl | rfl | rfl <;> omega
theorem hC_none {m : List Int} {S u : Int} {v : Nat} : ∀ {N : Nat}, hC m S u v N = 0 → ∀ k, k < N → hB m S u v k = false := by
  intro N
  induction N with
  | zero => intro _ k hk; omega
  | succ N ih =>
    intro h k hk
    simp only [hC] at h
    split at h
    · omega
    · next hn =>
      by_cases e : k = N
      · subst e; simpa using hn
      · exact ih h k (by omega)
theorem hL_one {m : List Int} {S u : Int} {v : Nat} : ∀ {N : Nat}, hC m S u v N = 1 → ∀ k, k < N → hB m S u v k = true → hL m S u v N = (lineAt S u k).toNat := by
  intro N
  induction N with
  | zero => intro _ k hk; omega
  | succ N ih =>
    intro h k hk hb
    simp only [hC] at h
    simp only [hL]
    split at h
    · next hn =>
      rw [if_pos hn]
      by_cases e : k = N
      · subst e; rfl
      · have := hC_none (by omega : hC m S u v N = 0) k (by omega)
        rw [hb] at this; cases this
    · next hn =>
      rw [if_neg hn]
      by_cases e : k = N
      · subst e; exact absurd hb hn
      · exact ih h k (by omega) hb
theorem inr_bit {x : Int} (h0 : 0 ≤ x) (h1 : x ≤ 30) {v : Nat} (hv : v ≤ 4) : (bits .and .i64 x (2 ^ v)).toNat.testBit v = x.toNat.testBit v := by
  obtain ⟨y, rfl⟩ := Int.eq_ofNat_of_zero_le h0
  rw [Int.toNat_natCast]
  exact and_bit y (by omega) v (by omega)
/-- a solved grid within masks stays within them. -/
theorem hVs_in {m g o : List Int} {s : Nat} {u : Nat} (hs : s ∈ [2, 3, 4]) (hm : mvd m s = true) (hsb : Sub o m) (hu : u < 2 * s)
    (hg : ∀ v : Nat, 1 ≤ v → v ≤ s → ∃ i, i < s ∧ lineV g s u i = v) (hin : ∀ k, k < s * s → inMask m g k = true) (ho : ∀ k, k < s * s → inMask o g k = true) (r : Nat) (hr : r ≤ s) : ∀ k, k < s * s → inMask (hVs m s s u o r) g k = true := by
  induction r with
  | zero => exact ho
  | succ r ih =>
    have ih := ih (by omega)
    simp only [hVs]
    split
    · next h1 =>
      obtain ⟨i, hi, hv⟩ := hg (r + 1) (by omega) hr
      have hp := line_at hs hu i hi
      have hbi : hB m s u (r + 1) i = true := by
        have := hin _ hp
        unfold inMask at this
        unfold hB
        unfold lineV at hv
        rw [hv] at this
        exact this
      have he := hL_one h1 i hi hbi
      rw [he]
      have hln : m.length = s * s := by
        have := (mvd_at hm).2.1
        simp at hs
        rcases hs with rfl | rfl | rfl <;> omega
      have hlo : (hVs m s s u o r).length = s * s := by rw [hVs_len, hsb.1, hln]
      intro k hk
      unfold inMask
      rw [nth_set (by rw [hlo]; exact hp)]
      split
      · next e =>
        subst e
        have hs4 : s ≤ 4 := by simp at hs; omega
        have hsub := hVs_sub (u := (u : Int)) (S := (s : Int)) (N := s) hm hsb r (by omega)
        obtain ⟨⟨x0, x1, _⟩, _⟩ := hsub.at_ hm (by rw [hln]; exact hp)
        have := ih _ hp
        unfold inMask at this
        unfold lineV at hv
        rw [hv] at this ⊢
        have e2 : ((r + 1 : Nat) : Int).toNat = r + 1 := by omega
        rw [e2] at this ⊢
        rw [inr_bit x0 x1 (by omega)]
        exact this
      · exact ih k hk
    · exact ih
theorem hU_in {m g : List Int} {s : Nat} (hs : s ∈ [2, 3, 4]) (hm : mvd m s = true)
    (hg : ∀ u, u < 2 * s → ∀ v : Nat, 1 ≤ v → v ≤ s → ∃ i, i < s ∧ lineV g s (u : Nat) i = v) (hin : ∀ k, k < s * s → inMask m g k = true) (u : Nat) (hu : u ≤ 2 * s) : ∀ k, k < s * s → inMask (hU m s s u) g k = true := by
  have hs4 : s ≤ 4 := by simp at hs; omega
  induction u with
  | zero => exact hin
  | succ u ih =>
    simp only [hU]
    exact hVs_in hs hm (hU_sub hm hs4 u) (by omega) (hg u (by omega)) hin (ih (by omega)) s (Nat.le_refl _)
theorem sol_lines {g : List Int} {s : Nat} (hs : s ∈ [2, 3, 4]) (hl : g.length = s * s) (h : sqSolved g s = true) : ∀ u, u < 2 * s → ∀ v : Nat, 1 ≤ v → v ≤ s → ∃ i, i < s ∧ lineV g s (u : Nat) i = v := by
  obtain ⟨h1, h2, h3⟩ := (solved_iff hl).1 h
  intro u hu v v1 v2
  have hd : dupTo (lineV g s (u : Nat)) s = false := by
    cases e : dupTo (lineV g s (u : Nat)) s
    · rfl
    · have := clash_at (xs := g) (size := (s : Int)) (l := u) (by omega) (by rw [Int.toNat_natCast]; exact e)
      rw [h2] at this; cases this
  have := pig (f := lineV g s (u : Nat)) hs (fun i hi => by
    have hp := line_at hs hu i hi
    have hz := h3 _ hp
    obtain ⟨q0, q1⟩ := gv_nth h1 (k := (lineAt s u i).toNat) (by rw [hl]; exact hp)
    unfold lineV
    omega) hd (v := (v : Int)) (by omega) (by omega)
  exact hasTo_iff.1 this
theorem nh_keeps {m g : List Int} {s : Int} (hm : mvd m s = true) (hg : sqSolved g s = true) (h : mhB m s g = true) : mhB (nhL m s) s g = true := by
  obtain ⟨⟨s2, s4⟩, hlm, _, _⟩ := mvd_at hm
  obtain ⟨t, rfl⟩ : ∃ t : Nat, s = t := ⟨s.toNat, by omega⟩
  have hs : t ∈ [2, 3, 4] := by simp; omega
  simp only [mhB, Bool.and_eq_true, List.all_eq_true, List.mem_range] at h ⊢
  obtain ⟨⟨_, hgv⟩, hin⟩ := h
  have hlg := gv_len hgv
  have hln : g.length = t * t := by
    simp at hs
    rcases hs with rfl | rfl | rfl <;> omega
  refine ⟨⟨(nh_sub hm).mvd_ hm, hgv⟩, ?_⟩
  rw [hln] at hin ⊢
  have := hU_in hs hm (sol_lines hs hln hg) hin (2 * t) (Nat.le_refl _)
  unfold nhL
  rw [if_pos hm, Int.toNat_natCast]
  exact this
theorem hVs_wi {m o : List Int} {s : Int} {S : Int} {N : Nat} {u : Int} (hm : mvd m s = true) (h : Sub o m) (hw : Wi o m) (r : Nat) (hr : r ≤ 4) : Wi (hVs m S N u o r) m := by
  induction r with
  | zero => exact hw
  | succ r ih =>
    have ih := ih (by omega)
    simp only [hVs]
    split
    · have hsub := hVs_sub (u := u) (S := S) (N := N) hm h r (by omega)
      intro k hk
      rw [show nth ((hVs m S N u o r).set (hL m S u (r + 1) N) (bits .and .i64 (nth (hVs m S N u o r) (hL m S u (r + 1) N)) (2 ^ (r + 1)))) k = if hL m S u (r + 1) N = k then bits .and .i64 (nth (hVs m S N u o r) (hL m S u (r + 1) N)) (2 ^ (r + 1)) else nth (hVs m S N u o r) k from ?_]
      · split
        · next e =>
          rw [e]
          obtain ⟨⟨x0, x1, _⟩, _⟩ := hsub.at_ hm hk
          obtain ⟨y0, y1, _⟩ := mvd_nth hm k
          have hz := ih k hk
          obtain ⟨x, hx⟩ := Int.eq_ofNat_of_zero_le x0
          obtain ⟨y, hy⟩ := Int.eq_ofNat_of_zero_le y0
          rw [hx, hy] at hz ⊢
          exact an_and x (by omega) (r + 1) (by omega) y (by omega) hz
        · exact ih k hk
      · by_cases hj : hL m S u (r + 1) N < (hVs m S N u o r).length
        · exact nth_set hj
        · rw [List.set_eq_of_length_le (by omega)]
          rw [if_neg (by have := hsub.1; omega)]
    · exact ih
theorem hU_wi {m : List Int} {s S : Int} {N : Nat} (hm : mvd m s = true) (hN : N ≤ 4) (u : Nat) : Wi (hU m S N u) m := by
  induction u with
  | zero => exact Wi.refl hm
  | succ u ih => simp only [hU]; exact hVs_wi hm (hU_sub hm hN u) ih N hN
theorem nh_wi {m : List Int} {s : Int} (hm : mvd m s = true) : Wi (nhL m s) m := by
  unfold nhL; rw [if_pos hm]; exact hU_wi hm (by have := (mvd_at hm).1; omega) _
end Go.Proofs.YtchcmgaohcldjaaDoor
set_option maxRecDepth 8000
namespace Go.Proofs.YtchcmgaohcldjaaDoor
open Go.ChangeShapes Go.WideShapes Go.ChangeAt Go.RowKit
/-! The items of the search by exact cover: what is left of them tells what has been chosen. -/
def itN (s c v : Nat) : Nat := 2 ^ c ||| 2 ^ ((s + c / s) * s + v - 1) ||| 2 ^ ((s + (s + c % s)) * s + v - 1)
/-- what is left when the first p cells have their values. -/
def lf (s : Nat) (us : List Int) : Nat → Nat
  | 0 => 2 ^ (3 * s * s) - 1
  | p + 1 => anU (lf s us p) (itN s p (nth us p).toNat)
def itChk (s : Nat) : Bool := (List.range (s * s)).all fun c => (List.range s).all fun w => decide (itN s c (w + 1) < 2 ^ (3 * s * s)) && (itN s c (w + 1)).testBit c && (itN s c (w + 1)).testBit (s * s + c / s * s + w) && (itN s c (w + 1)).testBit (2 * (s * s) + c % s * s + w) &&
  (List.range (s * s)).all fun i => (List.range s).all fun x => (i == c) || (!(itN s i (x + 1)).testBit c && ((itN s c (w + 1) &&& itN s i (x + 1)) != 0) == (adj s i c && w == x))
theorem itChk_all : itChk 2 = true ∧ itChk 3 = true ∧ itChk 4 = true := by decide +kernel
theorem it_at {s : Nat} (hs : s ∈ [2, 3, 4]) {c v : Nat} (hc : c < s * s) (v1 : 1 ≤ v) (v2 : v ≤ s) : itN s c v < 2 ^ (3 * s * s) ∧ (itN s c v).testBit c = true ∧ (itN s c v).testBit (s * s + c / s * s + (v - 1)) = true ∧ (itN s c v).testBit (2 * (s * s) + c % s * s + (v - 1)) = true ∧
    ∀ i x, i < s * s → 1 ≤ x → x ≤ s → i ≠ c → (itN s i x).testBit c = false ∧ (((itN s c v &&& itN s i x) != 0) = (adj s i c && v == x)) := by
  have h : itChk s = true := by
    simp at hs
    rcases hs with rfl | rfl | rfl
    · exact itChk_all.1
    · exact itChk_all.2.1
    · exact itChk_all.2.2
  unfold itChk at h
  have h1 := List.all_eq_true.1 (List.all_eq_true.1 h c (List.mem_range.2 hc)) (v - 1) (List.mem_range.2 (by omega))
  rw [show v - 1 + 1 = v by omega] at h1
  simp only [Bool.and_eq_true, decide_eq_true_eq] at h1
  obtain ⟨⟨⟨⟨a1, a2⟩, a3⟩, a4⟩, a5⟩ := h1
  refine ⟨a1, a2, a3, a4, fun i x hi x1 x2 hne => ?_⟩
  have h2 := List.all_eq_true.1 (List.all_eq_true.1 a5 i (List.mem_range.2 hi)) (x - 1) (List.mem_range.2 (by omega))
  rw [show x - 1 + 1 = x by omega] at h2
  simp only [Bool.or_eq_true, beq_iff_eq, Bool.and_eq_true, Bool.not_eq_true'] at h2
  obtain ⟨b1, b2⟩ := h2.resolve_left hne
  refine ⟨b1, ?_⟩
  rw [b2]
  congr 1
  rw [Bool.eq_iff_iff, beq_iff_eq, beq_iff_eq]
  omega
theorem pow48 {s : Nat} (hs : s ∈ [2, 3, 4]) : 2 ^ (3 * s * s) ≤ 2 ^ 48 := by
  simp at hs
  rcases hs with rfl | rfl | rfl <;> decide
theorem lf_lt {s : Nat} (us : List Int) (p : Nat) : lf s us p < 2 ^ (3 * s * s) := by
  induction p with
  | zero => simp only [lf]; have := Nat.two_pow_pos (3 * s * s); omega
  | succ p ih => exact Nat.lt_of_le_of_lt (anU_le _ _) ih
theorem lf_lt64 {s : Nat} (hs : s ∈ [2, 3, 4]) (us : List Int) (p : Nat) : lf s us p < 2 ^ 64 :=
  Nat.lt_of_lt_of_le (lf_lt us p) (Nat.le_trans (pow48 hs) (by decide))
/-- the first p values are values. -/
def vsOk (s : Nat) (us : List Int) (p : Nat) : Prop := ∀ i, i < p → 1 ≤ (nth us i).toNat ∧ (nth us i).toNat ≤ s
theorem it_lt64 {s : Nat} (hs : s ∈ [2, 3, 4]) {c v : Nat} (hc : c < s * s) (v1 : 1 ≤ v) (v2 : v ≤ s) : itN s c v < 2 ^ 64 :=
  Nat.lt_of_lt_of_le (it_at hs hc v1 v2).1 (Nat.le_trans (pow48 hs) (by decide))
theorem lf_bit {s : Nat} (hs : s ∈ [2, 3, 4]) {us : List Int} : ∀ {p : Nat}, p ≤ s * s → vsOk s us p → ∀ j, (lf s us p).testBit j = true ↔ j < 3 * s * s ∧ ∀ i, i < p → (itN s i (nth us i).toNat).testBit j = false := by
  intro p
  induction p with
  | zero =>
    intro _ _ j
    simp only [lf]
    rw [Nat.testBit_two_pow_sub_one, decide_eq_true_eq]
    exact ⟨fun h => ⟨h, fun i hi => absurd hi (by omega)⟩, fun h => h.1⟩
  | succ p ih =>
    intro hp hv j
    obtain ⟨v1, v2⟩ := hv p (by omega)
    simp only [lf]
    rw [anU_bit (lf_lt64 hs us p) (it_lt64 hs (by omega) v1 v2), Bool.and_eq_true, Bool.not_eq_true', ih (by omega) (fun i hi => hv i (by omega))]
    constructor
    · rintro ⟨⟨h1, h2⟩, h3⟩
      refine ⟨h1, fun i hi => ?_⟩
      by_cases e : i = p
      · subst e; exact h3
      · exact h2 i (by omega)
    · rintro ⟨h1, h2⟩
      exact ⟨⟨h1, fun i hi => h2 i (by omega)⟩, h2 p (by omega)⟩
/-- the lowest item that is left is the first cell without a value. -/
theorem lf_low {s : Nat} (hs : s ∈ [2, 3, 4]) {us : List Int} {p : Nat} (hp : p < s * s) (hv : vsOk s us p) : (lf s us p).testBit p = true ∧ ∀ j, j < p → (lf s us p).testBit j = false := by
  constructor
  · rw [lf_bit hs (by omega) hv]
    refine ⟨?_, fun i hi => ?_⟩
    · have : 3 * s * s = 3 * (s * s) := Nat.mul_assoc ..
      omega
    · obtain ⟨v1, v2⟩ := hv i hi
      exact ((it_at hs hp (Nat.le_refl 1) (by simp at hs; omega)).2.2.2.2 i _ (by omega) v1 v2 (by omega)).1
  · intro j hj
    cases h : (lf s us p).testBit j
    · rfl
    · have := ((lf_bit hs (by omega) hv j).1 h).2 j hj
      obtain ⟨v1, v2⟩ := hv j hj
      rw [(it_at hs (by omega) v1 v2).2.1] at this
      cases this
/-- a value conflicts if one of its items is gone. -/
theorem lf_conf {s : Nat} (hs : s ∈ [2, 3, 4]) {us : List Int} {p v : Nat} (hp : p < s * s) (hl : us.length = p) (hv : vsOk s us p) (v1 : 1 ≤ v) (v2 : v ≤ s) : (anU (itN s p v) (lf s us p) == 0) = noConf s (us ++ [(v : Int)]) p := by
  have hit := it_lt64 hs hp v1 v2
  have hlf := lf_lt64 hs us p
  obtain ⟨i1, _, _, _, i5⟩ := it_at hs hp v1 v2
  have hn : ∀ i, i < p → nth (us ++ [(v : Int)]) i = nth us i ∧ nth (us ++ [(v : Int)]) p = v := fun i hi => by
    rw [nth_push hl, nth_push hl, if_pos hi, if_neg (by omega), if_pos rfl]
    exact ⟨rfl, rfl⟩
  have key : ∀ i, i < p → (((itN s p v &&& itN s i (nth us i).toNat) != 0) = (adj s i p && (nth (us ++ [(v : Int)]) i == nth (us ++ [(v : Int)]) p))) := fun i hi => by
    obtain ⟨x1, x2⟩ := hv i hi
    rw [(i5 i _ (by omega) x1 x2 (by omega)).2, (hn i hi).1, (hn i hi).2]
    congr 1
    rw [Bool.eq_iff_iff, beq_iff_eq, beq_iff_eq]
    omega
  rw [Bool.eq_iff_iff, beq_iff_eq]
  simp only [noConf, List.all_eq_true, List.mem_range]
  constructor
  · intro h i hi
    rw [← key i hi]
    cases e : (itN s p v &&& itN s i (nth us i).toNat) != 0
    · rfl
    · obtain ⟨j, hj⟩ := bit_of_ne (bne_iff_ne.1 e)
      rw [Nat.testBit_and, Bool.and_eq_true] at hj
      have hb : (anU (itN s p v) (lf s us p)).testBit j = true := by
        rw [anU_bit hit hlf, hj.1, Bool.true_and, Bool.not_eq_true']
        cases e2 : (lf s us p).testBit j
        · rfl
        · have := ((lf_bit hs (by omega) hv j).1 e2).2 i hi
          rw [hj.2] at this; cases this
      rw [h, Nat.zero_testBit] at hb; cases hb
  · intro h
    apply Nat.eq_of_testBit_eq
    intro j
    rw [Nat.zero_testBit, anU_bit hit hlf]
    cases hj : (itN s p v).testBit j
    · rfl
    · rw [Bool.true_and, Bool.not_eq_false', lf_bit hs (by omega) hv]
      refine ⟨?_, fun i hi => ?_⟩
      · rcases Nat.lt_or_ge j (3 * s * s) with h1 | h1
        · exact h1
        · rw [Nat.testBit_lt_two_pow (Nat.lt_of_lt_of_le i1 (Nat.pow_le_pow_right (by omega) h1))] at hj; cases hj
      · have h1 := h i hi
        rw [← key i hi, Bool.not_eq_true', bne_eq_false_iff_eq] at h1
        cases e : (itN s i (nth us i).toNat).testBit j
        · rfl
        · have : (itN s p v &&& itN s i (nth us i).toNat).testBit j = true := by rw [Nat.testBit_and, hj, e]; rfl
          rw [h1, Nat.zero_testBit] at this; cases this
/-- when all cells have values without conflicts, nothing is left. -/
theorem lf_done {s : Nat} (hs : s ∈ [2, 3, 4]) {us : List Int} (hl : us.length = s * s) (hr : ∀ i, i < s * s → 1 ≤ nth us i ∧ nth us i ≤ s) (hc : ∀ p, p < s * s → noConf s (us.take (p + 1)) p = true) : lf s us (s * s) = 0 := by
  have hv : vsOk s us (s * s) := fun i hi => by have := hr i hi; omega
  have hgv : gv us s = true := okAll_gv' hs hl (fun i hi => by have := hr i hi; omega)
  have hclash : clash us s = false := by
    have hne : ∀ i j, i < j → j < s * s → adj s i j = true → nth us i ≠ nth us j := fun i j hij hj ha e => by
      have := hc j hj
      simp only [noConf, List.all_eq_true, List.mem_range, Bool.not_eq_true', Bool.and_eq_false_iff] at this
      rcases this i hij with h1 | h1
      · rw [ha] at h1; cases h1
      · rw [nth_take (by omega), nth_take (by omega), e] at h1
        simp at h1
    cases e : clash us s
    · rfl
    · obtain ⟨i, j, hi, hj, ha, e1, _⟩ := (clash_iff hs).1 e
      have hij := (adj_ne s i j).1 ha
      rcases Nat.lt_or_gt_of_ne hij with hlt | hlt
      · exact absurd e1 (hne i j hlt hj ha)
      · exact absurd e1.symm (hne j i hlt hi (by rw [← adj_sym s hs i hi j hj]; exact ha))
  have hsol : sqSolved us s = true := (solved_iff hl).2 ⟨hgv, hclash, fun k hk => by have := hr k hk; omega⟩
  have hline := sol_lines hs hl hsol
  have hs0 : 0 < s := by simp at hs; omega
  apply Nat.eq_of_testBit_eq
  intro j
  rw [Nat.zero_testBit]
  cases h : (lf s us (s * s)).testBit j
  · rfl
  · exfalso
    obtain ⟨h1, h2⟩ := (lf_bit hs (Nat.le_refl _) hv j).1 h
    have hm : 3 * s * s = 3 * (s * s) := Nat.mul_assoc ..
    have hq : ∀ q, q < s * s → q / s < s ∧ q % s < s ∧ q = q / s * s + q % s := fun q hq => by
      refine ⟨Nat.div_lt_of_lt_mul hq, Nat.mod_lt _ hs0, ?_⟩
      have := Nat.div_add_mod q s
      rw [Nat.mul_comm] at this
      omega
    by_cases c1 : j < s * s
    · obtain ⟨v1, v2⟩ := hv j c1
      have := h2 j c1
      rw [(it_at hs c1 v1 v2).2.1] at this
      cases this
    · by_cases c2 : j < 2 * (s * s)
      · obtain ⟨q1, q2, q3⟩ := hq (j - s * s) (by omega)
        obtain ⟨i, hi, e⟩ := hline ((j - s * s) / s) (by omega) ((j - s * s) % s + 1) (by omega) (by omega)
        have hu : (((j - s * s) / s : Nat) : Int) < (s : Int) := by omega
        have hcell : (lineAt (s : Int) (((j - s * s) / s : Nat) : Int) i).toNat = (j - s * s) / s * s + i := by
          rw [lineAt_row hu]
          generalize (j - s * s) / s = r
          have : (r : Int) * s = ((r * s : Nat) : Int) := by simp
          omega
        unfold lineV at e
        rw [hcell] at e
        have hlt : (j - s * s) / s * s + i < s * s := by
          have : (j - s * s) / s * s + s ≤ s * s := by rw [← Nat.succ_mul]; exact Nat.mul_le_mul_right _ q1
          omega
        obtain ⟨v1, v2⟩ := hv _ hlt
        have := h2 _ hlt
        have hb := (it_at hs hlt v1 v2).2.2.1
        rw [show ((j - s * s) / s * s + i) / s = (j - s * s) / s by rw [Nat.add_comm, Nat.add_mul_div_right _ _ hs0, Nat.div_eq_of_lt hi, Nat.zero_add], show s * s + (j - s * s) / s * s + ((nth us ((j - s * s) / s * s + i)).toNat - 1) = j by rw [e]; simp; omega] at hb
        rw [hb] at this; cases this
      · obtain ⟨q1, q2, q3⟩ := hq (j - 2 * (s * s)) (by omega)
        obtain ⟨i, hi, e⟩ := hline (s + (j - 2 * (s * s)) / s) (by omega) ((j - 2 * (s * s)) % s + 1) (by omega) (by omega)
        have hu : ¬ ((s + (j - 2 * (s * s)) / s : Nat) : Int) < (s : Int) := by
          generalize (j - 2 * (s * s)) / s = r
          omega
        have hcell : (lineAt (s : Int) ((s + (j - 2 * (s * s)) / s : Nat) : Int) i).toNat = i * s + (j - 2 * (s * s)) / s := by
          rw [lineAt_col hu]
          generalize (j - 2 * (s * s)) / s = r
          have : (i : Int) * s = ((i * s : Nat) : Int) := by simp
          omega
        unfold lineV at e
        rw [hcell] at e
        have hlt : i * s + (j - 2 * (s * s)) / s < s * s := by
          have : i * s + s ≤ s * s := by rw [← Nat.succ_mul]; exact Nat.mul_le_mul_right _ hi
          omega
        obtain ⟨v1, v2⟩ := hv _ hlt
        have := h2 _ hlt
        have hb := (it_at hs hlt v1 v2).2.2.2.1
        rw [show (i * s + (j - 2 * (s * s)) / s) % s = (j - 2 * (s * s)) / s by rw [Nat.add_comm, Nat.add_mul_mod_self_right, Nat.mod_eq_of_lt q1], show 2 * (s * s) + (j - 2 * (s * s)) / s * s + ((nth us (i * s + (j - 2 * (s * s)) / s)).toNat - 1) = j by rw [e]; simp; omega] at hb
        rw [hb] at this; cases this
/-- the lowest bit by itself. -/
theorem low_and {L p : Nat} (hL : L < 2 ^ 64) (hb : L.testBit p = true) (h0 : ∀ j, j < p → L.testBit j = false) (hp : p < 64) : L &&& (2 ^ 64 - L) = 2 ^ p := by
  have hpos : 0 < L := by
    rcases Nat.eq_zero_or_pos L with h | h
    · rw [h, Nat.zero_testBit] at hb; cases hb
    · exact h
  -- L = 2^p * (2 m + 1)
  have hmod : L % 2 ^ p = 0 := by
    apply Nat.eq_of_testBit_eq
    intro j
    rw [Nat.testBit_mod_two_pow, Nat.zero_testBit]
    by_cases hj : j < p
    · rw [h0 j hj]; simp
    · simp [hj]
  have hdiv : (L / 2 ^ p) % 2 = 1 := by
    have := hb
    rw [Nat.testBit_eq_decide_div_mod_eq, decide_eq_true_eq] at this
    exact this
  obtain ⟨m, hm⟩ : ∃ m, L / 2 ^ p = 2 * m + 1 := ⟨L / 2 ^ p / 2, by omega⟩
  have hLe : L = 2 ^ p * (2 * m + 1) := by
    have := Nat.div_add_mod L (2 ^ p)
    rw [hmod, hm] at this
    omega
  have hpow : 2 ^ p * 2 ^ (64 - p) = 2 ^ 64 := by rw [← Nat.pow_add]; congr 1; omega
  have hlt : 2 * m + 1 < 2 ^ (64 - p) := by
    rcases Nat.lt_or_ge (2 * m + 1) (2 ^ (64 - p)) with h | h
    · exact h
    · have := Nat.mul_le_mul_left (2 ^ p) h
      rw [hpow, ← hLe] at this
      omega
  have hneg : 2 ^ 64 - L = 2 ^ p * (2 ^ (64 - p) - (2 * m + 1)) := by rw [Nat.mul_sub, hpow, ← hLe]
  have hodd : (2 * m + 1) &&& (2 ^ (64 - p) - (2 * m + 1)) = 1 := by
    apply Nat.eq_of_testBit_eq
    intro j
    rw [Nat.testBit_and, Nat.testBit_two_pow_sub_succ (show 2 * m < 2 ^ (64 - p) by omega)]
    rcases j with _ | j
    · have h1 : (2 * m + 1).testBit 0 = true := by simp [Nat.testBit_zero]
      have h2 : (2 * m).testBit 0 = false := by simp [Nat.testBit_zero]
      rw [h1, h2]
      simp
      omega
    · have h1 : (2 * m + 1).testBit (j + 1) = m.testBit j := by rw [Nat.testBit_succ]; congr 1; omega
      have h2 : (2 * m).testBit (j + 1) = m.testBit j := by rw [Nat.testBit_succ]; congr 1; omega
      rw [h1, h2]
      have h3 : (1 : Nat).testBit (j + 1) = false := by rw [Nat.testBit_succ]; simp
      rw [h3]
      cases m.testBit j <;> simp
  rw [hneg]
  conv => lhs; lhs; rw [hLe]
  rw [Nat.mul_comm (2 ^ p), Nat.mul_comm (2 ^ p), ← Nat.shiftLeft_eq, ← Nat.shiftLeft_eq, ← Nat.shiftLeft_and_distrib, hodd, Nat.one_shiftLeft]
end Go.Proofs.YtchcmgaohcldjaaDoor
set_option maxRecDepth 8000
namespace Go.Proofs.YtchcmgaohcldjaaDoor
open Go.ChangeShapes Go.WideShapes Go.ChangeAt Go.RowKit

theorem le_alloc5 {a : Nat} {w : World} {o : Obj} (h : a ≤ w.heap.size) : a ≤ (w.alloc o).heap.size := by rw [World.size_alloc]; omega
theorem rule_parts : (Tryd.prog.info? 44).map (fun i => (i.zero, i.size, i.bytes)) = some (some (.agg #[.int .i64 0, .slice none 0 0, .int .i64 0]), 3, 40) := by kernel_rfl
/-- 'append(rules, rule)' to a slice of the call's own. -/
theorem push_rule {w : World} {ops : Array Oper} {rest : List Oper} {o : Oper} {a : Act} {Q : Exit → Act → World → Prop} (hgd : o.guard = none) (s x : Operand)
    (ho : o.op = .call { callee := .builtin .append, args := #[s, x], argTypes := #[28, 28] })
    (lo : Nat) (v : Value) (n : Nat) (vs : List Value) (g : Nat) (k : Int) (A : Option Addr) (m c : Nat) (u : Int) (hs : a.eval s = v) (hx : a.eval x = .slice (some ⟨g, 0, none⟩) 1 1)
    (hown : w.ownsRow lo 44 3 v n vs) (hrow : w.heap[g]? = some (.cells #[.int .i64 k, .slice A m c, .int .i64 u] 44)) (hn : n ≤ 1099511627776) (hlo : lo ≤ w.heap.size)
    (h : ∀ g' cap w', w'.ownsRow lo 44 3 (.slice (some ⟨g', 0, none⟩) (n + 1) cap) (n + 1) (vs ++ [.int .i64 k, .slice A m c, .int .i64 u]) → w.grownBy w' v.ownBlock → (v.ownBlock = some g' ∨ g' = w.heap.size) → wpList Tryd.prog ops Q rest (a.put o.dst (.slice (some ⟨g', 0, none⟩) (n + 1) cap)) w') :
    wpList Tryd.prog ops Q (o :: rest) a w := by
  refine wpList_plain hgd fun K hK => ?_
  obtain ⟨i0, hi, hz0, hz1, hz2⟩ := info_parts rule_parts
  obtain ⟨g', cap, w', hrun, h1, h2, h3, h4⟩ := run_append_lies (P := Tryd.prog) w 28 o.type lo 44 i0 (.agg #[.int .i64 0, .slice none 0 0, .int .i64 0]) 3 40 Tryd.underlying28 hi hz0 hz1 hz2 rfl (by decide) v n vs hown ⟨g, 0, none⟩ 1 1 [.int .i64 k, .slice A m c, .int .i64 u] rfl (World.news_of_block (cs := #[.int .i64 k, .slice A m c, .int .i64 u]) hrow) (by simp [Value.oneCell']) (by decide) (by simp only [maxLen]; omega) (by omega) hlo _ rfl
  unfold Oper.wp
  simp [execOp, ho, resolve, invoke, builtin, hs, hx, hrun, Result.andThen]
  exact hK _ _ (h g' cap w' h1 h2 h3)
/-- the first k rules, in a slice of the call's own. -/
def OwR (w : World) (lo : Nat) (v : Value) (rs : List RuleM) (k : Nat) : Prop :=
  ∃ vs, w.ownsRow lo 44 3 v k vs ∧ ∀ i, i < k → ∃ A' c', vs[i * 3]? = some (.int .i64 (rat rs i).k) ∧ vs[i * 3 + 1]? = some (.slice A' (rat rs i).xs.length c') ∧ vs[i * 3 + 2]? = some (.int .i64 (rat rs i).v) ∧ Ow w lo A' (rat rs i).xs.length c' (rat rs i).xs ∧ (rat rs i).xs.length ≤ 1099511627776 ∧ ∀ g, (Value.slice A' (rat rs i).xs.length c').ownBlock = some g → v.ownBlock ≠ some g
theorem OwR.below {w w' : World} {lo : Nat} {v : Value} {rs : List RuleM} {k : Nat} (h : OwR w lo v rs k) (hb : Below w.heap.size w w') : OwR w' lo v rs k := by
  obtain ⟨vs, hown, hin⟩ := h
  refine ⟨vs, World.ownsRow.kept hown (row := none) ⟨hb.os, hb.tape, hb.output, hb.size, fun k hk _ => hb.block k hk⟩ (by
    cases e : v.ownBlock
    · exact .inl rfl
    · exact .inr (by simp)), fun i hi => ?_⟩
  obtain ⟨A', c', e0, e1, e2, e3, e4, e5⟩ := hin i hi
  exact ⟨A', c', e0, e1, e2, e3.below hb, e4, e5⟩
theorem OwR.push {w w3 w5 : World} {lo : Nat} {v : Value} {rs : List RuleM} {u : Nat} {vs : List Value} {A3 : Option Addr} {c3 g' cap : Nat} (hown : w.ownsRow lo 44 3 v u vs)
    (hin : ∀ i, i < u → ∃ A' c', vs[i * 3]? = some (.int .i64 (rat rs i).k) ∧ vs[i * 3 + 1]? = some (.slice A' (rat rs i).xs.length c') ∧ vs[i * 3 + 2]? = some (.int .i64 (rat rs i).v) ∧ Ow w lo A' (rat rs i).xs.length c' (rat rs i).xs ∧ (rat rs i).xs.length ≤ 1099511627776 ∧ ∀ g, (Value.slice A' (rat rs i).xs.length c').ownBlock = some g → v.ownBlock ≠ some g)
    (hlo : lo ≤ w.heap.size) (hb : Below w.heap.size w w3) (ho3 : Ow w3 w.heap.size A3 (rat rs u).xs.length c3 (rat rs u).xs) (hm : (rat rs u).xs.length ≤ 1099511627776) {o : Obj}
    (h5 : w5.ownsRow lo 44 3 (.slice (some ⟨g', 0, none⟩) (u + 1) cap) (u + 1) (vs ++ [.int .i64 (rat rs u).k, .slice A3 (rat rs u).xs.length c3, .int .i64 (rat rs u).v])) (hg5 : (w3.alloc o).grownBy w5 v.ownBlock) (hl5 : v.ownBlock = some g' ∨ g' = (w3.alloc o).heap.size) :
    OwR w5 lo (.slice (some ⟨g', 0, none⟩) (u + 1) cap) rs (u + 1) := by
  have hvl : vs.length = u * 3 := hown.1
  have hs3 := hb.size
  have hg'o : (Value.slice (some ⟨g', 0, none⟩) (u + 1) cap).ownBlock = some g' := by simp [Value.ownBlock]
  refine ⟨_, h5, fun i hi => ?_⟩
  by_cases hlt : i < u
  · obtain ⟨A', c', e0, e1, e2, e3, e4, e5⟩ := hin i hlt
    refine ⟨A', c', by rw [List.getElem?_append_left (by omega)]; exact e0, by rw [List.getElem?_append_left (by omega)]; exact e1, by rw [List.getElem?_append_left (by omega)]; exact e2, ?_, e4, fun b hbb => ?_⟩
    · exact Ow.far (World.ownsRow.alloc (e3.below hb) o) hg5 e5
    · rw [hg'o]
      intro e
      injection e with e
      subst e
      have h1 := e3.own_hi g' hbb
      rcases hl5 with h | h
      · exact e5 g' hbb h
      · rw [World.size_alloc] at h; omega
  · obtain rfl : i = u := by omega
    refine ⟨A3, c3, by rw [List.getElem?_append_right (by omega), hvl, Nat.sub_self]; rfl, by rw [List.getElem?_append_right (by omega), hvl, show i * 3 + 1 - i * 3 = 1 by omega]; rfl, by rw [List.getElem?_append_right (by omega), hvl, show i * 3 + 2 - i * 3 = 2 by omega]; rfl, ?_, hm, fun b hbb => ?_⟩
    · exact (Ow.far (World.ownsRow.alloc ho3 o) hg5 (fun b hbb e => by have h1 := ho3.own_lo b hbb; have h2 := (World.ownsRow.lt hown b e).2; omega)).mono hlo
    · rw [hg'o]
      intro e
      injection e with e
      subst e
      have h1 := ho3.own_lo g' hbb
      have h2 := ho3.own_hi g' hbb
      rcases hl5 with h | h
      · have := (World.ownsRow.lt hown g' h).2; omega
      · rw [World.size_alloc] at h; omega
theorem OwR.rd {w : World} {lo k c : Nat} {A : Option Addr} {rs : List RuleM} (hl : rs.length = k) (h : OwR w lo (.slice A k c) rs k) : RdRs w w.heap.size A k rs := by
  refine ⟨hl, fun hn => ?_⟩
  obtain ⟨vs, hown, hin⟩ := h
  obtain ⟨hvl, hcase⟩ := id hown
  rcases hcase with ⟨_, h0⟩ | ⟨g, cap, cur, hv, hlog, hrow, h1, h2, h3, h4⟩
  · omega
  · injection hv with hA _ _
    subst hA
    have hlt : g < w.heap.size := (Array.getElem?_eq_some_iff.1 hrow).1
    have hcell : ∀ j u, vs[j]? = some u → w.cell? ⟨g, 0 + j, none⟩ = some u := fun j u hj => by
      rw [Nat.zero_add, cell_of_row w g j cur _ _ hrow]
      rw [← h4, List.getElem?_take] at hj
      split at hj
      · simpa using hj
      · cases hj
    refine ⟨g, 0, rfl, hlt, fun i hi => ?_⟩
    obtain ⟨A', c', e0, e1, e2, e3, e4, e5⟩ := hin i hi
    exact ⟨A', c', hcell _ _ e0, by rw [Nat.add_assoc]; exact hcell _ _ e1, by rw [Nat.add_assoc]; exact hcell _ _ e2, e3.rd, e4⟩
end Go.Proofs.YtchcmgaohcldjaaDoor
set_option maxRecDepth 8000
namespace Go.Proofs.YtchcmgaohcldjaaDoor
open Go.ChangeShapes Go.WideShapes Go.ChangeAt Go.RowKit
/-- a slice of rules whose cells' lengths keep to their capacities, as every slice of the program's does. -/
def RdRc (w : World) (B : Nat) (A : Option Addr) (n : Nat) (rs : List RuleM) : Prop :=
  rs.length = n ∧ (0 < n → ∃ b off, A = some ⟨b, off, none⟩ ∧ b < B ∧ ∀ i, i < n → ∃ A' c', w.cell? ⟨b, off + i * 3, none⟩ = some (.int .i64 (rat rs i).k) ∧ w.cell? ⟨b, off + i * 3 + 1, none⟩ = some (.slice A' (rat rs i).xs.length c') ∧ w.cell? ⟨b, off + i * 3 + 2, none⟩ = some (.int .i64 (rat rs i).v) ∧ Rd w B A' (rat rs i).xs.length (rat rs i).xs ∧ (rat rs i).xs.length ≤ 1099511627776 ∧ (rat rs i).xs.length ≤ c')
theorem RdRc.below {w w' : World} {B : Nat} {A : Option Addr} {n : Nat} {rs : List RuleM} (h : RdRc w B A n rs) (hb : Below B w w') : RdRc w' B A n rs :=
  ⟨h.1, fun hn => by
    obtain ⟨b, off, e, hlt, hc⟩ := h.2 hn
    refine ⟨b, off, e, hlt, fun i hi => ?_⟩
    obtain ⟨A', c', h0, h1, h2, h3, h4, h5⟩ := hc i hi
    exact ⟨A', c', (hb.cell (p := ⟨b, off + i * 3, none⟩) hlt).trans h0, (hb.cell (p := ⟨b, off + i * 3 + 1, none⟩) hlt).trans h1, (hb.cell (p := ⟨b, off + i * 3 + 2, none⟩) hlt).trans h2, h3.below hb, h4, h5⟩⟩
theorem RdRc.rd {w : World} {B : Nat} {A : Option Addr} {n : Nat} {rs : List RuleM} (h : RdRc w B A n rs) : RdRs w B A n rs :=
  ⟨h.1, fun hn => by
    obtain ⟨b, off, e, hlt, hc⟩ := h.2 hn
    refine ⟨b, off, e, hlt, fun i hi => ?_⟩
    obtain ⟨A', c', h0, h1, h2, h3, h4, h5⟩ := hc i hi
    exact ⟨A', c', h0, h1, h2, h3, h4⟩⟩
theorem OwR.rdc {w : World} {lo k c : Nat} {A : Option Addr} {rs : List RuleM} (hl : rs.length = k) (h : OwR w lo (.slice A k c) rs k) : RdRc w w.heap.size A k rs := by
  refine ⟨hl, fun hn => ?_⟩
  obtain ⟨vs, hown, hin⟩ := h
  obtain ⟨hvl, hcase⟩ := id hown
  rcases hcase with ⟨_, h0⟩ | ⟨g, cap, cur, hv, hlog, hrow, h1, h2, h3, h4⟩
  · omega
  · injection hv with hA _ _
    subst hA
    have hlt : g < w.heap.size := (Array.getElem?_eq_some_iff.1 hrow).1
    have hcell : ∀ j u, vs[j]? = some u → w.cell? ⟨g, 0 + j, none⟩ = some u := fun j u hj => by
      rw [Nat.zero_add, cell_of_row w g j cur _ _ hrow]
      rw [← h4, List.getElem?_take] at hj
      split at hj
      · simpa using hj
      · cases hj
    refine ⟨g, 0, rfl, hlt, fun i hi => ?_⟩
    obtain ⟨A', c', e0, e1, e2, e3, e4, e5⟩ := hin i hi
    exact ⟨A', c', hcell _ _ e0, by rw [Nat.add_assoc]; exact hcell _ _ e1, by rw [Nat.add_assoc]; exact hcell _ _ e2, e3.rd, e4, e3.le_cap⟩
def rulesB (s : Int) (rs : List RuleM) : Bool := (List.range rs.length).all fun i => rvR s (rat rs i)
set_option maxHeartbeats 1000000 in
theorem rulesValid_any (s : Int) (Ag : Option Addr) (ng cg : Nat) (Ar : Option Addr) (nr cr Br : Nat) (rs : List RuleM) (w : World) (hr : RdRc w Br Ar nr rs) (hBr : Br ≤ w.heap.size) (hmr : nr ≤ 1099511627776) :
    Calls Tryd.prog 51 #[.agg #[.int .i64 s, .slice Ag ng cg, .slice Ar nr cr]] w fun e w' => e = .returned (.bool (rulesB s rs)) ∧ Below w.heap.size w w' := by
  have hlen := Lib.hid hr.1
  have hx0 := pbox_new w s Ag ng cg Ar nr cr 30
  have hb0 : Below w.heap.size w (w.alloc (.cells #[.int .i64 s, .slice Ag ng cg, .slice Ar nr cr] 30)) := (Below.refl _ _).alloc (Nat.le_refl _) _
  have hs0 : w.heap.size + 1 ≤ (w.alloc (.cells #[.int .i64 s, .slice Ag ng cg, .slice Ar nr cr] 30)).heap.size := by simp
  obtain ⟨z0, z1, z2⟩ := id hx0
  have HR := Lib.hid (fun (w' : World) (hb : Below w.heap.size w w') => hr.below (hb.mono hBr))
  go_enter Tryd.func51, Tryd.ntmps51
  go_wp2
  go_loopw [8] (fun i wr => ∃ u : Nat, u ≤ nr ∧ i = .int .i64 u ∧ Hid (allR (rvR s) rs u) ∧ PBox wr w.heap.size s Ag ng cg Ar nr cr ∧ Below w.heap.size w wr ∧ w.heap.size + 1 ≤ wr.heap.size) (fun i _ => nr - (intOf i).toNat)
  case atStart => exact ⟨0, Nat.zero_le _, rfl, Lib.hid (fun j hj => absurd hj (by omega)), hx0, hb0, hs0⟩
  case round =>
    obtain ⟨u, hu, rfl, hall, hx, hb, hsw⟩ := hrel
    obtain ⟨c0, c1, c2⟩ := id hx
    by_cases hlt : u < nr
    · obtain ⟨b, off, rfl, hbB, hcc⟩ := (HR.out _ hb).2 (by omega)
      obtain ⟨A', c', r0, r1, r2, r3, r4, r5⟩ := hcc u hlt
      obtain ⟨rk, hrk⟩ : ∃ x, x = (rat rs u).k := ⟨_, rfl⟩
      obtain ⟨rx, hrx⟩ : ∃ x, x = (rat rs u).xs := ⟨_, rfl⟩
      obtain ⟨rvv, hrv⟩ : ∃ x, x = (rat rs u).v := ⟨_, rfl⟩
      have hrr : rvR s (rat rs u) = rv rk rx rvv s := by simp only [rvR, hrk, hrx, hrv]
      rw [← hrk] at r0
      rw [← hrx] at r1 r3 r4 r5
      rw [← hrv] at r2
      have hin : (u : Int) < (nr : Int) := by omega
      have hy := rbox_new wr rk A' rx.length c' rvv 44
      have hb1 : Below wr.heap.size wr (wr.alloc (.cells #[.int .i64 rk, .slice A' rx.length c', .int .i64 rvv] 44)) := (Below.refl _ _).alloc (Nat.le_refl _) _
      obtain ⟨y0, y1, y2⟩ := id hy
      have hx1 := hx.below (Nat.lt_of_lt_of_le (Nat.lt_succ_self _) hsw) hb1
      obtain ⟨d0, d1, d2⟩ := id hx1
      have HC := Lib.hid (implRuleValid A' c' rx.length Br rx rk rvv s (wr.alloc (.cells #[.int .i64 rk, .slice A' rx.length c', .int .i64 rvv] 44)) (r3.below (hb1.mono (Nat.le_trans hBr hb.size))) (Nat.le_trans (Nat.le_trans hBr hb.size) hb1.size) r4 r5)
      have hbw := hb.trans (hb1.mono hb.size)
      have hs1 : w.heap.size < (wr.alloc (.cells #[.int .i64 rk, .slice A' rx.length c', .int .i64 rvv] 44)).heap.size := by simp; omega
      cases hv : rv rk rx rvv s
      · have HL := Lib.hid (show rulesB s rs = false from not_all_rat hlen.out hlt (hrr.trans hv))
        clear hrk hrx hrv hcc hrr
        go_wp2_with (go_at_call 66; refine HC.out.mono ?_; rintro e w3 ⟨rfl, hb3⟩; rw [hv])
        go_ret
        exact ⟨by rw [HL.out]; rfl, step hbw hb3⟩
      · have hall2 := Lib.hid (show allR (rvR s) rs (u + 1) from fun i hi => by
          by_cases e : i = u
          · subst e; exact hrr.trans hv
          · exact hall.out i (by omega))
        clear hrk hrx hrv hcc hrr
        go_wp2_with (go_at_call 66; refine HC.out.mono ?_; rintro e w3 ⟨rfl, hb3⟩; rw [hv])
        go_roundw
        case rel => exact ⟨u + 1, hlt, by go_num, hall2, hx1.below hs1 hb3, step hbw hb3, Nat.le_trans hs1 hb3.size⟩
        case measure => simp [intOf]; omega
    · obtain rfl : u = nr := by omega
      have HL := Lib.hid (show rulesB s rs = true from all_rat hlen.out hall.out)
      go_wp2
      go_ret
      exact ⟨by rw [HL.out]; rfl, hb⟩
/-- a puzzle and a grid that the program reads. -/
structure PGc (w : World) (s : Int) (Ag : Option Addr) (ng cg Bg : Nat) (gi : List Int) (Ar : Option Addr) (nr cr Br : Nat) (rs : List RuleM) : Prop where
  g : Rd w Bg Ag ng gi
  gB : Bg ≤ w.heap.size
  gm : ng ≤ 1099511627776
  r : RdRc w Br Ar nr rs
  rB : Br ≤ w.heap.size
  rm : nr ≤ 1099511627776
theorem PGc.below {w w' : World} {s : Int} {Ag : Option Addr} {ng cg Bg : Nat} {gi : List Int} {Ar : Option Addr} {nr cr Br : Nat} {rs : List RuleM} (h : PGc w s Ag ng cg Bg gi Ar nr cr Br rs) (hb : Below w.heap.size w w') : PGc w' s Ag ng cg Bg gi Ar nr cr Br rs :=
  ⟨h.g.below (hb.mono h.gB), Nat.le_trans h.gB hb.size, h.gm, h.r.below (hb.mono h.rB), Nat.le_trans h.rB hb.size, h.rm⟩
theorem PGc.rd {w : World} {s : Int} {Ag : Option Addr} {ng cg Bg : Nat} {gi : List Int} {Ar : Option Addr} {nr cr Br : Nat} {rs : List RuleM} (h : PGc w s Ag ng cg Bg gi Ar nr cr Br rs) : PGs w s Ag ng cg Bg gi Ar nr cr Br rs := ⟨h.g, h.gB, h.gm, h.r.rd, h.rB, h.rm⟩
set_option maxHeartbeats 1000000 in
theorem valid_any (s : Int) (Ag : Option Addr) (ng cg Bg : Nat) (gi : List Int) (Ar : Option Addr) (nr cr Br : Nat) (rs : List RuleM) (w : World) (hp : PGc w s Ag ng cg Bg gi Ar nr cr Br rs) :
    Calls Tryd.prog 42 #[.agg #[.int .i64 s, .slice Ag ng cg, .slice Ar nr cr]] w fun e w' => e = .returned (.bool (pvB s gi rs)) ∧ Below w.heap.size w w' := by
  have hlen := Lib.hid hp.r.1
  have hx0 := pbox_new w s Ag ng cg Ar nr cr 30
  have hb0 : Below w.heap.size w (w.alloc (.cells #[.int .i64 s, .slice Ag ng cg, .slice Ar nr cr] 30)) := (Below.refl _ _).alloc (Nat.le_refl _) _
  have hs0 : w.heap.size < (w.alloc (.cells #[.int .i64 s, .slice Ag ng cg, .slice Ar nr cr] 30)).heap.size := by simp
  obtain ⟨z0, z1, z2⟩ := id hx0
  have HG := Lib.hid (fun w' (hb : Below w.heap.size w w') => implGridValid Ag cg ng Bg gi s w' (hp.below hb).g (hp.below hb).gB hp.gm)
  have HR := Lib.hid (fun w' (hb : Below w.heap.size w w') => rulesValid_any s Ag ng cg Ar nr cr Br rs w' (hp.below hb).r (hp.below hb).rB hp.rm)
  cases hg : gv gi s
  · have HL := Lib.hid (show pvB s gi rs = false by simp [pvB, hg])
    go_enter Tryd.func42, Tryd.ntmps42
    go_wp2_with (go_at_call 50; refine (HG.out _ hb0).mono ?_; rintro e w1 ⟨rfl, hb1⟩; rw [hg])
    go_ret
    exact ⟨by rw [HL.out]; rfl, step hb0 hb1⟩
  · by_cases hn : (nr : Int) ≤ 20
    · have HL := Lib.hid (show pvB s gi rs = rulesB s rs by
        unfold pvB rulesB
        rw [hg, decide_eq_true (by rw [hlen.out]; omega), Bool.and_true, Bool.and_true])
      go_enter Tryd.func42, Tryd.ntmps42
      go_wp2_with (first | (go_at_call 50; refine (HG.out _ hb0).mono ?_; rintro e w1 ⟨rfl, hb1⟩; rw [hg]; have h01 := step hb0 hb1; obtain ⟨c0, c1, c2⟩ := hx0.below hs0 hb1) | (go_at_call 51; refine (HR.out _ h01).mono ?_; rintro e w2 ⟨rfl, hb2⟩))
      go_ret
      exact ⟨by rw [HL.out]; rfl, step h01 hb2⟩
    · have HL := Lib.hid (show pvB s gi rs = false by
        unfold pvB
        rw [show decide (rs.length ≤ 20) = false from decide_eq_false (by rw [hlen.out]; omega), Bool.and_false])
      go_enter Tryd.func42, Tryd.ntmps42
      go_wp2_with (go_at_call 50; refine (HG.out _ hb0).mono ?_; rintro e w1 ⟨rfl, hb1⟩; rw [hg]; have h01 := step hb0 hb1; obtain ⟨c0, c1, c2⟩ := hx0.below hs0 hb1)
      go_ret
      exact ⟨by rw [HL.out]; rfl, h01⟩
end Go.Proofs.YtchcmgaohcldjaaDoor
set_option maxRecDepth 8000
namespace Go.Proofs.YtchcmgaohcldjaaDoor
open Go.ChangeShapes Go.WideShapes Go.ChangeAt Go.RowKit
/-! What the search by exact cover has in memory: the options of every cell, and the rules that end there. -/
/-- what lay at or beyond lo lies as it lay, but for block G. -/
structure MidX (lo G : Nat) (X Y : World) : Prop where
  size : X.heap.size ≤ Y.heap.size
  same : ∀ k, lo ≤ k → k < X.heap.size → k ≠ G → Y.heap[k]? = X.heap[k]?
theorem Mid.x {lo G : Nat} {X Y : World} (h : Mid lo X Y) : MidX lo G X Y := ⟨h.size, fun k h1 h2 _ => h.same k h1 h2⟩
theorem midx_grown {lo G : Nat} {X Y : World} (h : X.grownBy Y (some G)) : MidX lo G X Y := ⟨h.size, fun k _ h2 h3 => h.block k h2 (fun e => h3 (Option.some.inj e))⟩
theorem midx_below {lo G : Nat} {X Y : World} (h : Below X.heap.size X Y) : MidX lo G X Y := ⟨h.size, fun k _ h2 _ => h.block k h2⟩
theorem MidX.trans {lo G : Nat} {X Y Z : World} (h : MidX lo G X Y) (k : MidX lo G Y Z) : MidX lo G X Z :=
  ⟨Nat.le_trans h.size k.size, fun i h1 h2 h3 => (k.same i h1 (Nat.lt_of_lt_of_le h2 h.size) h3).trans (h.same i h1 h2 h3)⟩
theorem MidX.cell {lo G b i : Nat} {X Y : World} {v : Value} (h : MidX lo G X Y) (hc : X.cell? ⟨b, i, none⟩ = some v) (h1 : lo ≤ b) (h2 : b ≠ G) : Y.cell? ⟨b, i, none⟩ = some v :=
  (World.cell?_of_block (a := ⟨b, i, none⟩) (h.same b h1 (cell_lt hc) h2)).trans hc
/-- a slice of options for cell c: the values, and what they cover. -/
def RdO (X : World) (L : Nat) (A : Option Addr) (s c : Nat) (vs : List Int) : Prop :=
  0 < vs.length → ∃ b, A = some ⟨b, 0, none⟩ ∧ L ≤ b ∧ ∀ i, i < vs.length → X.cell? ⟨b, i * 2, none⟩ = some (.int .i64 (nth vs i)) ∧ X.cell? ⟨b, i * 2 + 1, none⟩ = some (.int .u64 ((itN s c (nth vs i).toNat : Nat) : Int))
theorem RdO.midx {X Y : World} {lo G L s c : Nat} {A : Option Addr} {vs : List Int} (h : RdO X L A s c vs) (hm : MidX lo G X Y) (h1 : lo ≤ L) (h2 : G < L) : RdO Y L A s c vs := fun hn => by
  obtain ⟨b, e, hb, hc⟩ := h hn
  exact ⟨b, e, hb, fun i hi => ⟨hm.cell (hc i hi).1 (by omega) (by omega), hm.cell (hc i hi).2 (by omega) (by omega)⟩⟩
/-- a slice of rules whose cells lie where they lay in the world W0, below B0. -/
def RdW (W0 : World) (B0 : Nat) (X : World) (L : Nat) (A : Option Addr) (q : List RuleM) : Prop :=
  0 < q.length → ∃ b, A = some ⟨b, 0, none⟩ ∧ L ≤ b ∧ ∀ i, i < q.length → ∃ A' c', X.cell? ⟨b, i * 3, none⟩ = some (.int .i64 (rat q i).k) ∧ X.cell? ⟨b, i * 3 + 1, none⟩ = some (.slice A' (rat q i).xs.length c') ∧ X.cell? ⟨b, i * 3 + 2, none⟩ = some (.int .i64 (rat q i).v) ∧ Rd W0 B0 A' (rat q i).xs.length (rat q i).xs ∧ (rat q i).xs.length ≤ c'
theorem RdW.midx {W0 X Y : World} {B0 lo G L : Nat} {A : Option Addr} {q : List RuleM} (h : RdW W0 B0 X L A q) (hm : MidX lo G X Y) (h1 : lo ≤ L) (h2 : G < L) : RdW W0 B0 Y L A q := fun hn => by
  obtain ⟨b, e, hb, hc⟩ := h hn
  refine ⟨b, e, hb, fun i hi => ?_⟩
  obtain ⟨A', c', e0, e1, e2, e3, e4⟩ := hc i hi
  exact ⟨A', c', hm.cell e0 (by omega) (by omega), hm.cell e1 (by omega) (by omega), hm.cell e2 (by omega) (by omega), e3, e4⟩
/-- the values that cell c is offered. -/
def optL (s : Nat) (gi : List Int) (c : Nat) : List Int := bitsTo (candN gi s c) 4
/-- all of it: the rows of options lie in block OB, those of rules in block RB. -/
def SR (W0 : World) (B0 s : Nat) (gi : List Int) (rs : List RuleM) (OB RB L : Nat) (X : World) : Prop :=
  ∀ c, c < s * s → (∃ A cap, X.cell? ⟨OB, c, none⟩ = some (.slice A (optL s gi c).length cap) ∧ RdO X L A s c (optL s gi c)) ∧ ∃ A cap, X.cell? ⟨RB, c, none⟩ = some (.slice A (rulesAt rs c).length cap) ∧ RdW W0 B0 X L A (rulesAt rs c)
theorem SR.midx {W0 X Y : World} {B0 s lo G OB RB L : Nat} {gi : List Int} {rs : List RuleM} (h : SR W0 B0 s gi rs OB RB L X) (hm : MidX lo G X Y) (hO : lo ≤ OB ∧ OB ≠ G) (hR : lo ≤ RB ∧ RB ≠ G) (h1 : lo ≤ L) (h2 : G < L) : SR W0 B0 s gi rs OB RB L Y := fun c hc => by
  obtain ⟨⟨A, cap, e1, e2⟩, A', cap', e3, e4⟩ := h c hc
  exact ⟨⟨A, cap, hm.cell e1 hO.1 hO.2, e2.midx hm h1 h2⟩, A', cap', hm.cell e3 hR.1 hR.2, e4.midx hm h1 h2⟩
theorem lf_congr {s : Nat} {us us' : List Int} : ∀ {p : Nat}, (∀ i, i < p → nth us i = nth us' i) → lf s us p = lf s us' p := by
  intro p
  induction p with
  | zero => intro _; rfl
  | succ p ih =>
    intro h
    simp only [lf]
    rw [ih (fun i hi => h i (by omega)), h p (by omega)]
end Go.Proofs.YtchcmgaohcldjaaDoor
set_option maxRecDepth 8000
namespace Go.Proofs.YtchcmgaohcldjaaDoor
open Go.ChangeShapes Go.WideShapes Go.ChangeAt Go.RowKit
set_option maxHeartbeats 8000000 in
theorem specNarrowRules (s : Int) (Ag : Option Addr) (n cg Bg : Nat) (gi : List Int) (Ar : Option Addr) (nr cr Br : Nat) (rs : List RuleM) (A : Option Addr) (c nm B : Nat) (m : List Int) (w : World) (hp : PGs w s Ag n cg Bg gi Ar nr cr Br rs) (h : Rd w B A nm m) (hBm : B ≤ w.heap.size) (hm : nm ≤ 1099511627776) (hsb : -9223372036854775808 ≤ s ∧ s ≤ 9223372036854775807) :
    Calls Tryd.prog 6 #[.agg #[.int .i64 s, .slice Ag n cg, .slice Ar nr cr], .slice A nm c] w (RetSl w (nrL s gi rs m)) := by
  have hlen := Lib.hid h.1
  have hlenr := Lib.hid hp.r.1
  have hx0 := pbox_new w s Ag n cg Ar nr cr 30
  have hb0 : Below w.heap.size w (w.alloc (.cells #[.int .i64 s, .slice Ag n cg, .slice Ar nr cr] 30)) := (Below.refl _ _).alloc (Nat.le_refl _) _
  have hs0 : w.heap.size < (w.alloc (.cells #[.int .i64 s, .slice Ag n cg, .slice Ar nr cr] 30)).heap.size := by simp
  obtain ⟨z0, z1, z2⟩ := id hx0
  have HP := Lib.hid (fun w' (hb : Below w.heap.size w w') => specPuzzleValid s Ag n cg Bg gi Ar nr cr Br rs w' (hp.below hb).g (hp.below hb).gB hp.gm (hp.below hb).r (hp.below hb).rB hp.rm)
  have HV := Lib.hid (fun w' (hb : Below w.heap.size w w') => specMasksValid A c nm B m s w' (h.below (hb.mono hBm)) (Nat.le_trans hBm hb.size) hm hsb)
  cases hv : pvB s gi rs
  · have HL := Lib.hid (show nrL s gi rs m = [] by simp [nrL, hv])
    go_enter Tryd.func6, Tryd.ntmps6
    go_wp2_with (go_at_call 19; refine (HP.out _ hb0).mono ?_; rintro e w1 ⟨rfl, hb1⟩; rw [hv]; have h01 := step hb0 hb1)
    go_ret
    rw [HL.out]
    exact ⟨_, _, rfl, Ow.made0 _ _ h01.size, h01.alloc h01.size _⟩
  · cases hmv : mvd m s
    · have HL := Lib.hid (show nrL s gi rs m = [] by simp [nrL, hmv])
      go_enter Tryd.func6, Tryd.ntmps6
      go_wp2_with (first
        | (go_at_call 19; refine (HP.out _ hb0).mono ?_; rintro e w1 ⟨rfl, hb1⟩; rw [hv]; have h01 := step hb0 hb1; obtain ⟨c0, c1, c2⟩ := hx0.below hs0 hb1)
        | (go_at_call 20; refine (HV.out _ h01).mono ?_; rintro e w2 ⟨rfl, hb2⟩; rw [hmv]; have h02 := step h01 hb2))
      go_ret
      rw [HL.out]
      exact ⟨_, _, rfl, Ow.made0 _ _ h02.size, h02.alloc h02.size _⟩
    · obtain ⟨⟨s2, s4⟩, hsq, hnm16, _⟩ := mvd_at hmv
      rw [hlen.out] at hsq hnm16
      have hall := (pv_gv hv).2.2
      have hnm0 : 0 < nm := by
        have : s = 2 ∨ s = 3 ∨ s = 4 := by omega
        rcases this with rfl | rfl | rfl <;> omega
      have HCp := Lib.hid (fun w' (hb : Below w.heap.size w w') => specL6Copy A nm c B m w' (h.below (hb.mono hBm)) (Nat.le_trans hBm hb.size) hm)
      have HL := Lib.hid (show nrL s gi rs m = nrTo s rs m nr by unfold nrL; rw [hv, hmv, Bool.true_and, if_pos rfl, hlenr.out])
      have HS := Lib.hid (fun u (hu : u ≤ nr) => nrTo_sub (rs := rs) hmv hall u (by rw [hlenr.out]; exact hu))
      have HA := Lib.hid (fun u (hu : u < nr) => hall u (by rw [hlenr.out]; exact hu))
      have Hsq := Lib.hid hsq
      clear hall hsq
      go_enter Tryd.func6, Tryd.ntmps6
      go_wp2_with (first
        | (go_at_call 19; refine (HP.out _ hb0).mono ?_; rintro e w1 ⟨rfl, hb1⟩; rw [hv]; have h01 := step hb0 hb1; have hx1 := hx0.below hs0 hb1; have hs1 := Nat.lt_of_lt_of_le hs0 hb1.size; obtain ⟨c0, c1, c2⟩ := id hx1)
        | (go_at_call 20; refine (HV.out _ h01).mono ?_; rintro e w2 ⟨rfl, hb2⟩; rw [hmv]; have h02 := step h01 hb2; have hx2 := hx1.below hs1 hb2; have hs2 := Nat.lt_of_lt_of_le hs1 hb2.size)
        | (go_at_call 21; refine (HCp.out _ h02).mono ?_; rintro e w3 ⟨Ac, cc, rfl, ho3, hb3⟩))
      have h03 := step h02 hb3
      have hx3 := hx2.below hs2 hb3
      obtain ⟨g, rfl, hgl, hgw⟩ := ho3.form hnm0
      have hmv' := Lib.hid hmv
      clear hmv hx0 hx1 hx2 z0 z1 z2 c0 c1 c2
      go_loopw [6] (fun i wr => ∃ u : Nat, u ≤ nr ∧ i = .int .i64 u ∧ Ow wr w2.heap.size (some ⟨g, 0, none⟩) nm cc (nrTo s rs m u) ∧ PBox wr w.heap.size s Ag n cg Ar nr cr ∧ Below w.heap.size w wr ∧ w2.heap.size ≤ wr.heap.size) (fun i _ => nr - (intOf i).toNat)
      case atStart => exact ⟨0, Nat.zero_le _, rfl, ho3, hx3, h03, hb3.size⟩
      case round =>
        clear ho3 hx3 h03 hb3
        obtain ⟨u, hu, rfl, ho, hx, hb, hsw⟩ := hrel
        obtain ⟨c0, c1, c2⟩ := id hx
        by_cases hlt : u < nr
        · have hltI : (u : Int) < (nr : Int) := by omega
          have hmu := (HS.out u hu).mvd_ hmv'.out
          have hpb := hp.below hb
          obtain ⟨b, off, rfl, hbB, hcc⟩ := hpb.r.2 (by omega)
          obtain ⟨A', c', r0, r1, r2, r3, r4⟩ := hcc u hlt
          have hv0 := HA.out u hlt
          have HT0 : nrTo s rs m (u + 1) = nrIn (rat rs u).xs (rmL (rat rs u).k (rat rs u).xs (rat rs u).v (nrTo s rs m u) s) (nrTo s rs m u) (rat rs u).xs.length := rfl
          obtain ⟨rk, hrk⟩ : ∃ x, x = (rat rs u).k := ⟨_, rfl⟩
          obtain ⟨rx, hrx⟩ : ∃ x, x = (rat rs u).xs := ⟨_, rfl⟩
          obtain ⟨rvv, hrv⟩ : ∃ x, x = (rat rs u).v := ⟨_, rfl⟩
          have hvv : rv rk rx rvv s = true := by rw [hrk, hrx, hrv]; exact hv0
          obtain ⟨O, hO⟩ : ∃ O, O = nrTo s rs m u := ⟨_, rfl⟩
          rw [← hrk, ← hrx, ← hrv, ← hO] at HT0
          rw [← hO] at hmu ho
          rw [← hrk] at r0
          rw [← hrx] at r1 r3 r4
          rw [← hrv] at r2
          have hlf := rm_len (o := O) hvv hmu
          obtain ⟨_, ⟨hn1, hn4⟩, _, hxin⟩ := rv_facts rfl hvv
          obtain ⟨l, hl⟩ : ∃ l, l = rx.length := ⟨_, rfl⟩
          rw [← hl] at r1 r3 r4 HT0 hlf hn1 hn4 hxin
          have hBr : Br ≤ wr.heap.size := hpb.rB
          have hrlen := Lib.hid (show rx.length = l from hl.symm)
          have Hxin := Lib.hid (show ∀ i, i < l → ∃ q : Nat, nth rx i = (q : Int) ∧ q < nm from fun i hi => by
            obtain ⟨y0, y1⟩ := hxin i hi
            obtain ⟨q, hq⟩ := Int.eq_ofNat_of_zero_le y0
            exact ⟨q, hq, by have := Hsq.out; omega⟩)
          have hy0 := rbox_new wr rk A' l c' rvv 44
          have hb1 : Below wr.heap.size wr (wr.alloc (.cells #[.int .i64 rk, .slice A' l c', .int .i64 rvv] 44)) := (Below.refl _ _).alloc (Nat.le_refl _) _
          have hs1' : (wr.alloc (.cells #[.int .i64 rk, .slice A' l c', .int .i64 rvv] 44)).heap.size = wr.heap.size + 1 := by simp
          obtain ⟨y0, y1, y2⟩ := id hy0
          obtain ⟨x0, x1, x2⟩ := hx.below (show w.heap.size < wr.heap.size by omega) hb1
          obtain ⟨W, hW⟩ : ∃ W, wr.alloc (.cells #[.int .i64 rk, .slice A' l c', .int .i64 rvv] 44) = W := ⟨_, rfl⟩
          rw [hW] at hy0 hb1 hs1'
          have hxW := hx.below (show w.heap.size < wr.heap.size by omega) hb1
          have hoW := ho.below hb1
          have hrW := r3.below (hb1.mono hBr)
          have hbW := hb.trans (hb1.mono hb.size)
          have HRM := Lib.hid (specRuleMasks A' c' l Br rx rk rvv s (some ⟨g, 0, none⟩) cc nm W.heap.size O W hrW (by omega) (by omega) hoW.rd (Nat.le_refl _) (by omega) hsb)
          obtain ⟨f, hf⟩ : ∃ f, f = rmL rk rx rvv O s := ⟨_, rfl⟩
          rw [← hf] at HRM hlf HT0
          have Hlf := Lib.hid hlf
          have HT := Lib.hid HT0
          have HW := Lib.hid hW
          have hgr : g < wr.heap.size := ho.own_hi g rfl
          clear hcc HT0 hlf hrk hrx hrv hvv hv0 hmu hO hf hW hxin hl
          go_wp2_with fail
          rw [HW.out]
          refine HRM.out.mono ?_
          rintro e w4 ⟨A3, c3, rfl, ho4, hb4⟩
          rw [Hlf.out] at ho4 ⊢
          obtain ⟨g3, rfl, hg3, _⟩ := ho4.form (by omega)
          have hy4 := hy0.below (show wr.heap.size < W.heap.size by omega) hb4
          have hx4 := hxW.below (show w.heap.size < W.heap.size by omega) hb4
          have hog := hoW.below hb4
          have hr4 := hrW.below (hb4.mono (show Br ≤ W.heap.size by omega))
          have hs4 := hb4.size
          have hbw4 := hbW.trans (hb4.mono hbW.size)
          have hbg : ∀ b off, A' = some ⟨b, off, none⟩ → b ≠ g := fun b off e e2 => by
            obtain ⟨b', off', e3, hlt', _⟩ := hrW.2 (by omega)
            rw [e] at e3
            injection e3 with e3
            injection e3 with e3 _ _
            have := hp.rB
            omega
          have HF := Lib.hid (fun wx (hg : w4.grownBy wx (some g)) => (⟨(hg.cell_far ⟨wr.heap.size, 1, none⟩ (by show wr.heap.size < _; omega) (fun e2 => by have e3 : wr.heap.size = g := Option.some.inj e2; omega)).trans hy4.2.1, hr4.grown hg hbg (show Br ≤ w4.heap.size by omega), ho4.far hg (fun b hb e2 => by have := ho4.own_lo b hb; injection e2 with e2; omega)⟩ : wx.cell? ⟨wr.heap.size, 1, none⟩ = some (.slice A' l c') ∧ Rd wx Br A' l rx ∧ Ow wx W.heap.size (some ⟨g3, 0, none⟩) l c3 f))
          have HPB := Lib.hid (fun wx (hg : w4.grownBy wx (some g)) => (⟨(hg.cell_far ⟨w.heap.size, 0, none⟩ (by show w.heap.size < _; omega) (fun e2 => by have e3 : w.heap.size = g := Option.some.inj e2; have := h02.size; omega)).trans hx4.1, (hg.cell_far ⟨w.heap.size, 1, none⟩ (by show w.heap.size < _; omega) (fun e2 => by have e3 : w.heap.size = g := Option.some.inj e2; have := h02.size; omega)).trans hx4.2.1, (hg.cell_far ⟨w.heap.size, 2, none⟩ (by show w.heap.size < _; omega) (fun e2 => by have e3 : w.heap.size = g := Option.some.inj e2; have := h02.size; omega)).trans hx4.2.2⟩ : PBox wx w.heap.size s Ag n cg (some ⟨b, off, none⟩) nr cr))
          clear y0 y1 y2 x0 x1 x2 c0 c1 c2 r0 r1 r2 r3 hy0 hxW hoW hrW ho hx hbg
          go_wp2
          go_loopw [9] (fun j wx => ∃ k : Nat, k ≤ l ∧ j = .int .i64 k ∧ Ow wx w2.heap.size (some ⟨g, 0, none⟩) nm cc (nrIn rx f O k) ∧ w4.grownBy wx (some g)) (fun j _ => l - (intOf j).toNat)
          case atStart => exact ⟨0, Nat.zero_le _, rfl, hog, World.grownBy.refl _ _⟩
          case round =>
            obtain ⟨k, hk, rfl, ho, hg⟩ := hrel
            obtain ⟨y1, hrd, hof⟩ := HF.out _ hg
            by_cases hkl : k < l
            · have hklI : (k : Int) < (l : Int) := by omega
              obtain ⟨q, hq, hqn⟩ := Hxin.out k hkl
              obtain ⟨b', off', rfl, hbB', hcx⟩ := hrd.at_ hkl
              rw [hq] at hcx
              obtain ⟨hcf, _⟩ := hof.cell hkl
              obtain ⟨hcell, hfr⟩ := ho.cell hqn
              have HN := Lib.hid (show nrIn rx f O (k + 1) = (nrIn rx f O k).set q (nth f k) by simp only [nrIn, hq, Int.toNat_natCast])
              have hput := Lib.hid (ho.putN q (nth f k))
              have hgp := Lib.hid (grown_drew (hg.trans (grown_set (w := wr) (G := g) (i := q) (v := .int .i64 (nth f k)))))
              clear hq
              go_wp2
              go_region
              go_wp2
              go_roundw
              case rel => exact ⟨k + 1, by omega, by go_num, by rw [HN.out]; exact hput.out, hgp.out⟩
              case measure => simp [intOf]; omega
            · obtain rfl : k = l := by omega
              have hrm := hp.rm
              go_wp2
              go_roundw
              case rel => exact ⟨u + 1, hlt, by go_num, by rw [HT.out]; exact ho, HPB.out _ hg, hbw4.grown hg hbw4.size (fun k hk => by injection hk with hk; omega), by have := hg.size; omega⟩
              case measure => simp [intOf]; omega
        · obtain rfl : u = nr := by omega
          go_wp2
          go_ret
          rw [HL.out]
          exact retSl_mk (ho.mono (by omega)) hb
/-- a technique by its number. -/
def nbL (s : Int) (gi : List Int) (rs : List RuleM) (m : List Int) (t : Int) : List Int :=
  if (pvB s gi rs && mvd m s) = true then (if t = 1 then nsL m s m.length else if t = 2 then nhL m s else if t = 3 then npL m s else if t = 4 then nrL s gi rs m else []) else []
theorem nb_sub {s : Int} {gi : List Int} {rs : List RuleM} {m : List Int} {t : Int} (hv : pvB s gi rs = true) (hm : mvd m s = true) (h1 : 1 ≤ t) (h4 : t ≤ 4) : Sub (nbL s gi rs m t) m := by
  unfold nbL
  rw [hv, hm, Bool.true_and, if_pos rfl]
  have : t = 1 ∨ t = 2 ∨ t = 3 ∨ t = 4 := by omega
  rcases this with rfl | rfl | rfl | rfl
  · exact ns_sub hm _
  · exact nh_sub hm
  · exact np_sub hm
  · exact nr_sub hv hm
set_option maxHeartbeats 4000000 in
theorem specNarrowBy (s : Int) (Ag : Option Addr) (n cg Bg : Nat) (gi : List Int) (Ar : Option Addr) (nr cr Br : Nat) (rs : List RuleM) (A : Option Addr) (c nm B : Nat) (m : List Int) (t : Int) (w : World) (hp : PGs w s Ag n cg Bg gi Ar nr cr Br rs) (h : Rd w B A nm m) (hBm : B ≤ w.heap.size) (hm : nm ≤ 1099511627776) (hsb : -9223372036854775808 ≤ s ∧ s ≤ 9223372036854775807) :
    Calls Tryd.prog 15 #[.agg #[.int .i64 s, .slice Ag n cg, .slice Ar nr cr], .slice A nm c, .int .i64 t] w (RetSl w (nbL s gi rs m t)) := by
  have hlen := Lib.hid h.1
  have hx0 := pbox_new w s Ag n cg Ar nr cr 30
  have hb0 : Below w.heap.size w (w.alloc (.cells #[.int .i64 s, .slice Ag n cg, .slice Ar nr cr] 30)) := (Below.refl _ _).alloc (Nat.le_refl _) _
  have hs0 : w.heap.size < (w.alloc (.cells #[.int .i64 s, .slice Ag n cg, .slice Ar nr cr] 30)).heap.size := by simp
  obtain ⟨z0, z1, z2⟩ := id hx0
  have HP := Lib.hid (fun w' (hb : Below w.heap.size w w') => specPuzzleValid s Ag n cg Bg gi Ar nr cr Br rs w' (hp.below hb).g (hp.below hb).gB hp.gm (hp.below hb).r (hp.below hb).rB hp.rm)
  have HV := Lib.hid (fun w' (hb : Below w.heap.size w w') => specMasksValid A c nm B m s w' (h.below (hb.mono hBm)) (Nat.le_trans hBm hb.size) hm hsb)
  cases hv : pvB s gi rs
  · have HL := Lib.hid (show nbL s gi rs m t = [] by simp [nbL, hv])
    go_enter Tryd.func15, Tryd.ntmps15
    go_wp2_with (go_at_call 19; refine (HP.out _ hb0).mono ?_; rintro e w1 ⟨rfl, hb1⟩; rw [hv]; have h01 := step hb0 hb1)
    go_ret
    rw [HL.out]
    exact ⟨_, _, rfl, Ow.made0 _ _ h01.size, h01.alloc h01.size _⟩
  · cases hmv : mvd m s
    · have HL := Lib.hid (show nbL s gi rs m t = [] by simp [nbL, hmv])
      go_enter Tryd.func15, Tryd.ntmps15
      go_wp2_with (first
        | (go_at_call 19; refine (HP.out _ hb0).mono ?_; rintro e w1 ⟨rfl, hb1⟩; rw [hv]; have h01 := step hb0 hb1; obtain ⟨c0, c1, c2⟩ := hx0.below hs0 hb1)
        | (go_at_call 20; refine (HV.out _ h01).mono ?_; rintro e w2 ⟨rfl, hb2⟩; rw [hmv]; have h02 := step h01 hb2))
      go_ret
      rw [HL.out]
      exact ⟨_, _, rfl, Ow.made0 _ _ h02.size, h02.alloc h02.size _⟩
    · have h64 : Hid (∀ k, k < nm → -9223372036854775808 ≤ nth m k ∧ nth m k ≤ 9223372036854775807) := Lib.hid (fun k _ => by have := mvd_nth hmv k; omega)
      have HL0 : nbL s gi rs m t = (if t = 1 then nsL m s m.length else if t = 2 then nhL m s else if t = 3 then npL m s else if t = 4 then nrL s gi rs m else []) := by unfold nbL; rw [hv, hmv, Bool.true_and, if_pos rfl]
      rw [hlen.out] at HL0
      by_cases h1 : t = 1
      · subst h1
        have HL := Lib.hid (show nbL s gi rs m 1 = nsL m s nm by rw [HL0]; rfl)
        have HC := Lib.hid (fun w' (hb : Below w.heap.size w w') => specNarrowSingles A c nm B m s w' (h.below (hb.mono hBm)) (Nat.le_trans hBm hb.size) hm hsb h64)
        clear HL0
        go_enter Tryd.func15, Tryd.ntmps15
        go_wp2_with (first
          | (go_at_call 19; refine (HP.out _ hb0).mono ?_; rintro e w1 ⟨rfl, hb1⟩; rw [hv]; have h01 := step hb0 hb1; have hx1 := hx0.below hs0 hb1; have hs1 := Nat.lt_of_lt_of_le hs0 hb1.size; obtain ⟨c0, c1, c2⟩ := id hx1)
          | (go_at_call 20; refine (HV.out _ h01).mono ?_; rintro e w2 ⟨rfl, hb2⟩; rw [hmv]; have h02 := step h01 hb2; obtain ⟨d0, d1, d2⟩ := hx1.below hs1 hb2)
          | (go_at_call 26; refine (HC.out _ h02).mono ?_; rintro e w3 ⟨A3, c3, rfl, ho3, hb3⟩))
        go_ret
        rw [HL.out]
        exact ⟨_, _, rfl, ho3.mono h02.size, step h02 hb3⟩
      · have n1 : (t == 1) = false := by simpa using h1
        by_cases h2 : t = 2
        · subst h2
          have HL := Lib.hid (show nbL s gi rs m 2 = nhL m s by rw [HL0]; rfl)
          have HC := Lib.hid (fun w' (hb : Below w.heap.size w w') => specNarrowHidden A c nm B m s w' (h.below (hb.mono hBm)) (Nat.le_trans hBm hb.size) hm hsb)
          clear HL0
          go_enter Tryd.func15, Tryd.ntmps15
          go_wp2_with (first
            | (go_at_call 19; refine (HP.out _ hb0).mono ?_; rintro e w1 ⟨rfl, hb1⟩; rw [hv]; have h01 := step hb0 hb1; have hx1 := hx0.below hs0 hb1; have hs1 := Nat.lt_of_lt_of_le hs0 hb1.size; obtain ⟨c0, c1, c2⟩ := id hx1)
            | (go_at_call 20; refine (HV.out _ h01).mono ?_; rintro e w2 ⟨rfl, hb2⟩; rw [hmv]; have h02 := step h01 hb2; obtain ⟨d0, d1, d2⟩ := hx1.below hs1 hb2)
            | (go_at_call 27; refine (HC.out _ h02).mono ?_; rintro e w3 ⟨A3, c3, rfl, ho3, hb3⟩))
          go_ret
          rw [HL.out]
          exact ⟨_, _, rfl, ho3.mono h02.size, step h02 hb3⟩
        · have n2 : (t == 2) = false := by simpa using h2
          by_cases h3 : t = 3
          · subst h3
            have HL := Lib.hid (show nbL s gi rs m 3 = npL m s by rw [HL0]; rfl)
            have HC := Lib.hid (fun w' (hb : Below w.heap.size w w') => specNarrowPairs A c nm B m s w' (h.below (hb.mono hBm)) (Nat.le_trans hBm hb.size) hm hsb)
            clear HL0
            go_enter Tryd.func15, Tryd.ntmps15
            go_wp2_with (first
              | (go_at_call 19; refine (HP.out _ hb0).mono ?_; rintro e w1 ⟨rfl, hb1⟩; rw [hv]; have h01 := step hb0 hb1; have hx1 := hx0.below hs0 hb1; have hs1 := Nat.lt_of_lt_of_le hs0 hb1.size; obtain ⟨c0, c1, c2⟩ := id hx1)
              | (go_at_call 20; refine (HV.out _ h01).mono ?_; rintro e w2 ⟨rfl, hb2⟩; rw [hmv]; have h02 := step h01 hb2; obtain ⟨d0, d1, d2⟩ := hx1.below hs1 hb2)
              | (go_at_call 28; refine (HC.out _ h02).mono ?_; rintro e w3 ⟨A3, c3, rfl, ho3, hb3⟩))
            go_ret
            rw [HL.out]
            exact ⟨_, _, rfl, ho3.mono h02.size, step h02 hb3⟩
          · have n3 : (t == 3) = false := by simpa using h3
            by_cases h4 : t = 4
            · subst h4
              have HL := Lib.hid (show nbL s gi rs m 4 = nrL s gi rs m by rw [HL0]; rfl)
              have HC := Lib.hid (fun w' (hb : Below w.heap.size w w') => specNarrowRules s Ag n cg Bg gi Ar nr cr Br rs A c nm B m w' (hp.below hb) (h.below (hb.mono hBm)) (Nat.le_trans hBm hb.size) hm hsb)
              clear HL0
              go_enter Tryd.func15, Tryd.ntmps15
              go_wp2_with (first
                | (go_at_call 19; refine (HP.out _ hb0).mono ?_; rintro e w1 ⟨rfl, hb1⟩; rw [hv]; have h01 := step hb0 hb1; have hx1 := hx0.below hs0 hb1; have hs1 := Nat.lt_of_lt_of_le hs0 hb1.size; obtain ⟨c0, c1, c2⟩ := id hx1)
                | (go_at_call 20; refine (HV.out _ h01).mono ?_; rintro e w2 ⟨rfl, hb2⟩; rw [hmv]; have h02 := step h01 hb2; obtain ⟨d0, d1, d2⟩ := hx1.below hs1 hb2)
                | (go_at_call 6; refine (HC.out _ h02).mono ?_; rintro e w3 ⟨A3, c3, rfl, ho3, hb3⟩))
              go_ret
              rw [HL.out]
              exact ⟨_, _, rfl, ho3.mono h02.size, step h02 hb3⟩
            · have n4 : (t == 4) = false := by simpa using h4
              have HL := Lib.hid (show nbL s gi rs m t = [] by rw [HL0, if_neg h1, if_neg h2, if_neg h3, if_neg h4])
              clear HL0
              go_enter Tryd.func15, Tryd.ntmps15
              go_wp2_with (first
                | (go_at_call 19; refine (HP.out _ hb0).mono ?_; rintro e w1 ⟨rfl, hb1⟩; rw [hv]; have h01 := step hb0 hb1; have hx1 := hx0.below hs0 hb1; have hs1 := Nat.lt_of_lt_of_le hs0 hb1.size; obtain ⟨c0, c1, c2⟩ := id hx1)
                | (go_at_call 20; refine (HV.out _ h01).mono ?_; rintro e w2 ⟨rfl, hb2⟩; rw [hmv]; have h02 := step h01 hb2; obtain ⟨d0, d1, d2⟩ := hx1.below hs1 hb2))
              go_ret
              rw [HL.out]
              exact ⟨_, _, rfl, Ow.made0 _ _ h02.size, h02.alloc h02.size _⟩
end Go.Proofs.YtchcmgaohcldjaaDoor
