import Derived.Test.YtchcmgaohcldjaaDoorSNr
import Derived.Test.YtchcmgaohcldjaaDoorNp
import Derived.Test.YtchcmgaohcldjaaDoorSBits
import Derived.Test.YtchcmgaohcldjaaDoorBase
import Derived.Maps.AppendAt
import Derived.Test.YtchcmgaohcldjaaDoorSW3E
import Derived.Deep.RegionHeld3
set_option maxRecDepth 8000
namespace Go.Proofs.YtchcmgaohcldjaaDoor
open Go.ChangeShapes Go.WideShapes Go.ChangeAt Go.RowKit
theorem an_an : ∀ x, x < 32 → ∀ y, y < 32 → ∀ z, z < 32 → bits .andNot .i64 (x : Nat) (z : Nat) = 0 → bits .andNot .i64 (bits .andNot .i64 (x : Nat) (y : Nat)) (z : Nat) = 0 := by decide +kernel
theorem an_bit : ∀ x, x < 32 → ∀ y, y < 32 → ∀ v, v < 5 → (bits .andNot .i64 (x : Nat) (y : Nat)).toNat.testBit v = (x.testBit v && !y.testBit v) := by decide +kernel
def twoB (M a b v : Nat) : Bool := !((maskVals (M : Int)).length == 2 && M.testBit a && M.testBit b && a != b && v != a && v != b) || !M.testBit v
theorem two_key : ∀ M, M < 32 → ∀ a, a < 5 → ∀ b, b < 5 → ∀ v, v < 5 → twoB M a b v = true := by decide +kernel
/-- the cells of a line of a solved grid have different values. -/
theorem sol_ne {g : List Int} {s : Nat} (hs : s ∈ [2, 3, 4]) (hl : g.length = s * s) (h : sqSolved g s = true) {u : Nat} (hu : u < 2 * s) {i j : Nat} (hij : i ≠ j) (hi : i < s) (hj : j < s) : lineV g s (u : Nat) i ≠ lineV g s (u : Nat) j := by
  obtain ⟨h1, h2, h3⟩ := (solved_iff hl).1 h
  have hd : dupTo (lineV g s (u : Nat)) s = false := by
    cases e : dupTo (lineV g s (u : Nat)) s
    · rfl
    · have := clash_at (xs := g) (size := (s : Int)) (l := u) (by omega) (by rw [Int.toNat_natCast]; exact e)
      rw [h2] at this; cases this
  have hp : ∀ k, k < s → 0 < lineV g s (u : Nat) k := fun k hk => by
    have hp := line_at hs hu k hk
    have hz := h3 _ hp
    obtain ⟨q0, _⟩ := gv_nth h1 (k := (lineAt s u k).toNat) (by rw [hl]; exact hp)
    unfold lineV
    omega
  intro e
  have : dupTo (lineV g s (u : Nat)) s = true := by
    rw [dupTo_iff]
    rcases Nat.lt_or_gt_of_ne hij with hlt | hlt
    · exact ⟨i, j, hlt, hj, e, hp j hj⟩
    · exact ⟨j, i, hlt, hi, e.symm, hp i hi⟩
  rw [hd] at this; cases this
theorem len_of {m : List Int} {s : Nat} (hs : s ∈ [2, 3, 4]) (hm : mvd m s = true) : m.length = s * s := by
  have := (mvd_at hm).2.1
  simp at hs
  rcases hs with rfl | rfl | rfl <;> omega
theorem pIn_in {m g o : List Int} {s u a b : Nat} (hs : s ∈ [2, 3, 4]) (hm : mvd m s = true) (hsb : Sub o m) (hu : u < 2 * s) (hno : ∀ k, k < s → k ≠ a → k ≠ b → inMask (m.set (lcN s u k) (nth m (lcN s u a))) g (lcN s u k) = false) (hg4 : ∀ k, k < s * s → (nth g k).toNat < 5)
    (ho : ∀ k, k < s * s → inMask o g k = true) (K : Nat) (hK : K ≤ s) : ∀ k, k < s * s → inMask (pIn m s u a b o K) g k = true := by
  induction K with
  | zero => exact ho
  | succ K ih =>
    have ih := ih (by omega)
    simp only [pIn]
    split
    · next hne =>
      have hp : lcN s u K < s * s := line_at hs hu K (by omega)
      have hln := len_of hs hm
      have hsub := pIn_sub (u := (u : Int)) (S := (s : Int)) (a := a) (b := b) hm hsb K
      have hlo : (pIn m s u a b o K).length = s * s := by rw [hsub.1, hln]
      intro k hk
      unfold inMask
      rw [nth_set (by rw [hlo]; exact hp)]
      split
      · next e =>
        subst e
        obtain ⟨⟨x0, x1, _⟩, _⟩ := hsub.at_ hm (k := lcN s u K) (by rw [hln]; exact hp)
        obtain ⟨y0, y1, _⟩ := mvd_nth hm (lcN s u a)
        have h1 := ih _ hp
        have h2 := hno K (by omega) hne.1 hne.2
        unfold inMask at h1 h2
        rw [nth_set (by rw [hln]; exact hp), if_pos rfl] at h2
        obtain ⟨x, hx⟩ := Int.eq_ofNat_of_zero_le x0
        obtain ⟨y, hy⟩ := Int.eq_ofNat_of_zero_le y0
        rw [hx] at h1 ⊢
        rw [hy] at h2 ⊢
        rw [Int.toNat_natCast] at h1 h2
        rw [an_bit x (by omega) y (by omega) _ (hg4 _ hp), h1, h2]
        rfl
      · exact ih k hk
    · exact ih
theorem pB_in {m g o : List Int} {s u a : Nat} (hs : s ∈ [2, 3, 4]) (hm : mvd m s = true) (hsb : Sub o m) (hu : u < 2 * s) (hl : g.length = s * s) (hg : sqSolved g s = true) (hin : ∀ k, k < s * s → inMask m g k = true) (ha : a < s) (ho : ∀ k, k < s * s → inMask o g k = true) (b : Nat) (hb : b ≤ a) : ∀ k, k < s * s → inMask (pB m s s u a o b) g k = true := by
  have hg4 : ∀ k, k < s * s → (nth g k).toNat < 5 := fun k hk => by
    obtain ⟨h1, _, _⟩ := (solved_iff hl).1 hg
    obtain ⟨q0, q1⟩ := gv_nth h1 (k := k) (by omega)
    have := gv_size h1
    omega
  induction b with
  | zero => exact ho
  | succ b ih =>
    have ih := ih (by omega)
    simp only [pB]
    split
    · next hc =>
      refine pIn_in hs hm (pB_sub hm hsb b) hu (fun k hk hka hkb => ?_) hg4 ih s (Nat.le_refl _)
      have hln := len_of hs hm
      have hpa : lcN s u a < s * s := line_at hs hu a ha
      have hpb : lcN s u b < s * s := line_at hs hu b (by omega)
      have hpk : lcN s u k < s * s := line_at hs hu k hk
      have ma := hin _ hpa
      have mb := hin _ hpb
      have n1 : nth g (lcN s u a) ≠ nth g (lcN s u b) := sol_ne hs hl hg hu (by omega) ha (by omega)
      have n2 : nth g (lcN s u k) ≠ nth g (lcN s u a) := sol_ne hs hl hg hu hka hk ha
      have n3 : nth g (lcN s u k) ≠ nth g (lcN s u b) := sol_ne hs hl hg hu hkb hk (by omega)
      obtain ⟨h1, _, _⟩ := (solved_iff hl).1 hg
      have p1 := (gv_nth h1 (k := lcN s u a) (by omega)).1
      have p2 := (gv_nth h1 (k := lcN s u b) (by omega)).1
      have p3 := (gv_nth h1 (k := lcN s u k) (by omega)).1
      obtain ⟨y0, y1, _⟩ := mvd_nth hm (lcN s u a)
      unfold inMask at ma mb ⊢
      rw [← hc.1] at mb
      rw [nth_set (by rw [hln]; exact hpk), if_pos rfl]
      obtain ⟨M, hM⟩ := Int.eq_ofNat_of_zero_le y0
      have h2 := hc.2
      rw [hM] at ma mb h2 ⊢
      rw [Int.toNat_natCast] at ma mb ⊢
      have := two_key M (by omega) _ (hg4 _ hpa) _ (hg4 _ hpb) _ (hg4 _ hpk)
      unfold twoB at this
      rw [ma, mb, h2, bne_iff_ne.2 (show (nth g (lcN s u a)).toNat ≠ (nth g (lcN s u b)).toNat by omega), bne_iff_ne.2 (show (nth g (lcN s u k)).toNat ≠ (nth g (lcN s u a)).toNat by omega), bne_iff_ne.2 (show (nth g (lcN s u k)).toNat ≠ (nth g (lcN s u b)).toNat by omega)] at this
      simpa using this
    · exact ih
theorem pA_in {m g o : List Int} {s u : Nat} (hs : s ∈ [2, 3, 4]) (hm : mvd m s = true) (hsb : Sub o m) (hu : u < 2 * s) (hl : g.length = s * s) (hg : sqSolved g s = true) (hin : ∀ k, k < s * s → inMask m g k = true) (ho : ∀ k, k < s * s → inMask o g k = true) (a : Nat) (ha : a ≤ s) : ∀ k, k < s * s → inMask (pA m s s u o a) g k = true := by
  induction a with
  | zero => exact ho
  | succ a ih =>
    simp only [pA]
    exact pB_in hs hm (pA_sub hm hsb a) hu hl hg hin (by omega) (ih (by omega)) a (Nat.le_refl _)
theorem pU_in {m g : List Int} {s : Nat} (hs : s ∈ [2, 3, 4]) (hm : mvd m s = true) (hl : g.length = s * s) (hg : sqSolved g s = true) (hin : ∀ k, k < s * s → inMask m g k = true) (u : Nat) (hu : u ≤ 2 * s) : ∀ k, k < s * s → inMask (pU m s s u) g k = true := by
  induction u with
  | zero => exact hin
  | succ u ih =>
    simp only [pU]
    exact pA_in hs hm (pU_sub hm u) (by omega) hl hg hin (ih (by omega)) s (Nat.le_refl _)
/-- the third technique loses no solved grid. -/
theorem np_keeps {m g : List Int} {s : Int} (hm : mvd m s = true) (hg : sqSolved g s = true) (h : mhB m s g = true) : mhB (npL m s) s g = true := by
  obtain ⟨⟨s2, s4⟩, _, _, _⟩ := mvd_at hm
  obtain ⟨t, rfl⟩ : ∃ t : Nat, s = t := ⟨s.toNat, by omega⟩
  have hs : t ∈ [2, 3, 4] := by simp; omega
  simp only [mhB, Bool.and_eq_true, List.all_eq_true, List.mem_range] at h ⊢
  obtain ⟨⟨_, hgv⟩, hin⟩ := h
  have hlg := gv_len hgv
  have hln : g.length = t * t := by
    simp at hs
    rcases hs with rfl | rfl | rfl <;> omega
  refine ⟨⟨(np_sub hm).mvd_ hm, hgv⟩, ?_⟩
  rw [hln] at hin ⊢
  have := pU_in hs hm hln hg hin (2 * t) (Nat.le_refl _)
  unfold npL
  rw [if_pos hm, Int.toNat_natCast]
  exact this
theorem Wi.anput {o m : List Int} {s y : Int} (h : Wi o m) (hs : Sub o m) (hm : mvd m s = true) (hy : 0 ≤ y ∧ y ≤ 30) (p : Nat) : Wi (o.set p (bits .andNot .i64 (nth o p) y)) m := fun k hk => by
  by_cases hp : p < o.length
  · rw [nth_set hp]
    split
    · next e =>
      subst e
      obtain ⟨⟨x0, x1, _⟩, _⟩ := hs.at_ hm hk
      obtain ⟨z0, z1, _⟩ := mvd_nth hm p
      have hz := h p hk
      obtain ⟨x, hx⟩ := Int.eq_ofNat_of_zero_le x0
      obtain ⟨z, hzz⟩ := Int.eq_ofNat_of_zero_le z0
      obtain ⟨yy, hyy⟩ := Int.eq_ofNat_of_zero_le hy.1
      rw [hx, hzz] at hz ⊢
      rw [hyy]
      exact an_an x (by omega) yy (by omega) z (by omega) hz
    · exact h k hk
  · rw [List.set_eq_of_length_le (by omega)]
    exact h k hk
theorem pIn_wi {m o : List Int} {s S u : Int} {a b : Nat} (hm : mvd m s = true) (hs : Sub o m) (h : Wi o m) (k : Nat) : Wi (pIn m S u a b o k) m := by
  induction k with
  | zero => exact h
  | succ k ih =>
    simp only [pIn]
    split
    · exact ih.anput (pIn_sub hm hs k) hm ⟨(mvd_nth hm _).1, (mvd_nth hm _).2.1⟩ _
    · exact ih
theorem pB_wi {m o : List Int} {s S u : Int} {N a : Nat} (hm : mvd m s = true) (hs : Sub o m) (h : Wi o m) (b : Nat) : Wi (pB m S N u a o b) m := by
  induction b with
  | zero => exact h
  | succ b ih =>
    simp only [pB]
    split
    · exact pIn_wi hm (pB_sub hm hs b) ih N
    · exact ih
theorem pA_wi {m o : List Int} {s S u : Int} {N : Nat} (hm : mvd m s = true) (hs : Sub o m) (h : Wi o m) (a : Nat) : Wi (pA m S N u o a) m := by
  induction a with
  | zero => exact h
  | succ a ih => simp only [pA]; exact pB_wi hm (pA_sub hm hs a) ih a
theorem pU_wi {m : List Int} {s S : Int} {N : Nat} (hm : mvd m s = true) (u : Nat) : Wi (pU m S N u) m := by
  induction u with
  | zero => exact Wi.refl hm
  | succ u ih => simp only [pU]; exact pA_wi hm (pU_sub hm u) ih N
theorem np_wi {m : List Int} {s : Int} (hm : mvd m s = true) : Wi (npL m s) m := by
  unfold npL; rw [if_pos hm]; exact pU_wi hm _
/-- how many pairs of a line there are: of cell a and those before b; of the first a cells. -/
def prB (m : List Int) (S u : Int) (a : Nat) : Nat → Nat
  | 0 => 0
  | b + 1 => if nth m (lcN S u a) = nth m (lcN S u b) ∧ (maskVals (nth m (lcN S u a))).length = 2 then prB m S u a b + 1 else prB m S u a b
def prA (m : List Int) (S u : Int) : Nat → Nat
  | 0 => 0
  | a + 1 => prA m S u a + prB m S u a a
theorem pB_none {m o : List Int} {S u : Int} {N a : Nat} : ∀ {b : Nat}, prB m S u a b = 0 → pB m S N u a o b = o := by
  intro b
  induction b with
  | zero => intro _; rfl
  | succ b ih =>
    intro h
    simp only [prB] at h
    simp only [pB]
    split at h
    · omega
    · next hn => rw [if_neg hn]; exact ih h
theorem pA_none {m o : List Int} {S u : Int} {N : Nat} : ∀ {a : Nat}, prA m S u a = 0 → pA m S N u o a = o := by
  intro a
  induction a with
  | zero => intro _; rfl
  | succ a ih =>
    intro h
    simp only [prA] at h
    simp only [pA]
    rw [ih (by omega)]
    exact pB_none (by omega)
theorem pU_none {m : List Int} {S : Int} {N : Nat} : ∀ {u : Nat}, (∀ l : Nat, l < u → prA m S l N = 0) → pU m S N u = m := by
  intro u
  induction u with
  | zero => intro _; rfl
  | succ u ih =>
    intro h
    simp only [pU]
    rw [ih (fun l hl => h l (by omega))]
    exact pA_none (h u (by omega))
/-- without pairs nothing changes. -/
theorem np_none {m : List Int} {s : Int} (hm : mvd m s = true) (h : ∀ l : Nat, l < 2 * s.toNat → prA m s l s.toNat = 0) : npL m s = m := by
  unfold npL; rw [if_pos hm]; exact pU_none h
theorem prB_le {m : List Int} {S u : Int} {a : Nat} (b : Nat) : prB m S u a b ≤ b := by
  induction b with
  | zero => exact Nat.le_refl _
  | succ b ih => simp only [prB]; split <;> omega
/-- at most as many pairs as two cells of a line. -/
theorem prA_le {m : List Int} {S u : Int} (a : Nat) : 2 * prA m S u a ≤ a * (a - 1) := by
  induction a with
  | zero => exact Nat.le_refl _
  | succ a ih =>
    have := prB_le (m := m) (S := S) (u := u) (a := a) a
    simp only [prA]
    rcases a with _ | a
    · simp at *; omega
    · simp only [Nat.add_sub_cancel] at ih ⊢
      have e : (a + 1 + 1) * (a + 1) = (a + 1) * a + 2 * (a + 1) := by rw [Nat.mul_comm (a + 1 + 1), show a + 1 + 1 = a + 2 from rfl, Nat.mul_add, Nat.mul_comm 2]
      omega
end Go.Proofs.YtchcmgaohcldjaaDoor
set_option maxRecDepth 8000
namespace Go.Proofs.YtchcmgaohcldjaaDoor
open Go.ChangeShapes Go.WideShapes Go.ChangeAt Go.RowKit
/-! how often each mask stands in a line, and what its pairs take away: the program's way, and that it is the reference's. -/
def cN (v : Nat → Nat) (x : Nat) : Nat → Nat
  | 0 => 0
  | k + 1 => if v k = x then cN v x k + 1 else cN v x k
def two (x : Nat) : Bool := Lib.onesCount x == 2
def tkC (C : Nat → Nat) (x P : Nat) : Bool := two P && (decide (2 < C P) || (C P == 2 && P != x))
def tkF (C : Nat → Nat) (x : Nat) : Nat → Nat
  | 0 => 0
  | P + 1 => if tkC C x P = true then tkF C x P ||| P else tkF C x P
def prF (C : Nat → Nat) : Nat → Nat
  | 0 => 0
  | P + 1 => if two P = true then prF C P + C P * (C P - 1) / 2 else prF C P
theorem cN_le (v : Nat → Nat) (x k : Nat) : cN v x k ≤ k := by
  induction k with
  | zero => exact Nat.le_refl _
  | succ k ih => simp only [cN]; split <;> omega
theorem tkF_bit {C : Nat → Nat} {x j : Nat} : ∀ K, (tkF C x K).testBit j = true ↔ ∃ P, P < K ∧ tkC C x P = true ∧ P.testBit j = true := by
  intro K
  induction K with
  | zero => simp [tkF]
  | succ K ih =>
    simp only [tkF]
    constructor
    · intro h
      split at h
      · next hc =>
        rw [Nat.testBit_or, Bool.or_eq_true] at h
        rcases h with h | h
        · obtain ⟨P, h1, h2⟩ := ih.1 h
          exact ⟨P, by omega, h2⟩
        · exact ⟨K, by omega, hc, h⟩
      · obtain ⟨P, h1, h2⟩ := ih.1 h
        exact ⟨P, by omega, h2⟩
    · rintro ⟨P, h1, h2, h3⟩
      by_cases e : P = K
      · subst e
        rw [if_pos h2, Nat.testBit_or, h3, Bool.or_true]
      · have := ih.2 ⟨P, by omega, h2, h3⟩
        split
        · rw [Nat.testBit_or, this, Bool.true_or]
        · exact this
theorem tkF_lt (C : Nat → Nat) (x K : Nat) (hK : K ≤ 32) : tkF C x K < 32 := by
  induction K with
  | zero => simp [tkF]
  | succ K ih =>
    simp only [tkF]
    split
    · exact Nat.or_lt_two_pow (n := 5) (ih (by omega)) (by omega)
    · exact ih (by omega)
/-- what the pairs take away from cell k, as the reference goes: of cell a and those before b; of the first a cells. -/
def tB (v : Nat → Nat) (k a : Nat) : Nat → Nat
  | 0 => 0
  | b + 1 => if (v a = v b ∧ two (v a) = true) ∧ (k ≠ a ∧ k ≠ b) then tB v k a b ||| v a else tB v k a b
def tA (v : Nat → Nat) (k : Nat) : Nat → Nat
  | 0 => 0
  | a + 1 => tA v k a ||| tB v k a a
theorem tB_bit {v : Nat → Nat} {k a j : Nat} : ∀ b, (tB v k a b).testBit j = true ↔ ∃ i, i < b ∧ v a = v i ∧ two (v a) = true ∧ k ≠ a ∧ k ≠ i ∧ (v a).testBit j = true := by
  intro b
  induction b with
  | zero => simp [tB]
  | succ b ih =>
    simp only [tB]
    constructor
    · intro h
      split at h
      · next hc =>
        rw [Nat.testBit_or, Bool.or_eq_true] at h
        rcases h with h | h
        · obtain ⟨i, h1, h2⟩ := ih.1 h
          exact ⟨i, by omega, h2⟩
        · exact ⟨b, by omega, hc.1.1, hc.1.2, hc.2.1, hc.2.2, h⟩
      · obtain ⟨i, h1, h2⟩ := ih.1 h
        exact ⟨i, by omega, h2⟩
    · rintro ⟨i, h1, h2, h3, h4, h5, h6⟩
      by_cases e : i = b
      · subst e
        rw [if_pos ⟨⟨h2, h3⟩, h4, h5⟩, Nat.testBit_or, h6, Bool.or_true]
      · have := ih.2 ⟨i, by omega, h2, h3, h4, h5, h6⟩
        split
        · rw [Nat.testBit_or, this, Bool.true_or]
        · exact this
theorem tA_bit {v : Nat → Nat} {k j : Nat} : ∀ n, (tA v k n).testBit j = true ↔ ∃ a b, a < n ∧ b < a ∧ v a = v b ∧ two (v a) = true ∧ k ≠ a ∧ k ≠ b ∧ (v a).testBit j = true := by
  intro n
  induction n with
  | zero => simp [tA]
  | succ n ih =>
    simp only [tA]
    rw [Nat.testBit_or, Bool.or_eq_true, ih, tB_bit]
    constructor
    · rintro (⟨a, b, h1, h2⟩ | ⟨i, h1, h2⟩)
      · exact ⟨a, b, by omega, h2⟩
      · exact ⟨n, i, by omega, h1, h2⟩
    · rintro ⟨a, b, h1, h2, h3⟩
      by_cases e : a = n
      · subst e; exact .inr ⟨b, h2, h3⟩
      · exact .inl ⟨a, b, by omega, h2, h3⟩
theorem tB_lt {v : Nat → Nat} {k a : Nat} (ha : v a < 32) (b : Nat) : tB v k a b < 32 := by
  induction b with
  | zero => simp [tB]
  | succ b ih =>
    simp only [tB]
    split
    · exact Nat.or_lt_two_pow (n := 5) ih ha
    · exact ih
theorem tA_lt {v : Nat → Nat} {k : Nat} (n : Nat) (hv : ∀ i, i < n → v i < 32) : tA v k n < 32 := by
  induction n with
  | zero => simp [tA]
  | succ n ih => exact Nat.or_lt_two_pow (n := 5) (ih fun i hi => hv i (by omega)) (tB_lt (hv n (by omega)) n)
/-- how many of the first cells, apart from k, have mask P. -/
def cX (v : Nat → Nat) (P k : Nat) : Nat → Nat
  | 0 => 0
  | a + 1 => if v a = P ∧ k ≠ a then cX v P k a + 1 else cX v P k a
theorem cX_pos {v : Nat → Nat} {P k : Nat} : ∀ n, 1 ≤ cX v P k n ↔ ∃ b, b < n ∧ v b = P ∧ k ≠ b := by
  intro n
  induction n with
  | zero => simp [cX]
  | succ n ih =>
    simp only [cX]
    constructor
    · intro h
      split at h
      · next hc => exact ⟨n, by omega, hc⟩
      · obtain ⟨b, h1, h2⟩ := ih.1 h
        exact ⟨b, by omega, h2⟩
    · rintro ⟨b, h1, h2⟩
      by_cases e : b = n
      · subst e; rw [if_pos h2]; omega
      · have := ih.2 ⟨b, by omega, h2⟩
        split <;> omega
theorem cX_two {v : Nat → Nat} {P k : Nat} : ∀ n, 2 ≤ cX v P k n ↔ ∃ a b, a < n ∧ b < a ∧ v a = P ∧ v b = P ∧ k ≠ a ∧ k ≠ b := by
  intro n
  induction n with
  | zero => simp [cX]
  | succ n ih =>
    simp only [cX]
    constructor
    · intro h
      split at h
      · next hc =>
        obtain ⟨b, h1, h2, h3⟩ := (cX_pos (v := v) (P := P) (k := k) n).1 (by omega)
        exact ⟨n, b, by omega, h1, hc.1, h2, hc.2, h3⟩
      · obtain ⟨a, b, h1, h2⟩ := ih.1 h
        exact ⟨a, b, by omega, h2⟩
    · rintro ⟨a, b, h1, h2, h3, h4, h5, h6⟩
      by_cases e : a = n
      · subst e
        have := (cX_pos a).2 ⟨b, h2, h4, h6⟩
        rw [if_pos ⟨h3, h5⟩]; omega
      · have := ih.2 ⟨a, b, by omega, h2, h3, h4, h5, h6⟩
        split <;> omega
theorem cN_X {v : Nat → Nat} {P k : Nat} : ∀ n, cN v P n = cX v P k n + if k < n ∧ v k = P then 1 else 0 := by
  intro n
  induction n with
  | zero => simp [cN, cX]
  | succ n ih =>
    by_cases e : k = n
    · subst e
      have e1 : (if k < k ∧ v k = P then 1 else 0) = 0 := if_neg (fun h => absurd h.1 (by omega))
      rw [e1] at ih
      have e2 : cX v P k (k + 1) = cX v P k k := by simp only [cX]; rw [if_neg (fun h => h.2 rfl)]
      rw [e2]
      simp only [cN]
      by_cases h : v k = P
      · rw [if_pos h, if_pos ⟨by omega, h⟩]; omega
      · rw [if_neg h, if_neg (fun h' => h h'.2)]; omega
    · have e3 : (if k < n + 1 ∧ v k = P then 1 else 0) = if k < n ∧ v k = P then 1 else 0 := by
        by_cases h2 : k < n ∧ v k = P
        · rw [if_pos h2, if_pos ⟨by omega, h2.2⟩]
        · rw [if_neg h2, if_neg (fun h' => h2 ⟨by omega, h'.2⟩)]
      rw [e3]
      simp only [cN, cX]
      by_cases h : v n = P
      · rw [if_pos h, if_pos ⟨h, e⟩]; omega
      · rw [if_neg h, if_neg (fun h' => h h'.1)]; exact ih
theorem tk_is {v : Nat → Nat} {k N : Nat} (hk : k < N) (hv : ∀ i, i < N → v i < 32) : tkF (fun x => cN v x N) (v k) 32 = tA v k N := by
  apply Nat.eq_of_testBit_eq
  intro j
  rw [Bool.eq_iff_iff, tkF_bit, tA_bit]
  have key : ∀ P, tkC (fun x => cN v x N) (v k) P = true ↔ two P = true ∧ 2 ≤ cX v P k N := fun P => by
    have h := cN_X (v := v) (P := P) (k := k) N
    simp only [tkC, Bool.and_eq_true, Bool.or_eq_true, decide_eq_true_eq, beq_iff_eq, bne_iff_ne]
    by_cases e : v k = P
    · rw [if_pos ⟨hk, e⟩] at h
      constructor
      · rintro ⟨h1, h2 | h2⟩
        · exact ⟨h1, by omega⟩
        · exact absurd e.symm h2.2
      · rintro ⟨h1, h2⟩
        exact ⟨h1, .inl (by omega)⟩
    · rw [if_neg (fun h' => e h'.2)] at h
      constructor
      · rintro ⟨h1, h2 | h2⟩
        · exact ⟨h1, by omega⟩
        · exact ⟨h1, by omega⟩
      · rintro ⟨h1, h2⟩
        refine ⟨h1, ?_⟩
        by_cases h3 : 2 < cN v P N
        · exact .inl h3
        · exact .inr ⟨by omega, fun e' => e e'.symm⟩
  constructor
  · rintro ⟨P, h1, h2, h3⟩
    obtain ⟨h4, h5⟩ := (key P).1 h2
    obtain ⟨a, b, ha, hb, ea, eb, na, nb⟩ := (cX_two N).1 h5
    exact ⟨a, b, ha, hb, by rw [ea, eb], by rw [ea]; exact h4, na, nb, by rw [ea]; exact h3⟩
  · rintro ⟨a, b, ha, hb, e, h2, na, nb, h3⟩
    exact ⟨v a, hv a ha, (key _).2 ⟨h2, (cX_two N).2 ⟨a, b, ha, hb, rfl, e.symm, na, nb⟩⟩, h3⟩

/-! the pairs of a line. -/
theorem half_step (c : Nat) : (c + 1) * (c + 1 - 1) / 2 = c * (c - 1) / 2 + c := by
  have e : (c + 1) * (c + 1 - 1) = c * (c - 1) + 2 * c := by
    rcases c with _ | c
    · rfl
    · simp only [Nat.add_sub_cancel]
      rw [Nat.add_mul (c + 1) 1, Nat.one_mul, Nat.mul_add (c + 1) c 1, Nat.mul_one]; omega
  rw [e, Nat.add_mul_div_left _ _ (by omega)]
theorem prF_step (v : Nat → Nat) (a : Nat) : ∀ K, prF (fun x => cN v x (a + 1)) K = prF (fun x => cN v x a) K + if v a < K ∧ two (v a) = true then cN v (v a) a else 0 := by
  intro K
  induction K with
  | zero => simp [prF]
  | succ K ih =>
    simp only [prF]
    by_cases e : v a = K
    · have hlt : ¬ (v a < K) := by omega
      rw [if_neg (fun h => hlt h.1)] at ih
      subst e
      by_cases h2 : two (v a) = true
      · rw [if_pos h2, if_pos h2, ih, if_pos ⟨by omega, h2⟩]
        simp only [cN, if_pos]
        rw [half_step]; omega
      · rw [if_neg h2, if_neg h2, ih, if_neg (fun h => h2 h.2)]
    · have hc : cN v K (a + 1) = cN v K a := by simp only [cN]; rw [if_neg e]
      rw [hc]
      have e3 : (if v a < K + 1 ∧ two (v a) = true then cN v (v a) a else 0) = if v a < K ∧ two (v a) = true then cN v (v a) a else 0 := by
        by_cases h2 : v a < K ∧ two (v a) = true
        · rw [if_pos h2, if_pos ⟨by omega, h2.2⟩]
        · rw [if_neg h2, if_neg (fun h' => h2 ⟨by omega, h'.2⟩)]
      rw [e3, ih]
      split <;> omega
/-- the masks of a line. -/
def lv (m : List Int) (S u : Int) (k : Nat) : Nat := (nth m (lcN S u k)).toNat
theorem lv_lt {m : List Int} {S u : Int} {s : Int} (hm : mvd m s = true) (k : Nat) : lv m S u k < 32 := by
  have := mvd_nth hm (lcN S u k)
  unfold lv; omega
theorem lv_int {m : List Int} {S u : Int} {s : Int} (hm : mvd m s = true) (k : Nat) : nth m (lcN S u k) = (lv m S u k : Nat) := by
  have := mvd_nth hm (lcN S u k)
  unfold lv; omega
theorem lv_even {m : List Int} {S u : Int} {s : Int} (hm : mvd m s = true) (k : Nat) : lv m S u k % 2 = 0 := by
  obtain ⟨h0, h1, h2⟩ := mvd_nth hm (lcN S u k)
  rw [Int.tmod_eq_emod_of_nonneg h0] at h2
  unfold lv; omega
theorem mv_two {M : Nat} (h : M < 32) (he : M % 2 = 0) : (maskVals (M : Int)).length = 2 ↔ two M = true := by
  have e : maskVals (M : Int) = bitsTo M 4 := by
    simp only [maskVals]
    rw [if_pos (by simp only [mvOk, inr, Bool.and_eq_true, decide_eq_true_eq, beq_iff_eq]; exact ⟨⟨by omega, by omega⟩, by rw [Int.tmod_eq_emod_of_nonneg (by omega)]; omega⟩), Int.toNat_natCast]
  rw [e, ← ones_bits M h he, two, beq_iff_eq]
theorem cond_is {m : List Int} {S u s : Int} (hm : mvd m s = true) (a b : Nat) : (nth m (lcN S u a) = nth m (lcN S u b) ∧ (maskVals (nth m (lcN S u a))).length = 2) ↔ (lv m S u a = lv m S u b ∧ two (lv m S u a) = true) := by
  rw [lv_int hm a, lv_int hm b, mv_two (lv_lt hm a) (lv_even hm a)]
  constructor
  · rintro ⟨h1, h2⟩; exact ⟨by omega, h2⟩
  · rintro ⟨h1, h2⟩; exact ⟨by omega, h2⟩
theorem prB_is {m : List Int} {S u s : Int} (hm : mvd m s = true) (a : Nat) : ∀ b, prB m S u a b = if two (lv m S u a) = true then cN (lv m S u) (lv m S u a) b else 0 := by
  intro b
  induction b with
  | zero => simp [prB, cN]
  | succ b ih =>
    simp only [prB, cN]
    by_cases h2 : two (lv m S u a) = true
    · rw [if_pos h2] at ih ⊢
      by_cases e : lv m S u b = lv m S u a
      · rw [if_pos ((cond_is hm a b).2 ⟨e.symm, h2⟩), if_pos e, ih]
      · rw [if_neg (fun h => e ((cond_is hm a b).1 h).1.symm), if_neg e, ih]
    · rw [if_neg h2] at ih ⊢
      rw [if_neg (fun h => h2 ((cond_is hm a b).1 h).2), ih]
theorem prA_is {m : List Int} {S u s : Int} (hm : mvd m s = true) : ∀ n, prA m S u n = prF (fun x => cN (lv m S u) x n) 32 := by
  intro n
  induction n with
  | zero =>
    have : ∀ K, prF (fun x => cN (lv m S u) x 0) K = 0 := fun K => by
      induction K with
      | zero => rfl
      | succ K ih => simp only [prF, cN] at *; split <;> omega
    rw [this]; rfl
  | succ n ih =>
    simp only [prA]
    rw [prF_step, ih, prB_is hm]
    have := lv_lt (S := S) (u := u) hm n
    by_cases h2 : two (lv m S u n) = true
    · rw [if_pos h2, if_pos ⟨this, h2⟩]
    · rw [if_neg h2, if_neg (fun h => h2 h.2)]

/-! what a line takes away. -/
theorem an_or : ∀ x, x < 32 → ∀ y, y < 32 → ∀ z, z < 32 → bits .andNot .i64 (bits .andNot .i64 (x : Nat) (y : Nat)) (z : Nat) = bits .andNot .i64 (x : Nat) ((y ||| z : Nat) : Int) := by decide +kernel
theorem an_nil : ∀ x, x < 32 → bits .andNot .i64 (x : Nat) 0 = (x : Nat) := by decide +kernel
theorem lc_inj {s u : Nat} (hs : s ∈ [2, 3, 4]) {i j : Nat} (hi : i < s) (hj : j < s) (h : lcN s u i = lcN s u j) : i = j := by
  simp only [lcN] at h
  simp at hs
  by_cases hx : (u : Int) < (s : Int)
  · rw [lineAt_row hx, lineAt_row hx] at h
    rcases hs with rfl | rfl | rfl <;> omega
  · rw [lineAt_col hx, lineAt_col hx] at h
    rcases hs with rfl | rfl | rfl <;> omega
theorem pIn_nth {m o : List Int} {s u a b : Nat} (hs : s ∈ [2, 3, 4]) (hu : u < 2 * s) (hl : o.length = s * s) {k : Nat} (hk : k < s) (K : Nat) (hK : K ≤ s) :
    nth (pIn m s u a b o K) (lcN s u k) = if k < K ∧ (k ≠ a ∧ k ≠ b) then bits .andNot .i64 (nth o (lcN s u k)) (nth m (lcN s u a)) else nth o (lcN s u k) := by
  induction K with
  | zero => simp [pIn]
  | succ K ih =>
    have ih := ih (by omega)
    simp only [pIn]
    have hp : lcN s u K < s * s := line_at hs hu K (by omega)
    by_cases e : k = K
    · subst e
      rw [if_neg (fun h => absurd h.1 (by omega))] at ih
      by_cases hc : k ≠ a ∧ k ≠ b
      · rw [if_pos hc, if_pos ⟨by omega, hc⟩, nth_set (by rw [pIn_len, hl]; exact hp), if_pos rfl, ih]
      · rw [if_neg hc, if_neg (fun h => hc h.2), ih]
    · have hne : lcN s u K ≠ lcN s u k := fun h => e (lc_inj hs hk (by omega) h.symm)
      have h2 : nth (if K ≠ a ∧ K ≠ b then (pIn m s u a b o K).set (lcN s u K) (bits .andNot .i64 (nth (pIn m s u a b o K) (lcN s u K)) (nth m (lcN s u a))) else pIn m s u a b o K) (lcN s u k) = nth (pIn m s u a b o K) (lcN s u k) := by
        split
        · rw [nth_set (by rw [pIn_len, hl]; exact hp), if_neg hne]
        · rfl
      rw [h2, ih]
      by_cases hc : k < K ∧ (k ≠ a ∧ k ≠ b)
      · rw [if_pos hc, if_pos ⟨by omega, hc.2⟩]
      · rw [if_neg hc, if_neg (fun h => hc ⟨by omega, h.2⟩)]
theorem pIn_off {m o : List Int} {s u a b : Nat} (hs : s ∈ [2, 3, 4]) (hu : u < 2 * s) (hl : o.length = s * s) {p : Nat} (hp : ∀ k, k < s → lcN s u k ≠ p) (K : Nat) (hK : K ≤ s) : nth (pIn m s u a b o K) p = nth o p := by
  induction K with
  | zero => rfl
  | succ K ih =>
    simp only [pIn]
    split
    · rw [nth_set (by rw [pIn_len, hl]; exact line_at hs hu K (by omega)), if_neg (hp K (by omega)), ih (by omega)]
    · exact ih (by omega)
theorem pB_nth {m o : List Int} {s u a : Nat} (hs : s ∈ [2, 3, 4]) (hm : mvd m s = true) (hu : u < 2 * s) (hl : o.length = s * s) {k X : Nat} (hk : k < s) (hX : X < 32) (ho : nth o (lcN s u k) = (X : Nat)) (b : Nat) :
    nth (pB m s s u a o b) (lcN s u k) = bits .andNot .i64 (X : Nat) ((tB (lv m s u) k a b : Nat) : Int) := by
  induction b with
  | zero => simp only [pB, tB]; rw [ho]; exact (an_nil X hX).symm
  | succ b ih =>
    simp only [pB, tB]
    by_cases hc : lv m s u a = lv m s u b ∧ two (lv m s u a) = true
    · rw [if_pos ((cond_is hm a b).2 hc), pIn_nth hs hu (by rw [pB_len, hl]) hk s (Nat.le_refl _), ih]
      by_cases hk2 : k ≠ a ∧ k ≠ b
      · rw [if_pos ⟨hk, hk2⟩, if_pos ⟨hc, hk2⟩, lv_int hm a]
        exact an_or X hX _ (tB_lt (lv_lt hm a) b) _ (lv_lt hm a)
      · rw [if_neg (fun h => hk2 h.2), if_neg (fun h => hk2 h.2)]
    · rw [if_neg (fun h => hc ((cond_is hm a b).1 h)), if_neg (fun h => hc h.1), ih]
theorem pB_off {m o : List Int} {s u a : Nat} (hs : s ∈ [2, 3, 4]) (hu : u < 2 * s) (hl : o.length = s * s) {p : Nat} (hp : ∀ k, k < s → lcN s u k ≠ p) (b : Nat) : nth (pB m s s u a o b) p = nth o p := by
  induction b with
  | zero => rfl
  | succ b ih =>
    simp only [pB]
    split
    · rw [pIn_off hs hu (by rw [pB_len, hl]) hp s (Nat.le_refl _), ih]
    · exact ih
theorem anN_lt : ∀ x, x < 32 → ∀ y, y < 32 → ∃ z, z < 32 ∧ bits .andNot .i64 (x : Nat) (y : Nat) = (z : Nat) := fun x hx y hy => by
  obtain ⟨q1, q2, _⟩ := an_key x hx y hy
  exact ⟨(bits .andNot .i64 (x : Nat) (y : Nat)).toNat, by omega, by omega⟩
theorem pA_nth {m o : List Int} {s u : Nat} (hs : s ∈ [2, 3, 4]) (hm : mvd m s = true) (hu : u < 2 * s) (hl : o.length = s * s) {k X : Nat} (hk : k < s) (hX : X < 32) (ho : nth o (lcN s u k) = (X : Nat)) (a : Nat) :
    nth (pA m s s u o a) (lcN s u k) = bits .andNot .i64 (X : Nat) ((tA (lv m s u) k a : Nat) : Int) := by
  induction a with
  | zero => simp only [pA, tA]; rw [ho]; exact (an_nil X hX).symm
  | succ a ih =>
    simp only [pA, tA]
    have hA : tA (lv m s u) k a < 32 := tA_lt a fun i _ => lv_lt hm i
    obtain ⟨z, hz, ez⟩ := anN_lt X hX _ hA
    rw [pB_nth hs hm hu (by rw [pA_len, hl]) hk hz (by rw [ih, ez]) a, ← ez]
    exact an_or X hX _ hA _ (tB_lt (lv_lt hm a) a)
theorem pA_off {m o : List Int} {s u : Nat} (hs : s ∈ [2, 3, 4]) (hu : u < 2 * s) (hl : o.length = s * s) {p : Nat} (hp : ∀ k, k < s → lcN s u k ≠ p) (a : Nat) : nth (pA m s s u o a) p = nth o p := by
  induction a with
  | zero => rfl
  | succ a ih => simp only [pA]; rw [pB_off hs hu (by rw [pA_len, hl]) hp a, ih]
/-- the program's way over a line, cell by cell. -/
def gL (m : List Int) (S u : Int) (C : Nat → Nat) (o : List Int) : Nat → List Int
  | 0 => o
  | k + 1 => (gL m S u C o k).set (lcN S u k) (bits .andNot .i64 (nth (gL m S u C o k) (lcN S u k)) ((tkF C (lv m S u k) 32 : Nat) : Int))
theorem gL_len (m : List Int) (S u : Int) (C : Nat → Nat) (o : List Int) (k : Nat) : (gL m S u C o k).length = o.length := by
  induction k with
  | zero => rfl
  | succ k ih => simp only [gL]; rw [List.length_set, ih]
theorem gL_nth {m o : List Int} {s u : Nat} {C : Nat → Nat} (hs : s ∈ [2, 3, 4]) (hu : u < 2 * s) (hl : o.length = s * s) {k : Nat} (hk : k < s) (K : Nat) (hK : K ≤ s) :
    nth (gL m s u C o K) (lcN s u k) = if k < K then bits .andNot .i64 (nth o (lcN s u k)) ((tkF C (lv m s u k) 32 : Nat) : Int) else nth o (lcN s u k) := by
  induction K with
  | zero => simp [gL]
  | succ K ih =>
    have ih := ih (by omega)
    simp only [gL]
    rw [nth_set (by rw [gL_len, hl]; exact line_at hs hu K (by omega))]
    by_cases e : k = K
    · subst e
      rw [if_neg (by omega)] at ih
      rw [if_pos rfl, if_pos (by omega), ih]
    · rw [if_neg (fun h => e (lc_inj hs hk (by omega) h.symm)), ih]
      by_cases h : k < K
      · rw [if_pos h, if_pos (by omega)]
      · rw [if_neg h, if_neg (by omega)]
theorem gL_off {m o : List Int} {s u : Nat} {C : Nat → Nat} (hs : s ∈ [2, 3, 4]) (hu : u < 2 * s) (hl : o.length = s * s) {p : Nat} (hp : ∀ k, k < s → lcN s u k ≠ p) (K : Nat) (hK : K ≤ s) : nth (gL m s u C o K) p = nth o p := by
  induction K with
  | zero => rfl
  | succ K ih => simp only [gL]; rw [nth_set (by rw [gL_len, hl]; exact line_at hs hu K (by omega)), if_neg (hp K (by omega)), ih (by omega)]
theorem gL_is {m o : List Int} {s u : Nat} (hs : s ∈ [2, 3, 4]) (hm : mvd m s = true) (hu : u < 2 * s) (ho : Sub o m) : gL m s u (fun x => cN (lv m s u) x s) o s = pA m s s u o s := by
  have hln := len_of hs hm
  have hl : o.length = s * s := by rw [ho.1, hln]
  apply ext_nth
  · rw [gL_len, pA_len]
  · intro p hp
    rw [gL_len, hl] at hp
    by_cases h : ∃ k, k < s ∧ lcN s u k = p
    · obtain ⟨k, hk, rfl⟩ := h
      obtain ⟨⟨x0, x1, _⟩, _⟩ := ho.at_ hm (k := lcN s u k) (by rw [hln]; exact hp)
      obtain ⟨X, hX⟩ := Int.eq_ofNat_of_zero_le x0
      rw [gL_nth hs hu hl hk s (Nat.le_refl _), if_pos hk, pA_nth hs hm hu hl hk (by omega) hX s, hX, tk_is hk (fun i _ => lv_lt hm i)]
    · have hp' : ∀ k, k < s → lcN s u k ≠ p := fun k hk e => h ⟨k, hk, e⟩
      rw [gL_off hs hu hl hp' s (Nat.le_refl _), pA_off hs hu hl hp' s]
def gU (m : List Int) (N : Nat) : Nat → List Int
  | 0 => m
  | u + 1 => gL m N u (fun x => cN (lv m N u) x N) (gU m N u) N
theorem gU_is {m : List Int} {s : Nat} (hs : s ∈ [2, 3, 4]) (hm : mvd m s = true) : ∀ u, u ≤ 2 * s → gU m s u = pU m s s u := by
  intro u
  induction u with
  | zero => intro _; rfl
  | succ u ih =>
    intro hu
    simp only [gU, pU]
    rw [ih (by omega)]
    exact gL_is hs hm (by omega) (pU_sub hm u)
end Go.Proofs.YtchcmgaohcldjaaDoor
set_option maxRecDepth 8000
namespace Go.Proofs.YtchcmgaohcldjaaDoor
open Go.ChangeShapes Go.WideShapes Go.ChangeAt Go.RowKit
/-! the first technique of the program: a queue of cells with one value, each cleared out of its row and its column: it is the reference's. -/
def cIn (S u i : Nat) (x : Int) (o : List Int) : Nat → List Int
  | 0 => o
  | k + 1 => if lcN S u k ≠ i then (cIn S u i x o k).set (lcN S u k) (bits .andNot .i64 (nth (cIn S u i x o k) (lcN S u k)) x) else cIn S u i x o k
def clQ (S : Nat) (o : List Int) (p : Nat × Nat) : List Int := cIn S (S + p.1 % S) p.1 (2 ^ p.2) (cIn S (p.1 / S) p.1 (2 ^ p.2) o S) S
def sQ (m : List Int) : Nat → List (Nat × Nat)
  | 0 => []
  | k + 1 => if oneOf (maskVals (nth m k)) = 0 then sQ m k else sQ m k ++ [(k, (oneOf (maskVals (nth m k))).toNat)]
theorem cIn_len (S u i : Nat) (x : Int) (o : List Int) (k : Nat) : (cIn S u i x o k).length = o.length := by
  induction k with
  | zero => rfl
  | succ k ih =>
    simp only [cIn]
    split
    · rw [List.length_set, ih]
    · exact ih
theorem clQ_len (S : Nat) (o : List Int) (p : Nat × Nat) : (clQ S o p).length = o.length := by unfold clQ; rw [cIn_len, cIn_len]
theorem sQ_len (m : List Int) (k : Nat) : (sQ m k).length ≤ k := by
  induction k with
  | zero => exact Nat.le_refl _
  | succ k ih =>
    simp only [sQ]
    split
    · omega
    · simp; omega
def oneP (M : Nat) : Bool := if (bitsTo M 4).length = 1 then (oneOf (bitsTo M 4) == 1 && M == 2) || (oneOf (bitsTo M 4) == 2 && M == 4) || (oneOf (bitsTo M 4) == 3 && M == 8) || (oneOf (bitsTo M 4) == 4 && M == 16) else oneOf (bitsTo M 4) == 0
theorem oneP_all : ∀ M, M < 32 → M % 2 = 0 → oneP M = true := by decide +kernel
theorem mv_bits {M : Nat} (h : M < 32) (he : M % 2 = 0) : maskVals (M : Int) = bitsTo M 4 := by
  simp only [maskVals]
  rw [if_pos (by simp only [mvOk, inr, Bool.and_eq_true, decide_eq_true_eq, beq_iff_eq]; exact ⟨⟨by omega, by omega⟩, by rw [Int.tmod_eq_emod_of_nonneg (by omega)]; omega⟩), Int.toNat_natCast]
/-- a mask with one value is that value's; the others have none. -/
theorem one_at {m : List Int} {s : Int} (hm : mvd m s = true) (k : Nat) : ((maskVals (nth m k)).length = 1 ∧ ∃ v : Nat, 1 ≤ v ∧ v ≤ 4 ∧ oneOf (maskVals (nth m k)) = v ∧ nth m k = 2 ^ v) ∨ ((maskVals (nth m k)).length ≠ 1 ∧ oneOf (maskVals (nth m k)) = 0) := by
  obtain ⟨x0, x1, x2⟩ := mvd_nth hm k
  obtain ⟨M, hM⟩ := Int.eq_ofNat_of_zero_le x0
  have he : M % 2 = 0 := by rw [hM, Int.tmod_eq_emod_of_nonneg (by omega)] at x2; omega
  have h := oneP_all M (by omega) he
  rw [hM, mv_bits (by omega) he]
  unfold oneP at h
  split at h
  · next hl =>
    refine .inl ⟨hl, ?_⟩
    simp only [Bool.or_eq_true, Bool.and_eq_true, beq_iff_eq] at h
    rcases h with ((⟨h1, h2⟩ | ⟨h1, h2⟩) | ⟨h1, h2⟩) | ⟨h1, h2⟩
    · exact ⟨1, by omega, by omega, h1, by rw [h2]; decide⟩
    · exact ⟨2, by omega, by omega, h1, by rw [h2]; decide⟩
    · exact ⟨3, by omega, by omega, h1, by rw [h2]; decide⟩
    · exact ⟨4, by omega, by omega, h1, by rw [h2]; decide⟩
  · next hl => exact .inr ⟨hl, beq_iff_eq.1 h⟩
theorem sQ_in {m : List Int} {s : Int} (hm : mvd m s = true) (k : Nat) : ∀ p ∈ sQ m k, p.1 < k ∧ 1 ≤ p.2 ∧ p.2 ≤ 4 := by
  induction k with
  | zero => intro p hp; simp [sQ] at hp
  | succ k ih =>
    intro p hp
    simp only [sQ] at hp
    split at hp
    · have := ih p hp; omega
    · next hn =>
      rcases List.mem_append.1 hp with h | h
      · have := ih p h; omega
      · rw [List.mem_singleton] at h; subst h
        rcases one_at hm k with ⟨_, v, h1, h2, h3, _⟩ | ⟨_, h0⟩
        · rw [h3]; simp; omega
        · exact absurd h0 hn
def lineHas (S u p : Nat) : Nat → Bool
  | 0 => false
  | k + 1 => lineHas S u p k || lcN S u k == p
def hasP (s : Nat) : Bool := (List.range (s * s)).all fun i => (List.range (s * s)).all fun p => lineHas s (i / s) p s == (p / s == i / s) && lineHas s (s + i % s) p s == (p % s == i % s)
theorem hasP_all : hasP 2 = true ∧ hasP 3 = true ∧ hasP 4 = true := by decide +kernel
theorem has_at {s : Nat} (hs : s ∈ [2, 3, 4]) {i p : Nat} (hi : i < s * s) (hp : p < s * s) : lineHas s (i / s) p s = (p / s == i / s) ∧ lineHas s (s + i % s) p s = (p % s == i % s) := by
  have h : hasP s = true := by
    simp at hs
    rcases hs with rfl | rfl | rfl
    · exact hasP_all.1
    · exact hasP_all.2.1
    · exact hasP_all.2.2
  unfold hasP at h
  have := List.all_eq_true.1 (List.all_eq_true.1 h i (List.mem_range.2 hi)) p (List.mem_range.2 hp)
  rw [Bool.and_eq_true, beq_iff_eq, beq_iff_eq] at this
  exact this
theorem cIn_nth {o : List Int} {s u i : Nat} {x : Int} (hs : s ∈ [2, 3, 4]) (hu : u < 2 * s) (hl : o.length = s * s) (p : Nat) (K : Nat) (hK : K ≤ s) :
    nth (cIn s u i x o K) p = if lineHas s u p K = true ∧ p ≠ i then bits .andNot .i64 (nth o p) x else nth o p := by
  induction K with
  | zero => simp [cIn, lineHas]
  | succ K ih =>
    have ih := ih (by omega)
    simp only [cIn, lineHas, Bool.or_eq_true, beq_iff_eq]
    have hp : lcN s u K < s * s := line_at hs hu K (by omega)
    by_cases e : lcN s u K = p
    · have hno : lineHas s u p K = false := by
        have hall : ∀ j, j ≤ K → lineHas s u p j = false := by
          intro j
          induction j with
          | zero => intro _; rfl
          | succ j ihj =>
            intro hj
            simp only [lineHas, Bool.or_eq_false_iff, beq_eq_false_iff_ne]
            refine ⟨ihj (by omega), fun e2 => ?_⟩
            have := lc_inj hs (show j < s by omega) (show K < s by omega) (e2.trans e.symm)
            omega
        exact hall K (Nat.le_refl _)
      rw [if_neg (fun h => by rw [hno] at h; cases h.1)] at ih
      by_cases hi : p = i
      · rw [if_neg (by rw [e]; exact fun h => h hi), if_neg (fun h => h.2 hi), ih]
      · rw [if_pos (by rw [e]; exact hi), if_pos ⟨.inr e, hi⟩, nth_set (by rw [cIn_len, hl]; exact hp), if_pos e, e, ih]
    · have h2 : nth (if lcN s u K ≠ i then (cIn s u i x o K).set (lcN s u K) (bits .andNot .i64 (nth (cIn s u i x o K) (lcN s u K)) x) else cIn s u i x o K) p = nth (cIn s u i x o K) p := by
        split
        · rw [nth_set (by rw [cIn_len, hl]; exact hp), if_neg e]
        · rfl
      rw [h2, ih]
      by_cases hc : lineHas s u p K = true ∧ p ≠ i
      · rw [if_pos hc, if_pos ⟨.inl hc.1, hc.2⟩]
      · rw [if_neg hc, if_neg (fun h => hc ⟨h.1.resolve_right e, h.2⟩)]
theorem nsIn_nth {m o : List Int} {s i : Nat} {p : Nat} (K : Nat) (hK : K ≤ o.length) : nth (nsIn m s i o K) p = if p < K ∧ seesB s p i = true then bits .andNot .i64 (nth o p) (nth m i) else nth o p := by
  induction K with
  | zero => simp [nsIn]
  | succ K ih =>
    have ih := ih (by omega)
    simp only [nsIn]
    by_cases e : K = p
    · subst e
      rw [if_neg (fun h => absurd h.1 (by omega))] at ih
      by_cases hc : seesB s K i = true
      · rw [if_pos hc, if_pos ⟨by omega, hc⟩, nth_set (by rw [nsIn_len]; omega), if_pos rfl, ih]
      · rw [if_neg hc, if_neg (fun h => hc h.2), ih]
    · have h2 : nth (if seesB s K i = true then (nsIn m s i o K).set K (bits .andNot .i64 (nth (nsIn m s i o K) K) (nth m i)) else nsIn m s i o K) p = nth (nsIn m s i o K) p := by
        split
        · rw [nth_set (by rw [nsIn_len]; omega), if_neg e]
        · rfl
      rw [h2, ih]
      by_cases hc : p < K ∧ seesB s p i = true
      · rw [if_pos hc, if_pos ⟨by omega, hc.2⟩]
      · rw [if_neg hc, if_neg (fun h => hc ⟨by omega, h.2⟩)]
theorem div_eq_of {s i p : Nat} (h1 : p / s = i / s) (h2 : p % s = i % s) : p = i := by
  have a := Nat.div_add_mod p s
  have b := Nat.div_add_mod i s
  rw [h1, h2] at a
  omega
theorem clQ_is {m o : List Int} {s i v : Nat} (hs : s ∈ [2, 3, 4]) (hl : o.length = s * s) (hi : i < s * s) (hx : nth m i = 2 ^ v) : clQ s o (i, v) = nsIn m s i o (s * s) := by
  have hs0 : 0 < s := by simp at hs; omega
  have hr : i / s < 2 * s := by have : i / s < s := Nat.div_lt_of_lt_mul hi; omega
  have hc : s + i % s < 2 * s := by have := Nat.mod_lt i hs0; omega
  apply ext_nth
  · rw [clQ_len, nsIn_len]
  · intro p hp
    rw [clQ_len, hl] at hp
    obtain ⟨e1, e2⟩ := has_at hs hi hp
    rw [nsIn_nth _ (by rw [hl]; exact Nat.le_refl _), hx]
    unfold clQ
    simp only
    rw [cIn_nth hs hc (by rw [cIn_len, hl]) p s (Nat.le_refl _), cIn_nth hs hr hl p s (Nat.le_refl _), e1, e2]
    simp only [seesB, Bool.and_eq_true, Bool.or_eq_true, beq_iff_eq, bne_iff_ne]
    by_cases hpi : p = i
    · rw [if_neg (fun h => h.2 hpi), if_neg (fun h => h.2 hpi), if_neg (fun h => h.2.1 hpi)]
    · by_cases h1 : p / s = i / s
      · have h2 : ¬ p % s = i % s := fun h2 => hpi (div_eq_of h1 h2)
        rw [if_neg (fun h => h2 h.1), if_pos ⟨h1, hpi⟩, if_pos ⟨hp, hpi, .inl h1⟩]
      · by_cases h2 : p % s = i % s
        · rw [if_pos ⟨h2, hpi⟩, if_neg (fun h => h1 h.1), if_pos ⟨hp, hpi, .inr h2⟩]
        · rw [if_neg (fun h => h2 h.1), if_neg (fun h => h1 h.1), if_neg (fun h => h.2.2.elim h1 h2)]
theorem sQ_fold {m : List Int} {s : Nat} (hs : s ∈ [2, 3, 4]) (hm : mvd m s = true) (k : Nat) (hk : k ≤ s * s) : (sQ m k).foldl (clQ s) m = nsTo m s (s * s) k := by
  induction k with
  | zero => rfl
  | succ k ih =>
    have ih := ih (by omega)
    simp only [sQ, nsTo]
    rcases one_at hm k with ⟨hl, v, _, _, hv, hx⟩ | ⟨hl, h0⟩
    · rw [if_pos hl, hv, if_neg (by omega), List.foldl_append, ih, Int.toNat_natCast]
      exact clQ_is hs (by rw [nsTo_len]; exact len_of hs hm) (by omega) hx
    · rw [if_neg hl, if_pos h0, ih]
end Go.Proofs.YtchcmgaohcldjaaDoor
namespace Go.Proofs.YtchcmgaohcldjaaDoor
open Go.ChangeShapes Go.WideShapes Go.ChangeAt Go.RowKit

/-- push_int, and where the new slice lies: where the old one lay, or in a block of its own. -/
theorem push_int_at {w : World} {ops : Array Oper} {rest : List Oper} {o : Oper} {a : Act} {Q : Exit → Act → World → Prop} (hgd : o.guard = none) (s x : Operand)
    (ho : o.op = .call { callee := .builtin .append, args := #[s, x], argTypes := #[22, 22] })
    (lo : Nat) (A : Option Addr) (n c : Nat) (xs : List Int) (v : Int) (hs : a.eval s = .slice A n c) (hx : a.eval x = .slice (some ⟨w.heap.size, 0, none⟩) 1 1) (hown : Ow w lo A n c xs) (hn : n ≤ 1099511627776) (hlo : lo ≤ w.heap.size)
    (h : ∀ A' c' w', Ow w' lo A' (n + 1) c' (xs ++ [v]) → (w.alloc (.cells #[.int .i64 v] 3)).grownBy w' (Value.slice A n c).ownBlock → (∀ g, (Value.slice A' (n + 1) c').ownBlock = some g → (Value.slice A n c).ownBlock = some g ∨ w.heap.size < g) → wpList Tryd.prog ops Q rest (a.put o.dst (.slice A' (n + 1) c')) w') :
    wpList Tryd.prog ops Q (o :: rest) a (w.alloc (.cells #[.int .i64 v] 3)) := by
  obtain ⟨i0, hi, hz0, hz1, hz2⟩ := info_parts int_info
  refine Go.wpList_append_own_at (P := Tryd.prog) _ hgd s x 22 ho lo 3 i0 (.int .i64 0) 1 8 Tryd.underlying22 hi hz0 hz1 hz2 rfl (by decide) _ n (vals xs) hs (World.ownsRow.alloc hown _) ⟨w.heap.size, 0, none⟩ 1 1 [.int .i64 v] hx rfl ?_ ?_ (by simp only [maxLen]; omega) (by omega) (by simp; omega) ?_
  · intro j u hj
    match j, hj with
    | 0, hj =>
      simp at hj
      subst hj
      simp [Addr.add]
  · intro u hu
    simp at hu
    subst hu
    rfl
  · intro v' w' h2 h3 _ h5
    obtain ⟨g, cap, hv, _, _⟩ := World.ownsRow.form h2 (by omega)
    subst hv
    refine h _ _ _ (by unfold Ow; rw [vals_append]; exact h2) h3 (fun g' hg' => ?_)
    rcases h5 with h5 | h5
    · left; rw [← h5]; exact hg'
    · right
      rw [h5] at hg'
      simp at hg'
      omega
theorem Ow.kept_ne {w w' : World} {lo : Nat} {A A' : Option Addr} {n c n' c' : Nat} {xs : List Int} (h : Ow w lo A n c xs) (hg : w.grownBy w' (Value.slice A' n' c').ownBlock) (hne : ∀ g, (Value.slice A n c).ownBlock = some g → (Value.slice A' n' c').ownBlock ≠ some g) : Ow w' lo A n c xs := by
  refine World.ownsRow.kept h hg ?_
  cases e : (Value.slice A n c).ownBlock with
  | none => exact .inl rfl
  | some g => exact .inr (fun he => hne g e he.symm)
end Go.Proofs.YtchcmgaohcldjaaDoor
namespace Go.Proofs.YtchcmgaohcldjaaDoor
open Go.ChangeShapes Go.WideShapes Go.ChangeAt Go.RowKit

theorem gv_okAll {xs : List Int} {size : Int} {n : Nat} (hg : gv xs size = true) (hl : xs.length = n) : okAll xs size n := fun k hk => gv_nth hg (by rw [hl]; exact hk)

def sqOfG (size : Int) (k : Nat) : Int := ((k : Int) / size + (k : Int)) % size + 1
def sqOfL (size : Int) : List Int := if inr size 2 4 = true then mapTo (sqOfG size) (size * size).toNat else []

def missTo (has : Int → Bool) : Nat → List Int
  | 0 => []
  | v + 1 => missTo has v ++ (if has ((v : Int) + 1) = true then [] else [(v : Int) + 1])
def missL (xs : List Int) (size line : Int) : List Int := if (gv xs size && lineOk size line) = true then missTo (hasTo (lineV xs size line) size.toNat) size.toNat else []
theorem missTo_length (has : Int → Bool) (v : Nat) : (missTo has v).length ≤ v := by
  induction v with
  | zero => simp [missTo]
  | succ v ih => simp only [missTo, List.length_append]; split <;> simp <;> omega
theorem missL_length (xs : List Int) (size line : Int) : (missL xs size line).length ≤ 4 := by
  unfold missL
  split
  · next h =>
    simp only [Bool.and_eq_true] at h
    have := gv_size h.1
    have := missTo_length (hasTo (lineV xs size line) size.toNat) size.toNat
    omega
  · simp
end Go.Proofs.YtchcmgaohcldjaaDoor
namespace Go.Proofs.YtchcmgaohcldjaaDoor
open Go.ChangeShapes Go.WideShapes Go.ChangeAt Go.RowKit

/-- the program's masks behind the first k cells. -/
def lmask (xs : List Int) (s : Nat) : Nat → (Nat → Nat)
  | 0 => fun _ => 0
  | k + 1 => if nth xs k = 0 then lmask xs s k else mput (mput (lmask xs s k) (k / s) (nth xs k).toNat) (s + k % s) (nth xs k).toNat
def twice (xs : List Int) (s : Nat) : Nat → Bool
  | 0 => false
  | k + 1 => if nth xs k = 0 then twice xs s k else twice xs s k || ((lmask xs s k (k / s)).testBit (nth xs k).toNat || (lmask xs s k (s + k % s)).testBit (nth xs k).toNat)
/-- a cell lies in a line. -/
def onL (s l i : Nat) : Bool := i / s == l || s + i % s == l
theorem lmask_lt {xs : List Int} {s n : Nat} (hs : (s : Int) ≤ 4) (hok : okAll xs s n) : ∀ k, k ≤ n → ∀ l, l < 8 → lmask xs s k l < 32 := by
  intro k
  induction k with
  | zero => intro _ l _; simp [lmask]
  | succ k ih =>
    intro hk l hl
    have hv := hok k (by omega)
    simp only [lmask]
    split
    · exact ih (by omega) l hl
    · exact mput_lt (mput_lt (ih (by omega)) (by omega)) (by omega) l hl
theorem mput_test (M : Nat → Nat) (l u j v : Nat) : (mput M l u j).testBit v = ((M j).testBit v || (j == l && u == v)) := by
  unfold mput
  by_cases h : j = l
  · rw [if_pos h, Nat.testBit_or, Nat.testBit_two_pow]
    subst h
    rw [Bool.eq_iff_iff]
    simp
  · rw [if_neg h]
    simp [h]
theorem lmask_test {xs : List Int} {s n : Nat} (hok : okAll xs s n) (l v : Nat) : ∀ k, k ≤ n → ((lmask xs s k l).testBit v = true ↔ 0 < v ∧ ∃ i, i < k ∧ onL s l i = true ∧ nth xs i = (v : Int)) := by
  intro k
  induction k with
  | zero => intro _; simp [lmask]
  | succ k ih =>
    intro hk
    have hv := hok k (by omega)
    have ih := ih (by omega)
    simp only [lmask]
    by_cases hz : nth xs k = 0
    · rw [if_pos hz, ih]
      constructor
      · rintro ⟨h0, i, hi, h1, h2⟩; exact ⟨h0, i, by omega, h1, h2⟩
      · rintro ⟨h0, i, hi, h1, h2⟩
        have : i ≠ k := by rintro rfl; omega
        exact ⟨h0, i, by omega, h1, h2⟩
    · rw [if_neg hz, mput_test, mput_test, Bool.or_eq_true, Bool.or_eq_true, ih]
      simp only [Bool.and_eq_true, beq_iff_eq]
      constructor
      · rintro ((⟨h0, i, hi, h1, h2⟩ | ⟨h1, h2⟩) | ⟨h1, h2⟩)
        · exact ⟨h0, i, by omega, h1, h2⟩
        · exact ⟨by omega, k, by omega, by simp [onL, h1], by omega⟩
        · exact ⟨by omega, k, by omega, by simp [onL, h1], by omega⟩
      · rintro ⟨h0, i, hi, h1, h2⟩
        by_cases e : i = k
        · subst e
          simp only [onL, Bool.or_eq_true, beq_iff_eq] at h1
          rcases h1 with h1 | h1
          · exact .inl (.inr ⟨h1.symm, by omega⟩)
          · exact .inr ⟨h1.symm, by omega⟩
        · exact .inl (.inl ⟨h0, i, by omega, h1, h2⟩)
theorem onL_adj : ∀ s ∈ [2, 3, 4], ∀ i, i < s * s → ∀ j, j < s * s → adj s i j = (i != j && (onL s (j / s) i || onL s (s + j % s) i)) := by decide +kernel
theorem twice_iff {xs : List Int} {s n : Nat} (hs : s ∈ [2, 3, 4]) (hn : n = s * s) (hok : okAll xs s n) : ∀ k, k ≤ n → (twice xs s k = true ↔ ∃ i j, i < j ∧ j < k ∧ adj s i j = true ∧ nth xs i = nth xs j ∧ 0 < nth xs j) := by
  intro k
  induction k with
  | zero => intro _; simp [twice]
  | succ k ih =>
    intro hk
    have hv := hok k (by omega)
    have ih := ih (by omega)
    simp only [twice]
    by_cases hz : nth xs k = 0
    · rw [if_pos hz, ih]
      constructor
      · rintro ⟨i, j, h1, h2, h3, h4, h5⟩; exact ⟨i, j, h1, by omega, h3, h4, h5⟩
      · rintro ⟨i, j, h1, h2, h3, h4, h5⟩
        have : j ≠ k := by rintro rfl; omega
        exact ⟨i, j, h1, by omega, h3, h4, h5⟩
    · rw [if_neg hz, Bool.or_eq_true, Bool.or_eq_true, ih, lmask_test hok _ _ k (by omega), lmask_test hok _ _ k (by omega)]
      constructor
      · rintro (⟨i, j, h1, h2, h3⟩ | (⟨h0, i, hi, h1, h2⟩ | ⟨h0, i, hi, h1, h2⟩))
        · exact ⟨i, j, h1, by omega, h3⟩
        · refine ⟨i, k, hi, by omega, ?_, by omega, by omega⟩
          rw [onL_adj s hs i (by omega) k (by omega), h1]
          simp; omega
        · refine ⟨i, k, hi, by omega, ?_, by omega, by omega⟩
          rw [onL_adj s hs i (by omega) k (by omega), h1]
          simp; omega
      · rintro ⟨i, j, h1, h2, h3, h4, h5⟩
        by_cases e : j = k
        · subst e
          rw [onL_adj s hs i (by omega) j (by omega)] at h3
          simp only [Bool.and_eq_true, Bool.or_eq_true] at h3
          rcases h3.2 with h | h
          · exact .inr (.inl ⟨by omega, i, h1, h, by omega⟩)
          · exact .inr (.inr ⟨by omega, i, h1, h, by omega⟩)
        · exact .inl ⟨i, j, h1, by omega, h3, h4, h5⟩
theorem adj_symm : ∀ s ∈ [2, 3, 4], ∀ i, i < s * s → ∀ j, j < s * s → adj s i j = adj s j i ∧ (adj s i j = true → i ≠ j) := by decide +kernel
theorem twice_clash {xs : List Int} {s n : Nat} (hs : s ∈ [2, 3, 4]) (hn : n = s * s) (hok : okAll xs s n) : twice xs s n = clash xs s := by
  rw [Bool.eq_iff_iff, clash_iff hs, twice_iff hs hn hok n (Nat.le_refl _)]
  constructor
  · rintro ⟨i, j, h1, h2, h3, h4, h5⟩; exact ⟨i, j, by omega, by omega, h3, h4, h5⟩
  · rintro ⟨i, j, h1, h2, h3, h4, h5⟩
    have hne := (adj_symm s hs i h1 j h2).2 h3
    rcases Nat.lt_or_ge i j with h | h
    · exact ⟨i, j, h, by omega, h3, h4, h5⟩
    · exact ⟨j, i, by omega, by omega, by rw [← (adj_symm s hs i h1 j h2).1]; exact h3, h4.symm, by omega⟩
def onLine (s l i : Nat) : Bool := (List.range s).any fun a => (lineAt (s : Nat) (l : Nat) a).toNat == i
theorem onL_line : ∀ s ∈ [2, 3, 4], ∀ l, l < 2 * s → ∀ i, i < s * s → onL s l i = onLine s l i := by decide +kernel
theorem line_lt : ∀ s ∈ [2, 3, 4], ∀ l, l < 2 * s → ∀ a, a < s → (lineAt (s : Nat) (l : Nat) a).toNat < s * s := by decide +kernel
theorem lmask_has {xs : List Int} {s n : Nat} (hs : s ∈ [2, 3, 4]) (hn : n = s * s) (hok : okAll xs s n) {l v : Nat} (hl : l < 2 * s) (hv : 0 < v) : (lmask xs s n l).testBit v = hasTo (lineV xs s l) s (v : Int) := by
  rw [Bool.eq_iff_iff, lmask_test hok l v n (Nat.le_refl _), hasTo_iff]
  constructor
  · rintro ⟨_, i, hi, h1, h2⟩
    rw [onL_line s hs l hl i (by omega)] at h1
    simp only [onLine, List.any_eq_true, List.mem_range, beq_iff_eq] at h1
    obtain ⟨a, ha, e⟩ := h1
    exact ⟨a, ha, by unfold lineV; rw [e]; exact h2⟩
  · rintro ⟨a, ha, h⟩
    have hlt := line_lt s hs l hl a ha
    refine ⟨hv, _, by omega, ?_, h⟩
    rw [onL_line s hs l hl _ hlt]
    simp only [onLine, List.any_eq_true, List.mem_range, beq_iff_eq]
    exact ⟨a, ha, rfl⟩
theorem full_bits : ∀ M, M < 32 → ∀ s ∈ [2, 3, 4], (M = 2 ^ (s + 1) - 2 ↔ ∀ v, v < 5 → M.testBit v = (Nat.blt 0 v && Nat.ble v s)) := by decide +kernel
theorem lmask_zero {xs : List Int} {s n : Nat} (hok : okAll xs s n) (l : Nat) {v : Nat} (hv : v = 0 ∨ s < v) : (lmask xs s n l).testBit v = false := by
  cases h : (lmask xs s n l).testBit v
  · rfl
  · rw [lmask_test hok l v n (Nat.le_refl _)] at h
    obtain ⟨h0, i, hi, _, h2⟩ := h
    have := hok i hi
    omega
theorem lmask_full {xs : List Int} {s n : Nat} (hs : s ∈ [2, 3, 4]) (hn : n = s * s) (hok : okAll xs s n) {l : Nat} (hl : l < 2 * s) : lmask xs s n l = 2 ^ (s + 1) - 2 ↔ ∀ v, 1 ≤ v → v ≤ s → hasTo (lineV xs s l) s (v : Int) = true := by
  have hs4 : s ≤ 4 := by simp at hs; omega
  rw [full_bits _ (lmask_lt (by omega) hok n (Nat.le_refl _) l (by omega)) s hs]
  constructor
  · intro h v h1 h2
    rw [← lmask_has hs hn hok hl (by omega), h v (by omega)]
    simp [Nat.blt_eq]; omega
  · intro h v h5
    by_cases hv : v = 0 ∨ s < v
    · rw [lmask_zero hok l hv]
      rcases hv with rfl | hv
      · rfl
      · have : Nat.ble v s = false := by
          cases e : Nat.ble v s
          · rfl
          · have := Nat.le_of_ble_eq_true e; omega
        rw [this, Bool.and_false]
    · rw [lmask_has hs hn hok hl (by omega), h v (by omega) (by omega)]
      have h1 : Nat.blt 0 v = true := by rw [Nat.blt_eq]; omega
      have h2 : Nat.ble v s = true := Nat.ble_eq_true_of_le (by omega)
      rw [h1, h2]; rfl
/-- where every value of 1..s stands among s values of 0..s, none is 0 and no two are equal. -/
def hasN (L : List Nat) (v : Nat) : Bool := L.contains v
def revB (L : List Nat) (s : Nat) : Bool := (List.range s).any (fun v => !L.contains (v + 1)) || (L.all (fun a => a != 0) && decide L.Nodup)
theorem rev2 : ∀ a, a < 3 → ∀ b, b < 3 → revB [a, b] 2 = true := by decide +kernel
theorem rev3 : ∀ a, a < 4 → ∀ b, b < 4 → ∀ c, c < 4 → revB [a, b, c] 3 = true := by decide +kernel
theorem rev4 : ∀ a, a < 5 → ∀ b, b < 5 → ∀ c, c < 5 → ∀ d, d < 5 → revB [a, b, c, d] 4 = true := by decide +kernel
theorem rev_all {f : Nat → Int} {s : Nat} (hs : s ∈ [2, 3, 4]) (hf : ∀ i, i < s → 0 ≤ f i ∧ f i ≤ s) : revB ((List.range s).map fun i => (f i).toNat) s = true := by
  simp at hs
  rcases hs with rfl | rfl | rfl
  · exact rev2 _ (by have := hf 0 (by omega); show (f 0).toNat < 3; omega) _ (by have := hf 1 (by omega); show (f 1).toNat < 3; omega)
  · exact rev3 _ (by have := hf 0 (by omega); show (f 0).toNat < 4; omega) _ (by have := hf 1 (by omega); show (f 1).toNat < 4; omega) _ (by have := hf 2 (by omega); show (f 2).toNat < 4; omega)
  · exact rev4 _ (by have := hf 0 (by omega); show (f 0).toNat < 5; omega) _ (by have := hf 1 (by omega); show (f 1).toNat < 5; omega) _ (by have := hf 2 (by omega); show (f 2).toNat < 5; omega) _ (by have := hf 3 (by omega); show (f 3).toNat < 5; omega)
theorem rev {f : Nat → Int} {s : Nat} (hs : s ∈ [2, 3, 4]) (hf : ∀ i, i < s → 0 ≤ f i ∧ f i ≤ s) (hall : ∀ v : Nat, 1 ≤ v → v ≤ s → hasTo f s (v : Int) = true) : dupTo f s = false ∧ ∀ i, i < s → f i ≠ 0 := by
  have h := rev_all hs hf
  simp only [revB, Bool.or_eq_true, Bool.and_eq_true, List.any_eq_true, List.mem_range, List.all_eq_true, decide_eq_true_eq] at h
  rcases h with ⟨v, hv, h⟩ | ⟨h0, hd⟩
  · exfalso
    have := hall (v + 1) (by omega) (by omega)
    rw [hasTo_iff] at this
    obtain ⟨i, hi, e⟩ := this
    have hm : (v + 1) ∈ (List.range s).map fun i => (f i).toNat := List.mem_map.2 ⟨i, List.mem_range.2 hi, by omega⟩
    have := List.contains_iff_mem.2 hm
    rw [this] at h
    simp at h
  · refine ⟨?_, fun i hi e => ?_⟩
    · cases hc : dupTo f s
      · rfl
      · rw [dupTo_iff] at hc
        obtain ⟨i, j, hij, hj, he, _⟩ := hc
        have := List.pairwise_map.1 hd
        rw [List.pairwise_iff_getElem] at this
        have h9 := this i j (by simp; omega) (by simp; omega) hij
        simp only [List.getElem_range] at h9
        omega
    · have := h0 (f i).toNat (List.mem_map.2 ⟨i, List.mem_range.2 hi, rfl⟩)
      rw [e] at this
      simp at this
theorem row_of : ∀ s ∈ [2, 3, 4], ∀ k, k < s * s → k / s < 2 * s ∧ k % s < s ∧ (lineAt (s : Nat) ((k / s : Nat) : Int) (k % s)).toNat = k := by decide +kernel
theorem solved_masks {xs : List Int} {s n : Nat} (hs : s ∈ [2, 3, 4]) (hn : n = s * s) (hl : xs.length = n) (hg : gv xs s = true) (hok : okAll xs s n) : sqSolved xs s = true ↔ ∀ l, l < 2 * s → lmask xs s n l = 2 ^ (s + 1) - 2 := by
  have hf : ∀ l, l < 2 * s → ∀ i, i < s → 0 ≤ lineV xs s l i ∧ lineV xs s l i ≤ s := fun l hl' i hi => hok _ (by rw [hn]; exact line_lt s hs l hl' i hi)
  rw [solved_iff hl]
  constructor
  · rintro ⟨_, hc, hz⟩ l hl'
    rw [lmask_full hs hn hok hl']
    intro v v1 v2
    refine pig hs (fun i hi => ?_) ?_ (by omega) (by omega)
    · have h1 := hf l hl' i hi
      have h2 := hz (lineAt (s : Nat) (l : Nat) i).toNat (by rw [hn]; exact line_lt s hs l hl' i hi)
      unfold lineV at *
      omega
    · cases hd : dupTo (lineV xs s l) s
      · rfl
      · have : clash xs s = true := clash_at (l := l) (by omega) (by rw [Int.toNat_natCast]; exact hd)
        rw [hc] at this; cases this
  · intro h
    have key : ∀ l, l < 2 * s → dupTo (lineV xs s l) s = false ∧ ∀ i, i < s → lineV xs s l i ≠ 0 := fun l hl' => rev hs (hf l hl') (fun v v1 v2 => (lmask_full hs hn hok hl').1 (h l hl') v v1 v2)
    refine ⟨hg, ?_, fun k hk => ?_⟩
    · cases hc : clash xs s
      · rfl
      · rw [clash, clashTo_iff] at hc
        obtain ⟨l, hl', hd⟩ := hc
        rw [Int.toNat_natCast, (key l (by omega)).1] at hd
        cases hd
    · obtain ⟨h1, h2, h3⟩ := row_of s hs k (by omega)
      have := (key _ h1).2 _ h2
      unfold lineV at this
      rw [h3] at this
      exact this
end Go.Proofs.YtchcmgaohcldjaaDoor
namespace Go.Proofs.YtchcmgaohcldjaaDoor
open Go.ChangeShapes Go.WideShapes Go.ChangeAt Go.RowKit

theorem results_cell_tmp {P : Program} {fn : Func} {p q : Tmp} {ty : TypeId} (h : fn.results = #[.cell p ty, .tmp q]) (tmps : Array Value) (w : World) (g : Nat) (t : TypeId) (cs : Array Value) (fr : Nat × Nat) (d : TypeDesc) (b : Value)
    (hp : tmps.getD p undef = .pointer (some ⟨g, 0, none⟩)) (hq : tmps.getD q undef = b) (hg : w.heap[g]? = some (.cells cs t fr))
    (hu : P.underlying ty = some d) (hd : (match d with | .struct _ | .array _ _ => true | _ => false) = true) (hi : (P.info? ty).map (·.size) = some cs.size) :
    (results fn tmps).run P w = .ok (.tuple #[.agg cs, b]) w := by
  have hp' : tmps[p]?.getD undef = .pointer (some ⟨g, 0, none⟩) := by simpa using hp
  have hq' : tmps[q]?.getD undef = b := by simpa using hq
  simp [results, h, hp', hq', asAddr, run_loadVar_row w g t ty cs fr d hg hu hd hi]
theorem lmask_z {xs : List Int} {s k : Nat} (h : nth xs k = 0) : lmask xs s (k + 1) = lmask xs s k ∧ twice xs s (k + 1) = twice xs s k := by simp [lmask, twice, h]
theorem lmask_nz {xs : List Int} {s k v : Nat} (h : nth xs k = (v : Int)) (hv : v ≠ 0) : lmask xs s (k + 1) = mput (mput (lmask xs s k) (k / s) v) (s + k % s) v ∧ twice xs s (k + 1) = (twice xs s k || ((lmask xs s k (k / s)).testBit v || (lmask xs s k (s + k % s)).testBit v)) := by
  have h0 : nth xs k ≠ 0 := by omega
  have e : (nth xs k).toNat = v := by omega
  simp only [lmask, twice]
  rw [if_neg h0, if_neg h0, e]
  exact ⟨rfl, rfl⟩
theorem rc_lt : ∀ s ∈ [2, 3, 4], ∀ k, k < s * s → k / s < 8 ∧ s + k % s < 8 := by decide +kernel
end Go.Proofs.YtchcmgaohcldjaaDoor
