import Derived.Test.YtmnacejmkjhpnaaW2F
namespace Go.Proofs.Ytmnacejmkjhpnaa
open Go.ChangeShapes Go.WideShapes Go.ChangeAt Go.RowKit

theorem missTo_nil {has : Int → Bool} {m : Nat} (h : ∀ v : Nat, v < m → has ((v : Int) + 1) = true) : missTo has m = [] := by
  induction m with
  | zero => rfl
  | succ m ih => rw [missTo, ih (fun v hv => h v (by omega)), if_pos (h m (by omega))]; rfl
theorem missTo_mem {has : Int → Bool} {m : Nat} {y : Int} (h : y ∈ missTo has m) : has y = false := by
  induction m with
  | zero => simp [missTo] at h
  | succ m ih =>
    rw [missTo, List.mem_append] at h
    rcases h with h | h
    · exact ih h
    · split at h
      · simp at h
      · next hh => simp at h; subst h; simpa using hh
theorem missTo_congr {has has' : Int → Bool} (h : ∀ v, has v = has' v) (m : Nat) : missTo has m = missTo has' m := by
  have : has = has' := funext h
  rw [this]
theorem hasTo_congr {f g : Nat → Int} {s : Nat} (h : ∀ i, i < s → f i = g i) (v : Int) : hasTo f s v = hasTo g s v := by
  rw [Bool.eq_iff_iff, hasTo_iff, hasTo_iff]
  constructor <;> rintro ⟨i, hi, he⟩
  · exact ⟨i, hi, by rw [← h i hi]; exact he⟩
  · exact ⟨i, hi, by rw [h i hi]; exact he⟩
theorem dupTo_congr {f g : Nat → Int} {s : Nat} (h : ∀ i, i < s → f i = g i) : dupTo f s = dupTo g s := by
  rw [Bool.eq_iff_iff, dupTo_iff, dupTo_iff]
  constructor <;> rintro ⟨i, j, h1, h2, h3, h4⟩
  · exact ⟨i, j, h1, h2, by rw [← h i (by omega), ← h j h2]; exact h3, by rw [← h j h2]; exact h4⟩
  · exact ⟨i, j, h1, h2, by rw [h i (by omega), h j h2]; exact h3, by rw [h j h2]; exact h4⟩
/-- how many of the first k are greater than 0. -/
def posTo (f : Nat → Int) : Nat → Nat
  | 0 => 0
  | k + 1 => posTo f k + if 0 < f k then 1 else 0
theorem posTo_le (f : Nat → Int) (k : Nat) : posTo f k ≤ k := by
  induction k with
  | zero => simp [posTo]
  | succ k ih => simp only [posTo]; split <;> omega
theorem posTo_congr {f g : Nat → Int} {s : Nat} (h : ∀ i, i < s → f i = g i) : posTo f s = posTo g s := by
  induction s with
  | zero => rfl
  | succ s ih => rw [posTo, posTo, ih (fun i hi => h i (by omega)), h s (by omega)]
def tup (l : List Nat) (k : Nat) : Int := ((l.getD k 0 : Nat) : Int)
def missB (s : Nat) (l : List Nat) : Bool := Nat.ble s ((missTo (hasTo (tup l) s) s).length + posTo (tup l) s) && (dupTo (tup l) s || (missTo (hasTo (tup l) s) s).length + posTo (tup l) s == s)
theorem miss2 : ∀ a, a < 3 → ∀ b, b < 3 → missB 2 [a, b] = true := by decide +kernel
theorem miss3 : ∀ a, a < 4 → ∀ b, b < 4 → ∀ c, c < 4 → missB 3 [a, b, c] = true := by decide +kernel
theorem miss4 : ∀ a, a < 5 → ∀ b, b < 5 → ∀ c, c < 5 → ∀ d, d < 5 → missB 4 [a, b, c, d] = true := by decide +kernel
theorem miss_count {f : Nat → Int} {s : Nat} (hs : s ∈ [2, 3, 4]) (hf : ∀ i, i < s → 0 ≤ f i ∧ f i ≤ s) :
    s ≤ (missTo (hasTo f s) s).length + posTo f s ∧ (dupTo f s = false → (missTo (hasTo f s) s).length + posTo f s = s) := by
  have main : ∀ l : List Nat, (∀ i, i < s → f i = tup l i) → missB s l = true → s ≤ (missTo (hasTo f s) s).length + posTo f s ∧ (dupTo f s = false → (missTo (hasTo f s) s).length + posTo f s = s) := by
    intro l hl hb
    rw [missTo_congr (fun v => hasTo_congr hl v) s, posTo_congr hl, dupTo_congr hl]
    simp only [missB, Bool.and_eq_true, Nat.ble_eq, Bool.or_eq_true, beq_iff_eq] at hb
    exact ⟨hb.1, fun h => by rcases hb.2 with h' | h'; · rw [h] at h'; cases h'
                             · exact h'⟩
  have hT : ∀ i, i < s → ((f i).toNat : Int) = f i := fun i hi => Int.toNat_of_nonneg (hf i hi).1
  simp at hs
  rcases hs with rfl | rfl | rfl
  · have b0 := hf 0 (by omega); have b1 := hf 1 (by omega)
    refine main [(f 0).toNat, (f 1).toNat] (fun i hi => ?_) (miss2 _ (by omega) _ (by omega))
    have : i = 0 ∨ i = 1 := by omega
    rcases this with rfl | rfl <;> simp [tup, hT]
  · have b0 := hf 0 (by omega); have b1 := hf 1 (by omega); have b2 := hf 2 (by omega)
    refine main [(f 0).toNat, (f 1).toNat, (f 2).toNat] (fun i hi => ?_) (miss3 _ (by omega) _ (by omega) _ (by omega))
    have : i = 0 ∨ i = 1 ∨ i = 2 := by omega
    rcases this with rfl | rfl | rfl <;> simp [tup, hT]
  · have b0 := hf 0 (by omega); have b1 := hf 1 (by omega); have b2 := hf 2 (by omega); have b3 := hf 3 (by omega)
    refine main [(f 0).toNat, (f 1).toNat, (f 2).toNat, (f 3).toNat] (fun i hi => ?_) (miss4 _ (by omega) _ (by omega) _ (by omega) _ (by omega))
    have : i = 0 ∨ i = 1 ∨ i = 2 ∨ i = 3 := by omega
    rcases this with rfl | rfl | rfl | rfl <;> simp [tup, hT]

/-- a line's cells lie in the grid. -/
theorem lineV_ok {xs : List Int} {size line : Int} {n : Nat} (hg : gv xs size = true) (hl : xs.length = n) (l0 : 0 ≤ line) (l1 : line < 2 * size) : ∀ i : Nat, (i : Int) < size → 0 ≤ lineV xs size line i ∧ lineV xs size line i ≤ size := by
  intro i hi
  obtain ⟨h2, h4⟩ := gv_size hg
  obtain ⟨x0, x1⟩ := line_ix (k := i) h2 h4 (gv_n hg hl).2.2 l0 l1 hi
  exact gv_nth hg (by omega)
theorem line_dup {xs : List Int} {size line : Int} (hc : clash xs size = false) (l0 : 0 ≤ line) (l1 : line < 2 * size) : dupTo (lineV xs size line) size.toNat = false := by
  obtain ⟨l, rfl⟩ := Int.eq_ofNat_of_zero_le l0
  cases hd : dupTo (lineV xs size l) size.toNat
  · rfl
  · have := clash_at l1 hd
    rw [hc] at this; cases this
theorem missL_line {xs : List Int} {size line : Int} (hg : gv xs size = true) (l0 : 0 ≤ line) (l1 : line < 2 * size) : missL xs size line = missTo (hasTo (lineV xs size line) size.toNat) size.toNat := by
  obtain ⟨h2, h4⟩ := gv_size hg
  have h1 : inr size 2 4 = true := by simp [inr, h2, h4]
  have h3 : inr line 0 (2 * size - 1) = true := by simp [inr]; omega
  unfold missL lineOk
  rw [if_pos (by simp [hg, h1, h3])]
/-- nothing is missing in a line of a solved grid. -/
theorem solved_full {xs : List Int} {size line : Int} {n : Nat} (hl : xs.length = n) (hs : sqSolved xs size = true) (l0 : 0 ≤ line) (l1 : line < 2 * size) : missL xs size line = [] := by
  obtain ⟨hg, hc, hnz⟩ := (solved_iff hl).1 hs
  rw [missL_line hg l0 l1]
  obtain ⟨s, rfl, hs', hls⟩ := size_nat hg
  have hd := line_dup hc l0 l1
  rw [Int.toNat_natCast] at hd ⊢
  refine missTo_nil (fun v hv => pig hs' (fun i hi => ?_) hd (by omega) (by omega))
  have hb := lineV_ok hg hl l0 l1 i (by omega)
  obtain ⟨h2, h4⟩ := gv_size hg
  obtain ⟨x0, x1⟩ := line_ix (k := i) h2 h4 (gv_n hg hl).2.2 l0 l1 (by omega)
  have := hnz (lineAt s line i).toNat (by omega)
  unfold lineV at hb ⊢
  omega
theorem sqSolved_turn {xs : List Int} {size : Int} {n : Nat} (hl : xs.length = n) (hs : sqSolved xs size = true) : sqSolved (turnL xs size) size = true := by
  have hg := ((solved_iff hl).1 hs).1
  have hs' := hs
  simp only [sqSolved, Bool.and_eq_true] at hs' ⊢
  rw [sqFits_turn hg hl, (turn_all hg hl).filled]
  exact hs'
/-- as many values are missing when two are exchanged. -/
theorem miss_swap {xs : List Int} {size line : Int} {n : Nat} (hl : xs.length = n) : (missL (swapL xs size 1 2) size line).length = (missL xs size line).length := by
  cases hg : gv xs size
  · have h1 : swapL xs size 1 2 = [] := by simp [swapL, swapOk, hg]
    have h2 : gv [] size = false := by
      cases h : gv [] size
      · rfl
      · have h3 := gv_len h
        obtain ⟨h4, h5⟩ := gv_size h
        have := sq_bd h4 h5
        simp at h3; omega
    simp [missL, hg, h1, h2]
  · cases hlo : lineOk size line
    · simp [missL, hlo]
    · obtain ⟨h2, h4⟩ := gv_size hg
      have hok : swapOk xs size 1 2 = true := by simp [swapOk, hg, inr]; omega
      obtain ⟨fl, fn, fv, _, _⟩ := swap_all hok hl
      have hlo' := hlo
      simp only [lineOk, Bool.and_eq_true] at hlo'
      obtain ⟨l0, l1⟩ := inr_t hlo'.2
      have e1 : missL (swapL xs size 1 2) size line = missTo (hasTo (lineV (swapL xs size 1 2) size line) size.toNat) size.toNat := missL_line fv l0 (by omega)
      have e2 : missL xs size line = missTo (hasTo (lineV xs size line) size.toNat) size.toNat := missL_line hg l0 (by omega)
      have hh : ∀ v, hasTo (lineV (swapL xs size 1 2) size line) size.toNat v = hasTo (lineV xs size line) size.toNat (swapV 1 2 v) := by
        intro v
        have hv : ∀ i : Nat, i < size.toNat → lineV (swapL xs size 1 2) size line i = swapV 1 2 (lineV xs size line i) := by
          intro i hi
          obtain ⟨x0, x1⟩ := line_ix (k := i) h2 h4 (gv_n hg hl).2.2 l0 (by omega) (by omega)
          exact fn _ (by omega)
        rw [Bool.eq_iff_iff, hasTo_iff, hasTo_iff]
        constructor
        · rintro ⟨i, hi, he⟩
          rw [hv i hi] at he
          exact ⟨i, hi, by rw [← he, swapV_two]⟩
        · rintro ⟨i, hi, he⟩
          exact ⟨i, hi, by rw [hv i hi, he, swapV_two]⟩
      rw [e1, e2, missTo_congr hh]
      have hcase : size = 2 ∨ size = 3 ∨ size = 4 := by omega
      have s1 : swapV 1 2 1 = 2 := rfl
      have s2 : swapV 1 2 2 = 1 := rfl
      have s3 : swapV 1 2 3 = 3 := rfl
      have s4 : swapV 1 2 4 = 4 := rfl
      generalize hasTo (lineV xs size line) size.toNat = H
      have t1 : (((0 : Nat) : Int) + 1) = 1 := rfl
      have t2 : (((1 : Nat) : Int) + 1) = 2 := rfl
      have t3 : (((2 : Nat) : Int) + 1) = 3 := rfl
      have t4 : (((3 : Nat) : Int) + 1) = 4 := rfl
      rcases hcase with rfl | rfl | rfl
      · have e : (2 : Int).toNat = 2 := rfl
        rw [e]
        simp only [missTo, s1, s2, t1, t2]
        cases H 1 <;> cases H 2 <;> rfl
      · have e : (3 : Int).toNat = 3 := rfl
        rw [e]
        simp only [missTo, s1, s2, s3, t1, t2, t3]
        cases H 1 <;> cases H 2 <;> cases H 3 <;> rfl
      · have e : (4 : Int).toNat = 4 := rfl
        rw [e]
        simp only [missTo, s1, s2, s3, s4, t1, t2, t3, t4]
        cases H 1 <;> cases H 2 <;> cases H 3 <;> cases H 4 <;> rfl
end Go.Proofs.Ytmnacejmkjhpnaa
