import Derived.Test.YtlnmioijgclndaaC2
import Derived.Test.YtlnmioijgclndaaMk
namespace Go.Proofs.Ytlnmioijgclndaa
open Go.ChangeShapes Go.WideShapes Go.ChangeAt Go.RowKit

/-- the program's masks behind the first k cells. -/
def lmask (xs : List Int) (s : Nat) : Nat → (Nat → Nat)
  | 0 => fun _ => 0
  | k + 1 => if nth xs k = 0 then lmask xs s k else mput (mput (lmask xs s k) (k / s) (nth xs k).toNat) (s + k % s) (nth xs k).toNat
def twice (xs : List Int) (s : Nat) : Nat → Bool
  | 0 => false
  | k + 1 => if nth xs k = 0 then twice xs s k else twice xs s k || ((lmask xs s k (k / s)).testBit (nth xs k).toNat || (lmask xs s k (s + k % s)).testBit (nth xs k).toNat)
/-- a cell lies in a line. -/
def onL (s l i : Nat) : Bool := i / s == l || s + i % s == l
theorem lmask_lt {xs : List Int} {s n : Nat} (hs : (s : Int) ≤ 4) (hok : okAll xs s n) : ∀ k, k ≤ n → ∀ l, l < 8 → lmask xs s k l < 32 := by
  intro k
  induction k with
  | zero => intro _ l _; simp [lmask]
  | succ k ih =>
    intro hk l hl
    have hv := hok k (by omega)
    simp only [lmask]
    split
    · exact ih (by omega) l hl
    · exact mput_lt (mput_lt (ih (by omega)) (by omega)) (by omega) l hl
theorem mput_test (M : Nat → Nat) (l u j v : Nat) : (mput M l u j).testBit v = ((M j).testBit v || (j == l && u == v)) := by
  unfold mput
  by_cases h : j = l
  · rw [if_pos h, Nat.testBit_or, Nat.testBit_two_pow]
    subst h
    rw [Bool.eq_iff_iff]
    simp
  · rw [if_neg h]
    simp [h]
theorem lmask_test {xs : List Int} {s n : Nat} (hok : okAll xs s n) (l v : Nat) : ∀ k, k ≤ n → ((lmask xs s k l).testBit v = true ↔ 0 < v ∧ ∃ i, i < k ∧ onL s l i = true ∧ nth xs i = (v : Int)) := by
  intro k
  induction k with
  | zero => intro _; simp [lmask]
  | succ k ih =>
    intro hk
    have hv := hok k (by omega)
    have ih := ih (by omega)
    simp only [lmask]
    by_cases hz : nth xs k = 0
    · rw [if_pos hz, ih]
      constructor
      · rintro ⟨h0, i, hi, h1, h2⟩; exact ⟨h0, i, by omega, h1, h2⟩
      · rintro ⟨h0, i, hi, h1, h2⟩
        have : i ≠ k := by rintro rfl; omega
        exact ⟨h0, i, by omega, h1, h2⟩
    · rw [if_neg hz, mput_test, mput_test, Bool.or_eq_true, Bool.or_eq_true, ih]
      simp only [Bool.and_eq_true, beq_iff_eq]
      constructor
      · rintro ((⟨h0, i, hi, h1, h2⟩ | ⟨h1, h2⟩) | ⟨h1, h2⟩)
        · exact ⟨h0, i, by omega, h1, h2⟩
        · exact ⟨by omega, k, by omega, by simp [onL, h1], by omega⟩
        · exact ⟨by omega, k, by omega, by simp [onL, h1], by omega⟩
      · rintro ⟨h0, i, hi, h1, h2⟩
        by_cases e : i = k
        · subst e
          simp only [onL, Bool.or_eq_true, beq_iff_eq] at h1
          rcases h1 with h1 | h1
          · exact .inl (.inr ⟨h1.symm, by omega⟩)
          · exact .inr ⟨h1.symm, by omega⟩
        · exact .inl (.inl ⟨h0, i, by omega, h1, h2⟩)
theorem onL_adj : ∀ s ∈ [2, 3, 4], ∀ i, i < s * s → ∀ j, j < s * s → adj s i j = (i != j && (onL s (j / s) i || onL s (s + j % s) i)) := by decide +kernel
theorem twice_iff {xs : List Int} {s n : Nat} (hs : s ∈ [2, 3, 4]) (hn : n = s * s) (hok : okAll xs s n) : ∀ k, k ≤ n → (twice xs s k = true ↔ ∃ i j, i < j ∧ j < k ∧ adj s i j = true ∧ nth xs i = nth xs j ∧ 0 < nth xs j) := by
  intro k
  induction k with
  | zero => intro _; simp [twice]
  | succ k ih =>
    intro hk
    have hv := hok k (by omega)
    have ih := ih (by omega)
    simp only [twice]
    by_cases hz : nth xs k = 0
    · rw [if_pos hz, ih]
      constructor
      · rintro ⟨i, j, h1, h2, h3, h4, h5⟩; exact ⟨i, j, h1, by omega, h3, h4, h5⟩
      · rintro ⟨i, j, h1, h2, h3, h4, h5⟩
        have : j ≠ k := by rintro rfl; omega
        exact ⟨i, j, h1, by omega, h3, h4, h5⟩
    · rw [if_neg hz, Bool.or_eq_true, Bool.or_eq_true, ih, lmask_test hok _ _ k (by omega), lmask_test hok _ _ k (by omega)]
      constructor
      · rintro (⟨i, j, h1, h2, h3⟩ | (⟨h0, i, hi, h1, h2⟩ | ⟨h0, i, hi, h1, h2⟩))
        · exact ⟨i, j, h1, by omega, h3⟩
        · refine ⟨i, k, hi, by omega, ?_, by omega, by omega⟩
          rw [onL_adj s hs i (by omega) k (by omega), h1]
          simp; omega
        · refine ⟨i, k, hi, by omega, ?_, by omega, by omega⟩
          rw [onL_adj s hs i (by omega) k (by omega), h1]
          simp; omega
      · rintro ⟨i, j, h1, h2, h3, h4, h5⟩
        by_cases e : j = k
        · subst e
          rw [onL_adj s hs i (by omega) j (by omega)] at h3
          simp only [Bool.and_eq_true, Bool.or_eq_true] at h3
          rcases h3.2 with h | h
          · exact .inr (.inl ⟨by omega, i, h1, h, by omega⟩)
          · exact .inr (.inr ⟨by omega, i, h1, h, by omega⟩)
        · exact .inl ⟨i, j, h1, by omega, h3, h4, h5⟩
theorem adj_symm : ∀ s ∈ [2, 3, 4], ∀ i, i < s * s → ∀ j, j < s * s → adj s i j = adj s j i ∧ (adj s i j = true → i ≠ j) := by decide +kernel
theorem twice_clash {xs : List Int} {s n : Nat} (hs : s ∈ [2, 3, 4]) (hn : n = s * s) (hok : okAll xs s n) : twice xs s n = clash xs s := by
  rw [Bool.eq_iff_iff, clash_iff hs, twice_iff hs hn hok n (Nat.le_refl _)]
  constructor
  · rintro ⟨i, j, h1, h2, h3, h4, h5⟩; exact ⟨i, j, by omega, by omega, h3, h4, h5⟩
  · rintro ⟨i, j, h1, h2, h3, h4, h5⟩
    have hne := (adj_symm s hs i h1 j h2).2 h3
    rcases Nat.lt_or_ge i j with h | h
    · exact ⟨i, j, h, by omega, h3, h4, h5⟩
    · exact ⟨j, i, by omega, by omega, by rw [← (adj_symm s hs i h1 j h2).1]; exact h3, h4.symm, by omega⟩
def onLine (s l i : Nat) : Bool := (List.range s).any fun a => (lineAt (s : Nat) (l : Nat) a).toNat == i
theorem onL_line : ∀ s ∈ [2, 3, 4], ∀ l, l < 2 * s → ∀ i, i < s * s → onL s l i = onLine s l i := by decide +kernel
theorem line_lt : ∀ s ∈ [2, 3, 4], ∀ l, l < 2 * s → ∀ a, a < s → (lineAt (s : Nat) (l : Nat) a).toNat < s * s := by decide +kernel
theorem lmask_has {xs : List Int} {s n : Nat} (hs : s ∈ [2, 3, 4]) (hn : n = s * s) (hok : okAll xs s n) {l v : Nat} (hl : l < 2 * s) (hv : 0 < v) : (lmask xs s n l).testBit v = hasTo (lineV xs s l) s (v : Int) := by
  rw [Bool.eq_iff_iff, lmask_test hok l v n (Nat.le_refl _), hasTo_iff]
  constructor
  · rintro ⟨_, i, hi, h1, h2⟩
    rw [onL_line s hs l hl i (by omega)] at h1
    simp only [onLine, List.any_eq_true, List.mem_range, beq_iff_eq] at h1
    obtain ⟨a, ha, e⟩ := h1
    exact ⟨a, ha, by unfold lineV; rw [e]; exact h2⟩
  · rintro ⟨a, ha, h⟩
    have hlt := line_lt s hs l hl a ha
    refine ⟨hv, _, by omega, ?_, h⟩
    rw [onL_line s hs l hl _ hlt]
    simp only [onLine, List.any_eq_true, List.mem_range, beq_iff_eq]
    exact ⟨a, ha, rfl⟩
theorem full_bits : ∀ M, M < 32 → ∀ s ∈ [2, 3, 4], (M = 2 ^ (s + 1) - 2 ↔ ∀ v, v < 5 → M.testBit v = (Nat.blt 0 v && Nat.ble v s)) := by decide +kernel
theorem lmask_zero {xs : List Int} {s n : Nat} (hok : okAll xs s n) (l : Nat) {v : Nat} (hv : v = 0 ∨ s < v) : (lmask xs s n l).testBit v = false := by
  cases h : (lmask xs s n l).testBit v
  · rfl
  · rw [lmask_test hok l v n (Nat.le_refl _)] at h
    obtain ⟨h0, i, hi, _, h2⟩ := h
    have := hok i hi
    omega
theorem lmask_full {xs : List Int} {s n : Nat} (hs : s ∈ [2, 3, 4]) (hn : n = s * s) (hok : okAll xs s n) {l : Nat} (hl : l < 2 * s) : lmask xs s n l = 2 ^ (s + 1) - 2 ↔ ∀ v, 1 ≤ v → v ≤ s → hasTo (lineV xs s l) s (v : Int) = true := by
  have hs4 : s ≤ 4 := by simp at hs; omega
  rw [full_bits _ (lmask_lt (by omega) hok n (Nat.le_refl _) l (by omega)) s hs]
  constructor
  · intro h v h1 h2
    rw [← lmask_has hs hn hok hl (by omega), h v (by omega)]
    simp [Nat.blt_eq]; omega
  · intro h v h5
    by_cases hv : v = 0 ∨ s < v
    · rw [lmask_zero hok l hv]
      rcases hv with rfl | hv
      · rfl
      · have : Nat.ble v s = false := by
          cases e : Nat.ble v s
          · rfl
          · have := Nat.le_of_ble_eq_true e; omega
        rw [this, Bool.and_false]
    · rw [lmask_has hs hn hok hl (by omega), h v (by omega) (by omega)]
      have h1 : Nat.blt 0 v = true := by rw [Nat.blt_eq]; omega
      have h2 : Nat.ble v s = true := Nat.ble_eq_true_of_le (by omega)
      rw [h1, h2]; rfl
/-- where every value of 1..s stands among s values of 0..s, none is 0 and no two are equal. -/
def hasN (L : List Nat) (v : Nat) : Bool := L.contains v
def revB (L : List Nat) (s : Nat) : Bool := (List.range s).any (fun v => !L.contains (v + 1)) || (L.all (fun a => a != 0) && decide L.Nodup)
theorem rev2 : ∀ a, a < 3 → ∀ b, b < 3 → revB [a, b] 2 = true := by decide +kernel
theorem rev3 : ∀ a, a < 4 → ∀ b, b < 4 → ∀ c, c < 4 → revB [a, b, c] 3 = true := by decide +kernel
theorem rev4 : ∀ a, a < 5 → ∀ b, b < 5 → ∀ c, c < 5 → ∀ d, d < 5 → revB [a, b, c, d] 4 = true := by decide +kernel
theorem rev_all {f : Nat → Int} {s : Nat} (hs : s ∈ [2, 3, 4]) (hf : ∀ i, i < s → 0 ≤ f i ∧ f i ≤ s) : revB ((List.range s).map fun i => (f i).toNat) s = true := by
  simp at hs
  rcases hs with rfl | rfl | rfl
  · exact rev2 _ (by have := hf 0 (by omega); show (f 0).toNat < 3; omega) _ (by have := hf 1 (by omega); show (f 1).toNat < 3; omega)
  · exact rev3 _ (by have := hf 0 (by omega); show (f 0).toNat < 4; omega) _ (by have := hf 1 (by omega); show (f 1).toNat < 4; omega) _ (by have := hf 2 (by omega); show (f 2).toNat < 4; omega)
  · exact rev4 _ (by have := hf 0 (by omega); show (f 0).toNat < 5; omega) _ (by have := hf 1 (by omega); show (f 1).toNat < 5; omega) _ (by have := hf 2 (by omega); show (f 2).toNat < 5; omega) _ (by have := hf 3 (by omega); show (f 3).toNat < 5; omega)
theorem rev {f : Nat → Int} {s : Nat} (hs : s ∈ [2, 3, 4]) (hf : ∀ i, i < s → 0 ≤ f i ∧ f i ≤ s) (hall : ∀ v : Nat, 1 ≤ v → v ≤ s → hasTo f s (v : Int) = true) : dupTo f s = false ∧ ∀ i, i < s → f i ≠ 0 := by
  have h := rev_all hs hf
  simp only [revB, Bool.or_eq_true, Bool.and_eq_true, List.any_eq_true, List.mem_range, List.all_eq_true, decide_eq_true_eq] at h
  rcases h with ⟨v, hv, h⟩ | ⟨h0, hd⟩
  · exfalso
    have := hall (v + 1) (by omega) (by omega)
    rw [hasTo_iff] at this
    obtain ⟨i, hi, e⟩ := this
    have hm : (v + 1) ∈ (List.range s).map fun i => (f i).toNat := List.mem_map.2 ⟨i, List.mem_range.2 hi, by omega⟩
    have := List.contains_iff_mem.2 hm
    rw [this] at h
    simp at h
  · refine ⟨?_, fun i hi e => ?_⟩
    · cases hc : dupTo f s
      · rfl
      · rw [dupTo_iff] at hc
        obtain ⟨i, j, hij, hj, he, _⟩ := hc
        have := List.pairwise_map.1 hd
        rw [List.pairwise_iff_getElem] at this
        have h9 := this i j (by simp; omega) (by simp; omega) hij
        simp only [List.getElem_range] at h9
        omega
    · have := h0 (f i).toNat (List.mem_map.2 ⟨i, List.mem_range.2 hi, rfl⟩)
      rw [e] at this
      simp at this
theorem row_of : ∀ s ∈ [2, 3, 4], ∀ k, k < s * s → k / s < 2 * s ∧ k % s < s ∧ (lineAt (s : Nat) ((k / s : Nat) : Int) (k % s)).toNat = k := by decide +kernel
theorem solved_masks {xs : List Int} {s n : Nat} (hs : s ∈ [2, 3, 4]) (hn : n = s * s) (hl : xs.length = n) (hg : gv xs s = true) (hok : okAll xs s n) : sqSolved xs s = true ↔ ∀ l, l < 2 * s → lmask xs s n l = 2 ^ (s + 1) - 2 := by
  have hf : ∀ l, l < 2 * s → ∀ i, i < s → 0 ≤ lineV xs s l i ∧ lineV xs s l i ≤ s := fun l hl' i hi => hok _ (by rw [hn]; exact line_lt s hs l hl' i hi)
  rw [solved_iff hl]
  constructor
  · rintro ⟨_, hc, hz⟩ l hl'
    rw [lmask_full hs hn hok hl']
    intro v v1 v2
    refine pig hs (fun i hi => ?_) ?_ (by omega) (by omega)
    · have h1 := hf l hl' i hi
      have h2 := hz (lineAt (s : Nat) (l : Nat) i).toNat (by rw [hn]; exact line_lt s hs l hl' i hi)
      unfold lineV at *
      omega
    · cases hd : dupTo (lineV xs s l) s
      · rfl
      · have : clash xs s = true := clash_at (l := l) (by omega) (by rw [Int.toNat_natCast]; exact hd)
        rw [hc] at this; cases this
  · intro h
    have key : ∀ l, l < 2 * s → dupTo (lineV xs s l) s = false ∧ ∀ i, i < s → lineV xs s l i ≠ 0 := fun l hl' => rev hs (hf l hl') (fun v v1 v2 => (lmask_full hs hn hok hl').1 (h l hl') v v1 v2)
    refine ⟨hg, ?_, fun k hk => ?_⟩
    · cases hc : clash xs s
      · rfl
      · rw [clash, clashTo_iff] at hc
        obtain ⟨l, hl', hd⟩ := hc
        rw [Int.toNat_natCast, (key l (by omega)).1] at hd
        cases hd
    · obtain ⟨h1, h2, h3⟩ := row_of s hs k (by omega)
      have := (key _ h1).2 _ h2
      unfold lineV at this
      rw [h3] at this
      exact this
end Go.Proofs.Ytlnmioijgclndaa
