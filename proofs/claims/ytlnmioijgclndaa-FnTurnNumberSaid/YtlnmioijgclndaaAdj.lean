import Derived.Test.YtlnmioijgclndaaPerm
import Derived.Test.YtlnmioijgclndaaClash
namespace Go.Proofs.Ytlnmioijgclndaa
open Go.ChangeShapes Go.WideShapes Go.ChangeAt Go.RowKit

theorem hasTo_iff {f : Nat → Int} {k : Nat} {v : Int} : hasTo f k v = true ↔ ∃ i, i < k ∧ f i = v := by
  simp [hasTo]
theorem dupTo_iff {f : Nat → Int} {n : Nat} : dupTo f n = true ↔ ∃ i j, i < j ∧ j < n ∧ f i = f j ∧ 0 < f j := by
  induction n with
  | zero => simp [dupTo]
  | succ n ih =>
    rw [dupTo, Bool.or_eq_true, ih, Bool.and_eq_true, hasTo_iff, decide_eq_true_eq]
    constructor
    · rintro (⟨i, j, h1, h2, h3⟩ | ⟨h0, i, hi, he⟩)
      · exact ⟨i, j, h1, by omega, h3⟩
      · exact ⟨i, n, hi, by omega, he, h0⟩
    · rintro ⟨i, j, h1, h2, h3, h4⟩
      by_cases e : j = n
      · subst e; exact .inr ⟨h4, i, h1, h3⟩
      · exact .inl ⟨i, j, h1, by omega, h3, h4⟩
theorem clashTo_iff {xs : List Int} {size : Int} {n : Nat} : clashTo xs size n = true ↔ ∃ l, l < n ∧ dupTo (lineV xs size (l : Nat)) size.toNat = true := by
  induction n with
  | zero => simp [clashTo]
  | succ n ih =>
    rw [clashTo, Bool.or_eq_true, ih]
    constructor
    · rintro (⟨l, h1, h2⟩ | h)
      · exact ⟨l, by omega, h2⟩
      · exact ⟨n, by omega, h⟩
    · rintro ⟨l, h1, h2⟩
      by_cases e : l = n
      · subst e; exact .inr h2
      · exact .inl ⟨l, by omega, h2⟩

/-- two different cells of one line. -/
def adj (s i j : Nat) : Bool := i != j && (i / s == j / s || i % s == j % s)
def adjLine (s i j : Nat) : Bool := (List.range (2 * s)).any fun l => (List.range s).any fun a => (List.range s).any fun b => a != b && ((lineAt (s : Nat) (l : Nat) a).toNat == i && (lineAt (s : Nat) (l : Nat) b).toNat == j)
theorem adj_line0 : ∀ s ∈ [2, 3, 4], ∀ i, i < s * s → ∀ j, j < s * s → adj s i j = true → adjLine s i j = true := by decide +kernel
theorem adj_line (s : Nat) (hs : s ∈ [2, 3, 4]) (i : Nat) (hi : i < s * s) (j : Nat) (hj : j < s * s) (h : adj s i j = true) : ∃ l, l < 2 * s ∧ ∃ a, a < s ∧ ∃ b, b < s ∧ a ≠ b ∧ (lineAt (s : Nat) (l : Nat) a).toNat = i ∧ (lineAt (s : Nat) (l : Nat) b).toNat = j := by
  have := adj_line0 s hs i hi j hj h
  simp only [adjLine, List.any_eq_true, List.mem_range, Bool.and_eq_true, bne_iff_ne, beq_iff_eq] at this
  obtain ⟨l, hl, a, ha, b, hb, hab, e1, e2⟩ := this
  exact ⟨l, hl, a, ha, b, hb, hab, e1, e2⟩
def lineAdj (s l a b : Nat) : Bool := a == b || (adj s (lineAt (s : Nat) (l : Nat) a).toNat (lineAt (s : Nat) (l : Nat) b).toNat && (Nat.blt (lineAt (s : Nat) (l : Nat) a).toNat (s * s) && Nat.blt (lineAt (s : Nat) (l : Nat) b).toNat (s * s)))
theorem line_adj0 : ∀ s ∈ [2, 3, 4], ∀ l, l < 2 * s → ∀ a, a < s → ∀ b, b < s → lineAdj s l a b = true := by decide +kernel
theorem line_adj (s : Nat) (hs : s ∈ [2, 3, 4]) (l : Nat) (hl : l < 2 * s) (a : Nat) (ha : a < s) (b : Nat) (hb : b < s) (hab : a ≠ b) : adj s (lineAt (s : Nat) (l : Nat) a).toNat (lineAt (s : Nat) (l : Nat) b).toNat = true ∧ (lineAt (s : Nat) (l : Nat) a).toNat < s * s ∧ (lineAt (s : Nat) (l : Nat) b).toNat < s * s := by
  have := line_adj0 s hs l hl a ha b hb
  simp only [lineAdj, Bool.or_eq_true, beq_iff_eq, Bool.and_eq_true, Nat.blt_eq] at this
  rcases this with h | h
  · exact absurd h hab
  · exact h
theorem clash_iff {xs : List Int} {s : Nat} (hs : s ∈ [2, 3, 4]) : clash xs s = true ↔ ∃ i j, i < s * s ∧ j < s * s ∧ adj s i j = true ∧ nth xs i = nth xs j ∧ 0 < nth xs j := by
  have e2 : (2 * (s : Int)).toNat = 2 * s := by omega
  rw [clash, clashTo_iff, e2]
  constructor
  · rintro ⟨l, hl, h⟩
    rw [dupTo_iff, Int.toNat_natCast] at h
    obtain ⟨a, b, h1, h2, h3, h4⟩ := h
    obtain ⟨p, q, r⟩ := line_adj s hs l hl a (by omega) b h2 (by omega)
    exact ⟨_, _, q, r, p, h3, h4⟩
  · rintro ⟨i, j, hi, hj, ha, he, hp⟩
    obtain ⟨l, hl, a, ha', b, hb, hab, ei, ej⟩ := adj_line s hs i hi j hj ha
    refine ⟨l, hl, ?_⟩
    rw [dupTo_iff, Int.toNat_natCast]
    rcases Nat.lt_or_ge a b with h | h
    · exact ⟨a, b, h, hb, by unfold lineV; rw [ei, ej]; exact he, by unfold lineV; rw [ej]; exact hp⟩
    · exact ⟨b, a, by omega, ha', by unfold lineV; rw [ei, ej]; exact he.symm, by unfold lineV; rw [ei, he]; exact hp⟩
/-- a permutation of the cells that keeps lines keeps clashes. -/
theorem clash_pm {xs : List Int} {s : Nat} {P Q : Nat → Nat} (hs : s ∈ [2, 3, 4]) (hP : ∀ k, k < s * s → P k < s * s) (hQ : ∀ k, k < s * s → Q k < s * s) (hPQ : ∀ k, k < s * s → P (Q k) = k)
    (hadj : ∀ i, i < s * s → ∀ j, j < s * s → adj s i j = true → adj s (P i) (P j) = true ∧ adj s (Q i) (Q j) = true) : clash (pm xs P (s * s)) s = clash xs s := by
  rw [Bool.eq_iff_iff, clash_iff hs, clash_iff hs]
  constructor
  · rintro ⟨i, j, hi, hj, ha, he, hp⟩
    rw [pm_nth hi, pm_nth hj] at he
    rw [pm_nth hj] at hp
    exact ⟨P i, P j, hP i hi, hP j hj, (hadj i hi j hj ha).1, he, hp⟩
  · rintro ⟨i, j, hi, hj, ha, he, hp⟩
    refine ⟨Q i, Q j, hQ i hi, hQ j hj, (hadj i hi j hj ha).2, ?_, ?_⟩
    · rw [pm_nth (hQ i hi), pm_nth (hQ j hj), hPQ i hi, hPQ j hj]; exact he
    · rw [pm_nth (hQ j hj), hPQ j hj]; exact hp
theorem clash_set0 {xs : List Int} {s k : Nat} (hs : s ∈ [2, 3, 4]) (hl : xs.length = s * s) (h : clash xs s = false) : clash (xs.set k 0) s = false := by
  cases hc : clash (xs.set k 0) s
  · rfl
  · rw [clash_iff hs] at hc
    obtain ⟨i, j, hi, hj, ha, he, hp⟩ := hc
    by_cases hk : k < xs.length
    · rw [nth_set hk, nth_set hk] at he
      rw [nth_set hk] at hp
      have hkj : k ≠ j := by rintro rfl; simp at hp
      rw [if_neg hkj] at he hp
      have hki : k ≠ i := by rintro rfl; rw [if_pos rfl] at he; omega
      rw [if_neg hki] at he
      have := (clash_iff hs).2 ⟨i, j, hi, hj, ha, he, hp⟩
      rw [h] at this; cases this
    · rw [List.set_eq_of_length_le (by omega)] at he hp
      have := (clash_iff hs).2 ⟨i, j, hi, hj, ha, he, hp⟩
      rw [h] at this; cases this
/-- three quarters back. -/
def backIx (s k : Nat) : Nat := turnIx s (turnIx s (turnIx s k))
theorem turn_adj : ∀ s ∈ [2, 3, 4], ∀ i, i < s * s → ∀ j, j < s * s → adj s i j = true → adj s (turnIx (s : Nat) i) (turnIx (s : Nat) j) = true ∧ adj s (backIx s i) (backIx s j) = true := by decide +kernel
theorem turn_back : ∀ s ∈ [2, 3, 4], ∀ k, k < s * s → backIx s k < s * s ∧ turnIx (s : Nat) (backIx s k) = k := by decide +kernel
theorem mir_adj : ∀ s ∈ [2, 3, 4], ∀ i, i < s * s → ∀ j, j < s * s → adj s i j = true → adj s (mirIx (s : Nat) i) (mirIx (s : Nat) j) = true := by decide +kernel
theorem clash_turn {xs : List Int} {size : Int} {n : Nat} (hg : gv xs size = true) (hl : xs.length = n) : clash (turnL xs size) size = clash xs size := by
  rw [turnL_pm hg hl]
  obtain ⟨s, rfl, hs, hls⟩ := size_nat hg
  obtain rfl : n = s * s := by omega
  exact clash_pm hs (turn_lt s hs) (fun k hk => (turn_back s hs k hk).1) (fun k hk => (turn_back s hs k hk).2) (turn_adj s hs)
theorem clash_mir {xs : List Int} {size : Int} {n : Nat} (hg : gv xs size = true) (hl : xs.length = n) : clash (mirL xs size) size = clash xs size := by
  rw [mirL_pm hg hl]
  obtain ⟨s, rfl, hs, hls⟩ := size_nat hg
  obtain rfl : n = s * s := by omega
  exact clash_pm hs (mir_lt s hs) (mir_lt s hs) (mir_two s hs) (fun i hi j hj h => ⟨mir_adj s hs i hi j hj h, mir_adj s hs i hi j hj h⟩)
end Go.Proofs.Ytlnmioijgclndaa
