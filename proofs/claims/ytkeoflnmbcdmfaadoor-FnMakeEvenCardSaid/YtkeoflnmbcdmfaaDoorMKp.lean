import Derived.Test.YtkeoflnmbcdmfaaDoorMW1F
import Derived.Test.YtkeoflnmbcdmfaaDoorClash
import Derived.Test.YtkeoflnmbcdmfaaDoorDrawH
import Derived.Test.YtkeoflnmbcdmfaaDoorC3C
import Derived.Test.YtkeoflnmbcdmfaaDoorC3G
import Derived.Test.YtkeoflnmbcdmfaaDoorSqNum
import Derived.Test.YtkeoflnmbcdmfaaDoorC3
import Derived.Test.YtkeoflnmbcdmfaaDoorDraw
import Derived.Test.YtkeoflnmbcdmfaaDoorC1
import Derived.Test.YtkeoflnmbcdmfaaDoorOwn
import Derived.Test.YtkeoflnmbcdmfaaDoorC1L
namespace Go.Proofs.YtkeoflnmbcdmfaaDoor
open Go.ChangeShapes Go.WideShapes Go.ChangeAt Go.RowKit

/-- the list whose value at k is the one of xs at P k. -/
def pm (xs : List Int) (P : Nat → Nat) (n : Nat) : List Int := mapTo (fun k => nth xs (P k)) n
theorem pm_length (xs : List Int) (P : Nat → Nat) (n : Nat) : (pm xs P n).length = n := mapTo_length _ _
theorem pm_nth {xs : List Int} {P : Nat → Nat} {n k : Nat} (h : k < n) : nth (pm xs P n) k = nth xs (P k) := mapTo_nth h
theorem pm_pm {xs : List Int} {P Q : Nat → Nat} {n : Nat} (h : ∀ k, k < n → P k < n) : pm (pm xs Q n) P n = pm xs (fun k => Q (P k)) n := by
  apply ext_nth (by rw [pm_length, pm_length])
  intro k hk
  rw [pm_length] at hk
  rw [pm_nth hk, pm_nth (h k hk), pm_nth hk]
theorem pm_id {xs : List Int} {P : Nat → Nat} {n : Nat} (hl : xs.length = n) (h : ∀ k, k < n → P k = k) : pm xs P n = xs := by
  apply ext_nth (by rw [pm_length, hl])
  intro k hk
  rw [pm_length] at hk
  rw [pm_nth hk, h k hk]
theorem pm_eq {xs : List Int} {P Q : Nat → Nat} {n : Nat} (h : ∀ k, k < n → P k = Q k) : pm xs P n = pm xs Q n := by
  apply ext_nth (by rw [pm_length, pm_length])
  intro k hk
  rw [pm_length] at hk
  rw [pm_nth hk, pm_nth hk, h k hk]
theorem pm_gv {xs : List Int} {size : Int} {P : Nat → Nat} {n : Nat} (hg : gv xs size = true) (hl : xs.length = n) (h : ∀ k, k < n → P k < n) : gv (pm xs P n) size = true := by
  obtain ⟨h2, h4⟩ := gv_size hg
  refine okAll_gv (pm_length _ _ _) (gv_n hg hl).2.2 h2 h4 (fun k hk => ?_)
  rw [pm_nth hk]
  exact gv_nth hg (by rw [hl]; exact h k hk)
theorem cnz_sum (xs : List Int) (n : Nat) : cnz xs n = ((List.range n).map fun k => if nth xs k = 0 then 0 else 1).sum := by
  induction n with
  | zero => rfl
  | succ n ih => simp [cnz, ih, List.range_succ]
theorem pm_cnz {xs : List Int} {P : Nat → Nat} {n : Nat} (hp : (List.map P (List.range n)).Perm (List.range n)) : cnz (pm xs P n) n = cnz xs n := by
  rw [cnz_sum, cnz_sum]
  have h1 : (List.range n).map (fun k => if nth (pm xs P n) k = 0 then 0 else 1) = (List.map P (List.range n)).map (fun k => if nth xs k = 0 then 0 else 1) := by
    rw [List.map_map]
    apply List.map_congr_left
    intro k hk
    have : k < n := by simpa using hk
    simp only [Function.comp, pm_nth this]
  rw [h1]
  exact (hp.map _).sum_nat
theorem pm_gf {xs : List Int} {size : Int} {P : Nat → Nat} {n : Nat} (hg : gv xs size = true) (hl : xs.length = n) (h : ∀ k, k < n → P k < n) (hp : (List.map P (List.range n)).Perm (List.range n)) : gf (pm xs P n) size = gf xs size := by
  unfold gf
  rw [if_pos hg, if_pos (pm_gv hg hl h), pm_length, pm_cnz hp, hl]

theorem size_nat {xs : List Int} {size : Int} (hg : gv xs size = true) : ∃ s : Nat, size = s ∧ s ∈ [2, 3, 4] ∧ xs.length = s * s := by
  obtain ⟨h2, h4⟩ := gv_size hg
  obtain ⟨s, rfl⟩ := Int.eq_ofNat_of_zero_le (by omega : 0 ≤ size)
  refine ⟨s, rfl, by simp; omega, ?_⟩
  have := gv_len hg
  rw [← Int.natCast_mul] at this
  omega
theorem turn_lt : ∀ s ∈ [2, 3, 4], ∀ k, k < s * s → turnIx (s : Nat) k < s * s := by decide +kernel
theorem turn_perm : ∀ s ∈ [2, 3, 4], (List.map (turnIx (s : Nat)) (List.range (s * s))).Perm (List.range (s * s)) := by decide +kernel
theorem turn_four : ∀ s ∈ [2, 3, 4], ∀ k, k < s * s → turnIx (s : Nat) (turnIx (s : Nat) (turnIx (s : Nat) (turnIx (s : Nat) k))) = k := by decide +kernel
theorem turn_edge : ∀ s ∈ [2, 3, 4], ∀ k, k < s → turnIx (s : Nat) (k * s + s - 1) = k := by decide +kernel

/-- what is known of a turned grid. -/
structure TurnFacts (xs : List Int) (size : Int) (n : Nat) : Prop where
  len : (turnL xs size).length = n
  valid : gv (turnL xs size) size = true
  four : turnL (turnL (turnL (turnL xs size) size) size) size = xs
  filled : gf (turnL xs size) size = gf xs size
  edge : ∀ k : Nat, (k : Int) < size → nth (turnL xs size) ((k : Int) * size + size - 1).toNat = nth xs k
theorem turnL_pm {xs : List Int} {size : Int} {n : Nat} (hg : gv xs size = true) (hl : xs.length = n) : turnL xs size = pm xs (turnIx size) n := by
  unfold turnL
  rw [if_pos hg, hl]; rfl
theorem turn_all {xs : List Int} {size : Int} {n : Nat} (hg : gv xs size = true) (hl : xs.length = n) : TurnFacts xs size n := by
  obtain ⟨s, rfl, hs, hls⟩ := size_nat hg
  have hn : n = s * s := by rw [← hl, hls]
  subst hn
  have lt := turn_lt s hs
  have e1 := turnL_pm hg hl
  have g1 : gv (turnL xs s) s = true := by rw [e1]; exact pm_gv hg hl lt
  have l1 : (turnL xs s).length = s * s := by rw [e1, pm_length]
  have e2 := turnL_pm g1 l1
  have g2 : gv (turnL (turnL xs s) s) s = true := by rw [e2]; exact pm_gv g1 l1 lt
  have l2 : (turnL (turnL xs s) s).length = s * s := by rw [e2, pm_length]
  have e3 := turnL_pm g2 l2
  have g3 : gv (turnL (turnL (turnL xs s) s) s) s = true := by rw [e3]; exact pm_gv g2 l2 lt
  have l3 : (turnL (turnL (turnL xs s) s) s).length = s * s := by rw [e3, pm_length]
  have e4 := turnL_pm g3 l3
  refine ⟨l1, g1, ?_, ?_, ?_⟩
  · rw [e4, e3, e2, e1, pm_pm lt, pm_pm (fun k hk => lt _ (lt k hk)), pm_pm (fun k hk => lt _ (lt _ (lt k hk)))]
    exact pm_id hl (turn_four s hs)
  · rw [e1]; exact pm_gf hg hl lt (turn_perm s hs)
  · intro k hk
    have hks : k < s := by omega
    have hi : k * s + s - 1 < s * s := by
      have := ix_lt hks (by omega : s - 1 < s)
      omega
    have e : ((k : Int) * (s : Int) + (s : Int) - 1).toNat = k * s + s - 1 := by
      rw [← Int.natCast_mul]; omega
    rw [e, e1, pm_nth hi, turn_edge s hs k hks]
theorem mir_lt : ∀ s ∈ [2, 3, 4], ∀ k, k < s * s → mirIx (s : Nat) k < s * s := by decide +kernel
theorem mir_two : ∀ s ∈ [2, 3, 4], ∀ k, k < s * s → mirIx (s : Nat) (mirIx (s : Nat) k) = k := by decide +kernel
theorem mir_turn : ∀ s ∈ [2, 3, 4], ∀ k, k < s * s → mirIx (s : Nat) (turnIx (s : Nat) k) = turnIx (s : Nat) (turnIx (s : Nat) (turnIx (s : Nat) (mirIx (s : Nat) k))) := by decide +kernel
structure MirFacts (xs : List Int) (size : Int) (n : Nat) : Prop where
  len : (mirL xs size).length = n
  valid : gv (mirL xs size) size = true
  two : mirL (mirL xs size) size = xs
  turned : turnL (mirL xs size) size = mirL (turnL (turnL (turnL xs size) size) size) size
theorem mirL_pm {xs : List Int} {size : Int} {n : Nat} (hg : gv xs size = true) (hl : xs.length = n) : mirL xs size = pm xs (mirIx size) n := by
  unfold mirL
  rw [if_pos hg, hl]; rfl
theorem mir_all {xs : List Int} {size : Int} {n : Nat} (hg : gv xs size = true) (hl : xs.length = n) : MirFacts xs size n := by
  obtain ⟨s, rfl, hs, hls⟩ := size_nat hg
  have hn : n = s * s := by rw [← hl, hls]
  subst hn
  have lt := turn_lt s hs
  have ltm := mir_lt s hs
  have e1 := mirL_pm hg hl
  have g1 : gv (mirL xs s) s = true := by rw [e1]; exact pm_gv hg hl ltm
  have l1 : (mirL xs s).length = s * s := by rw [e1, pm_length]
  have t1 := turnL_pm hg hl
  have h1 : gv (turnL xs s) s = true := by rw [t1]; exact pm_gv hg hl lt
  have m1 : (turnL xs s).length = s * s := by rw [t1, pm_length]
  have t2 := turnL_pm h1 m1
  have h2 : gv (turnL (turnL xs s) s) s = true := by rw [t2]; exact pm_gv h1 m1 lt
  have m2 : (turnL (turnL xs s) s).length = s * s := by rw [t2, pm_length]
  have t3 := turnL_pm h2 m2
  have h3 : gv (turnL (turnL (turnL xs s) s) s) s = true := by rw [t3]; exact pm_gv h2 m2 lt
  have m3 : (turnL (turnL (turnL xs s) s) s).length = s * s := by rw [t3, pm_length]
  refine ⟨l1, g1, ?_, ?_⟩
  · rw [mirL_pm g1 l1, e1, pm_pm ltm]
    exact pm_id hl (mir_two s hs)
  · rw [turnL_pm g1 l1, mirL_pm h3 m3, t3, t2, t1, e1, pm_pm lt, pm_pm ltm, pm_pm (fun k hk => lt _ (ltm k hk)), pm_pm (fun k hk => lt _ (lt _ (ltm k hk)))]
    exact pm_eq (mir_turn s hs)
end Go.Proofs.YtkeoflnmbcdmfaaDoor
namespace Go.Proofs.YtkeoflnmbcdmfaaDoor
open Go.ChangeShapes Go.WideShapes Go.ChangeAt Go.RowKit

theorem hasTo_iff {f : Nat → Int} {k : Nat} {v : Int} : hasTo f k v = true ↔ ∃ i, i < k ∧ f i = v := by
  simp [hasTo]
theorem dupTo_iff {f : Nat → Int} {n : Nat} : dupTo f n = true ↔ ∃ i j, i < j ∧ j < n ∧ f i = f j ∧ 0 < f j := by
  induction n with
  | zero => simp [dupTo]
  | succ n ih =>
    rw [dupTo, Bool.or_eq_true, ih, Bool.and_eq_true, hasTo_iff, decide_eq_true_eq]
    constructor
    · rintro (⟨i, j, h1, h2, h3⟩ | ⟨h0, i, hi, he⟩)
      · exact ⟨i, j, h1, by omega, h3⟩
      · exact ⟨i, n, hi, by omega, he, h0⟩
    · rintro ⟨i, j, h1, h2, h3, h4⟩
      by_cases e : j = n
      · subst e; exact .inr ⟨h4, i, h1, h3⟩
      · exact .inl ⟨i, j, h1, by omega, h3, h4⟩
theorem clashTo_iff {xs : List Int} {size : Int} {n : Nat} : clashTo xs size n = true ↔ ∃ l, l < n ∧ dupTo (lineV xs size (l : Nat)) size.toNat = true := by
  induction n with
  | zero => simp [clashTo]
  | succ n ih =>
    rw [clashTo, Bool.or_eq_true, ih]
    constructor
    · rintro (⟨l, h1, h2⟩ | h)
      · exact ⟨l, by omega, h2⟩
      · exact ⟨n, by omega, h⟩
    · rintro ⟨l, h1, h2⟩
      by_cases e : l = n
      · subst e; exact .inr h2
      · exact .inl ⟨l, by omega, h2⟩

/-- two different cells of one line. -/
def adj (s i j : Nat) : Bool := i != j && (i / s == j / s || i % s == j % s)
def adjLine (s i j : Nat) : Bool := (List.range (2 * s)).any fun l => (List.range s).any fun a => (List.range s).any fun b => a != b && ((lineAt (s : Nat) (l : Nat) a).toNat == i && (lineAt (s : Nat) (l : Nat) b).toNat == j)
theorem adj_line0 : ∀ s ∈ [2, 3, 4], ∀ i, i < s * s → ∀ j, j < s * s → adj s i j = true → adjLine s i j = true := by decide +kernel
theorem adj_line (s : Nat) (hs : s ∈ [2, 3, 4]) (i : Nat) (hi : i < s * s) (j : Nat) (hj : j < s * s) (h : adj s i j = true) : ∃ l, l < 2 * s ∧ ∃ a, a < s ∧ ∃ b, b < s ∧ a ≠ b ∧ (lineAt (s : Nat) (l : Nat) a).toNat = i ∧ (lineAt (s : Nat) (l : Nat) b).toNat = j := by
  have := adj_line0 s hs i hi j hj h
  simp only [adjLine, List.any_eq_true, List.mem_range, Bool.and_eq_true, bne_iff_ne, beq_iff_eq] at this
  obtain ⟨l, hl, a, ha, b, hb, hab, e1, e2⟩ := this
  exact ⟨l, hl, a, ha, b, hb, hab, e1, e2⟩
def lineAdj (s l a b : Nat) : Bool := a == b || (adj s (lineAt (s : Nat) (l : Nat) a).toNat (lineAt (s : Nat) (l : Nat) b).toNat && (Nat.blt (lineAt (s : Nat) (l : Nat) a).toNat (s * s) && Nat.blt (lineAt (s : Nat) (l : Nat) b).toNat (s * s)))
theorem line_adj0 : ∀ s ∈ [2, 3, 4], ∀ l, l < 2 * s → ∀ a, a < s → ∀ b, b < s → lineAdj s l a b = true := by decide +kernel
theorem line_adj (s : Nat) (hs : s ∈ [2, 3, 4]) (l : Nat) (hl : l < 2 * s) (a : Nat) (ha : a < s) (b : Nat) (hb : b < s) (hab : a ≠ b) : adj s (lineAt (s : Nat) (l : Nat) a).toNat (lineAt (s : Nat) (l : Nat) b).toNat = true ∧ (lineAt (s : Nat) (l : Nat) a).toNat < s * s ∧ (lineAt (s : Nat) (l : Nat) b).toNat < s * s := by
  have := line_adj0 s hs l hl a ha b hb
  simp only [lineAdj, Bool.or_eq_true, beq_iff_eq, Bool.and_eq_true, Nat.blt_eq] at this
  rcases this with h | h
  · exact absurd h hab
  · exact h
theorem clash_iff {xs : List Int} {s : Nat} (hs : s ∈ [2, 3, 4]) : clash xs s = true ↔ ∃ i j, i < s * s ∧ j < s * s ∧ adj s i j = true ∧ nth xs i = nth xs j ∧ 0 < nth xs j := by
  have e2 : (2 * (s : Int)).toNat = 2 * s := by omega
  rw [clash, clashTo_iff, e2]
  constructor
  · rintro ⟨l, hl, h⟩
    rw [dupTo_iff, Int.toNat_natCast] at h
    obtain ⟨a, b, h1, h2, h3, h4⟩ := h
    obtain ⟨p, q, r⟩ := line_adj s hs l hl a (by omega) b h2 (by omega)
    exact ⟨_, _, q, r, p, h3, h4⟩
  · rintro ⟨i, j, hi, hj, ha, he, hp⟩
    obtain ⟨l, hl, a, ha', b, hb, hab, ei, ej⟩ := adj_line s hs i hi j hj ha
    refine ⟨l, hl, ?_⟩
    rw [dupTo_iff, Int.toNat_natCast]
    rcases Nat.lt_or_ge a b with h | h
    · exact ⟨a, b, h, hb, by unfold lineV; rw [ei, ej]; exact he, by unfold lineV; rw [ej]; exact hp⟩
    · exact ⟨b, a, by omega, ha', by unfold lineV; rw [ei, ej]; exact he.symm, by unfold lineV; rw [ei, he]; exact hp⟩
/-- a permutation of the cells that keeps lines keeps clashes. -/
theorem clash_pm {xs : List Int} {s : Nat} {P Q : Nat → Nat} (hs : s ∈ [2, 3, 4]) (hP : ∀ k, k < s * s → P k < s * s) (hQ : ∀ k, k < s * s → Q k < s * s) (hPQ : ∀ k, k < s * s → P (Q k) = k)
    (hadj : ∀ i, i < s * s → ∀ j, j < s * s → adj s i j = true → adj s (P i) (P j) = true ∧ adj s (Q i) (Q j) = true) : clash (pm xs P (s * s)) s = clash xs s := by
  rw [Bool.eq_iff_iff, clash_iff hs, clash_iff hs]
  constructor
  · rintro ⟨i, j, hi, hj, ha, he, hp⟩
    rw [pm_nth hi, pm_nth hj] at he
    rw [pm_nth hj] at hp
    exact ⟨P i, P j, hP i hi, hP j hj, (hadj i hi j hj ha).1, he, hp⟩
  · rintro ⟨i, j, hi, hj, ha, he, hp⟩
    refine ⟨Q i, Q j, hQ i hi, hQ j hj, (hadj i hi j hj ha).2, ?_, ?_⟩
    · rw [pm_nth (hQ i hi), pm_nth (hQ j hj), hPQ i hi, hPQ j hj]; exact he
    · rw [pm_nth (hQ j hj), hPQ j hj]; exact hp
theorem clash_set0 {xs : List Int} {s k : Nat} (hs : s ∈ [2, 3, 4]) (hl : xs.length = s * s) (h : clash xs s = false) : clash (xs.set k 0) s = false := by
  cases hc : clash (xs.set k 0) s
  · rfl
  · rw [clash_iff hs] at hc
    obtain ⟨i, j, hi, hj, ha, he, hp⟩ := hc
    by_cases hk : k < xs.length
    · rw [nth_set hk, nth_set hk] at he
      rw [nth_set hk] at hp
      have hkj : k ≠ j := by rintro rfl; simp at hp
      rw [if_neg hkj] at he hp
      have hki : k ≠ i := by rintro rfl; rw [if_pos rfl] at he; omega
      rw [if_neg hki] at he
      have := (clash_iff hs).2 ⟨i, j, hi, hj, ha, he, hp⟩
      rw [h] at this; cases this
    · rw [List.set_eq_of_length_le (by omega)] at he hp
      have := (clash_iff hs).2 ⟨i, j, hi, hj, ha, he, hp⟩
      rw [h] at this; cases this
/-- three quarters back. -/
def backIx (s k : Nat) : Nat := turnIx s (turnIx s (turnIx s k))
theorem turn_adj : ∀ s ∈ [2, 3, 4], ∀ i, i < s * s → ∀ j, j < s * s → adj s i j = true → adj s (turnIx (s : Nat) i) (turnIx (s : Nat) j) = true ∧ adj s (backIx s i) (backIx s j) = true := by decide +kernel
theorem turn_back : ∀ s ∈ [2, 3, 4], ∀ k, k < s * s → backIx s k < s * s ∧ turnIx (s : Nat) (backIx s k) = k := by decide +kernel
theorem mir_adj : ∀ s ∈ [2, 3, 4], ∀ i, i < s * s → ∀ j, j < s * s → adj s i j = true → adj s (mirIx (s : Nat) i) (mirIx (s : Nat) j) = true := by decide +kernel
theorem clash_turn {xs : List Int} {size : Int} {n : Nat} (hg : gv xs size = true) (hl : xs.length = n) : clash (turnL xs size) size = clash xs size := by
  rw [turnL_pm hg hl]
  obtain ⟨s, rfl, hs, hls⟩ := size_nat hg
  obtain rfl : n = s * s := by omega
  exact clash_pm hs (turn_lt s hs) (fun k hk => (turn_back s hs k hk).1) (fun k hk => (turn_back s hs k hk).2) (turn_adj s hs)
theorem clash_mir {xs : List Int} {size : Int} {n : Nat} (hg : gv xs size = true) (hl : xs.length = n) : clash (mirL xs size) size = clash xs size := by
  rw [mirL_pm hg hl]
  obtain ⟨s, rfl, hs, hls⟩ := size_nat hg
  obtain rfl : n = s * s := by omega
  exact clash_pm hs (mir_lt s hs) (mir_lt s hs) (mir_two s hs) (fun i hi j hj h => ⟨mir_adj s hs i hi j hj h, mir_adj s hs i hi j hj h⟩)
end Go.Proofs.YtkeoflnmbcdmfaaDoor
namespace Go.Proofs.YtkeoflnmbcdmfaaDoor
open Go.ChangeShapes Go.WideShapes Go.ChangeAt Go.RowKit

def sqFits (xs : List Int) (size : Int) : Bool := gv xs size && !clash xs size
def sqSolved (xs : List Int) (size : Int) : Bool := sqFits xs size && (gf xs size == size * size)

theorem cnz_full {xs : List Int} {n : Nat} : cnz xs n = n ↔ ∀ k, k < n → nth xs k ≠ 0 := by
  induction n with
  | zero => simp [cnz]
  | succ n ih =>
    have hle := cnz_le xs n
    constructor
    · intro h
      by_cases e : nth xs n = 0
      · rw [cnz_z e] at h; omega
      · rw [cnz_nz e] at h
        have h' := ih.1 (by omega)
        intro k hk
        by_cases ek : k = n
        · subst ek; exact e
        · exact h' k (by omega)
    · intro h
      rw [cnz_nz (h n (by omega)), ih.2 (fun k hk => h k (by omega))]
theorem solved_iff {xs : List Int} {size : Int} {n : Nat} (hl : xs.length = n) : sqSolved xs size = true ↔ gv xs size = true ∧ clash xs size = false ∧ ∀ k, k < n → nth xs k ≠ 0 := by
  subst hl
  unfold sqSolved sqFits
  simp only [Bool.and_eq_true, Bool.not_eq_true', beq_iff_eq]
  constructor
  · rintro ⟨⟨h1, h2⟩, h3⟩
    refine ⟨h1, h2, ?_⟩
    have := gv_len h1
    unfold gf at h3
    rw [if_pos h1] at h3
    exact cnz_full.1 (by omega)
  · rintro ⟨h1, h2, h3⟩
    refine ⟨⟨h1, h2⟩, ?_⟩
    have := gv_len h1
    unfold gf
    rw [if_pos h1, cnz_full.2 h3]
    omega

/-- in a line of s different values of 1..s every one of them stands. -/
def pigB2 (a b v : Nat) : Bool := (a == 0 || b == 0 || v == 0) || ((a == b) || (a == v || b == v))
theorem pig2 : ∀ a, a < 3 → ∀ b, b < 3 → ∀ v, v < 3 → pigB2 a b v = true := by decide +kernel
def pigB3 (a b c v : Nat) : Bool := (a == 0 || b == 0 || c == 0 || v == 0) || ((a == b || a == c || b == c) || (a == v || b == v || c == v))
theorem pig3 : ∀ a, a < 4 → ∀ b, b < 4 → ∀ c, c < 4 → ∀ v, v < 4 → pigB3 a b c v = true := by decide +kernel
def pigB4 (a b c d v : Nat) : Bool := (a == 0 || b == 0 || c == 0 || d == 0 || v == 0) || ((a == b || a == c || a == d || b == c || b == d || c == d) || (a == v || b == v || c == v || d == v))
theorem pig4 : ∀ a, a < 5 → ∀ b, b < 5 → ∀ c, c < 5 → ∀ d, d < 5 → ∀ v, v < 5 → pigB4 a b c d v = true := by decide +kernel
theorem pig {f : Nat → Int} {s : Nat} (hs : s ∈ [2, 3, 4]) (hf : ∀ i, i < s → 1 ≤ f i ∧ f i ≤ s) (hd : dupTo f s = false) {v : Int} (v1 : 1 ≤ v) (v2 : v ≤ s) : hasTo f s v = true := by
  have hne : ∀ i j, i < j → j < s → f i ≠ f j := by
    intro i j hij hj he
    have : dupTo f s = true := dupTo_iff.2 ⟨i, j, hij, hj, he, by have := hf j hj; omega⟩
    rw [hd] at this; cases this
  have hT : ∀ i, i < s → ((f i).toNat : Int) = f i := fun i hi => Int.toNat_of_nonneg (by have := hf i hi; omega)
  simp at hs
  rw [hasTo_iff]
  rcases hs with rfl | rfl | rfl
  · have b0 := hf 0 (by omega); have b1 := hf 1 (by omega)
    have n01 := hne 0 1 (by omega) (by omega)
    have hp := pig2 (f 0).toNat (by omega) (f 1).toNat (by omega) v.toNat (by omega)
    simp only [pigB2, Bool.or_eq_true, beq_iff_eq] at hp
    have hp' : (f 0).toNat = v.toNat ∨ (f 1).toNat = v.toNat := by omega
    clear hp
    rcases hp' with h | h
    · exact ⟨0, by omega, by omega⟩
    · exact ⟨1, by omega, by omega⟩
  · have b0 := hf 0 (by omega); have b1 := hf 1 (by omega); have b2 := hf 2 (by omega)
    have n01 := hne 0 1 (by omega) (by omega); have n02 := hne 0 2 (by omega) (by omega); have n12 := hne 1 2 (by omega) (by omega)
    have hp := pig3 (f 0).toNat (by omega) (f 1).toNat (by omega) (f 2).toNat (by omega) v.toNat (by omega)
    simp only [pigB3, Bool.or_eq_true, beq_iff_eq] at hp
    have hp' : (f 0).toNat = v.toNat ∨ (f 1).toNat = v.toNat ∨ (f 2).toNat = v.toNat := by omega
    clear hp
    rcases hp' with h | h | h
    · exact ⟨0, by omega, by omega⟩
    · exact ⟨1, by omega, by omega⟩
    · exact ⟨2, by omega, by omega⟩
  · have b0 := hf 0 (by omega); have b1 := hf 1 (by omega); have b2 := hf 2 (by omega); have b3 := hf 3 (by omega)
    have n01 := hne 0 1 (by omega) (by omega); have n02 := hne 0 2 (by omega) (by omega); have n03 := hne 0 3 (by omega) (by omega)
    have n12 := hne 1 2 (by omega) (by omega); have n13 := hne 1 3 (by omega) (by omega); have n23 := hne 2 3 (by omega) (by omega)
    have hp := pig4 (f 0).toNat (by omega) (f 1).toNat (by omega) (f 2).toNat (by omega) (f 3).toNat (by omega) v.toNat (by omega)
    simp only [pigB4, Bool.or_eq_true, beq_iff_eq] at hp
    have hp' : (f 0).toNat = v.toNat ∨ (f 1).toNat = v.toNat ∨ (f 2).toNat = v.toNat ∨ (f 3).toNat = v.toNat := by omega
    clear hp
    rcases hp' with h | h | h | h
    · exact ⟨0, by omega, by omega⟩
    · exact ⟨1, by omega, by omega⟩
    · exact ⟨2, by omega, by omega⟩
    · exact ⟨3, by omega, by omega⟩

/-- xs comes before ys: at the first place where they differ its value is less. -/
def lexlt (n : Nat) (xs ys : List Int) : Prop := ∃ k, k < n ∧ (∀ j, j < k → nth xs j = nth ys j) ∧ nth xs k < nth ys k
theorem sols_prefix {size : Int} : ∀ (f : Nat) (xs : List Int) (p : Nat) (y : List Int), y ∈ sols size f xs p → p + f ≤ xs.length → ∀ k, k < p → nth y k = nth xs k := by
  intro f
  induction f with
  | zero => intro xs p y hy _ k _; simp [sols] at hy; subst hy; rfl
  | succ f ih =>
    intro xs p y hy hl
    refine solsFrom_all (P := fun y => ∀ k, k < p → nth y k = nth xs k) _ _ (fun u y _ _ hy k hk => ?_) y hy
    rw [ih _ _ _ hy (by rw [List.length_set]; omega) k (by omega), nth_set (by omega), if_neg (by omega)]
theorem sols_at {size : Int} {f : Nat} {xs : List Int} {p : Nat} {u : Int} {y : List Int} (hy : y ∈ sols size f (xs.set p u) (p + 1)) (hl : p + 1 + f ≤ xs.length) : nth y p = u := by
  rw [sols_prefix f _ _ y hy (by rw [List.length_set]; omega) p (by omega), nth_set (by omega), if_pos rfl]
theorem sols_sorted {size : Int} (n : Nat) : ∀ (f : Nat) (xs : List Int) (p : Nat), p + f = n → xs.length = n → List.Pairwise (lexlt n) (sols size f xs p) := by
  intro f
  induction f with
  | zero => intro xs p _ _; simp [sols]
  | succ f ih =>
    intro xs p hp hl
    simp only [sols]
    have key : ∀ (r v : Nat), List.Pairwise (lexlt n) (solsFrom (fun ys => sols size f ys (p + 1)) xs size p r v) := by
      intro r
      induction r with
      | zero => intro v; simp [solsFrom]
      | succ r ihr =>
        intro v
        simp only [solsFrom]
        rw [List.pairwise_append]
        refine ⟨?_, ihr (v + 1), ?_⟩
        · split
          · exact List.Pairwise.nil
          · exact ih _ _ (by omega) (by rw [List.length_set]; exact hl)
        · intro a ha b hb
          have ha' : a ∈ sols size f (xs.set p (v : Int)) (p + 1) := by
            split at ha
            · simp at ha
            · exact ha
          refine solsFrom_all (P := fun b => lexlt n a b) _ _ (fun u b h1 _ hb => ?_) b hb
          refine ⟨p, by omega, fun j hj => ?_, ?_⟩
          · rw [sols_prefix f _ _ a ha' (by rw [List.length_set]; omega) j (by omega), sols_prefix f _ _ b hb (by rw [List.length_set]; omega) j (by omega), nth_set (by omega), nth_set (by omega), if_neg (by omega), if_neg (by omega)]
          · rw [sols_at ha' (by omega), sols_at hb (by omega)]
            omega
    exact key _ _
theorem sols_clash {size : Int} : ∀ (f : Nat) (xs : List Int) (p : Nat) (y : List Int), y ∈ sols size (f + 1) xs p → clash y size = false := by
  intro f
  induction f with
  | zero =>
    intro xs p y hy
    simp only [sols] at hy
    have key : ∀ (r v : Nat), y ∈ solsFrom (fun ys => [ys]) xs size p r v → clash y size = false := by
      intro r
      induction r with
      | zero => intro v h; simp [solsFrom] at h
      | succ r ihr =>
        intro v h
        simp only [solsFrom, List.mem_append] at h
        rcases h with h | h
        · by_cases hc : clash (xs.set p (v : Int)) size = true
          · rw [if_pos hc] at h; simp at h
          · rw [if_neg hc] at h
            simp at h
            subst h
            simpa using hc
        · exact ihr _ h
    exact key _ _ hy
  | succ f ih =>
    intro xs p y hy
    rw [sols] at hy
    exact solsFrom_all (P := fun y => clash y size = false) _ _ (fun u y _ _ hy => ih _ _ _ hy) y hy
theorem sols_pos {size : Int} : ∀ (f : Nat) (xs : List Int) (p : Nat) (y : List Int), y ∈ sols size f xs p → p + f ≤ xs.length → (∀ k, k < p → 1 ≤ nth xs k) → ∀ k, k < p + f → 1 ≤ nth y k := by
  intro f
  induction f with
  | zero => intro xs p y hy _ h k hk; simp [sols] at hy; subst hy; exact h k (by omega)
  | succ f ih =>
    intro xs p y hy hl h
    refine solsFrom_all (P := fun y => ∀ k, k < p + (f + 1) → 1 ≤ nth y k) _ _ (fun u y h1 _ hy k hk => ?_) y hy
    refine ih _ _ _ hy (by rw [List.length_set]; omega) (fun j hj => ?_) k (by omega)
    rw [nth_set (by omega)]
    split
    · omega
    · exact h j (by omega)
theorem sols_solved {size : Int} {n : Nat} (h2 : 2 ≤ size) (h4 : size ≤ 4) (hn : (n : Int) = size * size) {y : List Int} (hy : y ∈ sols size n (zeros n) 0) : y.length = n ∧ sqSolved y size = true := by
  have hl : y.length = n := by rw [sols_length size _ _ _ _ hy, zeros_length]
  obtain ⟨q4, q16⟩ := sq_bd h2 h4
  obtain ⟨m, rfl⟩ : ∃ m, n = m + 1 := ⟨n - 1, by omega⟩
  refine ⟨hl, (solved_iff hl).2 ⟨?_, sols_clash m _ _ _ hy, fun k hk => ?_⟩⟩
  · exact okAll_gv hl hn h2 h4 (sols_ok (by omega) _ _ _ _ (okAll_zeros (by omega) _) _ hy)
  · have := sols_pos _ _ _ _ hy (by rw [zeros_length]; omega) (fun k hk => absurd hk (by omega)) k (by omega)
    omega
end Go.Proofs.YtkeoflnmbcdmfaaDoor
namespace Go.Proofs.YtkeoflnmbcdmfaaDoor
open Go.ChangeShapes Go.WideShapes Go.ChangeAt Go.RowKit

theorem okTo3_iff {xs : List Int} {s : Int} {k : Nat} {v : Int} (m : Nat) : okTo3 xs s k v m = true ↔ ∀ j, j < m → ok3 xs s k v j = true := by
  induction m with
  | zero => simp [okTo3]
  | succ m ih =>
    rw [okTo3, Bool.and_eq_true, ih]
    constructor
    · rintro ⟨h1, h2⟩ j hj
      by_cases e : j = m
      · subst e; exact h2
      · exact h1 j (by omega)
    · intro h
      exact ⟨fun j hj => h j (by omega), h m (by omega)⟩
/-- the cells of the row and the column of k are those that are adjacent to it, and k. -/
def seen3 (s k i : Nat) : Bool := (List.range s).any fun j => ((rIx (s : Nat) k j).toNat == i) || ((cIx (s : Nat) k j).toNat == i)
theorem seen_adj : ∀ s ∈ [2, 3, 4], ∀ k, k < s * s → ∀ i, i < s * s → adj s i k = true → seen3 s k i = true := by decide +kernel
def adjSeen (s k j : Nat) : Bool := ((rIx (s : Nat) k j == (k : Int)) || (adj s (rIx (s : Nat) k j).toNat k && Nat.blt (rIx (s : Nat) k j).toNat (s * s))) && ((cIx (s : Nat) k j == (k : Int)) || (adj s (cIx (s : Nat) k j).toNat k && Nat.blt (cIx (s : Nat) k j).toNat (s * s)))
theorem adj_seen : ∀ s ∈ [2, 3, 4], ∀ k, k < s * s → ∀ j, j < s → adjSeen s k j = true := by decide +kernel
theorem ix_nn : ∀ s ∈ [2, 3, 4], ∀ k, k < s * s → ∀ j, j < s → ((rIx (s : Nat) k j).toNat : Int) = rIx (s : Nat) k j ∧ ((cIx (s : Nat) k j).toNat : Int) = cIx (s : Nat) k j := by decide +kernel
theorem adj_ne (s i j : Nat) : (adj s i j = true → i ≠ j) ∧ True := ⟨fun h => by simp only [adj, Bool.and_eq_true, bne_iff_ne] at h; exact h.1, trivial⟩
theorem adj_sym : ∀ s ∈ [2, 3, 4], ∀ i, i < s * s → ∀ j, j < s * s → adj s i j = adj s j i := by decide +kernel
theorem ok3_adj {xs : List Int} {s k : Nat} (hs : s ∈ [2, 3, 4]) (hk : k < s * s) (v : Int) : okTo3 xs s k v s = true ↔ ∀ i, i < s * s → adj s i k = true → nth xs i ≠ v := by
  rw [okTo3_iff]
  constructor
  · intro h i hi ha he
    have := seen_adj s hs k hk i hi ha
    simp only [seen3, List.any_eq_true, List.mem_range, Bool.or_eq_true, beq_iff_eq] at this
    obtain ⟨j, hj, hor⟩ := this
    have ho := h j hj
    obtain ⟨n1, n2⟩ := ix_nn s hs k hk j hj
    have hne := ((adj_ne s i k).1 ha)
    simp only [ok3, Bool.and_eq_true, Bool.or_eq_true, beq_iff_eq, bne_iff_ne] at ho
    rcases hor with e | e
    · rcases ho.1 with h1 | h1
      · omega
      · rw [e] at h1; exact h1 he
    · rcases ho.2 with h1 | h1
      · omega
      · rw [e] at h1; exact h1 he
  · intro h j hj
    have := adj_seen s hs k hk j hj
    simp only [adjSeen, Bool.and_eq_true, Bool.or_eq_true, beq_iff_eq, Nat.blt_eq] at this
    simp only [ok3, Bool.and_eq_true, Bool.or_eq_true, beq_iff_eq, bne_iff_ne]
    refine ⟨?_, ?_⟩
    · rcases this.1 with e | ⟨e1, e2⟩
      · exact .inl e
      · exact .inr (h _ e2 e1)
    · rcases this.2 with e | ⟨e1, e2⟩
      · exact .inl e
      · exact .inr (h _ e2 e1)
theorem candTo_test (xs : List Int) (s : Int) (k u : Nat) : ∀ v, (candTo xs s k v).testBit u = true ↔ 1 ≤ u ∧ u ≤ v ∧ okTo3 xs s k (u : Int) s.toNat = true := by
  intro v
  induction v with
  | zero => simp [candTo]; omega
  | succ v ih =>
    have hc : ((v : Int) + 1) = ((v + 1 : Nat) : Int) := by omega
    simp only [candTo]
    split
    · next h =>
      rw [hc] at h
      rw [Nat.testBit_or, Bool.or_eq_true, ih, Nat.testBit_two_pow, decide_eq_true_eq]
      constructor
      · rintro (⟨h1, h2, h3⟩ | rfl)
        · exact ⟨h1, by omega, h3⟩
        · exact ⟨by omega, Nat.le_refl _, h⟩
      · rintro ⟨h1, h2, h3⟩
        by_cases e : u = v + 1
        · exact .inr e.symm
        · exact .inl ⟨h1, by omega, h3⟩
    · next h =>
      rw [hc] at h
      rw [ih]
      constructor
      · rintro ⟨h1, h2, h3⟩; exact ⟨h1, by omega, h3⟩
      · rintro ⟨h1, h2, h3⟩
        refine ⟨h1, ?_, h3⟩
        by_cases e : u = v + 1
        · subst e; exact absurd h3 h
        · omega
/-- with a value in an empty cell a fitting grid fits exactly if the value is a candidate. -/
theorem clash_cand {xs : List Int} {s n k v : Nat} (hs : s ∈ [2, 3, 4]) (hn : n = s * s) (hl : xs.length = n) (hc : clash xs s = false) (hk : k < n) (v1 : 1 ≤ v) (v2 : v ≤ s) : clash (xs.set k (v : Int)) s = !((candTo xs s k s).testBit v) := by
  have hT : (candTo xs s k s).testBit v = true ↔ okTo3 xs s k (v : Int) s = true := by
    rw [candTo_test, Int.toNat_natCast]
    exact ⟨fun h => h.2.2, fun h => ⟨v1, v2, h⟩⟩
  rw [ok3_adj hs (by omega)] at hT
  have key : clash (xs.set k (v : Int)) s = true ↔ ¬ ∀ i, i < s * s → adj s i k = true → nth xs i ≠ (v : Int) := by
    rw [clash_iff hs]
    constructor
    · rintro ⟨i, j, hi, hj, ha, he, hp⟩ hall
      rw [nth_set (by omega), nth_set (by omega)] at he
      rw [nth_set (by omega)] at hp
      have hij := (adj_ne s i j).1 ha
      by_cases ek : k = j
      · subst ek
        rw [if_pos rfl, if_neg (fun h => hij h.symm)] at he
        exact hall i hi ha he
      · rw [if_neg ek] at he hp
        by_cases ei : k = i
        · subst ei
          rw [if_pos rfl] at he
          exact hall j hj ((adj_sym s hs k hi j hj).symm.trans ha) he.symm
        · rw [if_neg ei] at he
          have := (clash_iff (xs := xs) hs).2 ⟨i, j, hi, hj, ha, he, hp⟩
          rw [hc] at this; cases this
    · intro h
      simp only [Classical.not_forall, Classical.not_not] at h
      obtain ⟨i, hi, ha, he⟩ := h
      have hik := (adj_ne s i k).1 ha
      refine ⟨i, k, hi, by omega, ha, ?_, ?_⟩
      · rw [nth_set (by omega), nth_set (by omega), if_pos rfl, if_neg (fun h => hik h.symm)]; exact he
      · rw [nth_set (by omega), if_pos rfl]; omega
  cases hb : (candTo xs s k s).testBit v
  · rw [hb] at hT
    have : clash (xs.set k (v : Int)) s = true := key.2 (fun h => by have := hT.2 h; cases this)
    rw [this]; rfl
  · rw [hb] at hT
    cases hcc : clash (xs.set k (v : Int)) s
    · rfl
    · exact absurd (hT.1 rfl) (key.1 hcc)
theorem candN_lt {xs : List Int} {s n : Nat} (hs4 : s ≤ 4) (hok : okAll xs s n) {k : Nat} (hk : k < n) : candN xs s k < 32 := by
  unfold candN
  split
  · have := hok k hk
    exact Nat.pow_lt_pow_right (n := 5) (by omega) (by omega)
  · exact candTo_lt _ _ _ _ (by omega)
theorem candN_test {xs : List Int} {s n : Nat} (hok : okAll xs s n) {k : Nat} (hk : k < n) {u : Nat} (h : (candN xs s k).testBit u = true) : 1 ≤ u ∧ u ≤ s := by
  have hv := hok k hk
  unfold candN at h
  split at h
  · rw [Nat.testBit_two_pow, decide_eq_true_eq] at h
    omega
  · rw [candTo_test, Int.toNat_natCast] at h
    exact ⟨h.1, h.2.1⟩
theorem even_bits : ∀ M, M < 32 → ∀ s ∈ [2, 3, 4], ((∀ u, u < 5 → M.testBit u = true → 1 ≤ u ∧ u ≤ s) → M ≤ 2 ^ (s + 1) - 2 ∧ M % 2 = 0) := by decide +kernel
theorem cand_mask {xs : List Int} {s n : Nat} (hs : s ∈ [2, 3, 4]) (hok : okAll xs s n) {k : Nat} (hk : k < n) : candN xs s k ≤ 2 ^ (s + 1) - 2 ∧ candN xs s k % 2 = 0 :=
  even_bits _ (candN_lt (by simp at hs; omega) hok hk) s hs (fun _ _ h => candN_test hok hk h)
theorem cand_valid {xs : List Int} {size : Int} (hg : gv xs size = true) : mvd (candL xs size) size = true := by
  obtain ⟨s, rfl, hs, hl⟩ := size_nat hg
  have hok : okAll xs s (s * s) := fun k hk => gv_nth hg (by rw [hl]; exact hk)
  have hL : candL xs s = mapTo (candG xs s) (s * s) := by simp [candL, hg, hl]
  obtain ⟨h2, h4⟩ := gv_size hg
  rw [hL]
  have h1 : inr (s : Int) 2 4 = true := by simp [inr, h2, h4]
  have h3 : (mapTo (candG xs s) (s * s)).all (mkOk (2 ^ ((s : Int).toNat + 1) - 2)) = true := by
    refine allTo_all (n := s * s) (fun j hj => ?_) (mapTo_length _ _)
    rw [mapTo_nth hj]
    obtain ⟨m1, m2⟩ := cand_mask hs hok hj
    have hp : ((2 : Int) ^ (s + 1) - 2) = ((2 ^ (s + 1) - 2 : Nat) : Int) := by
      simp at hs
      rcases hs with rfl | rfl | rfl <;> rfl
    simp only [mkOk, candG, Int.toNat_natCast, Bool.and_eq_true, beq_iff_eq]
    rw [hp, Int.tmod_eq_emod_of_nonneg (Int.natCast_nonneg _)]
    refine ⟨by simp only [inr, decide_eq_true_eq]; omega, by omega⟩
  simp only [mvd, h1, h3, mapTo_length, Bool.true_and, Bool.and_true, beq_iff_eq]
  simp
theorem mvd_b64 {xs : List Int} {size : Int} (h : mvd xs size = true) : B64 xs := b64_of rfl fun k hk => by
  have := (mvd_at h).2.2.2 k hk
  omega
theorem candL_b64 (xs : List Int) (size : Int) : B64 (candL xs size) := by
  cases hg : gv xs size
  · have : candL xs size = [] := by simp [candL, hg]
    rw [this]
    exact fun k => by simp [nth]
  · exact mvd_b64 (cand_valid hg)
theorem back_turn : ∀ s ∈ [2, 3, 4], ∀ k, k < s * s → backIx s (turnIx s k) = k := by decide +kernel
theorem cand_turn {xs : List Int} {size : Int} {n k : Nat} (hg : gv xs size = true) (hl : xs.length = n) (hk : k < n) : nth (candL (turnL xs size) size) k = candG xs size (turnIx size k) := by
  have hgt : gv (turnL xs size) size = true := (turn_all hg hl).valid
  have htl : (turnL xs size).length = n := (turn_all hg hl).len
  obtain ⟨s, rfl, hs, hls⟩ := size_nat hg
  obtain rfl : n = s * s := by omega
  have hL : candL (turnL xs s) s = mapTo (candG (turnL xs s) s) (s * s) := by simp [candL, hgt, htl]
  rw [hL, mapTo_nth hk]
  have hpm := turnL_pm hg hl
  have hat : ∀ i, i < s * s → nth (turnL xs s) i = nth xs (turnIx s i) := fun i hi => by rw [hpm, pm_nth hi]
  have htk := turn_lt s hs k hk
  simp only [candG, candN]
  rw [hat k hk]
  split
  · rfl
  · congr 1
    apply Nat.eq_of_testBit_eq
    intro u
    rw [Bool.eq_iff_iff, candTo_test, candTo_test, Int.toNat_natCast, ok3_adj hs hk, ok3_adj hs htk]
    constructor
    · rintro ⟨h1, h2, h3⟩
      refine ⟨h1, h2, fun i hi ha => ?_⟩
      have hb := turn_back s hs i hi
      have hbk := turn_back s hs (turnIx s k) htk
      have := h3 (backIx s i) hb.1 (by
        have h9 := (turn_adj s hs i hi (turnIx s k) htk ha).2
        rwa [back_turn s hs k hk] at h9)
      rw [hat _ hb.1, hb.2] at this
      exact this
    · rintro ⟨h1, h2, h3⟩
      refine ⟨h1, h2, fun i hi ha => ?_⟩
      rw [hat i hi]
      exact h3 _ (turn_lt s hs i hi) (turn_adj s hs i hi k hk ha).1
end Go.Proofs.YtkeoflnmbcdmfaaDoor
set_option maxRecDepth 8000
namespace Go.Proofs.YtkeoflnmbcdmfaaDoor
open Go.ChangeShapes Go.WideShapes Go.ChangeAt Go.RowKit
/-! What the reference's search finds: of all full grids in rising order those that fit, as many as are wanted. -/
def seqN (v : Nat) : Nat → List Int
  | 0 => []
  | r + 1 => (v : Int) :: seqN (v + 1) r
def rep (s : Nat) : List Int := seqN 1 s
theorem seqN_mem {x : Int} : ∀ {r v : Nat}, x ∈ seqN v r ↔ ∃ u : Nat, x = u ∧ v ≤ u ∧ u < v + r := by
  intro r
  induction r with
  | zero => intro v; simp [seqN]
  | succ r ih =>
    intro v
    simp only [seqN, List.mem_cons, ih]
    constructor
    · rintro (rfl | ⟨u, rfl, h1, h2⟩)
      · exact ⟨v, rfl, by omega, by omega⟩
      · exact ⟨u, rfl, by omega, by omega⟩
    · rintro ⟨u, rfl, h1, h2⟩
      by_cases e : u = v
      · subst e; exact .inl rfl
      · exact .inr ⟨u, rfl, by omega, by omega⟩
theorem rep_mem {x : Int} {s : Nat} : x ∈ rep s ↔ ∃ u : Nat, x = u ∧ 1 ≤ u ∧ u ≤ s := by
  unfold rep
  rw [seqN_mem]
  constructor
  · rintro ⟨u, e, h1, h2⟩; exact ⟨u, e, h1, by omega⟩
  · rintro ⟨u, e, h1, h2⟩; exact ⟨u, e, h1, by omega⟩
theorem seqN_snoc (v r : Nat) : seqN v (r + 1) = seqN v r ++ [((v + r : Nat) : Int)] := by
  induction r generalizing v with
  | zero => rfl
  | succ r ih =>
    rw [seqN, ih (v + 1), seqN]
    simp only [List.cons_append]
    rw [show v + 1 + r = v + (r + 1) by omega]
def enS (s : Nat) : Nat → List Int → Nat → List (List Int)
  | 0, g, _ => [g]
  | f + 1, g, p => if 0 < nth g p then enS s f g (p + 1) else (rep s).flatMap fun x => enS s f (g.set p x) (p + 1)
theorem take_take {α : Type} (m : Nat) (X Y : List α) : (X.take m ++ Y).take m = (X ++ Y).take m := by
  by_cases h : X.length ≤ m
  · rw [List.take_of_length_le h]
  · have h1 : (X.take m).length = m := by rw [List.length_take]; omega
    rw [List.take_append_of_le_length (by omega), List.take_append_of_le_length (by omega), List.take_take, Nat.min_self]
theorem take_self {α : Type} {m : Nat} {X : List α} (Y : List α) (h : X.length = m) : (X ++ Y).take m = X := by
  rw [List.take_append_of_le_length (by omega), List.take_of_length_le (by omega)]
theorem s5_is {fit : List Int → Bool} {s most : Nat} (In : Nat → List Int → Nat → Prop)
    (h1 : ∀ f g p, In (f + 1) g p → 0 < nth g p → In f g (p + 1)) (h2 : ∀ f g p x, In (f + 1) g p → ¬ 0 < nth g p → x ∈ rep s → In f (g.set p x) (p + 1))
    (hm : ∀ f g p y, In f g p → y ∈ enS s f g p → fit y = true → fit g = true) :
    ∀ f g p Ls, In f g p → fit g = true → Ls.length < most → s5 fit s most f g p Ls = (Ls ++ (enS s f g p).filter fit).take most := by
  intro f
  induction f with
  | zero =>
    intro g p Ls _ hf hl
    simp only [s5, enS]
    rw [List.filter_cons_of_pos hf, List.filter_nil, List.take_of_length_le (by simp; omega)]
  | succ f ih =>
    intro g p Ls hI hf hl
    simp only [s5, enS]
    by_cases hp : 0 < nth g p
    · rw [if_pos hp, if_pos hp]
      exact ih g (p + 1) Ls (h1 f g p hI hp) hf hl
    · rw [if_neg hp, if_neg hp]
      have key : ∀ r v Ls, (∀ x ∈ seqN v r, x ∈ rep s) → Ls.length ≤ most →
          tryV fit (fun g' L' => s5 fit s most f g' (p + 1) L') g p most r v Ls = (Ls ++ ((seqN v r).flatMap fun x => enS s f (g.set p x) (p + 1)).filter fit).take most := by
        intro r
        induction r with
        | zero => intro v Ls _ hle; simp only [tryV, seqN, List.flatMap_nil, List.filter_nil, List.append_nil]; exact (List.take_of_length_le hle).symm
        | succ r ihr =>
          intro v Ls hin hle
          simp only [tryV, seqN, List.flatMap_cons, List.filter_append]
          by_cases hlt : Ls.length < most
          · rw [if_pos hlt]
            have hv := hin (v : Int) (by simp [seqN])
            have hIv := h2 f g p v hI hp hv
            have e : (if fit (g.set p (v : Int)) = true then s5 fit s most f (g.set p (v : Int)) (p + 1) Ls else Ls) = (Ls ++ (enS s f (g.set p (v : Int)) (p + 1)).filter fit).take most := by
              by_cases hfit : fit (g.set p (v : Int)) = true
              · rw [if_pos hfit]; exact ih _ _ _ hIv hfit hlt
              · rw [if_neg hfit]
                have : (enS s f (g.set p (v : Int)) (p + 1)).filter fit = [] := by
                  rw [List.filter_eq_nil_iff]
                  intro y hy hfy
                  exact hfit (hm _ _ _ y hIv hy hfy)
                rw [this, List.append_nil, List.take_of_length_le hle]
            rw [e, ihr (v + 1) _ (fun x hx => hin x (by simp [seqN, hx])) (by rw [List.length_take]; omega), take_take, List.append_assoc]
          · rw [if_neg hlt]
            exact (take_self _ (by omega)).symm
      exact key s 1 Ls (fun x hx => hx) (by omega)
theorem enS_in {s : Nat} : ∀ f g p y, y ∈ enS s f g p → p + f = g.length → y.length = g.length ∧ (∀ i, i < p → nth y i = nth g i) ∧ ∀ i, p ≤ i → i < g.length → (0 < nth g i → nth y i = nth g i) ∧ (¬ 0 < nth g i → nth y i ∈ rep s) := by
  intro f
  induction f with
  | zero =>
    intro g p y hy hl
    simp only [enS, List.mem_singleton] at hy
    subst hy
    exact ⟨rfl, fun _ _ => rfl, fun i h1 h2 => absurd h2 (by omega)⟩
  | succ f ih =>
    intro g p y hy hl
    simp only [enS] at hy
    split at hy
    · next hp =>
      obtain ⟨a, b, c⟩ := ih g (p + 1) y hy (by omega)
      refine ⟨a, fun i hi => b i (by omega), fun i h1 h2 => ?_⟩
      by_cases e : i = p
      · subst e; exact ⟨fun _ => b i (by omega), fun h => absurd hp h⟩
      · exact c i (by omega) h2
    · next hp =>
      obtain ⟨x, hx, hy⟩ := List.mem_flatMap.1 hy
      obtain ⟨a, b, c⟩ := ih _ (p + 1) y hy (by rw [List.length_set]; omega)
      rw [List.length_set] at a c
      refine ⟨a, fun i hi => ?_, fun i h1 h2 => ?_⟩
      · rw [b i (by omega), nth_set (by omega), if_neg (by omega)]
      · by_cases e : i = p
        · subst e
          refine ⟨fun h => absurd h hp, fun _ => ?_⟩
          rw [b i (by omega), nth_set (by omega), if_pos rfl]
          exact hx
        · have := c i (by omega) h2
          rw [nth_set (by omega), if_neg (by omega)] at this
          exact this
/-- a grid whose cells are those of a fitting one, or empty, fits. -/
theorem fit_mono {s : Nat} {gi : List Int} {rs : List RuleM} {g y : List Int} (hs : s ∈ [2, 3, 4]) (hr : ∀ i, i < rs.length → rvR s (rat rs i) = true) (hgy : gv y s = true) (hgg : gv g s = true) (hl : y.length = g.length) (h : ∀ i, i < y.length → nth g i = nth y i ∨ nth g i = 0) (hf : fitB s gi rs y = true) : fitB s gi rs g = true := by
  simp only [fitB, Bool.and_eq_true, List.all_eq_true, List.mem_range, Bool.not_eq_true'] at hf ⊢
  obtain ⟨⟨f1, f2⟩, f3⟩ := hf
  have hln : y.length = s * s := by
    have := gv_len hgy
    simp at hs
    rcases hs with rfl | rfl | rfl <;> omega
  refine ⟨⟨fun i hi => ?_, fun i hi => ?_⟩, ?_⟩
  · rcases h i (by omega) with e | e
    · have := f1 i (by omega)
      unfold giveOk at this ⊢
      rw [e]; exact this
    · unfold giveOk
      rw [e]
      simp
  · have h1 := f2 i hi
    have h2 := hr i hi
    unfold rpR at h1 ⊢
    exact rp_mono h2 hgy hgg hs h h1
  · cases hc : clash g s
    · rfl
    · obtain ⟨i, j, hi, hj, ha, e, h0⟩ := (clash_iff hs).1 hc
      have ei : nth g i = nth y i := (h i (by omega)).resolve_right (by omega)
      have ej : nth g j = nth y j := (h j (by omega)).resolve_right (by omega)
      have : clash y s = true := (clash_iff hs).2 ⟨i, j, hi, hj, ha, by rw [← ei, ← ej, e], by rw [← ej]; exact h0⟩
      rw [f3] at this; cases this
theorem okAll_gv' {s : Nat} {y : List Int} (hs : s ∈ [2, 3, 4]) (hl : y.length = s * s) (h : ∀ i, i < s * s → 0 ≤ nth y i ∧ nth y i ≤ s) : gv y s = true := by
  simp at hs
  exact okAll_gv hl (by rcases hs with rfl | rfl | rfl <;> decide) (by omega) (by omega) h
/-- all solutions of a puzzle, in rising order. -/
def solL (s : Nat) (gi : List Int) (rs : List RuleM) : List (List Int) := (enS s gi.length gi 0).filter (fitB s gi rs)
theorem enS_full {s : Nat} {y : List Int} (hs : s ∈ [2, 3, 4]) {f : Nat} {g : List Int} {p : Nat} (hp : p + f = g.length) (hlg : g.length = s * s) (hg : ∀ i, i < s * s → 0 ≤ nth g i ∧ nth g i ≤ s) (hy : y ∈ enS s f g p) : y.length = s * s ∧ gv y s = true ∧ ∀ i, i < s * s → nth g i = nth y i ∨ nth g i = 0 := by
  obtain ⟨a, b, c⟩ := enS_in f g p y hy hp
  have key : ∀ i, i < s * s → (nth g i = nth y i ∨ nth g i = 0) ∧ (0 ≤ nth y i ∧ nth y i ≤ s) := fun i hi => by
    have hgi := hg i hi
    by_cases h1 : i < p
    · rw [b i h1]; exact ⟨.inl rfl, hgi⟩
    · obtain ⟨c1, c2⟩ := c i (by omega) (by omega)
      by_cases h0 : 0 < nth g i
      · rw [c1 h0]; exact ⟨.inl rfl, hgi⟩
      · obtain ⟨u, e, u1, u2⟩ := rep_mem.1 (c2 h0)
        exact ⟨.inr (by omega), by omega⟩
  exact ⟨a.trans hlg, okAll_gv' hs (a.trans hlg) (fun i hi => (key i hi).2), fun i hi => (key i hi).1⟩
theorem allS_is {s : Nat} {gi : List Int} {rs : List RuleM} {most n : Nat} (hl : gi.length = n) (hv : pvB s gi rs = true) (h0 : 0 < most) : allS s most n gi rs = (solL s gi rs).take most := by
  obtain ⟨t, ht, hs, hn, _, hok⟩ := pv_grid hv hl
  obtain rfl : s = t := by omega
  obtain ⟨hgi, _, hr⟩ := pv_gv hv
  have hn' : n = s * s := by
    simp at hs
    rcases hs with rfl | rfl | rfl <;> omega
  subst hn'
  let In : Nat → List Int → Nat → Prop := fun f g p => p + f = s * s ∧ g.length = s * s ∧ ∀ i, i < s * s → 0 ≤ nth g i ∧ nth g i ≤ (s : Int)
  have hmono : ∀ f g p y, In f g p → y ∈ enS s f g p → fitB s gi rs y = true → fitB s gi rs g = true := by
    rintro f g p y ⟨i1, i2, i3⟩ hy hf
    obtain ⟨q1, q2, q3⟩ := enS_full hs (by omega) i2 i3 hy
    exact fit_mono hs hr q2 (okAll_gv' hs i2 i3) (by omega) (fun i hi => q3 i (by omega)) hf
  have hI0 : In (s * s) gi 0 := ⟨by omega, hl, hok⟩
  unfold allS solL
  rw [hl]
  by_cases hf : fpB s gi rs gi = true
  · have hfit : fitB s gi rs gi = true := by simp only [fpB, Bool.and_eq_true] at hf; exact hf.2
    rw [if_pos hf, Int.toNat_natCast]
    have := s5_is (fit := fitB s gi rs) (s := s) (most := most) In ?_ ?_ hmono (s * s) gi 0 [] hI0 hfit (by simpa using h0)
    · rw [this, List.nil_append]
    · rintro f g p ⟨i1, i2, i3⟩ _
      exact ⟨by omega, i2, i3⟩
    · rintro f g p x ⟨i1, i2, i3⟩ _ hx
      refine ⟨by omega, by rw [List.length_set]; exact i2, fun i hi => ?_⟩
      rw [nth_set (by omega)]
      split
      · obtain ⟨u, e, u1, u2⟩ := rep_mem.1 hx
        omega
      · exact i3 i hi
  · rw [if_neg hf]
    have : (enS s (s * s) gi 0).filter (fitB s gi rs) = [] := by
      rw [List.filter_eq_nil_iff]
      intro y hy hfy
      apply hf
      have := hmono _ _ _ y hI0 hy hfy
      simp only [fpB, Bool.and_eq_true]
      exact ⟨⟨hv, hgi⟩, this⟩
    rw [this, List.take_nil]

/-! The program's search by exact cover, cell by cell. -/
/-- the last of a rule's cells. -/
def lastN (xs : List Int) : Nat → Nat
  | 0 => 0
  | k + 1 => max (lastN xs k) (nth xs k).toNat
theorem lastN_ge {xs : List Int} : ∀ {n i : Nat}, i < n → (nth xs i).toNat ≤ lastN xs n := by
  intro n
  induction n with
  | zero => intro i h; omega
  | succ n ih =>
    intro i h
    simp only [lastN]
    by_cases e : i = n
    · subst e; omega
    · have := ih (i := i) (by omega); omega
theorem lastN_at {xs : List Int} : ∀ {n : Nat}, 0 < n → ∃ i, i < n ∧ (nth xs i).toNat = lastN xs n := by
  intro n
  induction n with
  | zero => intro h; omega
  | succ n ih =>
    intro _
    simp only [lastN]
    by_cases e : n = 0
    · subst e; exact ⟨0, by omega, by simp [lastN]⟩
    · obtain ⟨i, h1, h2⟩ := ih (by omega)
      by_cases h : lastN xs n ≤ (nth xs n).toNat
      · exact ⟨n, by omega, by omega⟩
      · exact ⟨i, by omega, by omega⟩
def lastR (r : RuleM) : Nat := lastN r.xs r.xs.length
def rulesAt (rs : List RuleM) (p : Nat) : List RuleM := rs.filter fun r => lastR r == p
/-- the cell's value stands in neither of its lines ahead of it. -/
def noConf (s : Nat) (us : List Int) (p : Nat) : Bool := (List.range p).all fun i => !(adj s i p && (nth us i == nth us p))
def rlOk (rs : List RuleM) (us : List Int) (p : Nat) : Bool := (rulesAt rs p).all fun r => holdsB r.k r.v (pks us r.xs r.xs.length)
def stB (s : Nat) (rs : List RuleM) (us : List Int) (p : Nat) : Bool := noConf s us p && rlOk rs us p
def cv (s : Nat) (gi : List Int) (rs : List RuleM) : Nat → List Int → List (List Int)
  | 0, vs => [vs]
  | f + 1, vs => (bitsTo (candN gi s vs.length) 4).flatMap fun v => if stB s rs (vs ++ [v]) vs.length = true then cv s gi rs f (vs ++ [v]) else []
theorem flat_none {α β : Type} {L : List α} {f : α → List β} (h : ∀ x ∈ L, f x = []) : L.flatMap f = [] := by
  induction L with
  | nil => rfl
  | cons a L ih => rw [List.flatMap_cons, h a (List.mem_cons_self ..), List.nil_append, ih (fun x hx => h x (List.mem_cons_of_mem _ hx))]
theorem flat_congr {α β : Type} {L : List α} {f g : α → List β} (h : ∀ x ∈ L, f x = g x) : L.flatMap f = L.flatMap g := by
  induction L with
  | nil => rfl
  | cons a L ih => rw [List.flatMap_cons, List.flatMap_cons, h a (List.mem_cons_self ..), ih (fun x hx => h x (List.mem_cons_of_mem _ hx))]
theorem bits_rep {β : Type} {M s : Nat} (f : Int → List β) (hs : s ≤ 4) (hM : ∀ u, s < u → M.testBit u = false) : (bitsTo M 4).flatMap f = (rep s).flatMap fun v => if M.testBit v.toNat = true then f v else [] := by
  have h1 : ∀ u, (bitsTo M u).flatMap f = (rep u).flatMap fun v => if M.testBit v.toNat = true then f v else [] := by
    intro u
    induction u with
    | zero => rfl
    | succ u ih =>
      rw [bits_flat, ih]
      unfold rep
      rw [seqN_snoc, List.flatMap_append]
      have e : ((1 + u : Nat) : Int) = (u : Int) + 1 := by omega
      have e2 : ((u : Int) + 1).toNat = u + 1 := by omega
      simp only [List.flatMap_cons, List.flatMap_nil, List.append_nil, e, e2]
  have h2 : ∀ d, (rep (s + d)).flatMap (fun v => if M.testBit v.toNat = true then f v else []) = (rep s).flatMap fun v => if M.testBit v.toNat = true then f v else [] := by
    intro d
    induction d with
    | zero => rfl
    | succ d ih =>
      rw [← ih]
      unfold rep
      rw [show s + (d + 1) = (s + d) + 1 by omega, seqN_snoc, List.flatMap_append]
      simp only [List.flatMap_cons, List.flatMap_nil, List.append_nil]
      rw [show (((1 + (s + d) : Nat) : Int)).toNat = 1 + (s + d) by omega, hM _ (by omega)]
      simp
  rw [h1, ← h2 (4 - s), show s + (4 - s) = 4 by omega]
/-- of a full grid, which fits: every cell, with those ahead of it, passes. -/
theorem pks_take {y xs : List Int} {m n p : Nat} (hx : ∀ i, i < n → (nth xs i).toNat < p) (hp : p ≤ m) : pks (y.take m) xs n = pks y xs n := by
  unfold pks
  apply ext_nth (by rw [mapTo_length, mapTo_length])
  intro k hk
  rw [mapTo_length] at hk
  rw [mapTo_nth hk, mapTo_nth hk]
  have := hx k hk
  simp only [nth, List.getD_eq_getElem?_getD, List.getElem?_take]
  unfold nth at this
  rw [List.getD_eq_getElem?_getD] at this
  rw [if_pos (by omega)]
theorem rv_cells {s : Nat} {r : RuleM} (h : rvR s r = true) : 0 < r.xs.length ∧ ∀ i, i < r.xs.length → 0 ≤ nth r.xs i ∧ (nth r.xs i).toNat < s * s := by
  obtain ⟨_, h2, _, h4⟩ := rv_facts rfl h
  refine ⟨by omega, fun i hi => ?_⟩
  obtain ⟨a, b⟩ := h4 i hi
  refine ⟨a, ?_⟩
  have e : ((s * s : Nat) : Int) = (s : Int) * s := by simp
  omega
theorem last_lt {s : Nat} {r : RuleM} (h : rvR s r = true) : lastR r < s * s := by
  obtain ⟨h0, h1⟩ := rv_cells h
  obtain ⟨i, hi, e⟩ := lastN_at (xs := r.xs) h0
  unfold lastR
  rw [← e]
  exact (h1 i hi).2
theorem rat_mem {rs : List RuleM} {r : RuleM} (h : r ∈ rs) : ∃ i, i < rs.length ∧ rat rs i = r := by
  obtain ⟨i, hi, e⟩ := List.getElem_of_mem h
  exact ⟨i, hi, by simp [rat, List.getD_eq_getElem?_getD, hi, e]⟩
theorem full_holds {s : Nat} {r : RuleM} {y : List Int} (hr : rvR s r = true) (hg : gv y s = true) (hf : ∀ i, i < s * s → nth y i ≠ 0) : rpR s y r = holdsB r.k r.v (pks y r.xs r.xs.length) := by
  obtain ⟨_, h1⟩ := rv_cells hr
  exact rp_full hr hg (fun i hi => by unfold pks; rw [mapTo_nth hi]; exact hf _ (h1 i hi).2)
theorem fit_st {s : Nat} {gi y : List Int} {rs : List RuleM} (hs : s ∈ [2, 3, 4]) (hr : ∀ i, i < rs.length → rvR s (rat rs i) = true) (hl : y.length = s * s) (hg : gv y s = true) (hf : ∀ i, i < s * s → nth y i ≠ 0) (h : fitB s gi rs y = true) {p : Nat} (hp : p < s * s) : stB s rs (y.take (p + 1)) p = true := by
  simp only [fitB, Bool.and_eq_true, List.all_eq_true, List.mem_range, Bool.not_eq_true'] at h
  obtain ⟨⟨_, f2⟩, f3⟩ := h
  simp only [stB, noConf, rlOk, Bool.and_eq_true, List.all_eq_true, List.mem_range, Bool.not_eq_true', Bool.and_eq_false_iff]
  constructor
  · intro i hi
    rw [nth_take (by omega), nth_take (by omega)]
    cases ha : adj s i p
    · exact .inl rfl
    · refine .inr ?_
      rw [beq_eq_false_iff_ne]
      intro e
      have h0 := hf p hp
      have hgp := gv_nth hg (k := p) (by omega)
      have : clash y s = true := (clash_iff hs).2 ⟨i, p, by omega, hp, ha, e, by omega⟩
      rw [f3] at this; cases this
  · intro r hrm
    obtain ⟨hr1, hr2⟩ := List.mem_filter.1 hrm
    rw [beq_iff_eq] at hr2
    obtain ⟨i, hi, rfl⟩ := rat_mem hr1
    rw [pks_take (p := p + 1) (fun j hj => by have := lastN_ge (xs := (rat rs i).xs) hj; unfold lastR at hr2; omega) (Nat.le_refl _), ← full_holds (hr i hi) hg hf]
    exact f2 i hi
theorem st_fit {s : Nat} {gi y : List Int} {rs : List RuleM} (hs : s ∈ [2, 3, 4]) (hr : ∀ i, i < rs.length → rvR s (rat rs i) = true) (hl : y.length = s * s) (hg : gv y s = true) (hf : ∀ i, i < s * s → nth y i ≠ 0) (hgi : ∀ i, i < s * s → 0 < nth gi i → nth y i = nth gi i) (h : ∀ p, p < s * s → stB s rs (y.take (p + 1)) p = true) : fitB s gi rs y = true := by
  have hc : ∀ i j, i < j → j < s * s → adj s i j = true → nth y i ≠ nth y j := fun i j hij hj ha e => by
    have := h j hj
    simp only [stB, noConf, Bool.and_eq_true, List.all_eq_true, List.mem_range, Bool.not_eq_true', Bool.and_eq_false_iff] at this
    rcases this.1 i hij with h1 | h1
    · rw [ha] at h1; cases h1
    · rw [nth_take (by omega), nth_take (by omega), e] at h1
      simp at h1
  simp only [fitB, Bool.and_eq_true, List.all_eq_true, List.mem_range, Bool.not_eq_true']
  refine ⟨⟨fun i hi => ?_, fun i hi => ?_⟩, ?_⟩
  · unfold giveOk
    by_cases h0 : 0 < nth gi i
    · rw [hgi i (by omega) h0]; simp
    · simp [h0]
  · rw [full_holds (hr i hi) hg hf]
    have := h (lastR (rat rs i)) (last_lt (hr i hi))
    simp only [stB, rlOk, Bool.and_eq_true, List.all_eq_true] at this
    have := this.2 (rat rs i) (List.mem_filter.2 ⟨by
      have : rat rs i = rs[i] := by simp [rat, List.getD_eq_getElem?_getD, hi]
      rw [this]; exact List.getElem_mem _, by simp⟩)
    rw [pks_take (p := lastR (rat rs i) + 1) (fun j hj => by have := lastN_ge (xs := (rat rs i).xs) hj; unfold lastR; omega) (Nat.le_refl _)] at this
    exact this
  · cases e : clash y s
    · rfl
    · obtain ⟨i, j, hi, hj, ha, e1, _⟩ := (clash_iff hs).1 e
      have hne := (adj_ne s i j).1 ha
      rcases Nat.lt_or_gt_of_ne hne with hlt | hlt
      · exact absurd e1 (hc i j hlt hj ha)
      · exact absurd e1.symm (hc j i hlt hi (by rw [← adj_sym s hs i hi j hj]; exact ha))
theorem cv_is {s : Nat} {gi : List Int} {rs : List RuleM} (hv : pvB s gi rs = true) : cv s gi rs gi.length [] = solL s gi rs := by
  obtain ⟨t, ht, hs, hn, _, hok⟩ := pv_grid hv rfl
  obtain rfl : s = t := by omega
  obtain ⟨hgi, _, hr⟩ := pv_gv hv
  have hl : gi.length = s * s := by
    simp at hs
    rcases hs with rfl | rfl | rfl <;> omega
  have hs4 : s ≤ 4 := by simp at hs; omega
  rw [hl] at hok
  unfold solL
  rw [hl]
  -- a prefix that has passed so far
  have key : ∀ f vs, vs.length + f = s * s → (∀ i, i < vs.length → 1 ≤ nth vs i ∧ nth vs i ≤ (s : Int) ∧ (0 < nth gi i → nth vs i = nth gi i)) → (∀ p, p < vs.length → stB s rs (vs.take (p + 1)) p = true) →
      cv s gi rs f vs = (enS s f (vs ++ gi.drop vs.length) vs.length).filter (fitB s gi rs) := by
    intro f
    induction f with
    | zero =>
      intro vs hf hvs hst
      simp only [cv, enS]
      have hd : gi.drop vs.length = [] := List.drop_of_length_le (by omega)
      rw [hd, List.append_nil]
      have hgv : gv vs s = true := okAll_gv' hs (by omega) (fun i hi => by have := hvs i (by omega); omega)
      rw [List.filter_cons_of_pos (st_fit hs hr (by omega) hgv (fun i hi => by have := hvs i (by omega); omega) (fun i hi h0 => (hvs i (by omega)).2.2 h0) (fun p hp => hst p (by omega))), List.filter_nil]
    | succ f ih =>
      intro vs hf hvs hst
      have hpn : vs.length < s * s := by omega
      have hlen : (vs ++ gi.drop vs.length).length = s * s := by rw [List.length_append, List.length_drop]; omega
      have hgp : nth (vs ++ gi.drop vs.length) vs.length = nth gi vs.length := by
        simp only [nth, List.getD_eq_getElem?_getD]
        rw [List.getElem?_append_right (Nat.le_refl _), Nat.sub_self, List.getElem?_drop, Nat.add_zero]
      have hset : ∀ x, (vs ++ gi.drop vs.length).set vs.length x = (vs ++ [x]) ++ gi.drop (vs ++ [x]).length := fun x => by
        rw [List.length_append, List.length_singleton]
        have : gi.drop vs.length = gi[vs.length]'(by omega) :: gi.drop (vs.length + 1) := List.drop_eq_getElem_cons (by omega)
        rw [this, List.set_append_right _ _ (Nat.le_refl _), Nat.sub_self, List.set_cons_zero, List.append_assoc]
        rfl
      have hgrid : ∀ i, i < s * s → 0 ≤ nth (vs ++ gi.drop vs.length) i ∧ nth (vs ++ gi.drop vs.length) i ≤ (s : Int) := fun i hi => by
        by_cases h : i < vs.length
        · have : nth (vs ++ gi.drop vs.length) i = nth vs i := by simp [nth, List.getD_eq_getElem?_getD, List.getElem?_append_left h]
          rw [this]; have := hvs i h; omega
        · have : nth (vs ++ gi.drop vs.length) i = nth gi i := by
            simp [nth, List.getD_eq_getElem?_getD, List.getElem?_append_right (show vs.length ≤ i by omega), show vs.length + (i - vs.length) = i by omega]
          rw [this]; exact hok i hi
      -- one value: if it passes, go on; if not, nothing that begins so fits
      have one : ∀ x, 1 ≤ x → x ≤ (s : Int) → (0 < nth gi vs.length → x = nth gi vs.length) → (if stB s rs (vs ++ [x]) vs.length = true then cv s gi rs f (vs ++ [x]) else []) = (enS s f ((vs ++ [x]) ++ gi.drop (vs ++ [x]).length) (vs.length + 1)).filter (fitB s gi rs) := fun x x1 x2 xg => by
        by_cases h : stB s rs (vs ++ [x]) vs.length = true
        · rw [if_pos h, ih (vs ++ [x]) (by rw [List.length_append, List.length_singleton]; omega) ?_ ?_]
          · rw [List.length_append, List.length_singleton]
          · intro i hi
            rw [List.length_append, List.length_singleton] at hi
            rw [nth_push rfl]
            by_cases e : i < vs.length
            · rw [if_pos e]; exact hvs i e
            · obtain rfl : i = vs.length := by omega
              rw [if_neg e, if_pos rfl]; exact ⟨x1, x2, xg⟩
          · intro p hp
            rw [List.length_append, List.length_singleton] at hp
            by_cases e : p < vs.length
            · rw [List.take_append_of_le_length (by omega)]; exact hst p e
            · obtain rfl : p = vs.length := by omega
              rw [List.take_of_length_le (by simp)]; exact h
        · rw [if_neg h]
          symm
          rw [List.filter_eq_nil_iff]
          intro y hy hfy
          rw [← hset x] at hy
          have hl2 : ((vs ++ gi.drop vs.length).set vs.length x).length = s * s := by rw [List.length_set]; exact hlen
          have hg2 : ∀ i, i < s * s → 0 ≤ nth ((vs ++ gi.drop vs.length).set vs.length x) i ∧ nth ((vs ++ gi.drop vs.length).set vs.length x) i ≤ (s : Int) := fun i hi => by
            rw [nth_set (by omega)]
            split
            · omega
            · exact hgrid i hi
          obtain ⟨q1, q2, _⟩ := enS_full hs (by omega) hl2 hg2 hy
          obtain ⟨_, b, c⟩ := enS_in f _ _ y hy (by omega)
          have hpre : ∀ i, i < vs.length + 1 → nth y i = nth (vs ++ [x]) i := fun i hi => by
            rw [b i hi, nth_set (by omega), nth_push rfl]
            by_cases e : i < vs.length
            · rw [if_neg (by omega), if_pos e]
              simp [nth, List.getD_eq_getElem?_getD, List.getElem?_append_left e]
            · rw [if_pos (by omega), if_neg e, if_pos (by omega)]
          have hfull : ∀ i, i < s * s → nth y i ≠ 0 := fun i hi => by
            by_cases e : i < vs.length + 1
            · rw [hpre i e, nth_push rfl]
              by_cases e2 : i < vs.length
              · rw [if_pos e2]; have := hvs i e2; omega
              · rw [if_neg e2, if_pos (by omega)]; omega
            · obtain ⟨c1, c2⟩ := c i (by omega) (by omega)
              by_cases h0 : 0 < nth ((vs ++ gi.drop vs.length).set vs.length x) i
              · rw [c1 h0]; omega
              · obtain ⟨u, e3, u1, _⟩ := rep_mem.1 (c2 h0)
                omega
          have htake : y.take (vs.length + 1) = vs ++ [x] := by
            apply ext_nth (by rw [List.length_take, q1, List.length_append, List.length_singleton]; omega)
            intro k hk
            rw [List.length_take] at hk
            rw [nth_take (by omega)]
            exact hpre k (by omega)
          have := fit_st hs hr q1 q2 hfull hfy hpn
          rw [htake] at this
          exact h this
      simp only [cv, enS]
      rw [hgp]
      by_cases h0 : 0 < nth gi vs.length
      · rw [if_pos h0]
        have ho := hok _ hpn
        obtain ⟨u, hu⟩ := Int.eq_ofNat_of_zero_le (show 0 ≤ nth gi vs.length by omega)
        have hc : candN gi s vs.length = 2 ^ u := by unfold candN; rw [if_pos h0, hu, Int.toNat_natCast]
        rw [hc, bits_pow u (by omega) (by omega)]
        simp only [List.flatMap_cons, List.flatMap_nil, List.append_nil]
        rw [← hu, one (nth gi vs.length) (by omega) (by omega) (fun _ => rfl), ← hset]
        have : (vs ++ gi.drop vs.length).set vs.length (nth gi vs.length) = vs ++ gi.drop vs.length := by
          apply ext_nth (by rw [List.length_set])
          intro k hk
          rw [List.length_set] at hk
          rw [nth_set (by omega)]
          split
          · next e => subst e; exact hgp.symm
          · rfl
        rw [this]
      · rw [if_neg h0]
        have ho := hok _ hpn
        have hc : candN gi s vs.length = candTo gi s vs.length s := by unfold candN; rw [if_neg h0, Int.toNat_natCast]
        rw [hc, bits_rep _ hs4 (fun u hu => by
          cases hb : (candTo gi s vs.length s).testBit u
          · rfl
          · have := (candTo_test gi s vs.length u s).1 hb; omega), List.filter_flatMap]
        apply flat_congr
        intro x hx
        obtain ⟨u, rfl, u1, u2⟩ := rep_mem.1 hx
        rw [Int.toNat_natCast, hset, ← one u (by omega) (by omega) (fun h => absurd h h0)]
        by_cases hb : (candTo gi s vs.length s).testBit u = true
        · rw [if_pos hb]
        · rw [if_neg hb]
          symm
          rw [one u (by omega) (by omega) (fun h => absurd h h0), List.filter_eq_nil_iff]
          intro y hy hfy
          rw [← hset] at hy
          have hl2 : ((vs ++ gi.drop vs.length).set vs.length (u : Int)).length = s * s := by rw [List.length_set]; exact hlen
          have hg2 : ∀ i, i < s * s → 0 ≤ nth ((vs ++ gi.drop vs.length).set vs.length (u : Int)) i ∧ nth ((vs ++ gi.drop vs.length).set vs.length (u : Int)) i ≤ (s : Int) := fun i hi => by
            rw [nth_set (by omega)]
            split
            · omega
            · exact hgrid i hi
          obtain ⟨q1, q2, _⟩ := enS_full hs (by omega) hl2 hg2 hy
          obtain ⟨_, b, c⟩ := enS_in f _ _ y hy (by omega)
          apply hb
          rw [candTo_test, Int.toNat_natCast]
          refine ⟨u1, u2, (ok3_adj hs hpn _).2 (fun i hi ha e => ?_)⟩
          -- a given cell in a line with this one has the value
          simp only [fitB, Bool.and_eq_true, List.all_eq_true, List.mem_range, Bool.not_eq_true'] at hfy
          obtain ⟨⟨f1, _⟩, f3⟩ := hfy
          have hyp : nth y vs.length = (u : Int) := by rw [b _ (by omega), nth_set (by omega), if_pos rfl]
          have hne := (adj_ne s i vs.length).1 ha
          have hgy : giveOk gi y i = true := f1 i (by omega)
          have hy0 : 0 < nth y i := by
            by_cases e2 : i < vs.length + 1
            · rw [b i e2, nth_set (by omega), if_neg (by omega)]
              have : nth (vs ++ gi.drop vs.length) i = nth vs i := by simp [nth, List.getD_eq_getElem?_getD, List.getElem?_append_left (show i < vs.length by omega)]
              rw [this]; have := hvs i (by omega); omega
            · obtain ⟨c1, c2⟩ := c i (by omega) (by omega)
              by_cases h3 : 0 < nth ((vs ++ gi.drop vs.length).set vs.length (u : Int)) i
              · rw [c1 h3]; exact h3
              · obtain ⟨u', e3, u1', _⟩ := rep_mem.1 (c2 h3)
                omega
          have hyi : nth y i = (u : Int) := by
            unfold giveOk at hgy
            rw [e] at hgy
            simp [hy0] at hgy
            exact hgy.resolve_left (by omega)
          have : clash y s = true := (clash_iff hs).2 ⟨i, vs.length, hi, hpn, ha, by rw [hyi, hyp], by omega⟩
          rw [f3] at this; cases this
  have := key (s * s) [] (by simp) (fun i hi => absurd hi (by simp)) (fun p hp => absurd hp (by simp))
  simpa using this
end Go.Proofs.YtkeoflnmbcdmfaaDoor
namespace Go.Proofs.YtkeoflnmbcdmfaaDoor
open Go.ChangeShapes Go.WideShapes Go.ChangeAt Go.RowKit
def sqCnt (s : Int) : Int := if s = 2 then 2 else if s = 3 then 12 else 576
theorem sols_cnt {s : Int} (h2 : 2 ≤ s) (h4 : s ≤ 4) : ((sols s (s * s).toNat (zeros (s * s).toNat) 0).length : Int) = sqCnt s := by
  have : s = 2 ∨ s = 3 ∨ s = 4 := by omega
  rcases this with rfl | rfl | rfl
  · exact congrArg Int.ofNat sols2
  · exact congrArg Int.ofNat sols3
  · exact congrArg Int.ofNat sols4
theorem sqn_none {s n : Int} (h2 : 2 ≤ s) (h4 : s ≤ 4) (h : n < 0 ∨ sqCnt s ≤ n) : sqn s n = [] := by
  unfold sqn
  split
  · next hh =>
    have hc := sols_cnt h2 h4
    rw [List.getElem?_eq_none (by omega)]
    rfl
  · rfl
theorem sqn_bad {s n : Int} (h : ¬ (2 ≤ s ∧ s ≤ 4)) : sqn s n = [] := by
  have : inr s 2 4 = false := by simp only [inr, decide_eq_false_iff_not]; exact h
  simp [sqn, this]
/-- the grid with a number is solved; the next one is a later one. -/
theorem sqn_some {s n : Int} (h2 : 2 ≤ s) (h4 : s ≤ 4) (n0 : 0 ≤ n) (n1 : n < sqCnt s) : (sqn s n).length = (s * s).toNat ∧ sqSolved (sqn s n) s = true ∧ (n + 1 < sqCnt s → (sqn s (n + 1)).length = (s * s).toNat ∧ lexlt (s * s).toNat (sqn s n) (sqn s (n + 1))) := by
  obtain ⟨q4, q16⟩ := sq_bd h2 h4
  have hs : inr s 2 4 = true := by simp [inr, h2, h4]
  have hc := sols_cnt h2 h4
  have hnn : (((s * s).toNat : Nat) : Int) = s * s := Int.toNat_of_nonneg (by omega)
  have get : ∀ m : Int, 0 ≤ m → (hm : m < sqCnt s) → ∃ h : m.toNat < (sols s (s * s).toNat (zeros (s * s).toNat) 0).length, sqn s m = (sols s (s * s).toNat (zeros (s * s).toNat) 0)[m.toNat] := fun m m0 hm => by
    have h : m.toNat < (sols s (s * s).toNat (zeros (s * s).toNat) 0).length := by omega
    refine ⟨h, ?_⟩
    unfold sqn
    rw [if_pos ⟨hs, m0⟩, List.getElem?_eq_getElem h]
    rfl
  obtain ⟨hl, e⟩ := get n n0 n1
  have hmem := List.getElem_mem hl
  obtain ⟨a1, a2⟩ := sols_solved h2 h4 hnn hmem
  rw [e]
  refine ⟨a1, a2, fun n2 => ?_⟩
  obtain ⟨hl2, e2⟩ := get (n + 1) (by omega) n2
  rw [e2]
  refine ⟨(sols_solved h2 h4 hnn (List.getElem_mem hl2)).1, ?_⟩
  have hs := sols_sorted (size := s) (s * s).toNat (s * s).toNat (zeros (s * s).toNat) 0 (Nat.zero_add _) (zeros_length _)
  rw [List.pairwise_iff_getElem] at hs
  exact hs n.toNat (n + 1).toNat hl hl2 (by omega)
end Go.Proofs.YtkeoflnmbcdmfaaDoor
namespace Go.Proofs.YtkeoflnmbcdmfaaDoor
open Go.ChangeShapes Go.WideShapes Go.ChangeAt Go.RowKit

theorem subset_and (a m : Nat) (ha : a < 2 ^ 64) (hm : m < 2 ^ 64) (h : a &&& (2 ^ 64 - (m + 1)) = 0) : a = a &&& m := by
  apply Nat.eq_of_testBit_eq
  intro i
  rw [Nat.testBit_and]
  cases hai : a.testBit i
  · rfl
  · have hi : i < 64 := by
      rcases Nat.lt_or_ge i 64 with h | h
      · exact h
      · have := Nat.testBit_lt_two_pow (Nat.lt_of_lt_of_le ha (Nat.pow_le_pow_right (by decide) h))
        rw [hai] at this; cases this
    have h2 := congrArg (fun z => z.testBit i) h
    simp only [Nat.testBit_and, hai, Nat.testBit_two_pow_sub_succ hm, hi, Nat.zero_testBit, decide_true, Bool.true_and, Bool.not_eq_false'] at h2
    rw [h2]; rfl
theorem small_and : ∀ s, s < 5 → ∀ a, a < 32 → a ≤ 2 ^ (s + 1) - 2 → a % 2 = 0 → a &&& (18446744073709551616 - (2 ^ (s + 1) - 2 + 1)) = 0 := by decide +kernel
theorem even_and : ∀ s, s < 5 → ∀ a, a % 2 = 1 → a &&& (2 ^ (s + 1) - 2) ≠ a := by
  intro s hs a ha h
  have h0 := congrArg (fun z => z.testBit 0) h
  have e : (2 ^ (s + 1) - 2).testBit 0 = false := by
    have : s = 0 ∨ s = 1 ∨ s = 2 ∨ s = 3 ∨ s = 4 := by omega
    rcases this with rfl | rfl | rfl | rfl | rfl <;> rfl
  simp only [Nat.testBit_and, e, Bool.and_false] at h0
  rw [Nat.testBit_zero] at h0
  simp [ha] at h0
theorem andNot_ok (x : Int) (s : Nat) (hs : s ≤ 4) (hx : -9223372036854775808 ≤ x ∧ x ≤ 9223372036854775807) :
    (bits .andNot .i64 x ((2 ^ (s + 1) - 2 : Nat) : Int) == 0) = mkOk ((2 : Int) ^ (s + 1) - 2) x := by
  have hp : (2 : Int) ^ (s + 1) - 2 = ((2 ^ (s + 1) - 2 : Nat) : Int) := by
    have : s = 0 ∨ s = 1 ∨ s = 2 ∨ s = 3 ∨ s = 4 := by omega
    rcases this with rfl | rfl | rfl | rfl | rfl <;> rfl
  have hm30 : 2 ^ (s + 1) - 2 ≤ 30 := by
    have : s = 0 ∨ s = 1 ∨ s = 2 ∨ s = 3 ∨ s = 4 := by omega
    rcases this with rfl | rfl | rfl | rfl | rfl <;> decide
  rw [hp]
  have hsa := small_and s (by omega)
  have hev := even_and s (by omega)
  generalize 2 ^ (s + 1) - 2 = m at *
  have hmm : (BitVec.ofInt 64 (m : Int)).toNat = m := ofInt_i64 m (by omega)
  have hb : bits .andNot .i64 x (m : Int) = IntKind.i64.wrap (((BitVec.ofInt 64 x).toNat &&& (2 ^ 64 - (m + 1)) : Nat) : Int) := by
    show IntKind.i64.wrap ((BitVec.ofInt 64 x &&& ~~~BitVec.ofInt 64 (m : Int)).toNat : Int) = _
    rw [BitVec.toNat_and, BitVec.toNat_not, hmm]
    congr 3
    omega
  have hA : (BitVec.ofInt 64 x).toNat < 2 ^ 64 := (BitVec.ofInt 64 x).isLt
  have hAx : ((BitVec.ofInt 64 x).toNat : Int) = x % 2 ^ 64 := by
    rw [BitVec.toNat_ofInt]; exact Int.toNat_of_nonneg (Int.emod_nonneg _ (by decide))
  rw [hb]
  generalize (BitVec.ofInt 64 x).toNat = a at *
  have hlt : a &&& (2 ^ 64 - (m + 1)) < 2 ^ 64 := Nat.and_lt_two_pow _ (by omega)
  have hw : (IntKind.i64.wrap ((a &&& (2 ^ 64 - (m + 1)) : Nat) : Int) == 0) = (a &&& (2 ^ 64 - (m + 1)) == 0) := by
    rw [IntKind.wrap_i64]
    rw [Bool.eq_iff_iff, beq_iff_eq, beq_iff_eq]
    generalize a &&& (2 ^ 64 - (m + 1)) = y at *
    omega
  rw [hw, Bool.eq_iff_iff, beq_iff_eq]
  simp only [mkOk, inr, Bool.and_eq_true, decide_eq_true_eq, beq_iff_eq]
  constructor
  · intro h
    have e := subset_and a m hA (by omega) h
    have hle : a ≤ m := by rw [e]; exact Nat.and_le_right
    have h2 : a % 2 = 0 := by
      rcases Nat.mod_two_eq_zero_or_one a with h' | h'
      · exact h'
      · exact absurd e.symm (hev a h')
    have hxa : x = a := by omega
    refine ⟨⟨by omega, by omega⟩, ?_⟩
    rw [Int.tmod_eq_emod_of_nonneg (by omega)]; omega
  · rintro ⟨⟨h1, h2⟩, h3⟩
    rw [Int.tmod_eq_emod_of_nonneg h1] at h3
    exact hsa a (by omega) (by omega) (by omega)
end Go.Proofs.YtkeoflnmbcdmfaaDoor
namespace Go.Proofs.YtkeoflnmbcdmfaaDoor
open Go.ChangeShapes Go.WideShapes Go.ChangeAt Go.RowKit

/- what the program's own functions of chapter 3 must be shown to do. -/
def ICandidatesOf : Prop := ∀ (A : Option Addr) (c n B : Nat) (xs : List Int) (size : Int) (w : World), Rd w B A n xs → B ≤ w.heap.size → n ≤ 1099511627776 →
    Calls Tryd.prog 113 #[.slice A n c, .int .i64 size] w (RetSl w (candL xs size))
theorem candL_length (xs : List Int) (size : Int) : (candL xs size).length ≤ 16 := by
  unfold candL
  split
  · next h =>
    obtain ⟨h2, h4⟩ := gv_size h
    have := sq_bd h2 h4
    have := gv_len h
    rw [mapTo_length]; omega
  · simp
theorem mgL_length (xs : List Int) (size : Int) : (mgL xs size).length ≤ 16 := by
  unfold mgL
  split
  · next h => rw [mapTo_length]; exact (mvd_at h).2.2.1
  · simp
end Go.Proofs.YtkeoflnmbcdmfaaDoor
namespace Go.Proofs.YtkeoflnmbcdmfaaDoor
open Go.ChangeShapes Go.WideShapes Go.ChangeAt Go.RowKit

end Go.Proofs.YtkeoflnmbcdmfaaDoor
set_option maxRecDepth 8000
namespace Go.Proofs.YtkeoflnmbcdmfaaDoor
open Go.ChangeShapes Go.WideShapes Go.ChangeAt Go.RowKit

theorem pow_int (v : Nat) : ((2 : Int) ^ v) = ((2 ^ v : Nat) : Int) := by simp
theorem and_pow (a v : Nat) (ha : a < 32) (hv : v ≤ 4) : (bits .and .i64 (a : Int) (wrap64 (2 ^ v)) != 0) = a.testBit v := by
  have hlt : 2 ^ v < 2 ^ 5 := Nat.pow_lt_pow_right (by omega) (by omega)
  have hb : (a &&& 2 ^ v) = (a.testBit v).toNat * 2 ^ v := by
    have : v = 0 ∨ v = 1 ∨ v = 2 ∨ v = 3 ∨ v = 4 := by omega
    have key : ∀ a, a < 32 → ∀ v, v < 5 → (a &&& 2 ^ v) = (a.testBit v).toNat * 2 ^ v := by decide
    exact key a ha v (by omega)
  have hp0 : 0 < 2 ^ v := Nat.two_pow_pos v
  rw [pow_int]
  generalize 2 ^ v = p at *
  rw [IntWalk.wrap64_in _ ⟨by omega, by omega⟩]
  have h : bits .and .i64 (a : Int) (p : Int) = ((a &&& p : Nat) : Int) := by
    have hx : a &&& p ≤ a := Nat.and_le_left
    show IntKind.i64.wrap ((BitVec.ofInt 64 (a : Int) &&& BitVec.ofInt 64 (p : Int)).toNat : Int) = _
    rw [BitVec.toNat_and, ofInt_i64 a (by omega), ofInt_i64 p (by omega), IntKind.wrap_i64]
    omega
  rw [h, hb]
  cases a.testBit v
  · simp
  · simp; omega
theorem and_pow0 (a v : Nat) (ha : a < 32) (hv : v ≤ 4) : (bits .and .i64 (a : Int) (wrap64 (2 ^ v)) == 0) = !a.testBit v := by
  have h := and_pow a v ha hv
  rw [← h]
  simp [bne]
end Go.Proofs.YtkeoflnmbcdmfaaDoor
set_option maxRecDepth 8000
namespace Go.Proofs.YtkeoflnmbcdmfaaDoor
open Go.ChangeShapes Go.WideShapes Go.ChangeAt Go.RowKit
/-- how many values the first k masks have. -/
def mcTo (m : List Int) : Nat → Nat
  | 0 => 0
  | k + 1 => mcTo m k + (maskVals (nth m k)).length
def mcI (m : List Int) (s : Int) : Int := if mvd m s = true then (mcTo m m.length : Nat) else -1
theorem mcTo_le (m : List Int) (k : Nat) : mcTo m k ≤ 4 * k := by
  induction k with
  | zero => exact Nat.le_refl _
  | succ k ih => have := maskVals_length (nth m k); simp only [mcTo]; omega
/-- whether a full grid is in masks. -/
def inMask (m g : List Int) (k : Nat) : Bool := (nth m k).toNat.testBit (nth g k).toNat
def mhB (m : List Int) (s : Int) (g : List Int) : Bool := mvd m s && gv g s && (List.range g.length).all (inMask m g)
theorem all_stop {f : Nat → Bool} {n k : Nat} (hk : k < n) (h : f k = false) : (List.range n).all f = false := by
  rw [List.all_eq_false]
  exact ⟨k, List.mem_range.2 hk, by simp [h]⟩
theorem all_done {f : Nat → Bool} {n : Nat} (h : ∀ k, k < n → f k = true) : (List.range n).all f = true := by
  rw [List.all_eq_true]
  exact fun k hk => h k (List.mem_range.1 hk)
theorem shr_bit0 (M v : Nat) : ((((M : Nat) : Int) / 2 ^ v).tmod 2 == 0) = !M.testBit v := by
  have h := shr_bit M v
  have h0 : (0 : Int) ≤ ((M : Nat) : Int) / 2 ^ v := Int.ediv_nonneg (by omega) (Int.le_of_lt (Int.pow_pos (by decide)))
  rw [Int.tmod_eq_emod_of_nonneg h0] at h ⊢
  rw [← h, Bool.eq_iff_iff]
  simp only [beq_iff_eq, Bool.not_eq_true', beq_eq_false_iff_ne]
  omega
end Go.Proofs.YtkeoflnmbcdmfaaDoor
set_option maxRecDepth 8000
namespace Go.Proofs.YtkeoflnmbcdmfaaDoor
open Go.ChangeShapes Go.WideShapes Go.ChangeAt Go.RowKit
end Go.Proofs.YtkeoflnmbcdmfaaDoor
set_option maxRecDepth 8000
namespace Go.Proofs.YtkeoflnmbcdmfaaDoor
open Go.ChangeShapes Go.WideShapes Go.ChangeAt Go.RowKit

/-- what a cell may have at first. -/
def startC (gi : List Int) (s : Nat) (j : Nat) : Int := if 0 < nth gi j then 2 ^ (nth gi j).toNat else 2 ^ (s + 1) - 2
def startL (s : Int) (gi : List Int) (rs : List RuleM) (n : Nat) : List Int := if pvB s gi rs = true then mapTo (startC gi s.toNat) n else []
end Go.Proofs.YtkeoflnmbcdmfaaDoor
set_option maxRecDepth 8000
namespace Go.Proofs.YtkeoflnmbcdmfaaDoor
open Go.ChangeShapes Go.WideShapes Go.ChangeAt Go.RowKit

theorem Ow.putN {w : World} {lo g n c : Nat} {xs : List Int} (h : Ow w lo (some ⟨g, 0, none⟩) n c xs) (k : Nat) (v : Int) : Ow (w.setCell ⟨g, k, none⟩ (.int .i64 v)) lo (some ⟨g, 0, none⟩) n c (xs.set k v) := by
  have := (World.ownsRow.stored h k (.int .i64 v)).1
  rw [vals_set] at this
  exact this
/-- the cells that lie in a line with another. -/
def seesB (s k i : Nat) : Bool := (k != i) && (k / s == i / s || k % s == i % s)
def nsIn (m : List Int) (s i : Nat) (o : List Int) : Nat → List Int
  | 0 => o
  | k + 1 => if seesB s k i = true then (nsIn m s i o k).set k (bits .andNot .i64 (nth (nsIn m s i o k) k) (nth m i)) else nsIn m s i o k
def nsTo (m : List Int) (s n : Nat) : Nat → List Int
  | 0 => m
  | i + 1 => if (maskVals (nth m i)).length = 1 then nsIn m s i (nsTo m s n i) n else nsTo m s n i
def nsL (m : List Int) (s : Int) (n : Nat) : List Int := if mvd m s = true then nsTo m s.toNat n n else []
theorem nsIn_len (m : List Int) (s i : Nat) (o : List Int) (k : Nat) : (nsIn m s i o k).length = o.length := by
  induction k with
  | zero => rfl
  | succ k ih =>
    simp only [nsIn]
    split
    · rw [List.length_set, ih]
    · exact ih
theorem nsTo_len (m : List Int) (s n i : Nat) : (nsTo m s n i).length = m.length := by
  induction i with
  | zero => rfl
  | succ i ih =>
    simp only [nsTo]
    split
    · rw [nsIn_len, ih]
    · exact ih
end Go.Proofs.YtkeoflnmbcdmfaaDoor
set_option maxRecDepth 8000
namespace Go.Proofs.YtkeoflnmbcdmfaaDoor
open Go.ChangeShapes Go.WideShapes Go.ChangeAt Go.RowKit

/-- of a line's cells: has the k-th the value v; how many have, before the k-th; which is the last. -/
def hB (m : List Int) (S u : Int) (v k : Nat) : Bool := (nth m (lineAt S u k).toNat).toNat.testBit v
def hC (m : List Int) (S u : Int) (v : Nat) : Nat → Nat
  | 0 => 0
  | k + 1 => if hB m S u v k = true then hC m S u v k + 1 else hC m S u v k
def hL (m : List Int) (S u : Int) (v : Nat) : Nat → Nat
  | 0 => 0
  | k + 1 => if hB m S u v k = true then (lineAt S u k).toNat else hL m S u v k
def hVs (m : List Int) (S : Int) (N : Nat) (u : Int) (o : List Int) : Nat → List Int
  | 0 => o
  | r + 1 => if hC m S u (r + 1) N = 1 then (hVs m S N u o r).set (hL m S u (r + 1) N) (bits .and .i64 (nth (hVs m S N u o r) (hL m S u (r + 1) N)) (2 ^ (r + 1))) else hVs m S N u o r
def hU (m : List Int) (S : Int) (N : Nat) : Nat → List Int
  | 0 => m
  | u + 1 => hVs m S N u (hU m S N u) N
def nhL (m : List Int) (S : Int) : List Int := if mvd m S = true then hU m S S.toNat (2 * S.toNat) else []
theorem hC_le (m : List Int) (S u : Int) (v k : Nat) : hC m S u v k ≤ k := by
  induction k with
  | zero => exact Nat.le_refl _
  | succ k ih => simp only [hC]; split <;> omega
theorem hL_lt {m : List Int} {S u : Int} {v n k : Nat} (h : ∀ j, j < k → (lineAt S u j).toNat < n) (h0 : 0 < n) : hL m S u v k < n := by
  induction k with
  | zero => exact h0
  | succ k ih =>
    simp only [hL]
    split
    · exact h k (by omega)
    · exact ih (fun j hj => h j (by omega))
theorem hVs_len (m : List Int) (S : Int) (N : Nat) (u : Int) (o : List Int) (r : Nat) : (hVs m S N u o r).length = o.length := by
  induction r with
  | zero => rfl
  | succ r ih =>
    simp only [hVs]
    split
    · rw [List.length_set, ih]
    · exact ih
theorem hU_len (m : List Int) (S : Int) (N u : Nat) : (hU m S N u).length = m.length := by
  induction u with
  | zero => rfl
  | succ u ih => simp only [hU]; rw [hVs_len, ih]
theorem pow_wrap5 {r : Nat} (h : r < 4) : wrap64 ((2 : Int) ^ (r + 1)) = 2 ^ (r + 1) := by
  have : r = 0 ∨ r = 1 ∨ r = 2 ∨ r = 3 := by omega
  rcases this with rfl | rfl | rfl | rfl <;> exact IntWalk.wrap64_in _ ⟨by decide, by decide⟩
end Go.Proofs.YtkeoflnmbcdmfaaDoor
namespace Go.Proofs.YtkeoflnmbcdmfaaDoor
open Go.ChangeShapes Go.WideShapes Go.ChangeAt Go.RowKit

def lcN (S u : Int) (k : Nat) : Nat := (lineAt S u k).toNat
def pIn (m : List Int) (S u : Int) (a b : Nat) (o : List Int) : Nat → List Int
  | 0 => o
  | k + 1 => if k ≠ a ∧ k ≠ b then (pIn m S u a b o k).set (lcN S u k) (bits .andNot .i64 (nth (pIn m S u a b o k) (lcN S u k)) (nth m (lcN S u a))) else pIn m S u a b o k
def pB (m : List Int) (S : Int) (N : Nat) (u : Int) (a : Nat) (o : List Int) : Nat → List Int
  | 0 => o
  | b + 1 => if nth m (lcN S u a) = nth m (lcN S u b) ∧ (maskVals (nth m (lcN S u a))).length = 2 then pIn m S u a b (pB m S N u a o b) N else pB m S N u a o b
def pA (m : List Int) (S : Int) (N : Nat) (u : Int) (o : List Int) : Nat → List Int
  | 0 => o
  | a + 1 => pB m S N u a (pA m S N u o a) a
def pU (m : List Int) (S : Int) (N : Nat) : Nat → List Int
  | 0 => m
  | u + 1 => pA m S N u (pU m S N u) N
def npL (m : List Int) (S : Int) : List Int := if mvd m S = true then pU m S S.toNat (2 * S.toNat) else []
theorem pIn_len (m : List Int) (S u : Int) (a b : Nat) (o : List Int) (k : Nat) : (pIn m S u a b o k).length = o.length := by
  induction k with
  | zero => rfl
  | succ k ih =>
    simp only [pIn]
    split
    · rw [List.length_set, ih]
    · exact ih
theorem pB_len (m : List Int) (S : Int) (N : Nat) (u : Int) (a : Nat) (o : List Int) (b : Nat) : (pB m S N u a o b).length = o.length := by
  induction b with
  | zero => rfl
  | succ b ih =>
    simp only [pB]
    split
    · rw [pIn_len, ih]
    · exact ih
theorem pA_len (m : List Int) (S : Int) (N : Nat) (u : Int) (o : List Int) (a : Nat) : (pA m S N u o a).length = o.length := by
  induction a with
  | zero => rfl
  | succ a ih => simp only [pA]; rw [pB_len, ih]
theorem pU_len (m : List Int) (S : Int) (N u : Nat) : (pU m S N u).length = m.length := by
  induction u with
  | zero => rfl
  | succ u ih => simp only [pU]; rw [pA_len, ih]
end Go.Proofs.YtkeoflnmbcdmfaaDoor
set_option maxRecDepth 8000
namespace Go.Proofs.YtkeoflnmbcdmfaaDoor
open Go.ChangeShapes Go.WideShapes Go.ChangeAt Go.RowKit
/-! masks within others: every technique keeps within. -/
def Sub (a b : List Int) : Prop := a.length = b.length ∧ ∀ k, k < b.length → 0 ≤ nth a k ∧ nth a k ≤ nth b k ∧ (nth a k).tmod 2 = 0
theorem mvd_nth {m : List Int} {s : Int} (h : mvd m s = true) (i : Nat) : 0 ≤ nth m i ∧ nth m i ≤ 30 ∧ (nth m i).tmod 2 = 0 := by
  by_cases hi : i < m.length
  · exact (mvd_at h).2.2.2 i hi
  · have : nth m i = 0 := by simp [nth, List.getD_eq_getElem?_getD, List.getElem?_eq_none (by omega : m.length ≤ i)]
    rw [this]; decide
theorem Sub.of_mvd {m : List Int} {s : Int} (h : mvd m s = true) : Sub m m := ⟨rfl, fun k _ => ⟨(mvd_nth h k).1, Int.le_refl _, (mvd_nth h k).2.2⟩⟩
theorem Sub.trans {a b c : List Int} (h : Sub a b) (h' : Sub b c) : Sub a c :=
  ⟨h.1.trans h'.1, fun k hk => by
    obtain ⟨x1, x2, x3⟩ := h.2 k (by rw [h'.1]; exact hk)
    obtain ⟨_, y2, _⟩ := h'.2 k hk
    exact ⟨x1, by omega, x3⟩⟩
theorem Sub.put {o b : List Int} (h : Sub o b) {k : Nat} {v : Int} (hv : k < b.length → 0 ≤ v ∧ v ≤ nth b k ∧ v.tmod 2 = 0) : Sub (o.set k v) b := by
  refine ⟨by rw [List.length_set]; exact h.1, fun j hj => ?_⟩
  by_cases e : k = j
  · subst e
    rw [nth_set (by rw [h.1]; exact hj), if_pos rfl]
    exact hv hj
  · have : nth (o.set k v) j = nth o j := by simp only [nth, List.getD_eq_getElem?_getD, List.getElem?_set]; rw [if_neg e]
    rw [this]; exact h.2 j hj
theorem Sub.mvd_ {a b : List Int} {s : Int} (h : Sub a b) (hb : mvd b s = true) : mvd a s = true := by
  simp only [mvd, Bool.and_eq_true, beq_iff_eq] at hb ⊢
  refine ⟨⟨hb.1.1, by rw [h.1]; exact hb.1.2⟩, allTo_all (n := a.length) (fun k hk => ?_) rfl⟩
  have hkb : k < b.length := by rw [← h.1]; exact hk
  obtain ⟨x1, x2, x3⟩ := h.2 k hkb
  have := List.all_eq_true.1 hb.2 b[k] (List.getElem_mem hkb)
  simp only [mkOk, Bool.and_eq_true, beq_iff_eq] at this ⊢
  obtain ⟨y1, y2⟩ := inr_t this.1
  have e : nth b k = b[k] := by simp [nth, List.getD_eq_getElem?_getD, hkb]
  exact ⟨by simp only [inr, decide_eq_true_eq]; omega, x3⟩
theorem an_key : ∀ x, x < 32 → ∀ y, y < 32 → (0 ≤ bits .andNot .i64 (x : Nat) (y : Nat) ∧ bits .andNot .i64 (x : Nat) (y : Nat) ≤ (x : Nat) ∧ (x % 2 = 0 → (bits .andNot .i64 (x : Nat) (y : Nat)).tmod 2 = 0)) := by decide +kernel
theorem an_sub {x y : Int} (hx : 0 ≤ x ∧ x ≤ 30 ∧ x.tmod 2 = 0) (hy : 0 ≤ y ∧ y ≤ 30) : 0 ≤ bits .andNot .i64 x y ∧ bits .andNot .i64 x y ≤ x ∧ (bits .andNot .i64 x y).tmod 2 = 0 := by
  obtain ⟨a, rfl⟩ := Int.eq_ofNat_of_zero_le hx.1
  obtain ⟨b, rfl⟩ := Int.eq_ofNat_of_zero_le hy.1
  obtain ⟨q1, q2, q3⟩ := an_key a (by omega) b (by omega)
  exact ⟨q1, q2, q3 (by have := hx.2.2; rw [Int.tmod_eq_emod_of_nonneg (by omega)] at this; omega)⟩
theorem ad_key : ∀ x, x < 32 → ∀ v, v < 5 → (0 ≤ bits .and .i64 (x : Nat) (2 ^ v) ∧ bits .and .i64 (x : Nat) (2 ^ v) ≤ (x : Nat) ∧ (x % 2 = 0 → (bits .and .i64 (x : Nat) (2 ^ v)).tmod 2 = 0)) := by decide +kernel
theorem ad_sub {x : Int} {v : Nat} (hx : 0 ≤ x ∧ x ≤ 30 ∧ x.tmod 2 = 0) (hv : v ≤ 4) : 0 ≤ bits .and .i64 x (2 ^ v) ∧ bits .and .i64 x (2 ^ v) ≤ x ∧ (bits .and .i64 x (2 ^ v)).tmod 2 = 0 := by
  obtain ⟨a, rfl⟩ := Int.eq_ofNat_of_zero_le hx.1
  obtain ⟨q1, q2, q3⟩ := ad_key a (by omega) v (by omega)
  exact ⟨q1, q2, q3 (by have := hx.2.2; rw [Int.tmod_eq_emod_of_nonneg (by omega)] at this; omega)⟩
/-- of a part of valid masks, an element. -/
theorem Sub.at_ {o m : List Int} {s : Int} (h : Sub o m) (hm : mvd m s = true) {k : Nat} (hk : k < m.length) : (0 ≤ nth o k ∧ nth o k ≤ 30 ∧ (nth o k).tmod 2 = 0) ∧ nth o k ≤ nth m k := by
  obtain ⟨x1, x2, x3⟩ := h.2 k hk
  have := mvd_nth hm k
  exact ⟨⟨x1, by omega, x3⟩, x2⟩
theorem Sub.anput {o m : List Int} {s y : Int} (h : Sub o m) (hm : mvd m s = true) (hy : 0 ≤ y ∧ y ≤ 30) (k : Nat) : Sub (o.set k (bits .andNot .i64 (nth o k) y)) m :=
  h.put fun hk => by
    obtain ⟨h1, h2⟩ := h.at_ hm hk
    obtain ⟨q1, q2, q3⟩ := an_sub h1 hy
    exact ⟨q1, by omega, q3⟩
theorem nsIn_sub {m o : List Int} {s : Int} {S i : Nat} (hm : mvd m s = true) (h : Sub o m) (k : Nat) : Sub (nsIn m S i o k) m := by
  induction k with
  | zero => exact h
  | succ k ih =>
    simp only [nsIn]
    split
    · exact ih.anput hm ⟨(mvd_nth hm i).1, (mvd_nth hm i).2.1⟩ k
    · exact ih
theorem nsTo_sub {m : List Int} {s : Int} {S n : Nat} (hm : mvd m s = true) (i : Nat) : Sub (nsTo m S n i) m := by
  induction i with
  | zero => exact Sub.of_mvd hm
  | succ i ih =>
    simp only [nsTo]
    split
    · exact nsIn_sub hm ih n
    · exact ih
theorem ns_sub {m : List Int} {s : Int} (hm : mvd m s = true) (n : Nat) : Sub (nsL m s n) m := by
  unfold nsL; rw [if_pos hm]; exact nsTo_sub hm n
theorem hVs_sub {m o : List Int} {s S : Int} {N : Nat} {u : Int} (hm : mvd m s = true) (h : Sub o m) (r : Nat) (hr : r ≤ 4) : Sub (hVs m S N u o r) m := by
  induction r with
  | zero => exact h
  | succ r ih =>
    have ih := ih (by omega)
    simp only [hVs]
    split
    · exact ih.put fun hk => by
        obtain ⟨h1, h2⟩ := ih.at_ hm hk
        obtain ⟨q1, q2, q3⟩ := ad_sub (v := r + 1) h1 (by omega)
        exact ⟨q1, by omega, q3⟩
    · exact ih
theorem hU_sub {m : List Int} {s S : Int} {N : Nat} (hm : mvd m s = true) (hN : N ≤ 4) (u : Nat) : Sub (hU m S N u) m := by
  induction u with
  | zero => exact Sub.of_mvd hm
  | succ u ih => simp only [hU]; exact hVs_sub hm ih N hN
theorem nh_sub {m : List Int} {s : Int} (hm : mvd m s = true) : Sub (nhL m s) m := by
  unfold nhL; rw [if_pos hm]; exact hU_sub hm (by have := (mvd_at hm).1; omega) _
theorem pIn_sub {m o : List Int} {s S u : Int} {a b : Nat} (hm : mvd m s = true) (h : Sub o m) (k : Nat) : Sub (pIn m S u a b o k) m := by
  induction k with
  | zero => exact h
  | succ k ih =>
    simp only [pIn]
    split
    · exact ih.anput hm ⟨(mvd_nth hm _).1, (mvd_nth hm _).2.1⟩ _
    · exact ih
theorem pB_sub {m o : List Int} {s S u : Int} {N a : Nat} (hm : mvd m s = true) (h : Sub o m) (b : Nat) : Sub (pB m S N u a o b) m := by
  induction b with
  | zero => exact h
  | succ b ih =>
    simp only [pB]
    split
    · exact pIn_sub hm ih N
    · exact ih
theorem pA_sub {m o : List Int} {s S u : Int} {N : Nat} (hm : mvd m s = true) (h : Sub o m) (a : Nat) : Sub (pA m S N u o a) m := by
  induction a with
  | zero => exact h
  | succ a ih => simp only [pA]; exact pB_sub hm ih a
theorem pU_sub {m : List Int} {s S : Int} {N : Nat} (hm : mvd m s = true) (u : Nat) : Sub (pU m S N u) m := by
  induction u with
  | zero => exact Sub.of_mvd hm
  | succ u ih => simp only [pU]; exact pA_sub hm ih N
theorem np_sub {m : List Int} {s : Int} (hm : mvd m s = true) : Sub (npL m s) m := by
  unfold npL; rw [if_pos hm]; exact pU_sub hm _
theorem allW_bits {ms : List Int} : ∀ {d : Nat} {vs ys : List Int}, ys ∈ allW ms d vs → (∀ i, i < vs.length → nth ys i = nth vs i) ∧ ∀ i, vs.length ≤ i → i < vs.length + d → nth ys i ∈ bitsTo (nth ms i).toNat 4 := by
  intro d
  induction d with
  | zero => intro vs ys h; simp [allW] at h; subst h; exact ⟨fun _ _ => rfl, fun i h1 h2 => absurd h2 (by omega)⟩
  | succ d ih =>
    intro vs ys h
    simp only [allW, List.mem_flatMap] at h
    obtain ⟨x, hx, h⟩ := h
    obtain ⟨h1, h2⟩ := ih h
    rw [List.length_append, List.length_singleton] at h1 h2
    refine ⟨fun i hi => ?_, fun i hi hi2 => ?_⟩
    · rw [h1 i (by omega), nth_push rfl, if_pos hi]
    · by_cases e : i = vs.length
      · subst e
        rw [h1 _ (by omega), nth_push rfl, if_neg (by omega), if_pos rfl]
        exact hx
      · exact h2 i (by omega) (by omega)
theorem foldAll_bit {j t : Nat} : ∀ (L : List (List Int)) (G : List Nat), j < G.length → ((L.foldl orAll G).getD j 0).testBit t = true → (G.getD j 0).testBit t = true ∨ ∃ ys ∈ L, (nth ys j).toNat = t := by
  intro L
  induction L with
  | nil => intro G _ h; exact .inl h
  | cons ys L ih =>
    intro G hj h
    rcases ih (orAll G ys) (by rw [orAll_length]; exact hj) h with h | ⟨zs, hz, e⟩
    · unfold orAll at h
      rw [orTo_get hj, if_pos hj, Nat.testBit_or, Bool.or_eq_true] at h
      rcases h with h | h
      · exact .inl h
      · rw [Nat.testBit_two_pow, decide_eq_true_eq] at h
        exact .inr ⟨ys, List.mem_cons_self .., h⟩
    · exact .inr ⟨zs, List.mem_cons_of_mem _ hz, e⟩
theorem le_of_bits {a b : Nat} (h : ∀ t, a.testBit t = true → b.testBit t = true) : a ≤ b := by
  have e : a &&& b = a := by
    apply Nat.eq_of_testBit_eq
    intro t
    rw [Nat.testBit_and]
    cases ha : a.testBit t
    · rfl
    · rw [h t ha]; rfl
  rw [← e]
  exact Nat.and_le_right
theorem rm_sub {k v s : Int} {xs o : List Int} (hv : rv k xs v s = true) (hm : mvd o s = true) {j : Nat} (hj : j < xs.length) : 0 ≤ nth (rmL k xs v o s) j ∧ nth (rmL k xs v o s) j ≤ nth o (nth xs j).toNat ∧ (nth (rmL k xs v o s) j).tmod 2 = 0 := by
  rw [rm_ways rfl hv hm, nats_nth]
  have hbit : ∀ t, (((waysN k v (pks o xs xs.length) xs.length).foldl orAll (zerosN xs.length)).getD j 0).testBit t = true → 1 ≤ t ∧ (nth o (nth xs j).toNat).toNat.testBit t = true := fun t ht => by
    rcases foldAll_bit _ _ (by simpa [zerosN] using hj) ht with h | ⟨ys, hys, e⟩
    · simp [zerosN, List.getD_eq_getElem?_getD, hj] at h
    · have hy := (allW_bits (List.mem_filter.1 hys).1).2 j (Nat.zero_le _) (by simpa using hj)
      rw [pks_nth hj] at hy
      obtain ⟨u, hu, u1, _, u3⟩ := bits_iff.1 hy
      rw [hu] at e
      have e2 : u = t := by simpa using e
      subst e2
      exact ⟨u1, u3⟩
  obtain ⟨a, ha⟩ : ∃ a, ((waysN k v (pks o xs xs.length) xs.length).foldl orAll (zerosN xs.length)).getD j 0 = a := ⟨_, rfl⟩
  rw [ha] at hbit ⊢
  have hle := le_of_bits (fun t ht => (hbit t ht).2)
  have h0 := (mvd_nth hm (nth xs j).toNat).1
  refine ⟨by omega, by omega, ?_⟩
  rw [Int.tmod_eq_emod_of_nonneg (by omega)]
  have : a.testBit 0 = false := by
    cases hb : a.testBit 0
    · rfl
    · have := (hbit 0 hb).1; omega
  rw [Nat.testBit_zero] at this
  have : a % 2 ≠ 1 := by simpa using this
  omega
theorem rm_len {k v s : Int} {xs o : List Int} (hv : rv k xs v s = true) (hm : mvd o s = true) : (rmL k xs v o s).length = xs.length := by
  unfold rmL
  rw [hv, hm, Bool.true_and, if_pos rfl, nats_length]
  exact (rmN_inv k xs v o).1
/-- the fourth technique. -/
def nrIn (xs f o : List Int) : Nat → List Int
  | 0 => o
  | j + 1 => (nrIn xs f o j).set (nth xs j).toNat (nth f j)
def nrTo (s : Int) (rs : List RuleM) (m : List Int) : Nat → List Int
  | 0 => m
  | u + 1 => nrIn (rat rs u).xs (rmL (rat rs u).k (rat rs u).xs (rat rs u).v (nrTo s rs m u) s) (nrTo s rs m u) (rat rs u).xs.length
def nrL (s : Int) (gi : List Int) (rs : List RuleM) (m : List Int) : List Int := if (pvB s gi rs && mvd m s) = true then nrTo s rs m rs.length else []
theorem nrIn_sub {k v s : Int} {xs o : List Int} (hv : rv k xs v s = true) (hm : mvd o s = true) (j : Nat) (hj : j ≤ xs.length) : Sub (nrIn xs (rmL k xs v o s) o j) o := by
  induction j with
  | zero => exact Sub.of_mvd hm
  | succ j ih => exact (ih (by omega)).put fun _ => rm_sub hv hm (by omega)
theorem nrTo_sub {s : Int} {rs : List RuleM} {m : List Int} (hm : mvd m s = true) (hr : ∀ i, i < rs.length → rvR s (rat rs i) = true) (u : Nat) (hu : u ≤ rs.length) : Sub (nrTo s rs m u) m := by
  induction u with
  | zero => exact Sub.of_mvd hm
  | succ u ih =>
    have ih := ih (by omega)
    exact (nrIn_sub (hr u (by omega)) (ih.mvd_ hm) _ (Nat.le_refl _)).trans ih
theorem nr_sub {s : Int} {gi : List Int} {rs : List RuleM} {m : List Int} (hv : pvB s gi rs = true) (hm : mvd m s = true) : Sub (nrL s gi rs m) m := by
  unfold nrL
  rw [hv, hm, Bool.true_and, if_pos rfl]
  exact nrTo_sub hm (pv_gv hv).2.2 _ (Nat.le_refl _)
end Go.Proofs.YtkeoflnmbcdmfaaDoor
set_option maxRecDepth 8000
namespace Go.Proofs.YtkeoflnmbcdmfaaDoor
open Go.ChangeShapes Go.WideShapes Go.ChangeAt Go.RowKit
/-- masks within masks, bit by bit. -/
def Wi (a b : List Int) : Prop := ∀ k, k < b.length → bits .andNot .i64 (nth a k) (nth b k) = 0
theorem an_self : ∀ x, x < 32 → bits .andNot .i64 (x : Nat) (x : Nat) = 0 := by decide +kernel
theorem an_and : ∀ x, x < 32 → ∀ v, v < 5 → ∀ y, y < 32 → bits .andNot .i64 (x : Nat) (y : Nat) = 0 → bits .andNot .i64 (bits .and .i64 (x : Nat) (2 ^ v)) (y : Nat) = 0 := by decide +kernel
theorem and_bit : ∀ x, x < 32 → ∀ v, v < 5 → (bits .and .i64 (x : Nat) (2 ^ v)).toNat.testBit v = x.testBit v := by decide +kernel
theorem Wi.refl {m : List Int} {s : Int} (hm : mvd m s = true) : Wi m m := fun k hk => by
  obtain ⟨x0, x1, _⟩ := mvd_nth hm k
  obtain ⟨x, hx⟩ := Int.eq_ofNat_of_zero_le x0
  rw [hx]; exact an_self x (by omega)
end Go.Proofs.YtkeoflnmbcdmfaaDoor
