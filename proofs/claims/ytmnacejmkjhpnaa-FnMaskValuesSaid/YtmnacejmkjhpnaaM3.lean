import Derived.Test.YtmnacejmkjhpnaaSol
import Derived.Test.YtmnacejmkjhpnaaC3C
import Derived.Test.YtmnacejmkjhpnaaC3G
namespace Go.Proofs.Ytmnacejmkjhpnaa
open Go.ChangeShapes Go.WideShapes Go.ChangeAt Go.RowKit

theorem okTo3_iff {xs : List Int} {s : Int} {k : Nat} {v : Int} (m : Nat) : okTo3 xs s k v m = true ↔ ∀ j, j < m → ok3 xs s k v j = true := by
  induction m with
  | zero => simp [okTo3]
  | succ m ih =>
    rw [okTo3, Bool.and_eq_true, ih]
    constructor
    · rintro ⟨h1, h2⟩ j hj
      by_cases e : j = m
      · subst e; exact h2
      · exact h1 j (by omega)
    · intro h
      exact ⟨fun j hj => h j (by omega), h m (by omega)⟩
/-- the cells of the row and the column of k are those that are adjacent to it, and k. -/
def seen3 (s k i : Nat) : Bool := (List.range s).any fun j => ((rIx (s : Nat) k j).toNat == i) || ((cIx (s : Nat) k j).toNat == i)
theorem seen_adj : ∀ s ∈ [2, 3, 4], ∀ k, k < s * s → ∀ i, i < s * s → adj s i k = true → seen3 s k i = true := by decide +kernel
def adjSeen (s k j : Nat) : Bool := ((rIx (s : Nat) k j == (k : Int)) || (adj s (rIx (s : Nat) k j).toNat k && Nat.blt (rIx (s : Nat) k j).toNat (s * s))) && ((cIx (s : Nat) k j == (k : Int)) || (adj s (cIx (s : Nat) k j).toNat k && Nat.blt (cIx (s : Nat) k j).toNat (s * s)))
theorem adj_seen : ∀ s ∈ [2, 3, 4], ∀ k, k < s * s → ∀ j, j < s → adjSeen s k j = true := by decide +kernel
theorem ix_nn : ∀ s ∈ [2, 3, 4], ∀ k, k < s * s → ∀ j, j < s → ((rIx (s : Nat) k j).toNat : Int) = rIx (s : Nat) k j ∧ ((cIx (s : Nat) k j).toNat : Int) = cIx (s : Nat) k j := by decide +kernel
theorem adj_ne (s i j : Nat) : (adj s i j = true → i ≠ j) ∧ True := ⟨fun h => by simp only [adj, Bool.and_eq_true, bne_iff_ne] at h; exact h.1, trivial⟩
theorem adj_sym : ∀ s ∈ [2, 3, 4], ∀ i, i < s * s → ∀ j, j < s * s → adj s i j = adj s j i := by decide +kernel
theorem ok3_adj {xs : List Int} {s k : Nat} (hs : s ∈ [2, 3, 4]) (hk : k < s * s) (v : Int) : okTo3 xs s k v s = true ↔ ∀ i, i < s * s → adj s i k = true → nth xs i ≠ v := by
  rw [okTo3_iff]
  constructor
  · intro h i hi ha he
    have := seen_adj s hs k hk i hi ha
    simp only [seen3, List.any_eq_true, List.mem_range, Bool.or_eq_true, beq_iff_eq] at this
    obtain ⟨j, hj, hor⟩ := this
    have ho := h j hj
    obtain ⟨n1, n2⟩ := ix_nn s hs k hk j hj
    have hne := ((adj_ne s i k).1 ha)
    simp only [ok3, Bool.and_eq_true, Bool.or_eq_true, beq_iff_eq, bne_iff_ne] at ho
    rcases hor with e | e
    · rcases ho.1 with h1 | h1
      · omega
      · rw [e] at h1; exact h1 he
    · rcases ho.2 with h1 | h1
      · omega
      · rw [e] at h1; exact h1 he
  · intro h j hj
    have := adj_seen s hs k hk j hj
    simp only [adjSeen, Bool.and_eq_true, Bool.or_eq_true, beq_iff_eq, Nat.blt_eq] at this
    simp only [ok3, Bool.and_eq_true, Bool.or_eq_true, beq_iff_eq, bne_iff_ne]
    refine ⟨?_, ?_⟩
    · rcases this.1 with e | ⟨e1, e2⟩
      · exact .inl e
      · exact .inr (h _ e2 e1)
    · rcases this.2 with e | ⟨e1, e2⟩
      · exact .inl e
      · exact .inr (h _ e2 e1)
theorem candTo_test (xs : List Int) (s : Int) (k u : Nat) : ∀ v, (candTo xs s k v).testBit u = true ↔ 1 ≤ u ∧ u ≤ v ∧ okTo3 xs s k (u : Int) s.toNat = true := by
  intro v
  induction v with
  | zero => simp [candTo]; omega
  | succ v ih =>
    have hc : ((v : Int) + 1) = ((v + 1 : Nat) : Int) := by omega
    simp only [candTo]
    split
    · next h =>
      rw [hc] at h
      rw [Nat.testBit_or, Bool.or_eq_true, ih, Nat.testBit_two_pow, decide_eq_true_eq]
      constructor
      · rintro (⟨h1, h2, h3⟩ | rfl)
        · exact ⟨h1, by omega, h3⟩
        · exact ⟨by omega, Nat.le_refl _, h⟩
      · rintro ⟨h1, h2, h3⟩
        by_cases e : u = v + 1
        · exact .inr e.symm
        · exact .inl ⟨h1, by omega, h3⟩
    · next h =>
      rw [hc] at h
      rw [ih]
      constructor
      · rintro ⟨h1, h2, h3⟩; exact ⟨h1, by omega, h3⟩
      · rintro ⟨h1, h2, h3⟩
        refine ⟨h1, ?_, h3⟩
        by_cases e : u = v + 1
        · subst e; exact absurd h3 h
        · omega
/-- with a value in an empty cell a fitting grid fits exactly if the value is a candidate. -/
theorem clash_cand {xs : List Int} {s n k v : Nat} (hs : s ∈ [2, 3, 4]) (hn : n = s * s) (hl : xs.length = n) (hc : clash xs s = false) (hk : k < n) (v1 : 1 ≤ v) (v2 : v ≤ s) : clash (xs.set k (v : Int)) s = !((candTo xs s k s).testBit v) := by
  have hT : (candTo xs s k s).testBit v = true ↔ okTo3 xs s k (v : Int) s = true := by
    rw [candTo_test, Int.toNat_natCast]
    exact ⟨fun h => h.2.2, fun h => ⟨v1, v2, h⟩⟩
  rw [ok3_adj hs (by omega)] at hT
  have key : clash (xs.set k (v : Int)) s = true ↔ ¬ ∀ i, i < s * s → adj s i k = true → nth xs i ≠ (v : Int) := by
    rw [clash_iff hs]
    constructor
    · rintro ⟨i, j, hi, hj, ha, he, hp⟩ hall
      rw [nth_set (by omega), nth_set (by omega)] at he
      rw [nth_set (by omega)] at hp
      have hij := (adj_ne s i j).1 ha
      by_cases ek : k = j
      · subst ek
        rw [if_pos rfl, if_neg (fun h => hij h.symm)] at he
        exact hall i hi ha he
      · rw [if_neg ek] at he hp
        by_cases ei : k = i
        · subst ei
          rw [if_pos rfl] at he
          exact hall j hj ((adj_sym s hs k hi j hj).symm.trans ha) he.symm
        · rw [if_neg ei] at he
          have := (clash_iff (xs := xs) hs).2 ⟨i, j, hi, hj, ha, he, hp⟩
          rw [hc] at this; cases this
    · intro h
      simp only [Classical.not_forall, Classical.not_not] at h
      obtain ⟨i, hi, ha, he⟩ := h
      have hik := (adj_ne s i k).1 ha
      refine ⟨i, k, hi, by omega, ha, ?_, ?_⟩
      · rw [nth_set (by omega), nth_set (by omega), if_pos rfl, if_neg (fun h => hik h.symm)]; exact he
      · rw [nth_set (by omega), if_pos rfl]; omega
  cases hb : (candTo xs s k s).testBit v
  · rw [hb] at hT
    have : clash (xs.set k (v : Int)) s = true := key.2 (fun h => by have := hT.2 h; cases this)
    rw [this]; rfl
  · rw [hb] at hT
    cases hcc : clash (xs.set k (v : Int)) s
    · rfl
    · exact absurd (hT.1 rfl) (key.1 hcc)
theorem candN_lt {xs : List Int} {s n : Nat} (hs4 : s ≤ 4) (hok : okAll xs s n) {k : Nat} (hk : k < n) : candN xs s k < 32 := by
  unfold candN
  split
  · have := hok k hk
    exact Nat.pow_lt_pow_right (n := 5) (by omega) (by omega)
  · exact candTo_lt _ _ _ _ (by omega)
theorem candN_test {xs : List Int} {s n : Nat} (hok : okAll xs s n) {k : Nat} (hk : k < n) {u : Nat} (h : (candN xs s k).testBit u = true) : 1 ≤ u ∧ u ≤ s := by
  have hv := hok k hk
  unfold candN at h
  split at h
  · rw [Nat.testBit_two_pow, decide_eq_true_eq] at h
    omega
  · rw [candTo_test, Int.toNat_natCast] at h
    exact ⟨h.1, h.2.1⟩
theorem even_bits : ∀ M, M < 32 → ∀ s ∈ [2, 3, 4], ((∀ u, u < 5 → M.testBit u = true → 1 ≤ u ∧ u ≤ s) → M ≤ 2 ^ (s + 1) - 2 ∧ M % 2 = 0) := by decide +kernel
theorem cand_mask {xs : List Int} {s n : Nat} (hs : s ∈ [2, 3, 4]) (hok : okAll xs s n) {k : Nat} (hk : k < n) : candN xs s k ≤ 2 ^ (s + 1) - 2 ∧ candN xs s k % 2 = 0 :=
  even_bits _ (candN_lt (by simp at hs; omega) hok hk) s hs (fun _ _ h => candN_test hok hk h)
theorem cand_valid {xs : List Int} {size : Int} (hg : gv xs size = true) : mvd (candL xs size) size = true := by
  obtain ⟨s, rfl, hs, hl⟩ := size_nat hg
  have hok : okAll xs s (s * s) := fun k hk => gv_nth hg (by rw [hl]; exact hk)
  have hL : candL xs s = mapTo (candG xs s) (s * s) := by simp [candL, hg, hl]
  obtain ⟨h2, h4⟩ := gv_size hg
  rw [hL]
  have h1 : inr (s : Int) 2 4 = true := by simp [inr, h2, h4]
  have h3 : (mapTo (candG xs s) (s * s)).all (mkOk (2 ^ ((s : Int).toNat + 1) - 2)) = true := by
    refine allTo_all (n := s * s) (fun j hj => ?_) (mapTo_length _ _)
    rw [mapTo_nth hj]
    obtain ⟨m1, m2⟩ := cand_mask hs hok hj
    have hp : ((2 : Int) ^ (s + 1) - 2) = ((2 ^ (s + 1) - 2 : Nat) : Int) := by
      simp at hs
      rcases hs with rfl | rfl | rfl <;> rfl
    simp only [mkOk, candG, Int.toNat_natCast, Bool.and_eq_true, beq_iff_eq]
    rw [hp, Int.tmod_eq_emod_of_nonneg (Int.natCast_nonneg _)]
    refine ⟨by simp only [inr, decide_eq_true_eq]; omega, by omega⟩
  simp only [mvd, h1, h3, mapTo_length, Bool.true_and, Bool.and_true, beq_iff_eq]
  simp
theorem mvd_b64 {xs : List Int} {size : Int} (h : mvd xs size = true) : B64 xs := b64_of rfl fun k hk => by
  have := (mvd_at h).2.2.2 k hk
  omega
theorem candL_b64 (xs : List Int) (size : Int) : B64 (candL xs size) := by
  cases hg : gv xs size
  · have : candL xs size = [] := by simp [candL, hg]
    rw [this]
    exact fun k => by simp [nth]
  · exact mvd_b64 (cand_valid hg)
theorem back_turn : ∀ s ∈ [2, 3, 4], ∀ k, k < s * s → backIx s (turnIx s k) = k := by decide +kernel
theorem cand_turn {xs : List Int} {size : Int} {n k : Nat} (hg : gv xs size = true) (hl : xs.length = n) (hk : k < n) : nth (candL (turnL xs size) size) k = candG xs size (turnIx size k) := by
  have hgt : gv (turnL xs size) size = true := (turn_all hg hl).valid
  have htl : (turnL xs size).length = n := (turn_all hg hl).len
  obtain ⟨s, rfl, hs, hls⟩ := size_nat hg
  obtain rfl : n = s * s := by omega
  have hL : candL (turnL xs s) s = mapTo (candG (turnL xs s) s) (s * s) := by simp [candL, hgt, htl]
  rw [hL, mapTo_nth hk]
  have hpm := turnL_pm hg hl
  have hat : ∀ i, i < s * s → nth (turnL xs s) i = nth xs (turnIx s i) := fun i hi => by rw [hpm, pm_nth hi]
  have htk := turn_lt s hs k hk
  simp only [candG, candN]
  rw [hat k hk]
  split
  · rfl
  · congr 1
    apply Nat.eq_of_testBit_eq
    intro u
    rw [Bool.eq_iff_iff, candTo_test, candTo_test, Int.toNat_natCast, ok3_adj hs hk, ok3_adj hs htk]
    constructor
    · rintro ⟨h1, h2, h3⟩
      refine ⟨h1, h2, fun i hi ha => ?_⟩
      have hb := turn_back s hs i hi
      have hbk := turn_back s hs (turnIx s k) htk
      have := h3 (backIx s i) hb.1 (by
        have h9 := (turn_adj s hs i hi (turnIx s k) htk ha).2
        rwa [back_turn s hs k hk] at h9)
      rw [hat _ hb.1, hb.2] at this
      exact this
    · rintro ⟨h1, h2, h3⟩
      refine ⟨h1, h2, fun i hi ha => ?_⟩
      rw [hat i hi]
      exact h3 _ (turn_lt s hs i hi) (turn_adj s hs i hi k hk ha).1
end Go.Proofs.Ytmnacejmkjhpnaa
