import Derived.Test.YtgeedgljabdllaaDrawL
import Derived.Test.YtgeedgljabdllaaInts
import Derived.Test.YtgeedgljabdllaaZero
import Derived.Test.YtgeedgljabdllaaC1T
import Derived.Test.YtgeedgljabdllaaC1I
import Derived.Test.YtgeedgljabdllaaC1M
import Derived.Test.YtgeedgljabdllaaClash
namespace Go.Proofs.Ytgeedgljabdllaa
open Go.ChangeShapes Go.WideShapes Go.ChangeAt Go.RowKit

theorem Rd.take_ {w : World} {B : Nat} {A : Option Addr} {n : Nat} {xs : List Int} (h : Rd w B A n xs) {m : Nat} (hm : m ≤ n) : Rd w B A m (xs.take m) := by
  refine ⟨by rw [List.length_take, h.1]; omega, fun h0 => ?_⟩
  obtain ⟨b, off, he, hb, hc⟩ := h.2 (by omega)
  refine ⟨b, off, he, hb, fun k hk => ?_⟩
  rw [hc k (by omega)]
  simp [nth, List.getD_eq_getElem?_getD, hk]
theorem gv_n {xs : List Int} {size : Int} {n : Nat} (h : gv xs size = true) (hl : xs.length = n) : 4 ≤ n ∧ n ≤ 16 ∧ (n : Int) = size * size := by
  obtain ⟨h2, h4⟩ := gv_size h
  have := gv_len h
  obtain ⟨q4, q16⟩ := sq_bd h2 h4
  rw [hl] at this
  omega
theorem gv_short {xs : List Int} {size : Int} {n : Nat} (h : gv xs size = true) (hl : xs.length = n) : gv (xs.take (n - 1)) size = false := by
  obtain ⟨h4, _, hn⟩ := gv_n h hl
  have e : ((xs.take (n - 1)).length : Int) = n - 1 := by rw [List.length_take, hl]; omega
  cases hg : gv (xs.take (n - 1)) size
  · rfl
  · have := gv_len hg
    omega
theorem gv_large {xs : List Int} {size : Int} {n : Nat} (h : gv xs size = true) (hl : xs.length = n) : gv (xs.set 0 (size + 1)) size = false := by
  obtain ⟨h4, _, hn⟩ := gv_n h hl
  cases hg : gv (xs.set 0 (size + 1)) size
  · rfl
  · have := gv_nth hg (k := 0) (by rw [List.length_set, hl]; omega)
    rw [nth_set (by omega), if_pos rfl] at this
    omega

theorem copy_below {w w' : World} (hg : (w.alloc (.cells #[] 3)).grownBy w' (Value.slice (some ⟨w.heap.size, 0, none⟩) 0 0).ownBlock) : Below w.heap.size w w' :=
  ((Below.refl _ _).alloc (Nat.le_refl _) _).grown hg (by simp) (fun k hk => (Ow.made0 w w.heap.size (Nat.le_refl _)).own_lo k hk)
theorem cnz_lt {xs : List Int} {k : Nat} {v : Int} (hk : k < xs.length) : ∀ m, m ≤ k → cnz (xs.set k v) m = cnz xs m := by
  intro m
  induction m with
  | zero => intro _; rfl
  | succ m ih =>
    intro hm
    simp only [cnz]
    have e : k ≠ m := by omega
    rw [ih (by omega), nth_set hk, if_neg e]
theorem cnz_set {xs : List Int} {k : Nat} (hk : k < xs.length) (h : nth xs k ≠ 0) : ∀ m, k < m → cnz (xs.set k 0) m + 1 = cnz xs m := by
  intro m
  induction m with
  | zero => intro hm; omega
  | succ m ih =>
    intro hm
    simp only [cnz]
    by_cases e : k = m
    · subst e
      rw [cnz_lt hk k (Nat.le_refl _), nth_set hk, if_pos rfl, if_pos rfl, if_neg h]
    · rw [nth_set hk, if_neg e]
      have := ih (by omega)
      omega
theorem gv_set0 {xs : List Int} {size : Int} {n k : Nat} (h : gv xs size = true) (hl : xs.length = n) : gv (xs.set k 0) size = true := by
  obtain ⟨h2, h4⟩ := gv_size h
  refine okAll_gv (n := n) (by simpa using hl) (gv_n h hl).2.2 h2 h4 (okAll_set' (fun j hj => gv_nth h (by omega)) (by omega) (by omega))
theorem gf_set {xs : List Int} {size : Int} {k : Nat} (h : gv xs size = true) (hk : k < xs.length) (h0 : nth xs k ≠ 0) : gf (xs.set k 0) size = gf xs size - 1 := by
  have := cnz_set hk h0 xs.length hk
  unfold gf
  rw [if_pos h, if_pos (gv_set0 h rfl), List.length_set]
  omega
theorem cnz_zeros (n m : Nat) : cnz (zeros n) m = 0 := by
  induction m with
  | zero => rfl
  | succ m ih => rw [cnz, ih, zeros_nth]; rfl
theorem gf_zeros {size : Int} {n : Nat} (h2 : 2 ≤ size) (h4 : size ≤ 4) (hn : (n : Int) = size * size) : gf (zeros n) size = 0 := by
  have hg : gv (zeros n) size = true := okAll_gv (zeros_length n) hn h2 h4 (okAll_zeros (by omega) n)
  unfold gf
  rw [if_pos hg, cnz_zeros]; rfl

end Go.Proofs.Ytgeedgljabdllaa
namespace Go.Proofs.Ytgeedgljabdllaa
open Go.ChangeShapes Go.WideShapes Go.ChangeAt Go.RowKit

/-- the list whose value at k is the one of xs at P k. -/
def pm (xs : List Int) (P : Nat → Nat) (n : Nat) : List Int := mapTo (fun k => nth xs (P k)) n
theorem pm_length (xs : List Int) (P : Nat → Nat) (n : Nat) : (pm xs P n).length = n := mapTo_length _ _
theorem pm_nth {xs : List Int} {P : Nat → Nat} {n k : Nat} (h : k < n) : nth (pm xs P n) k = nth xs (P k) := mapTo_nth h
theorem pm_pm {xs : List Int} {P Q : Nat → Nat} {n : Nat} (h : ∀ k, k < n → P k < n) : pm (pm xs Q n) P n = pm xs (fun k => Q (P k)) n := by
  apply ext_nth (by rw [pm_length, pm_length])
  intro k hk
  rw [pm_length] at hk
  rw [pm_nth hk, pm_nth (h k hk), pm_nth hk]
theorem pm_id {xs : List Int} {P : Nat → Nat} {n : Nat} (hl : xs.length = n) (h : ∀ k, k < n → P k = k) : pm xs P n = xs := by
  apply ext_nth (by rw [pm_length, hl])
  intro k hk
  rw [pm_length] at hk
  rw [pm_nth hk, h k hk]
theorem pm_eq {xs : List Int} {P Q : Nat → Nat} {n : Nat} (h : ∀ k, k < n → P k = Q k) : pm xs P n = pm xs Q n := by
  apply ext_nth (by rw [pm_length, pm_length])
  intro k hk
  rw [pm_length] at hk
  rw [pm_nth hk, pm_nth hk, h k hk]
theorem pm_gv {xs : List Int} {size : Int} {P : Nat → Nat} {n : Nat} (hg : gv xs size = true) (hl : xs.length = n) (h : ∀ k, k < n → P k < n) : gv (pm xs P n) size = true := by
  obtain ⟨h2, h4⟩ := gv_size hg
  refine okAll_gv (pm_length _ _ _) (gv_n hg hl).2.2 h2 h4 (fun k hk => ?_)
  rw [pm_nth hk]
  exact gv_nth hg (by rw [hl]; exact h k hk)
theorem cnz_sum (xs : List Int) (n : Nat) : cnz xs n = ((List.range n).map fun k => if nth xs k = 0 then 0 else 1).sum := by
  induction n with
  | zero => rfl
  | succ n ih => simp [cnz, ih, List.range_succ]
theorem pm_cnz {xs : List Int} {P : Nat → Nat} {n : Nat} (hp : (List.map P (List.range n)).Perm (List.range n)) : cnz (pm xs P n) n = cnz xs n := by
  rw [cnz_sum, cnz_sum]
  have h1 : (List.range n).map (fun k => if nth (pm xs P n) k = 0 then 0 else 1) = (List.map P (List.range n)).map (fun k => if nth xs k = 0 then 0 else 1) := by
    rw [List.map_map]
    apply List.map_congr_left
    intro k hk
    have : k < n := by simpa using hk
    simp only [Function.comp, pm_nth this]
  rw [h1]
  exact (hp.map _).sum_nat
theorem pm_gf {xs : List Int} {size : Int} {P : Nat → Nat} {n : Nat} (hg : gv xs size = true) (hl : xs.length = n) (h : ∀ k, k < n → P k < n) (hp : (List.map P (List.range n)).Perm (List.range n)) : gf (pm xs P n) size = gf xs size := by
  unfold gf
  rw [if_pos hg, if_pos (pm_gv hg hl h), pm_length, pm_cnz hp, hl]

theorem size_nat {xs : List Int} {size : Int} (hg : gv xs size = true) : ∃ s : Nat, size = s ∧ s ∈ [2, 3, 4] ∧ xs.length = s * s := by
  obtain ⟨h2, h4⟩ := gv_size hg
  obtain ⟨s, rfl⟩ := Int.eq_ofNat_of_zero_le (by omega : 0 ≤ size)
  refine ⟨s, rfl, by simp; omega, ?_⟩
  have := gv_len hg
  rw [← Int.natCast_mul] at this
  omega
theorem turn_lt : ∀ s ∈ [2, 3, 4], ∀ k, k < s * s → turnIx (s : Nat) k < s * s := by decide +kernel
theorem turn_perm : ∀ s ∈ [2, 3, 4], (List.map (turnIx (s : Nat)) (List.range (s * s))).Perm (List.range (s * s)) := by decide +kernel
theorem turn_four : ∀ s ∈ [2, 3, 4], ∀ k, k < s * s → turnIx (s : Nat) (turnIx (s : Nat) (turnIx (s : Nat) (turnIx (s : Nat) k))) = k := by decide +kernel
theorem turn_edge : ∀ s ∈ [2, 3, 4], ∀ k, k < s → turnIx (s : Nat) (k * s + s - 1) = k := by decide +kernel

/-- what is known of a turned grid. -/
structure TurnFacts (xs : List Int) (size : Int) (n : Nat) : Prop where
  len : (turnL xs size).length = n
  valid : gv (turnL xs size) size = true
  four : turnL (turnL (turnL (turnL xs size) size) size) size = xs
  filled : gf (turnL xs size) size = gf xs size
  edge : ∀ k : Nat, (k : Int) < size → nth (turnL xs size) ((k : Int) * size + size - 1).toNat = nth xs k
theorem turnL_pm {xs : List Int} {size : Int} {n : Nat} (hg : gv xs size = true) (hl : xs.length = n) : turnL xs size = pm xs (turnIx size) n := by
  unfold turnL
  rw [if_pos hg, hl]; rfl
theorem turn_all {xs : List Int} {size : Int} {n : Nat} (hg : gv xs size = true) (hl : xs.length = n) : TurnFacts xs size n := by
  obtain ⟨s, rfl, hs, hls⟩ := size_nat hg
  have hn : n = s * s := by rw [← hl, hls]
  subst hn
  have lt := turn_lt s hs
  have e1 := turnL_pm hg hl
  have g1 : gv (turnL xs s) s = true := by rw [e1]; exact pm_gv hg hl lt
  have l1 : (turnL xs s).length = s * s := by rw [e1, pm_length]
  have e2 := turnL_pm g1 l1
  have g2 : gv (turnL (turnL xs s) s) s = true := by rw [e2]; exact pm_gv g1 l1 lt
  have l2 : (turnL (turnL xs s) s).length = s * s := by rw [e2, pm_length]
  have e3 := turnL_pm g2 l2
  have g3 : gv (turnL (turnL (turnL xs s) s) s) s = true := by rw [e3]; exact pm_gv g2 l2 lt
  have l3 : (turnL (turnL (turnL xs s) s) s).length = s * s := by rw [e3, pm_length]
  have e4 := turnL_pm g3 l3
  refine ⟨l1, g1, ?_, ?_, ?_⟩
  · rw [e4, e3, e2, e1, pm_pm lt, pm_pm (fun k hk => lt _ (lt k hk)), pm_pm (fun k hk => lt _ (lt _ (lt k hk)))]
    exact pm_id hl (turn_four s hs)
  · rw [e1]; exact pm_gf hg hl lt (turn_perm s hs)
  · intro k hk
    have hks : k < s := by omega
    have hi : k * s + s - 1 < s * s := by
      have := ix_lt hks (by omega : s - 1 < s)
      omega
    have e : ((k : Int) * (s : Int) + (s : Int) - 1).toNat = k * s + s - 1 := by
      rw [← Int.natCast_mul]; omega
    rw [e, e1, pm_nth hi, turn_edge s hs k hks]
theorem mir_lt : ∀ s ∈ [2, 3, 4], ∀ k, k < s * s → mirIx (s : Nat) k < s * s := by decide +kernel
theorem mir_two : ∀ s ∈ [2, 3, 4], ∀ k, k < s * s → mirIx (s : Nat) (mirIx (s : Nat) k) = k := by decide +kernel
theorem mir_turn : ∀ s ∈ [2, 3, 4], ∀ k, k < s * s → mirIx (s : Nat) (turnIx (s : Nat) k) = turnIx (s : Nat) (turnIx (s : Nat) (turnIx (s : Nat) (mirIx (s : Nat) k))) := by decide +kernel
structure MirFacts (xs : List Int) (size : Int) (n : Nat) : Prop where
  len : (mirL xs size).length = n
  valid : gv (mirL xs size) size = true
  two : mirL (mirL xs size) size = xs
  turned : turnL (mirL xs size) size = mirL (turnL (turnL (turnL xs size) size) size) size
theorem mirL_pm {xs : List Int} {size : Int} {n : Nat} (hg : gv xs size = true) (hl : xs.length = n) : mirL xs size = pm xs (mirIx size) n := by
  unfold mirL
  rw [if_pos hg, hl]; rfl
theorem mir_all {xs : List Int} {size : Int} {n : Nat} (hg : gv xs size = true) (hl : xs.length = n) : MirFacts xs size n := by
  obtain ⟨s, rfl, hs, hls⟩ := size_nat hg
  have hn : n = s * s := by rw [← hl, hls]
  subst hn
  have lt := turn_lt s hs
  have ltm := mir_lt s hs
  have e1 := mirL_pm hg hl
  have g1 : gv (mirL xs s) s = true := by rw [e1]; exact pm_gv hg hl ltm
  have l1 : (mirL xs s).length = s * s := by rw [e1, pm_length]
  have t1 := turnL_pm hg hl
  have h1 : gv (turnL xs s) s = true := by rw [t1]; exact pm_gv hg hl lt
  have m1 : (turnL xs s).length = s * s := by rw [t1, pm_length]
  have t2 := turnL_pm h1 m1
  have h2 : gv (turnL (turnL xs s) s) s = true := by rw [t2]; exact pm_gv h1 m1 lt
  have m2 : (turnL (turnL xs s) s).length = s * s := by rw [t2, pm_length]
  have t3 := turnL_pm h2 m2
  have h3 : gv (turnL (turnL (turnL xs s) s) s) s = true := by rw [t3]; exact pm_gv h2 m2 lt
  have m3 : (turnL (turnL (turnL xs s) s) s).length = s * s := by rw [t3, pm_length]
  refine ⟨l1, g1, ?_, ?_⟩
  · rw [mirL_pm g1 l1, e1, pm_pm ltm]
    exact pm_id hl (mir_two s hs)
  · rw [turnL_pm g1 l1, mirL_pm h3 m3, t3, t2, t1, e1, pm_pm lt, pm_pm ltm, pm_pm (fun k hk => lt _ (ltm k hk)), pm_pm (fun k hk => lt _ (lt _ (ltm k hk)))]
    exact pm_eq (mir_turn s hs)
end Go.Proofs.Ytgeedgljabdllaa
namespace Go.Proofs.Ytgeedgljabdllaa
open Go.ChangeShapes Go.WideShapes Go.ChangeAt Go.RowKit

theorem hasTo_iff {f : Nat → Int} {k : Nat} {v : Int} : hasTo f k v = true ↔ ∃ i, i < k ∧ f i = v := by
  simp [hasTo]
theorem dupTo_iff {f : Nat → Int} {n : Nat} : dupTo f n = true ↔ ∃ i j, i < j ∧ j < n ∧ f i = f j ∧ 0 < f j := by
  induction n with
  | zero => simp [dupTo]
  | succ n ih =>
    rw [dupTo, Bool.or_eq_true, ih, Bool.and_eq_true, hasTo_iff, decide_eq_true_eq]
    constructor
    · rintro (⟨i, j, h1, h2, h3⟩ | ⟨h0, i, hi, he⟩)
      · exact ⟨i, j, h1, by omega, h3⟩
      · exact ⟨i, n, hi, by omega, he, h0⟩
    · rintro ⟨i, j, h1, h2, h3, h4⟩
      by_cases e : j = n
      · subst e; exact .inr ⟨h4, i, h1, h3⟩
      · exact .inl ⟨i, j, h1, by omega, h3, h4⟩
theorem clashTo_iff {xs : List Int} {size : Int} {n : Nat} : clashTo xs size n = true ↔ ∃ l, l < n ∧ dupTo (lineV xs size (l : Nat)) size.toNat = true := by
  induction n with
  | zero => simp [clashTo]
  | succ n ih =>
    rw [clashTo, Bool.or_eq_true, ih]
    constructor
    · rintro (⟨l, h1, h2⟩ | h)
      · exact ⟨l, by omega, h2⟩
      · exact ⟨n, by omega, h⟩
    · rintro ⟨l, h1, h2⟩
      by_cases e : l = n
      · subst e; exact .inr h2
      · exact .inl ⟨l, by omega, h2⟩

/-- two different cells of one line. -/
def adj (s i j : Nat) : Bool := i != j && (i / s == j / s || i % s == j % s)
def adjLine (s i j : Nat) : Bool := (List.range (2 * s)).any fun l => (List.range s).any fun a => (List.range s).any fun b => a != b && ((lineAt (s : Nat) (l : Nat) a).toNat == i && (lineAt (s : Nat) (l : Nat) b).toNat == j)
theorem adj_line0 : ∀ s ∈ [2, 3, 4], ∀ i, i < s * s → ∀ j, j < s * s → adj s i j = true → adjLine s i j = true := by decide +kernel
theorem adj_line (s : Nat) (hs : s ∈ [2, 3, 4]) (i : Nat) (hi : i < s * s) (j : Nat) (hj : j < s * s) (h : adj s i j = true) : ∃ l, l < 2 * s ∧ ∃ a, a < s ∧ ∃ b, b < s ∧ a ≠ b ∧ (lineAt (s : Nat) (l : Nat) a).toNat = i ∧ (lineAt (s : Nat) (l : Nat) b).toNat = j := by
  have := adj_line0 s hs i hi j hj h
  simp only [adjLine, List.any_eq_true, List.mem_range, Bool.and_eq_true, bne_iff_ne, beq_iff_eq] at this
  obtain ⟨l, hl, a, ha, b, hb, hab, e1, e2⟩ := this
  exact ⟨l, hl, a, ha, b, hb, hab, e1, e2⟩
def lineAdj (s l a b : Nat) : Bool := a == b || (adj s (lineAt (s : Nat) (l : Nat) a).toNat (lineAt (s : Nat) (l : Nat) b).toNat && (Nat.blt (lineAt (s : Nat) (l : Nat) a).toNat (s * s) && Nat.blt (lineAt (s : Nat) (l : Nat) b).toNat (s * s)))
theorem line_adj0 : ∀ s ∈ [2, 3, 4], ∀ l, l < 2 * s → ∀ a, a < s → ∀ b, b < s → lineAdj s l a b = true := by decide +kernel
theorem line_adj (s : Nat) (hs : s ∈ [2, 3, 4]) (l : Nat) (hl : l < 2 * s) (a : Nat) (ha : a < s) (b : Nat) (hb : b < s) (hab : a ≠ b) : adj s (lineAt (s : Nat) (l : Nat) a).toNat (lineAt (s : Nat) (l : Nat) b).toNat = true ∧ (lineAt (s : Nat) (l : Nat) a).toNat < s * s ∧ (lineAt (s : Nat) (l : Nat) b).toNat < s * s := by
  have := line_adj0 s hs l hl a ha b hb
  simp only [lineAdj, Bool.or_eq_true, beq_iff_eq, Bool.and_eq_true, Nat.blt_eq] at this
  rcases this with h | h
  · exact absurd h hab
  · exact h
theorem clash_iff {xs : List Int} {s : Nat} (hs : s ∈ [2, 3, 4]) : clash xs s = true ↔ ∃ i j, i < s * s ∧ j < s * s ∧ adj s i j = true ∧ nth xs i = nth xs j ∧ 0 < nth xs j := by
  have e2 : (2 * (s : Int)).toNat = 2 * s := by omega
  rw [clash, clashTo_iff, e2]
  constructor
  · rintro ⟨l, hl, h⟩
    rw [dupTo_iff, Int.toNat_natCast] at h
    obtain ⟨a, b, h1, h2, h3, h4⟩ := h
    obtain ⟨p, q, r⟩ := line_adj s hs l hl a (by omega) b h2 (by omega)
    exact ⟨_, _, q, r, p, h3, h4⟩
  · rintro ⟨i, j, hi, hj, ha, he, hp⟩
    obtain ⟨l, hl, a, ha', b, hb, hab, ei, ej⟩ := adj_line s hs i hi j hj ha
    refine ⟨l, hl, ?_⟩
    rw [dupTo_iff, Int.toNat_natCast]
    rcases Nat.lt_or_ge a b with h | h
    · exact ⟨a, b, h, hb, by unfold lineV; rw [ei, ej]; exact he, by unfold lineV; rw [ej]; exact hp⟩
    · exact ⟨b, a, by omega, ha', by unfold lineV; rw [ei, ej]; exact he.symm, by unfold lineV; rw [ei, he]; exact hp⟩
/-- a permutation of the cells that keeps lines keeps clashes. -/
theorem clash_pm {xs : List Int} {s : Nat} {P Q : Nat → Nat} (hs : s ∈ [2, 3, 4]) (hP : ∀ k, k < s * s → P k < s * s) (hQ : ∀ k, k < s * s → Q k < s * s) (hPQ : ∀ k, k < s * s → P (Q k) = k)
    (hadj : ∀ i, i < s * s → ∀ j, j < s * s → adj s i j = true → adj s (P i) (P j) = true ∧ adj s (Q i) (Q j) = true) : clash (pm xs P (s * s)) s = clash xs s := by
  rw [Bool.eq_iff_iff, clash_iff hs, clash_iff hs]
  constructor
  · rintro ⟨i, j, hi, hj, ha, he, hp⟩
    rw [pm_nth hi, pm_nth hj] at he
    rw [pm_nth hj] at hp
    exact ⟨P i, P j, hP i hi, hP j hj, (hadj i hi j hj ha).1, he, hp⟩
  · rintro ⟨i, j, hi, hj, ha, he, hp⟩
    refine ⟨Q i, Q j, hQ i hi, hQ j hj, (hadj i hi j hj ha).2, ?_, ?_⟩
    · rw [pm_nth (hQ i hi), pm_nth (hQ j hj), hPQ i hi, hPQ j hj]; exact he
    · rw [pm_nth (hQ j hj), hPQ j hj]; exact hp
theorem clash_set0 {xs : List Int} {s k : Nat} (hs : s ∈ [2, 3, 4]) (hl : xs.length = s * s) (h : clash xs s = false) : clash (xs.set k 0) s = false := by
  cases hc : clash (xs.set k 0) s
  · rfl
  · rw [clash_iff hs] at hc
    obtain ⟨i, j, hi, hj, ha, he, hp⟩ := hc
    by_cases hk : k < xs.length
    · rw [nth_set hk, nth_set hk] at he
      rw [nth_set hk] at hp
      have hkj : k ≠ j := by rintro rfl; simp at hp
      rw [if_neg hkj] at he hp
      have hki : k ≠ i := by rintro rfl; rw [if_pos rfl] at he; omega
      rw [if_neg hki] at he
      have := (clash_iff hs).2 ⟨i, j, hi, hj, ha, he, hp⟩
      rw [h] at this; cases this
    · rw [List.set_eq_of_length_le (by omega)] at he hp
      have := (clash_iff hs).2 ⟨i, j, hi, hj, ha, he, hp⟩
      rw [h] at this; cases this
/-- three quarters back. -/
def backIx (s k : Nat) : Nat := turnIx s (turnIx s (turnIx s k))
theorem turn_adj : ∀ s ∈ [2, 3, 4], ∀ i, i < s * s → ∀ j, j < s * s → adj s i j = true → adj s (turnIx (s : Nat) i) (turnIx (s : Nat) j) = true ∧ adj s (backIx s i) (backIx s j) = true := by decide +kernel
theorem turn_back : ∀ s ∈ [2, 3, 4], ∀ k, k < s * s → backIx s k < s * s ∧ turnIx (s : Nat) (backIx s k) = k := by decide +kernel
theorem mir_adj : ∀ s ∈ [2, 3, 4], ∀ i, i < s * s → ∀ j, j < s * s → adj s i j = true → adj s (mirIx (s : Nat) i) (mirIx (s : Nat) j) = true := by decide +kernel
theorem clash_turn {xs : List Int} {size : Int} {n : Nat} (hg : gv xs size = true) (hl : xs.length = n) : clash (turnL xs size) size = clash xs size := by
  rw [turnL_pm hg hl]
  obtain ⟨s, rfl, hs, hls⟩ := size_nat hg
  obtain rfl : n = s * s := by omega
  exact clash_pm hs (turn_lt s hs) (fun k hk => (turn_back s hs k hk).1) (fun k hk => (turn_back s hs k hk).2) (turn_adj s hs)
theorem clash_mir {xs : List Int} {size : Int} {n : Nat} (hg : gv xs size = true) (hl : xs.length = n) : clash (mirL xs size) size = clash xs size := by
  rw [mirL_pm hg hl]
  obtain ⟨s, rfl, hs, hls⟩ := size_nat hg
  obtain rfl : n = s * s := by omega
  exact clash_pm hs (mir_lt s hs) (mir_lt s hs) (mir_two s hs) (fun i hi j hj h => ⟨mir_adj s hs i hi j hj h, mir_adj s hs i hi j hj h⟩)
end Go.Proofs.Ytgeedgljabdllaa
