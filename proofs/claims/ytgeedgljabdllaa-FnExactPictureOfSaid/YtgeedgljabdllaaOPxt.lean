import Derived.Test.YtgeedgljabdllaaDrawL
import Derived.Test.YtgeedgljabdllaaInts
import Derived.Test.YtgeedgljabdllaaZero
import Derived.Test.YtgeedgljabdllaaC1T
import Derived.Test.YtgeedgljabdllaaC1I
import Derived.Test.YtgeedgljabdllaaC1M
import Derived.Test.YtgeedgljabdllaaClash
import Derived.Test.YtgeedgljabdllaaPushAll
import Derived.Deep.AppendLies
import Derived.Test.YtgeedgljabdllaaPp
namespace Go.Proofs.Ytgeedgljabdllaa
open Go.ChangeShapes Go.WideShapes Go.ChangeAt Go.RowKit

theorem Rd.take_ {w : World} {B : Nat} {A : Option Addr} {n : Nat} {xs : List Int} (h : Rd w B A n xs) {m : Nat} (hm : m ≤ n) : Rd w B A m (xs.take m) := by
  refine ⟨by rw [List.length_take, h.1]; omega, fun h0 => ?_⟩
  obtain ⟨b, off, he, hb, hc⟩ := h.2 (by omega)
  refine ⟨b, off, he, hb, fun k hk => ?_⟩
  rw [hc k (by omega)]
  simp [nth, List.getD_eq_getElem?_getD, hk]
theorem gv_n {xs : List Int} {size : Int} {n : Nat} (h : gv xs size = true) (hl : xs.length = n) : 4 ≤ n ∧ n ≤ 16 ∧ (n : Int) = size * size := by
  obtain ⟨h2, h4⟩ := gv_size h
  have := gv_len h
  obtain ⟨q4, q16⟩ := sq_bd h2 h4
  rw [hl] at this
  omega
theorem gv_short {xs : List Int} {size : Int} {n : Nat} (h : gv xs size = true) (hl : xs.length = n) : gv (xs.take (n - 1)) size = false := by
  obtain ⟨h4, _, hn⟩ := gv_n h hl
  have e : ((xs.take (n - 1)).length : Int) = n - 1 := by rw [List.length_take, hl]; omega
  cases hg : gv (xs.take (n - 1)) size
  · rfl
  · have := gv_len hg
    omega
theorem gv_large {xs : List Int} {size : Int} {n : Nat} (h : gv xs size = true) (hl : xs.length = n) : gv (xs.set 0 (size + 1)) size = false := by
  obtain ⟨h4, _, hn⟩ := gv_n h hl
  cases hg : gv (xs.set 0 (size + 1)) size
  · rfl
  · have := gv_nth hg (k := 0) (by rw [List.length_set, hl]; omega)
    rw [nth_set (by omega), if_pos rfl] at this
    omega

theorem copy_below {w w' : World} (hg : (w.alloc (.cells #[] 3)).grownBy w' (Value.slice (some ⟨w.heap.size, 0, none⟩) 0 0).ownBlock) : Below w.heap.size w w' :=
  ((Below.refl _ _).alloc (Nat.le_refl _) _).grown hg (by simp) (fun k hk => (Ow.made0 w w.heap.size (Nat.le_refl _)).own_lo k hk)
theorem cnz_lt {xs : List Int} {k : Nat} {v : Int} (hk : k < xs.length) : ∀ m, m ≤ k → cnz (xs.set k v) m = cnz xs m := by
  intro m
  induction m with
  | zero => intro _; rfl
  | succ m ih =>
    intro hm
    simp only [cnz]
    have e : k ≠ m := by omega
    rw [ih (by omega), nth_set hk, if_neg e]
theorem cnz_set {xs : List Int} {k : Nat} (hk : k < xs.length) (h : nth xs k ≠ 0) : ∀ m, k < m → cnz (xs.set k 0) m + 1 = cnz xs m := by
  intro m
  induction m with
  | zero => intro hm; omega
  | succ m ih =>
    intro hm
    simp only [cnz]
    by_cases e : k = m
    · subst e
      rw [cnz_lt hk k (Nat.le_refl _), nth_set hk, if_pos rfl, if_pos rfl, if_neg h]
    · rw [nth_set hk, if_neg e]
      have := ih (by omega)
      omega
theorem gv_set0 {xs : List Int} {size : Int} {n k : Nat} (h : gv xs size = true) (hl : xs.length = n) : gv (xs.set k 0) size = true := by
  obtain ⟨h2, h4⟩ := gv_size h
  refine okAll_gv (n := n) (by simpa using hl) (gv_n h hl).2.2 h2 h4 (okAll_set' (fun j hj => gv_nth h (by omega)) (by omega) (by omega))
theorem gf_set {xs : List Int} {size : Int} {k : Nat} (h : gv xs size = true) (hk : k < xs.length) (h0 : nth xs k ≠ 0) : gf (xs.set k 0) size = gf xs size - 1 := by
  have := cnz_set hk h0 xs.length hk
  unfold gf
  rw [if_pos h, if_pos (gv_set0 h rfl), List.length_set]
  omega
theorem cnz_zeros (n m : Nat) : cnz (zeros n) m = 0 := by
  induction m with
  | zero => rfl
  | succ m ih => rw [cnz, ih, zeros_nth]; rfl
theorem gf_zeros {size : Int} {n : Nat} (h2 : 2 ≤ size) (h4 : size ≤ 4) (hn : (n : Int) = size * size) : gf (zeros n) size = 0 := by
  have hg : gv (zeros n) size = true := okAll_gv (zeros_length n) hn h2 h4 (okAll_zeros (by omega) n)
  unfold gf
  rw [if_pos hg, cnz_zeros]; rfl

end Go.Proofs.Ytgeedgljabdllaa
namespace Go.Proofs.Ytgeedgljabdllaa
open Go.ChangeShapes Go.WideShapes Go.ChangeAt Go.RowKit

/-- the list whose value at k is the one of xs at P k. -/
def pm (xs : List Int) (P : Nat → Nat) (n : Nat) : List Int := mapTo (fun k => nth xs (P k)) n
theorem pm_length (xs : List Int) (P : Nat → Nat) (n : Nat) : (pm xs P n).length = n := mapTo_length _ _
theorem pm_nth {xs : List Int} {P : Nat → Nat} {n k : Nat} (h : k < n) : nth (pm xs P n) k = nth xs (P k) := mapTo_nth h
theorem pm_pm {xs : List Int} {P Q : Nat → Nat} {n : Nat} (h : ∀ k, k < n → P k < n) : pm (pm xs Q n) P n = pm xs (fun k => Q (P k)) n := by
  apply ext_nth (by rw [pm_length, pm_length])
  intro k hk
  rw [pm_length] at hk
  rw [pm_nth hk, pm_nth (h k hk), pm_nth hk]
theorem pm_id {xs : List Int} {P : Nat → Nat} {n : Nat} (hl : xs.length = n) (h : ∀ k, k < n → P k = k) : pm xs P n = xs := by
  apply ext_nth (by rw [pm_length, hl])
  intro k hk
  rw [pm_length] at hk
  rw [pm_nth hk, h k hk]
theorem pm_eq {xs : List Int} {P Q : Nat → Nat} {n : Nat} (h : ∀ k, k < n → P k = Q k) : pm xs P n = pm xs Q n := by
  apply ext_nth (by rw [pm_length, pm_length])
  intro k hk
  rw [pm_length] at hk
  rw [pm_nth hk, pm_nth hk, h k hk]
theorem pm_gv {xs : List Int} {size : Int} {P : Nat → Nat} {n : Nat} (hg : gv xs size = true) (hl : xs.length = n) (h : ∀ k, k < n → P k < n) : gv (pm xs P n) size = true := by
  obtain ⟨h2, h4⟩ := gv_size hg
  refine okAll_gv (pm_length _ _ _) (gv_n hg hl).2.2 h2 h4 (fun k hk => ?_)
  rw [pm_nth hk]
  exact gv_nth hg (by rw [hl]; exact h k hk)
theorem cnz_sum (xs : List Int) (n : Nat) : cnz xs n = ((List.range n).map fun k => if nth xs k = 0 then 0 else 1).sum := by
  induction n with
  | zero => rfl
  | succ n ih => simp [cnz, ih, List.range_succ]
theorem pm_cnz {xs : List Int} {P : Nat → Nat} {n : Nat} (hp : (List.map P (List.range n)).Perm (List.range n)) : cnz (pm xs P n) n = cnz xs n := by
  rw [cnz_sum, cnz_sum]
  have h1 : (List.range n).map (fun k => if nth (pm xs P n) k = 0 then 0 else 1) = (List.map P (List.range n)).map (fun k => if nth xs k = 0 then 0 else 1) := by
    rw [List.map_map]
    apply List.map_congr_left
    intro k hk
    have : k < n := by simpa using hk
    simp only [Function.comp, pm_nth this]
  rw [h1]
  exact (hp.map _).sum_nat
theorem pm_gf {xs : List Int} {size : Int} {P : Nat → Nat} {n : Nat} (hg : gv xs size = true) (hl : xs.length = n) (h : ∀ k, k < n → P k < n) (hp : (List.map P (List.range n)).Perm (List.range n)) : gf (pm xs P n) size = gf xs size := by
  unfold gf
  rw [if_pos hg, if_pos (pm_gv hg hl h), pm_length, pm_cnz hp, hl]

theorem size_nat {xs : List Int} {size : Int} (hg : gv xs size = true) : ∃ s : Nat, size = s ∧ s ∈ [2, 3, 4] ∧ xs.length = s * s := by
  obtain ⟨h2, h4⟩ := gv_size hg
  obtain ⟨s, rfl⟩ := Int.eq_ofNat_of_zero_le (by omega : 0 ≤ size)
  refine ⟨s, rfl, by simp; omega, ?_⟩
  have := gv_len hg
  rw [← Int.natCast_mul] at this
  omega
theorem turn_lt : ∀ s ∈ [2, 3, 4], ∀ k, k < s * s → turnIx (s : Nat) k < s * s := by decide +kernel
theorem turn_perm : ∀ s ∈ [2, 3, 4], (List.map (turnIx (s : Nat)) (List.range (s * s))).Perm (List.range (s * s)) := by decide +kernel
theorem turn_four : ∀ s ∈ [2, 3, 4], ∀ k, k < s * s → turnIx (s : Nat) (turnIx (s : Nat) (turnIx (s : Nat) (turnIx (s : Nat) k))) = k := by decide +kernel
theorem turn_edge : ∀ s ∈ [2, 3, 4], ∀ k, k < s → turnIx (s : Nat) (k * s + s - 1) = k := by decide +kernel

/-- what is known of a turned grid. -/
structure TurnFacts (xs : List Int) (size : Int) (n : Nat) : Prop where
  len : (turnL xs size).length = n
  valid : gv (turnL xs size) size = true
  four : turnL (turnL (turnL (turnL xs size) size) size) size = xs
  filled : gf (turnL xs size) size = gf xs size
  edge : ∀ k : Nat, (k : Int) < size → nth (turnL xs size) ((k : Int) * size + size - 1).toNat = nth xs k
theorem turnL_pm {xs : List Int} {size : Int} {n : Nat} (hg : gv xs size = true) (hl : xs.length = n) : turnL xs size = pm xs (turnIx size) n := by
  unfold turnL
  rw [if_pos hg, hl]; rfl
theorem turn_all {xs : List Int} {size : Int} {n : Nat} (hg : gv xs size = true) (hl : xs.length = n) : TurnFacts xs size n := by
  obtain ⟨s, rfl, hs, hls⟩ := size_nat hg
  have hn : n = s * s := by rw [← hl, hls]
  subst hn
  have lt := turn_lt s hs
  have e1 := turnL_pm hg hl
  have g1 : gv (turnL xs s) s = true := by rw [e1]; exact pm_gv hg hl lt
  have l1 : (turnL xs s).length = s * s := by rw [e1, pm_length]
  have e2 := turnL_pm g1 l1
  have g2 : gv (turnL (turnL xs s) s) s = true := by rw [e2]; exact pm_gv g1 l1 lt
  have l2 : (turnL (turnL xs s) s).length = s * s := by rw [e2, pm_length]
  have e3 := turnL_pm g2 l2
  have g3 : gv (turnL (turnL (turnL xs s) s) s) s = true := by rw [e3]; exact pm_gv g2 l2 lt
  have l3 : (turnL (turnL (turnL xs s) s) s).length = s * s := by rw [e3, pm_length]
  have e4 := turnL_pm g3 l3
  refine ⟨l1, g1, ?_, ?_, ?_⟩
  · rw [e4, e3, e2, e1, pm_pm lt, pm_pm (fun k hk => lt _ (lt k hk)), pm_pm (fun k hk => lt _ (lt _ (lt k hk)))]
    exact pm_id hl (turn_four s hs)
  · rw [e1]; exact pm_gf hg hl lt (turn_perm s hs)
  · intro k hk
    have hks : k < s := by omega
    have hi : k * s + s - 1 < s * s := by
      have := ix_lt hks (by omega : s - 1 < s)
      omega
    have e : ((k : Int) * (s : Int) + (s : Int) - 1).toNat = k * s + s - 1 := by
      rw [← Int.natCast_mul]; omega
    rw [e, e1, pm_nth hi, turn_edge s hs k hks]
theorem mir_lt : ∀ s ∈ [2, 3, 4], ∀ k, k < s * s → mirIx (s : Nat) k < s * s := by decide +kernel
theorem mir_two : ∀ s ∈ [2, 3, 4], ∀ k, k < s * s → mirIx (s : Nat) (mirIx (s : Nat) k) = k := by decide +kernel
theorem mir_turn : ∀ s ∈ [2, 3, 4], ∀ k, k < s * s → mirIx (s : Nat) (turnIx (s : Nat) k) = turnIx (s : Nat) (turnIx (s : Nat) (turnIx (s : Nat) (mirIx (s : Nat) k))) := by decide +kernel
structure MirFacts (xs : List Int) (size : Int) (n : Nat) : Prop where
  len : (mirL xs size).length = n
  valid : gv (mirL xs size) size = true
  two : mirL (mirL xs size) size = xs
  turned : turnL (mirL xs size) size = mirL (turnL (turnL (turnL xs size) size) size) size
theorem mirL_pm {xs : List Int} {size : Int} {n : Nat} (hg : gv xs size = true) (hl : xs.length = n) : mirL xs size = pm xs (mirIx size) n := by
  unfold mirL
  rw [if_pos hg, hl]; rfl
theorem mir_all {xs : List Int} {size : Int} {n : Nat} (hg : gv xs size = true) (hl : xs.length = n) : MirFacts xs size n := by
  obtain ⟨s, rfl, hs, hls⟩ := size_nat hg
  have hn : n = s * s := by rw [← hl, hls]
  subst hn
  have lt := turn_lt s hs
  have ltm := mir_lt s hs
  have e1 := mirL_pm hg hl
  have g1 : gv (mirL xs s) s = true := by rw [e1]; exact pm_gv hg hl ltm
  have l1 : (mirL xs s).length = s * s := by rw [e1, pm_length]
  have t1 := turnL_pm hg hl
  have h1 : gv (turnL xs s) s = true := by rw [t1]; exact pm_gv hg hl lt
  have m1 : (turnL xs s).length = s * s := by rw [t1, pm_length]
  have t2 := turnL_pm h1 m1
  have h2 : gv (turnL (turnL xs s) s) s = true := by rw [t2]; exact pm_gv h1 m1 lt
  have m2 : (turnL (turnL xs s) s).length = s * s := by rw [t2, pm_length]
  have t3 := turnL_pm h2 m2
  have h3 : gv (turnL (turnL (turnL xs s) s) s) s = true := by rw [t3]; exact pm_gv h2 m2 lt
  have m3 : (turnL (turnL (turnL xs s) s) s).length = s * s := by rw [t3, pm_length]
  refine ⟨l1, g1, ?_, ?_⟩
  · rw [mirL_pm g1 l1, e1, pm_pm ltm]
    exact pm_id hl (mir_two s hs)
  · rw [turnL_pm g1 l1, mirL_pm h3 m3, t3, t2, t1, e1, pm_pm lt, pm_pm ltm, pm_pm (fun k hk => lt _ (ltm k hk)), pm_pm (fun k hk => lt _ (lt _ (ltm k hk)))]
    exact pm_eq (mir_turn s hs)
end Go.Proofs.Ytgeedgljabdllaa
namespace Go.Proofs.Ytgeedgljabdllaa
open Go.ChangeShapes Go.WideShapes Go.ChangeAt Go.RowKit

theorem hasTo_iff {f : Nat → Int} {k : Nat} {v : Int} : hasTo f k v = true ↔ ∃ i, i < k ∧ f i = v := by
  simp [hasTo]
theorem dupTo_iff {f : Nat → Int} {n : Nat} : dupTo f n = true ↔ ∃ i j, i < j ∧ j < n ∧ f i = f j ∧ 0 < f j := by
  induction n with
  | zero => simp [dupTo]
  | succ n ih =>
    rw [dupTo, Bool.or_eq_true, ih, Bool.and_eq_true, hasTo_iff, decide_eq_true_eq]
    constructor
    · rintro (⟨i, j, h1, h2, h3⟩ | ⟨h0, i, hi, he⟩)
      · exact ⟨i, j, h1, by omega, h3⟩
      · exact ⟨i, n, hi, by omega, he, h0⟩
    · rintro ⟨i, j, h1, h2, h3, h4⟩
      by_cases e : j = n
      · subst e; exact .inr ⟨h4, i, h1, h3⟩
      · exact .inl ⟨i, j, h1, by omega, h3, h4⟩
theorem clashTo_iff {xs : List Int} {size : Int} {n : Nat} : clashTo xs size n = true ↔ ∃ l, l < n ∧ dupTo (lineV xs size (l : Nat)) size.toNat = true := by
  induction n with
  | zero => simp [clashTo]
  | succ n ih =>
    rw [clashTo, Bool.or_eq_true, ih]
    constructor
    · rintro (⟨l, h1, h2⟩ | h)
      · exact ⟨l, by omega, h2⟩
      · exact ⟨n, by omega, h⟩
    · rintro ⟨l, h1, h2⟩
      by_cases e : l = n
      · subst e; exact .inr h2
      · exact .inl ⟨l, by omega, h2⟩

/-- two different cells of one line. -/
def adj (s i j : Nat) : Bool := i != j && (i / s == j / s || i % s == j % s)
def adjLine (s i j : Nat) : Bool := (List.range (2 * s)).any fun l => (List.range s).any fun a => (List.range s).any fun b => a != b && ((lineAt (s : Nat) (l : Nat) a).toNat == i && (lineAt (s : Nat) (l : Nat) b).toNat == j)
theorem adj_line0 : ∀ s ∈ [2, 3, 4], ∀ i, i < s * s → ∀ j, j < s * s → adj s i j = true → adjLine s i j = true := by decide +kernel
theorem adj_line (s : Nat) (hs : s ∈ [2, 3, 4]) (i : Nat) (hi : i < s * s) (j : Nat) (hj : j < s * s) (h : adj s i j = true) : ∃ l, l < 2 * s ∧ ∃ a, a < s ∧ ∃ b, b < s ∧ a ≠ b ∧ (lineAt (s : Nat) (l : Nat) a).toNat = i ∧ (lineAt (s : Nat) (l : Nat) b).toNat = j := by
  have := adj_line0 s hs i hi j hj h
  simp only [adjLine, List.any_eq_true, List.mem_range, Bool.and_eq_true, bne_iff_ne, beq_iff_eq] at this
  obtain ⟨l, hl, a, ha, b, hb, hab, e1, e2⟩ := this
  exact ⟨l, hl, a, ha, b, hb, hab, e1, e2⟩
def lineAdj (s l a b : Nat) : Bool := a == b || (adj s (lineAt (s : Nat) (l : Nat) a).toNat (lineAt (s : Nat) (l : Nat) b).toNat && (Nat.blt (lineAt (s : Nat) (l : Nat) a).toNat (s * s) && Nat.blt (lineAt (s : Nat) (l : Nat) b).toNat (s * s)))
theorem line_adj0 : ∀ s ∈ [2, 3, 4], ∀ l, l < 2 * s → ∀ a, a < s → ∀ b, b < s → lineAdj s l a b = true := by decide +kernel
theorem line_adj (s : Nat) (hs : s ∈ [2, 3, 4]) (l : Nat) (hl : l < 2 * s) (a : Nat) (ha : a < s) (b : Nat) (hb : b < s) (hab : a ≠ b) : adj s (lineAt (s : Nat) (l : Nat) a).toNat (lineAt (s : Nat) (l : Nat) b).toNat = true ∧ (lineAt (s : Nat) (l : Nat) a).toNat < s * s ∧ (lineAt (s : Nat) (l : Nat) b).toNat < s * s := by
  have := line_adj0 s hs l hl a ha b hb
  simp only [lineAdj, Bool.or_eq_true, beq_iff_eq, Bool.and_eq_true, Nat.blt_eq] at this
  rcases this with h | h
  · exact absurd h hab
  · exact h
theorem clash_iff {xs : List Int} {s : Nat} (hs : s ∈ [2, 3, 4]) : clash xs s = true ↔ ∃ i j, i < s * s ∧ j < s * s ∧ adj s i j = true ∧ nth xs i = nth xs j ∧ 0 < nth xs j := by
  have e2 : (2 * (s : Int)).toNat = 2 * s := by omega
  rw [clash, clashTo_iff, e2]
  constructor
  · rintro ⟨l, hl, h⟩
    rw [dupTo_iff, Int.toNat_natCast] at h
    obtain ⟨a, b, h1, h2, h3, h4⟩ := h
    obtain ⟨p, q, r⟩ := line_adj s hs l hl a (by omega) b h2 (by omega)
    exact ⟨_, _, q, r, p, h3, h4⟩
  · rintro ⟨i, j, hi, hj, ha, he, hp⟩
    obtain ⟨l, hl, a, ha', b, hb, hab, ei, ej⟩ := adj_line s hs i hi j hj ha
    refine ⟨l, hl, ?_⟩
    rw [dupTo_iff, Int.toNat_natCast]
    rcases Nat.lt_or_ge a b with h | h
    · exact ⟨a, b, h, hb, by unfold lineV; rw [ei, ej]; exact he, by unfold lineV; rw [ej]; exact hp⟩
    · exact ⟨b, a, by omega, ha', by unfold lineV; rw [ei, ej]; exact he.symm, by unfold lineV; rw [ei, he]; exact hp⟩
/-- a permutation of the cells that keeps lines keeps clashes. -/
theorem clash_pm {xs : List Int} {s : Nat} {P Q : Nat → Nat} (hs : s ∈ [2, 3, 4]) (hP : ∀ k, k < s * s → P k < s * s) (hQ : ∀ k, k < s * s → Q k < s * s) (hPQ : ∀ k, k < s * s → P (Q k) = k)
    (hadj : ∀ i, i < s * s → ∀ j, j < s * s → adj s i j = true → adj s (P i) (P j) = true ∧ adj s (Q i) (Q j) = true) : clash (pm xs P (s * s)) s = clash xs s := by
  rw [Bool.eq_iff_iff, clash_iff hs, clash_iff hs]
  constructor
  · rintro ⟨i, j, hi, hj, ha, he, hp⟩
    rw [pm_nth hi, pm_nth hj] at he
    rw [pm_nth hj] at hp
    exact ⟨P i, P j, hP i hi, hP j hj, (hadj i hi j hj ha).1, he, hp⟩
  · rintro ⟨i, j, hi, hj, ha, he, hp⟩
    refine ⟨Q i, Q j, hQ i hi, hQ j hj, (hadj i hi j hj ha).2, ?_, ?_⟩
    · rw [pm_nth (hQ i hi), pm_nth (hQ j hj), hPQ i hi, hPQ j hj]; exact he
    · rw [pm_nth (hQ j hj), hPQ j hj]; exact hp
theorem clash_set0 {xs : List Int} {s k : Nat} (hs : s ∈ [2, 3, 4]) (hl : xs.length = s * s) (h : clash xs s = false) : clash (xs.set k 0) s = false := by
  cases hc : clash (xs.set k 0) s
  · rfl
  · rw [clash_iff hs] at hc
    obtain ⟨i, j, hi, hj, ha, he, hp⟩ := hc
    by_cases hk : k < xs.length
    · rw [nth_set hk, nth_set hk] at he
      rw [nth_set hk] at hp
      have hkj : k ≠ j := by rintro rfl; simp at hp
      rw [if_neg hkj] at he hp
      have hki : k ≠ i := by rintro rfl; rw [if_pos rfl] at he; omega
      rw [if_neg hki] at he
      have := (clash_iff hs).2 ⟨i, j, hi, hj, ha, he, hp⟩
      rw [h] at this; cases this
    · rw [List.set_eq_of_length_le (by omega)] at he hp
      have := (clash_iff hs).2 ⟨i, j, hi, hj, ha, he, hp⟩
      rw [h] at this; cases this
/-- three quarters back. -/
def backIx (s k : Nat) : Nat := turnIx s (turnIx s (turnIx s k))
theorem turn_adj : ∀ s ∈ [2, 3, 4], ∀ i, i < s * s → ∀ j, j < s * s → adj s i j = true → adj s (turnIx (s : Nat) i) (turnIx (s : Nat) j) = true ∧ adj s (backIx s i) (backIx s j) = true := by decide +kernel
theorem turn_back : ∀ s ∈ [2, 3, 4], ∀ k, k < s * s → backIx s k < s * s ∧ turnIx (s : Nat) (backIx s k) = k := by decide +kernel
theorem mir_adj : ∀ s ∈ [2, 3, 4], ∀ i, i < s * s → ∀ j, j < s * s → adj s i j = true → adj s (mirIx (s : Nat) i) (mirIx (s : Nat) j) = true := by decide +kernel
theorem clash_turn {xs : List Int} {size : Int} {n : Nat} (hg : gv xs size = true) (hl : xs.length = n) : clash (turnL xs size) size = clash xs size := by
  rw [turnL_pm hg hl]
  obtain ⟨s, rfl, hs, hls⟩ := size_nat hg
  obtain rfl : n = s * s := by omega
  exact clash_pm hs (turn_lt s hs) (fun k hk => (turn_back s hs k hk).1) (fun k hk => (turn_back s hs k hk).2) (turn_adj s hs)
theorem clash_mir {xs : List Int} {size : Int} {n : Nat} (hg : gv xs size = true) (hl : xs.length = n) : clash (mirL xs size) size = clash xs size := by
  rw [mirL_pm hg hl]
  obtain ⟨s, rfl, hs, hls⟩ := size_nat hg
  obtain rfl : n = s * s := by omega
  exact clash_pm hs (mir_lt s hs) (mir_lt s hs) (mir_two s hs) (fun i hi j hj h => ⟨mir_adj s hs i hi j hj h, mir_adj s hs i hi j hj h⟩)
end Go.Proofs.Ytgeedgljabdllaa
set_option maxRecDepth 8000
namespace Go.Proofs.Ytgeedgljabdllaa
open Go.ChangeShapes Go.WideShapes Go.ChangeAt Go.RowKit
/-! the eight forms of a grid, as index functions. -/
/-- the cell from which a cell of the k-th form has its value. -/
def tix (s : Int) : Nat → Nat → Nat
  | 0, j => j
  | k + 1, j => if k = 3 then mirIx s j else tix s k (turnIx s j)
/-- q turns of a list. -/
def trn (s : Int) (n : Nat) (xs : List Int) : Nat → List Int
  | 0 => xs
  | q + 1 => pm (trn s n xs q) (turnIx s) n
/-- the k-th form. -/
def frm (s : Int) (n : Nat) (xs : List Int) (k : Nat) : List Int := if k < 4 then trn s n xs k else trn s n (pm xs (mirIx s) n) (k - 4)
/-- what the reference holds before the k-th form is taken. -/
def spX (s : Int) (n : Nat) (xs : List Int) (k : Nat) : List Int := if k ≤ 4 then trn s n xs k else trn s n (pm xs (mirIx s) n) (k - 4)
theorem trn_len {s : Int} {n : Nat} {xs : List Int} (hl : xs.length = n) : ∀ q, (trn s n xs q).length = n
  | 0 => hl
  | _ + 1 => pm_length _ _ _
theorem frm_len {s : Int} {n : Nat} {xs : List Int} (hl : xs.length = n) (k : Nat) : (frm s n xs k).length = n := by
  unfold frm; split
  · exact trn_len hl _
  · exact trn_len (pm_length _ _ _) _
theorem spX_len {s : Int} {n : Nat} {xs : List Int} (hl : xs.length = n) (k : Nat) : (spX s n xs k).length = n := by
  unfold spX; split
  · exact trn_len hl _
  · exact trn_len (pm_length _ _ _) _
theorem trn_gv {s n : Nat} {xs : List Int} (hs : s ∈ [2, 3, 4]) (hn : n = s * s) (hl : xs.length = n) (hg : gv xs s = true) : ∀ q, gv (trn s n xs q) s = true
  | 0 => hg
  | q + 1 => pm_gv (trn_gv hs hn hl hg q) (trn_len hl q) (fun k hk => by rw [hn] at hk ⊢; exact turn_lt s hs k hk)
theorem mir_gv {s n : Nat} {xs : List Int} (hs : s ∈ [2, 3, 4]) (hn : n = s * s) (hl : xs.length = n) (hg : gv xs s = true) : gv (pm xs (mirIx s) n) s = true :=
  pm_gv hg hl (fun k hk => by rw [hn] at hk ⊢; exact mir_lt s hs k hk)
theorem frm_gv {s n : Nat} {xs : List Int} (hs : s ∈ [2, 3, 4]) (hn : n = s * s) (hl : xs.length = n) (hg : gv xs s = true) (k : Nat) : gv (frm s n xs k) s = true := by
  unfold frm; split
  · exact trn_gv hs hn hl hg _
  · exact trn_gv hs hn (pm_length _ _ _) (mir_gv hs hn hl hg) _
theorem spX_gv {s n : Nat} {xs : List Int} (hs : s ∈ [2, 3, 4]) (hn : n = s * s) (hl : xs.length = n) (hg : gv xs s = true) (k : Nat) : gv (spX s n xs k) s = true := by
  unfold spX; split
  · exact trn_gv hs hn hl hg _
  · exact trn_gv hs hn (pm_length _ _ _) (mir_gv hs hn hl hg) _
theorem spX_frm {s : Int} {n : Nat} {xs : List Int} {k : Nat} (h : k ≠ 4) : spX s n xs k = frm s n xs k := by
  unfold spX frm
  by_cases h4 : k < 4
  · rw [if_pos h4, if_pos (by omega)]
  · rw [if_neg h4, if_neg (by omega)]
theorem frm_four {s : Int} {n : Nat} {xs : List Int} : frm s n xs 4 = pm xs (mirIx s) n := rfl
theorem frm_zero {s : Int} {n : Nat} {xs : List Int} : frm s n xs 0 = xs := rfl
theorem spX_succ {s : Int} {n : Nat} {xs : List Int} {k : Nat} : spX s n xs (k + 1) = pm (frm s n xs k) (turnIx s) n := by
  unfold spX frm
  by_cases h4 : k < 4
  · rw [if_pos h4, if_pos (by omega)]; rfl
  · rw [if_neg h4, if_neg (by omega), show k + 1 - 4 = (k - 4) + 1 by omega]; rfl
theorem tix_lt : ∀ s ∈ [2, 3, 4], ∀ k, k < 8 → ∀ j, j < s * s → tix (s : Nat) k j < s * s := by decide +kernel
theorem trn_pm {s n : Nat} {xs : List Int} (hs : s ∈ [2, 3, 4]) (hn : n = s * s) (hl : xs.length = n) : ∀ q, q < 4 → trn s n xs q = pm xs (tix s q) n
  | 0, _ => (pm_id hl (fun _ _ => rfl)).symm
  | q + 1, h => by
    have ih := trn_pm (xs := xs) hs hn hl q (by omega)
    show pm (trn s n xs q) (turnIx s) n = _
    rw [ih, pm_pm (fun k hk => by rw [hn] at hk ⊢; exact turn_lt s hs k hk)]
    refine pm_eq (fun k hk => ?_)
    show _ = tix s (q + 1) k
    simp only [tix]
    rw [if_neg (by omega)]
theorem tix_mir : ∀ s ∈ [2, 3, 4], ∀ k, k < 4 → ∀ j, j < s * s → mirIx (s : Nat) (tix (s : Nat) k j) = tix (s : Nat) (k + 4) j := by decide +kernel
theorem frm_pm {s n : Nat} {xs : List Int} (hs : s ∈ [2, 3, 4]) (hn : n = s * s) (hl : xs.length = n) {k : Nat} (hk : k < 8) : frm s n xs k = pm xs (tix s k) n := by
  unfold frm
  by_cases h4 : k < 4
  · rw [if_pos h4]; exact trn_pm hs hn hl k h4
  · rw [if_neg h4, trn_pm hs hn (pm_length _ _ _) (k - 4) (by omega), pm_pm (fun j hj => by rw [hn] at hj ⊢; exact tix_lt s hs _ (by omega) j hj)]
    refine pm_eq (fun j hj => ?_)
    rw [hn] at hj
    rw [tix_mir s hs (k - 4) (by omega) j hj, show k - 4 + 4 = k by omega]
/-- two forms one after the other are a form. -/
def gmul (a b : Nat) : Nat := if a < 4 then (if b < 4 then (a + b) % 4 else 4 + (b - a) % 4) else (if b < 4 then 4 + (a + b) % 4 else (b + 4 - a) % 4)
theorem gmul_lt : ∀ a, a < 8 → ∀ b, b < 8 → gmul a b < 8 := by decide +kernel
theorem gmul_tix : ∀ s ∈ [2, 3, 4], ∀ a, a < 8 → ∀ b, b < 8 → ∀ j, j < s * s → tix (s : Nat) a (tix (s : Nat) b j) = tix (s : Nat) (gmul a b) j := by decide +kernel
theorem frm_frm {s n : Nat} {xs : List Int} (hs : s ∈ [2, 3, 4]) (hn : n = s * s) (hl : xs.length = n) {a b : Nat} (ha : a < 8) (hb : b < 8) : frm s n (frm s n xs a) b = frm s n xs (gmul a b) := by
  rw [frm_pm hs hn (frm_len hl a) hb, frm_pm hs hn hl ha, frm_pm hs hn hl (gmul_lt a ha b hb), pm_pm (fun j hj => by rw [hn] at hj ⊢; exact tix_lt s hs b hb j hj)]
  refine pm_eq (fun j hj => ?_)
  rw [hn] at hj
  exact gmul_tix s hs a ha b hb j hj
theorem turnL_frm {s n : Nat} {xs : List Int} (hl : xs.length = n) (hg : gv xs s = true) : turnL xs s = frm s n xs 1 := turnL_pm hg hl
theorem mirL_frm {s n : Nat} {xs : List Int} (hl : xs.length = n) (hg : gv xs s = true) : mirL xs s = frm s n xs 4 := mirL_pm hg hl

/-! names in the order in which they are met. -/
def newAt (xs : List Int) (i : Nat) : Bool := decide (nth xs i ≠ 0) && (List.range i).all fun j => decide (nth xs j ≠ nth xs i)
def cntN (xs : List Int) : Nat → Nat
  | 0 => 0
  | k + 1 => if newAt xs k = true then cntN xs k + 1 else cntN xs k
def nmA (xs : List Int) : Nat → Int → Nat
  | 0, _ => 0
  | k + 1, v => if newAt xs k = true ∧ nth xs k = v then cntN xs k + 1 else nmA xs k v
def rnG (xs : List Int) (k : Nat) : Int := (nmA xs (k + 1) (nth xs k) : Nat)
/-- a list renamed. -/
def rnL (xs : List Int) (n : Nat) : List Int := mapTo (rnG xs) n
theorem rnL_len (xs : List Int) (n : Nat) : (rnL xs n).length = n := mapTo_length _ _
theorem rnL_nth {xs : List Int} {n k : Nat} (h : k < n) : nth (rnL xs n) k = rnG xs k := mapTo_nth h
theorem newAt_iff {xs : List Int} {i : Nat} : newAt xs i = true ↔ nth xs i ≠ 0 ∧ ∀ j, j < i → nth xs j ≠ nth xs i := by
  simp only [newAt, Bool.and_eq_true, decide_eq_true_eq, List.all_eq_true, List.mem_range]
theorem cntN_mono {xs : List Int} {i j : Nat} (h : i ≤ j) : cntN xs i ≤ cntN xs j := by
  induction j with
  | zero => have : i = 0 := by omega
            subst this; exact Nat.le_refl _
  | succ j ih =>
    by_cases e : i = j + 1
    · subst e; exact Nat.le_refl _
    · have := ih (by omega)
      simp only [cntN]; split <;> omega
theorem nmA_zero_iff {xs : List Int} {v : Int} (hv : v ≠ 0) : ∀ k, nmA xs k v = 0 ↔ ∀ i, i < k → nth xs i ≠ v
  | 0 => ⟨fun _ i hi => absurd hi (by omega), fun _ => rfl⟩
  | k + 1 => by
    have ih := nmA_zero_iff (xs := xs) hv k
    simp only [nmA]
    by_cases h : newAt xs k = true ∧ nth xs k = v
    · rw [if_pos h]
      exact ⟨fun e => absurd e (by omega), fun e => absurd h.2 (e k (by omega))⟩
    · rw [if_neg h, ih]
      refine ⟨fun e i hi => ?_, fun e i hi => e i (by omega)⟩
      by_cases hik : i = k
      · subst hik
        intro hiv
        refine h ⟨newAt_iff.2 ⟨by rw [hiv]; exact hv, fun j hj => by rw [hiv]; exact e j hj⟩, hiv⟩
      · exact e i (by omega)
theorem nmA_none {xs : List Int} : ∀ k, nmA xs k 0 = 0
  | 0 => rfl
  | k + 1 => by
    simp only [nmA]
    rw [if_neg (fun h => (newAt_iff.1 h.1).1 h.2)]
    exact nmA_none k
theorem nmA_t {xs : List Int} {k : Nat} {v : Int} (h : newAt xs k = true ∧ nth xs k = v) : nmA xs (k + 1) v = cntN xs k + 1 := by simp only [nmA]; rw [if_pos h]
theorem nmA_f {xs : List Int} {k : Nat} {v : Int} (h : ¬ (newAt xs k = true ∧ nth xs k = v)) : nmA xs (k + 1) v = nmA xs k v := by simp only [nmA]; rw [if_neg h]
theorem newAt_nm {xs : List Int} {k : Nat} : newAt xs k = (decide (nth xs k ≠ 0) && decide (nmA xs k (nth xs k) = 0)) := by
  by_cases h0 : nth xs k = 0
  · simp [newAt, h0]
  · have e := nmA_zero_iff (xs := xs) h0 k
    by_cases h : newAt xs k = true
    · rw [h]
      have := e.2 (newAt_iff.1 h).2
      simp [h0, this]
    · have h' : newAt xs k = false := by simpa using h
      rw [h']
      have : nmA xs k (nth xs k) ≠ 0 := fun z => h (newAt_iff.2 ⟨h0, e.1 z⟩)
      simp [this]
theorem nmA_some {xs : List Int} {v : Int} : ∀ k, nmA xs k v ≠ 0 → ∃ i, i < k ∧ newAt xs i = true ∧ nth xs i = v ∧ nmA xs k v = cntN xs i + 1
  | 0, h => absurd rfl h
  | k + 1, h => by
    simp only [nmA] at h ⊢
    by_cases hc : newAt xs k = true ∧ nth xs k = v
    · rw [if_pos hc]
      exact ⟨k, by omega, hc.1, hc.2, rfl⟩
    · rw [if_neg hc] at h ⊢
      obtain ⟨i, hi, a, b, c⟩ := nmA_some k h
      exact ⟨i, by omega, a, b, c⟩
theorem cntN_new {xs : List Int} {i j : Nat} (hi : newAt xs i = true) (hj : newAt xs j = true) (h : cntN xs i = cntN xs j) : i = j := by
  have key : ∀ a b, a < b → newAt xs a = true → cntN xs a < cntN xs b := fun a b hab ha => by
    have h1 := cntN_mono (xs := xs) (show a + 1 ≤ b by omega)
    simp only [cntN, ha, if_true] at h1
    omega
  rcases Nat.lt_trichotomy i j with h1 | h1 | h1
  · have := key i j h1 hi; omega
  · exact h1
  · have := key j i h1 hj; omega
theorem nmA_inj {xs : List Int} {k : Nat} {u v : Int} (hu : nmA xs k u ≠ 0) (h : nmA xs k u = nmA xs k v) : u = v := by
  obtain ⟨i, _, a, b, c⟩ := nmA_some k hu
  obtain ⟨j, _, a', b', c'⟩ := nmA_some k (by rw [← h]; exact hu)
  have := cntN_new a a' (by omega)
  subst this
  rw [← b, ← b']
/-- a name that is given stays. -/
theorem nmA_stays {xs : List Int} {v : Int} {k m : Nat} (hkm : k ≤ m) (h : nmA xs k v ≠ 0) : nmA xs m v = nmA xs k v := by
  induction m with
  | zero => have : k = 0 := by omega
            subst this; rfl
  | succ m ih =>
    by_cases e : k = m + 1
    · subst e; rfl
    · have ih' := ih (by omega)
      simp only [nmA]
      rw [if_neg, ih']
      rintro ⟨hn, hv⟩
      obtain ⟨i, hi, _, b, _⟩ := nmA_some k h
      exact (newAt_iff.1 hn).2 i (by omega) (by rw [b, hv])
theorem rnG_eq {xs : List Int} {k m : Nat} (h : k < m) : rnG xs k = (nmA xs m (nth xs k) : Nat) := by
  unfold rnG
  by_cases h0 : nth xs k = 0
  · rw [h0, nmA_none, nmA_none]
  · have : nmA xs (k + 1) (nth xs k) ≠ 0 := fun z => ((nmA_zero_iff h0 (k + 1)).1 z) k (by omega) rfl
    rw [nmA_stays (show k + 1 ≤ m by omega) this]
theorem rnG_zero {xs : List Int} {k : Nat} : rnG xs k = 0 ↔ nth xs k = 0 := by
  unfold rnG
  refine ⟨fun h => ?_, fun h => by rw [h, nmA_none]; rfl⟩
  by_cases h0 : nth xs k = 0
  · exact h0
  · have : nmA xs (k + 1) (nth xs k) ≠ 0 := fun z => ((nmA_zero_iff h0 (k + 1)).1 z) k (by omega) rfl
    omega
theorem rnG_same {xs : List Int} {i j : Nat} : rnG xs i = rnG xs j ↔ nth xs i = nth xs j := by
  obtain ⟨m, hm⟩ : ∃ m, m = max (i + 1) (j + 1) := ⟨_, rfl⟩
  rw [rnG_eq (show i < m by omega), rnG_eq (show j < m by omega)]
  refine ⟨fun h => ?_, fun h => by rw [h]⟩
  have h' : nmA xs m (nth xs i) = nmA xs m (nth xs j) := by omega
  by_cases h0 : nmA xs m (nth xs i) = 0
  · have a0 : nth xs i = 0 := by
      by_cases e : nth xs i = 0
      · exact e
      · exact absurd rfl (((nmA_zero_iff e m).1 h0) i (by omega))
    have b0 : nth xs j = 0 := by
      by_cases e : nth xs j = 0
      · exact e
      · exact absurd rfl (((nmA_zero_iff e m).1 (by rw [← h']; exact h0)) j (by omega))
    rw [a0, b0]
  · exact nmA_inj h0 h'
/-- two lists of the same pattern. -/
def SamePat (xs ys : List Int) (n : Nat) : Prop := (∀ i, i < n → (nth xs i = 0 ↔ nth ys i = 0)) ∧ ∀ i j, i < n → j < n → (nth xs i = nth xs j ↔ nth ys i = nth ys j)
theorem SamePat.symm {xs ys : List Int} {n : Nat} (h : SamePat xs ys n) : SamePat ys xs n := ⟨fun i hi => (h.1 i hi).symm, fun i j hi hj => (h.2 i j hi hj).symm⟩
theorem SamePat.pm {xs ys : List Int} {n : Nat} {P : Nat → Nat} (h : SamePat xs ys n) (hP : ∀ k, k < n → P k < n) : SamePat (pm xs P n) (pm ys P n) n :=
  ⟨fun i hi => by rw [pm_nth hi, pm_nth hi]; exact h.1 _ (hP i hi), fun i j hi hj => by rw [pm_nth hi, pm_nth hi, pm_nth hj, pm_nth hj]; exact h.2 _ _ (hP i hi) (hP j hj)⟩
theorem samePat_rn (xs : List Int) (n : Nat) : SamePat xs (rnL xs n) n :=
  ⟨fun i hi => by rw [rnL_nth hi]; exact rnG_zero.symm, fun i j hi hj => by rw [rnL_nth hi, rnL_nth hj]; exact rnG_same.symm⟩
theorem newAt_pat {xs ys : List Int} {n i : Nat} (h : SamePat xs ys n) (hi : i < n) : newAt xs i = newAt ys i := by
  rw [Bool.eq_iff_iff, newAt_iff, newAt_iff]
  refine ⟨fun ⟨a, b⟩ => ⟨fun e => a ((h.1 i hi).2 e), fun j hj e => b j hj ((h.2 j i (by omega) hi).2 e)⟩, fun ⟨a, b⟩ => ⟨fun e => a ((h.1 i hi).1 e), fun j hj e => b j hj ((h.2 j i (by omega) hi).1 e)⟩⟩
theorem cntN_pat {xs ys : List Int} {n : Nat} (h : SamePat xs ys n) : ∀ k, k ≤ n → cntN xs k = cntN ys k
  | 0, _ => rfl
  | k + 1, hk => by simp only [cntN]; rw [cntN_pat h k (by omega), newAt_pat h (by omega)]
theorem nmA_pat {xs ys : List Int} {n j : Nat} (h : SamePat xs ys n) (hj : j < n) : ∀ k, k ≤ n → nmA xs k (nth xs j) = nmA ys k (nth ys j)
  | 0, _ => rfl
  | k + 1, hk => by
    simp only [nmA]
    rw [cntN_pat h k (by omega), newAt_pat h (by omega), nmA_pat h hj k (by omega)]
    by_cases e : newAt ys k = true ∧ nth ys k = nth ys j
    · rw [if_pos e, if_pos ⟨e.1, (h.2 k j (by omega) hj).2 e.2⟩]
    · rw [if_neg e, if_neg (fun q => e ⟨q.1, (h.2 k j (by omega) hj).1 q.2⟩)]
theorem rnL_pat {xs ys : List Int} {n : Nat} (h : SamePat xs ys n) : rnL xs n = rnL ys n := by
  apply ext_nth (by rw [rnL_len, rnL_len])
  intro k hk
  rw [rnL_len] at hk
  rw [rnL_nth hk, rnL_nth hk]
  unfold rnG
  rw [nmA_pat h hk (k + 1) (by omega)]
theorem rnL_rnL (xs : List Int) (n : Nat) : rnL (rnL xs n) n = rnL xs n := (rnL_pat (samePat_rn xs n)).symm
def one4 (xs : List Int) (k : Nat) (v : Int) : Nat := if nmA xs k v = 0 then 0 else 1
theorem cntN_four {xs : List Int} : ∀ k, (∀ i, i < k → 0 ≤ nth xs i ∧ nth xs i ≤ 4) → cntN xs k = one4 xs k 1 + one4 xs k 2 + one4 xs k 3 + one4 xs k 4
  | 0, _ => rfl
  | k + 1, hv => by
    have ih := cntN_four k (fun i hi => hv i (by omega))
    obtain ⟨v0, v4⟩ := hv k (by omega)
    have hnm := newAt_nm (xs := xs) (k := k)
    simp only [cntN]
    by_cases hn : newAt xs k = true
    · rw [if_pos hn, ih]
      rw [hn] at hnm
      have hz : nth xs k ≠ 0 ∧ nmA xs k (nth xs k) = 0 := by simpa using hnm.symm
      have hv4 : nth xs k = 1 ∨ nth xs k = 2 ∨ nth xs k = 3 ∨ nth xs k = 4 := by omega
      have hone : ∀ v, one4 xs (k + 1) v = if nth xs k = v then 1 else one4 xs k v := fun v => by
        unfold one4
        by_cases e : nth xs k = v
        · rw [nmA_t ⟨hn, e⟩, if_pos e, if_neg (by omega)]
        · rw [nmA_f (fun q => e q.2), if_neg e]
      have hz2 : one4 xs k (nth xs k) = 0 := by unfold one4; rw [if_pos hz.2]
      rw [hone, hone, hone, hone]
      rcases hv4 with e | e | e | e <;> rw [e] at hz2 <;> simp [e] <;> omega
    · rw [if_neg hn, ih]
      have hone : ∀ v, one4 xs (k + 1) v = one4 xs k v := fun v => by
        unfold one4
        rw [nmA_f (fun q => hn q.1)]
      rw [hone, hone, hone, hone]
theorem cntN_le {xs : List Int} {s : Int} {k : Nat} (h2 : 2 ≤ s) (h4 : s ≤ 4) (hv : ∀ i, i < k → 0 ≤ nth xs i ∧ nth xs i ≤ s) : (cntN xs k : Int) ≤ s := by
  have e := cntN_four k (fun i hi => ⟨(hv i hi).1, Int.le_trans (hv i hi).2 h4⟩)
  have big : ∀ v : Int, s < v → one4 xs k v = 0 := fun v h => by
    unfold one4
    rw [if_pos]
    exact (nmA_zero_iff (by omega) k).2 (fun i hi e => by have := (hv i hi).2; omega)
  have le1 : ∀ v, one4 xs k v ≤ 1 := fun v => by unfold one4; split <;> omega
  have a1 := le1 1; have a2 := le1 2; have a3 := le1 3; have a4 := le1 4
  have : s = 2 ∨ s = 3 ∨ s = 4 := by omega
  rcases this with rfl | rfl | rfl
  · have b3 := big 3 (by omega); have b4 := big 4 (by omega); omega
  · have b4 := big 4 (by omega); omega
  · omega
theorem nmA_le {xs : List Int} {v : Int} {k : Nat} : nmA xs k v ≤ cntN xs k := by
  by_cases h : nmA xs k v = 0
  · omega
  · obtain ⟨i, hi, a, _, c⟩ := nmA_some k h
    have h1 := cntN_mono (xs := xs) (show i + 1 ≤ k by omega)
    simp only [cntN, a, if_true] at h1
    omega
theorem rnL_gv {xs : List Int} {s : Int} {n : Nat} (hg : gv xs s = true) (hl : xs.length = n) : gv (rnL xs n) s = true := by
  obtain ⟨h2, h4⟩ := gv_size hg
  refine okAll_gv (rnL_len _ _) (gv_n hg hl).2.2 h2 h4 (fun k hk => ?_)
  rw [rnL_nth hk]
  have hc := cntN_le (xs := xs) (k := k + 1) h2 h4 (fun i hi => gv_nth hg (by omega))
  have := nmA_le (xs := xs) (v := nth xs k) (k := k + 1)
  unfold rnG
  omega
end Go.Proofs.Ytgeedgljabdllaa
set_option maxRecDepth 8000
namespace Go.Proofs.Ytgeedgljabdllaa
open Go.ChangeShapes Go.WideShapes Go.ChangeAt Go.RowKit
/-! a slice of slices of ints of the call's own. -/
theorem sl_info : (Try.prog.info? 28).map (fun i => (i.zero, i.size, i.bytes)) = some (some (.slice none 0 0), 1, 24) := by kernel_rfl
abbrev GV := Value × List Int
theorem Ow.off {w w' : World} {lo : Nat} {A : Option Addr} {n c : Nat} {xs : List Int} {row : Option Nat} (h : Ow w lo A n c xs) (hg : w.grownBy w' row) (hne : ∀ g, (Value.slice A n c).ownBlock = some g → row ≠ some g) : Ow w' lo A n c xs := by
  refine World.ownsRow.kept h hg ?_
  cases e : (Value.slice A n c).ownBlock with
  | none => exact .inl rfl
  | some g => exact .inr (fun he => hne g e he.symm)
/-- the cells of each element lie in a block of its own. -/
def Gs (w : World) (lo : Nat) (v : Value) (d : List GV) : Prop :=
  w.ownsRow lo 28 1 v d.length (d.map Prod.fst) ∧ (∀ x ∈ d, (∃ A c, x.1 = .slice A x.2.length c ∧ Ow w lo A x.2.length c x.2) ∧ ∀ g, x.1.ownBlock = some g → v.ownBlock ≠ some g) ∧ d.Pairwise fun x y => ∀ g, x.1.ownBlock = some g → y.1.ownBlock ≠ some g
def gsC (d : List GV) : List (List Int) := d.map Prod.snd
def gat (Ls : List (List Int)) (k : Nat) : List Int := Ls.getD k []
theorem cnt_len (d : List GV) : (gsC d).length = d.length := by simp [gsC]
theorem gat_cnt {d : List GV} {k : Nat} (hk : k < d.length) : gat (gsC d) k = d[k].2 := by
  simp [gat, gsC, List.getD_eq_getElem?_getD, hk]
theorem Gs.below {w w' : World} {lo : Nat} {v : Value} {d : List GV} (h : Gs w lo v d) (hb : Below w.heap.size w w') : Gs w' lo v d := by
  refine ⟨World.ownsRow.kept h.1 (row := none) ⟨hb.os, hb.tape, hb.output, hb.size, fun k hk _ => hb.block k hk⟩ (by
    cases e : v.ownBlock
    · exact .inl rfl
    · exact .inr (by simp)), fun x hx => ?_, h.2.2⟩
  obtain ⟨⟨A, c, e, ho⟩, hs⟩ := h.2.1 x hx
  exact ⟨⟨A, c, e, ho.below hb⟩, hs⟩
theorem Gs.hi {w : World} {lo : Nat} {v : Value} {d : List GV} (h : Gs w lo v d) {x : GV} (hx : x ∈ d) : ∀ g, x.1.ownBlock = some g → g < w.heap.size := fun g hg => by
  obtain ⟨⟨A, c, e, ho⟩, _⟩ := h.2.1 x hx
  rw [e] at hg
  exact ho.own_hi g hg
theorem Gs.vhi {w : World} {lo : Nat} {v : Value} {d : List GV} (h : Gs w lo v d) : ∀ g, v.ownBlock = some g → g < w.heap.size := fun g hg => (World.ownsRow.lt h.1 g hg).2
theorem Gs.vlo {w : World} {lo : Nat} {v : Value} {d : List GV} (h : Gs w lo v d) : ∀ g, v.ownBlock = some g → lo ≤ g := fun g hg => (World.ownsRow.lt h.1 g hg).1
theorem Gs.mono {w : World} {lo lo' : Nat} {v : Value} {d : List GV} (h : Gs w lo v d) (hl : lo' ≤ lo) : Gs w lo' v d :=
  ⟨World.ownsRow.mono h.1 hl, fun x hx => by obtain ⟨⟨A, c, e, ho⟩, hs⟩ := h.2.1 x hx; exact ⟨⟨A, c, e, ho.mono hl⟩, hs⟩, h.2.2⟩
theorem Gs.at_ {w : World} {lo m cap : Nat} {A : Option Addr} {d : List GV} (h : Gs w lo (.slice A m cap) d) {k : Nat} (hk : k < d.length) :
    ∃ g A' c', A = some ⟨g, 0, none⟩ ∧ m = d.length ∧ lo ≤ g ∧ g < w.heap.size ∧ w.cell? ⟨g, k, none⟩ = some (.slice A' (gat (gsC d) k).length c') ∧ w.frozen? ⟨g, k, none⟩ = false ∧ Ow w lo A' (gat (gsC d) k).length c' (gat (gsC d) k) ∧ (∀ b, (Value.slice A' (gat (gsC d) k).length c').ownBlock = some b → b ≠ g) ∧ d[k].1 = .slice A' (gat (gsC d) k).length c' := by
  obtain ⟨g, cap', hv, h1, h2⟩ := World.ownsRow.form h.1 (by omega)
  injection hv with e1 e2 e3
  subst e1 e2 e3
  obtain ⟨⟨A', c', e, ho⟩, hs⟩ := h.2.1 d[k] (List.getElem_mem hk)
  rw [gat_cnt hk]
  refine ⟨g, A', c', rfl, rfl, h1, h2, ?_, World.ownsRow.frozenAt h.1 k, ho, fun b hb => ?_, e⟩
  · rw [World.ownsRow.cellAt h.1 k (by omega), List.getElem?_map, List.getElem?_eq_getElem hk]
    simp only [Option.map_some, e]
  · rw [← e] at hb
    have := hs b hb
    simp [Value.ownBlock] at this
    exact fun q => this q.symm
theorem Gs.nil_ {w : World} {lo : Nat} : Gs w lo (.slice none 0 0) [] := ⟨World.ownsRow_nil w lo _ _, fun x hx => by simp at hx, List.Pairwise.nil⟩
theorem Gs.made0 {w : World} {lo : Nat} (h : lo ≤ w.heap.size) : Gs (w.alloc (.cells #[] 28)) lo (.slice (some ⟨w.heap.size, 0, none⟩) 0 0) [] := ⟨World.ownsRow_made w #[] 0 h (by simp [maxLen]) rfl, fun x hx => by simp at hx, List.Pairwise.nil⟩
/-- one slice more, in a block of its own. -/
theorem Gs.push {w3 w5 : World} {lo lo3 : Nat} {v : Value} {d : List GV} {A3 : Option Addr} {c3 g' cap : Nat} {xs : List Int} (h : Gs w3 lo v d) (ho3 : Ow w3 lo3 A3 xs.length c3 xs) (hlo : lo ≤ lo3)
    (hsep : ∀ x ∈ d, ∀ g, x.1.ownBlock = some g → (Value.slice A3 xs.length c3).ownBlock ≠ some g) (hv : ∀ g, (Value.slice A3 xs.length c3).ownBlock = some g → v.ownBlock ≠ some g) {o : Obj}
    (h5 : w5.ownsRow lo 28 1 (.slice (some ⟨g', 0, none⟩) (d.length + 1) cap) (d.length + 1) (d.map Prod.fst ++ [.slice A3 xs.length c3])) (hg5 : (w3.alloc o).grownBy w5 v.ownBlock) (hl5 : v.ownBlock = some g' ∨ g' = (w3.alloc o).heap.size) :
    Gs w5 lo (.slice (some ⟨g', 0, none⟩) (d.length + 1) cap) (d ++ [(.slice A3 xs.length c3, xs)]) := by
  have hno : ∀ {lo2 : Nat} {A : Option Addr} {n c : Nat} {ys : List Int}, Ow w3 lo2 A n c ys → (∀ g, (Value.slice A n c).ownBlock = some g → v.ownBlock ≠ some g) → Ow w5 lo2 A n c ys := fun ho hne => Ow.off (World.ownsRow.alloc ho o) hg5 hne
  have hg' : (Value.slice (some ⟨g', 0, none⟩) (d.length + 1) cap).ownBlock = some g' := by simp [Value.ownBlock]
  have hfar : ∀ b, b < w3.heap.size → v.ownBlock ≠ some b → b ≠ g' := fun b hb hne e => by
    subst e
    rcases hl5 with q | q
    · exact hne q
    · rw [World.size_alloc] at q; omega
  refine ⟨by simpa using h5, fun x hx => ?_, ?_⟩
  · rw [List.mem_append] at hx
    rcases hx with hx | hx
    · obtain ⟨⟨A, c, e, ho⟩, hs⟩ := h.2.1 x hx
      refine ⟨⟨A, c, e, hno ho (fun g hg => hs g (by rw [e]; exact hg))⟩, fun g hg => ?_⟩
      rw [hg']
      intro q
      injection q with q
      exact hfar g (h.hi hx g hg) (hs g hg) q.symm
    · simp only [List.mem_singleton] at hx
      subst hx
      refine ⟨⟨A3, c3, rfl, (hno ho3 hv).mono hlo⟩, fun g hg => ?_⟩
      rw [hg']
      intro q
      injection q with q
      exact hfar g (ho3.own_hi g hg) (hv g hg) q.symm
  · rw [List.pairwise_append]
    exact ⟨h.2.2, List.pairwise_singleton _ _, fun x hx y hy g hg => by simp only [List.mem_singleton] at hy; subst hy; exact hsep x hx g hg⟩
/-- an element put into its place. -/
theorem Gs.put {w : World} {lo lo3 g m cap k : Nat} {d : List GV} {A3 : Option Addr} {c3 : Nat} {xs : List Int} (h : Gs w lo (.slice (some ⟨g, 0, none⟩) m cap) d) (hk : k < d.length) (ho3 : Ow w lo3 A3 xs.length c3 xs) (hlo : lo ≤ lo3)
    (hsep : ∀ x ∈ d, ∀ b, x.1.ownBlock = some b → (Value.slice A3 xs.length c3).ownBlock ≠ some b) (hv : ∀ b, (Value.slice A3 xs.length c3).ownBlock = some b → b ≠ g) :
    Gs (w.setCell ⟨g, k, none⟩ (.slice A3 xs.length c3)) lo (.slice (some ⟨g, 0, none⟩) m cap) (d.set k (.slice A3 xs.length c3, xs)) := by
  obtain ⟨g0, cap', hv0, _, _⟩ := World.ownsRow.form h.1 (by omega)
  injection hv0 with e1 e2 e3
  injection e1 with e1
  injection e1 with e1 _ _
  subst e1 e2 e3
  obtain ⟨h1, h2⟩ := World.ownsRow.stored h.1 k (.slice A3 xs.length c3)
  have hno : ∀ {lo2 : Nat} {A : Option Addr} {n c : Nat} {ys : List Int}, Ow w lo2 A n c ys → (∀ b, (Value.slice A n c).ownBlock = some b → b ≠ g) → Ow (w.setCell ⟨g, k, none⟩ (.slice A3 xs.length c3)) lo2 A n c ys := fun ho hne => Ow.off ho h2 (fun b hb e => hne b hb (by injection e with e; exact e.symm))
  have hg' : (Value.slice (some ⟨g, 0, none⟩) d.length cap).ownBlock = some g := by simp [Value.ownBlock]
  refine ⟨by rw [List.length_set, List.map_set]; exact h1, fun x hx => ?_, ?_⟩
  · rcases List.mem_or_eq_of_mem_set hx with hx | hx
    · obtain ⟨⟨A, c, e, ho⟩, hs⟩ := h.2.1 x hx
      refine ⟨⟨A, c, e, hno ho (fun b hb q => hs b (by rw [e]; exact hb) (by rw [hg', q]))⟩, hs⟩
    · subst hx
      exact ⟨⟨A3, c3, rfl, (hno ho3 hv).mono hlo⟩, fun b hb => by rw [hg']; intro q; injection q with q; exact hv b hb q.symm⟩
  · rw [List.pairwise_iff_getElem]
    have hp := List.pairwise_iff_getElem.1 h.2.2
    intro i j hi hj hij b hb
    rw [List.length_set] at hi hj
    rw [List.getElem_set] at hb ⊢
    by_cases e : k = i
    · rw [if_pos e] at hb
      rw [if_neg (by omega)]
      intro q
      exact hsep d[j] (List.getElem_mem hj) b q hb
    · rw [if_neg e] at hb
      by_cases e2 : k = j
      · rw [if_pos e2]
        exact hsep d[i] (List.getElem_mem hi) b hb
      · rw [if_neg e2]
        exact hp i j hi hj hij b hb
theorem cnt_set {d : List GV} {k : Nat} {x : GV} : gsC (d.set k x) = (gsC d).set k x.2 := by simp [gsC, List.map_set]
theorem gat_set {Ls : List (List Int)} {k j : Nat} {xs : List Int} (hk : k < Ls.length) : gat (Ls.set k xs) j = if j = k then xs else gat Ls j := by
  simp only [gat, List.getD_eq_getElem?_getD, List.getElem?_set]
  by_cases e : k = j
  · subst e; simp [hk]
  · rw [if_neg e, if_neg (fun q => e q.symm)]
/-- 'append(out, x)', x a slice that has been laid just ahead. -/
theorem push_sl {w : World} {ops : Array Oper} {rest : List Oper} {o : Oper} {a : Act} {Q : Exit → Act → World → Prop} (hgd : o.guard = none) (s x : Operand)
    (ho : o.op = .call { callee := .builtin .append, args := #[s, x], argTypes := #[23, 23] })
    (lo : Nat) (v : Value) (n : Nat) (vs : List Value) (g : Nat) (A : Option Addr) (m c : Nat) (hs : a.eval s = v) (hx : a.eval x = .slice (some ⟨g, 0, none⟩) 1 1)
    (hown : w.ownsRow lo 28 1 v n vs) (hrow : w.heap[g]? = some (.cells #[.slice A m c] 28)) (hn : n ≤ 1099511627776) (hlo : lo ≤ w.heap.size)
    (h : ∀ g' cap w', w'.ownsRow lo 28 1 (.slice (some ⟨g', 0, none⟩) (n + 1) cap) (n + 1) (vs ++ [.slice A m c]) → w.grownBy w' v.ownBlock → (v.ownBlock = some g' ∨ g' = w.heap.size) → wpList Try.prog ops Q rest (a.put o.dst (.slice (some ⟨g', 0, none⟩) (n + 1) cap)) w') :
    wpList Try.prog ops Q (o :: rest) a w := by
  refine wpList_plain hgd fun K hK => ?_
  obtain ⟨i0, hi, hz0, hz1, hz2⟩ := info_parts sl_info
  obtain ⟨g', cap, w', hrun, h1, h2, h3, h4⟩ := run_append_lies (P := Try.prog) w 23 o.type lo 28 i0 (.slice none 0 0) 1 24 Try.underlying23 hi hz0 hz1 hz2 rfl (by decide) v n vs hown ⟨g, 0, none⟩ 1 1 [.slice A m c] rfl (World.news_of_block (cs := #[.slice A m c]) hrow) (by simp [Value.oneCell']) (by decide) (by simp only [maxLen]; omega) (by omega) hlo _ rfl
  unfold Oper.wp
  simp [execOp, ho, resolve, invoke, builtin, hs, hx, hrun, Result.andThen]
  exact hK _ _ (h g' cap w' h1 h2 h3)
/-- 'append([]int{}, t...)', t whatever reads. -/
theorem push_copy {w : World} {ops : Array Oper} {rest : List Oper} {o : Oper} {a : Act} {Q : Exit → Act → World → Prop} (hgd : o.guard = none) (s x : Operand)
    (ho : o.op = .call { callee := .builtin .append, args := #[s, x], argTypes := #[28, 28] })
    (lo : Nat) (A : Option Addr) (A2 : Option Addr) (m c2 B : Nat) (ys : List Int) (hs : a.eval s = .slice A 0 0) (hx : a.eval x = .slice A2 m c2) (hown : Ow w lo A 0 0 []) (hr : Rd w B A2 m ys)
    (hm : m ≤ 1099511627776) (hlo : lo ≤ w.heap.size)
    (h : ∀ A' c' w', Ow w' lo A' m c' ys → w.grownBy w' (Value.slice A 0 0).ownBlock → wpList Try.prog ops Q rest (a.put o.dst (.slice A' m c')) w') :
    wpList Try.prog ops Q (o :: rest) a w := by
  refine wpList_plain hgd fun K hK => ?_
  obtain ⟨A', c', w', hrun, h1, h2, h3⟩ := run_push_all o.type lo A 0 0 [] A2 m c2 B ys hown hr (.inr rfl) (by omega) hm hlo
  rw [Nat.zero_add] at hrun h1
  rw [List.nil_append] at h1
  unfold Oper.wp
  simp [execOp, ho, resolve, invoke, builtin, hs, hx, hrun, Result.andThen]
  exact hK _ _ (h A' c' w' h1 h2)
/-- a slice of n ints of the call's own is handed back. -/
def RetN (w : World) (n : Nat) (xs : List Int) (e : Ending) (w' : World) : Prop := ∃ A c, e = .returned (.slice A n c) ∧ Ow w' w.heap.size A n c xs ∧ Below w.heap.size w w'
theorem retN_of {w w' : World} {n : Nat} {xs : List Int} {e : Ending} (h : RetSl w xs e w') (hl : xs.length = n) : RetN w n xs e w' := by
  obtain ⟨A, c, rfl, ho, hb⟩ := h
  rw [hl] at ho ⊢
  exact ⟨A, c, rfl, ho, hb⟩
def RetGs (w : World) (Ls : List (List Int)) (e : Ending) (w' : World) : Prop := ∃ A c d, e = .returned (.slice A Ls.length c) ∧ gsC d = Ls ∧ Gs w' w.heap.size (.slice A Ls.length c) d ∧ Below w.heap.size w w'
theorem retGs_mk {w w' : World} {A : Option Addr} {m c : Nat} {d : List GV} {Ls : List (List Int)} (hd : d.length = m) (hc : gsC d = Ls) (hG : Gs w' w.heap.size (.slice A m c) d) (hb : Below w.heap.size w w') : RetGs w Ls (.returned (.slice A m c)) w' := by
  have : Ls.length = m := by rw [← hc, cnt_len, hd]
  subst this
  exact ⟨A, c, d, rfl, hc, hG, hb⟩
/-- the forms of a grid. -/
def gfL (xs : List Int) (s : Int) (n : Nat) : List (List Int) := if gv xs s = true then (List.range 8).map (frm s n xs) else []
theorem gfL_f {xs : List Int} {s : Int} {n : Nat} (h : gv xs s = false) : gfL xs s n = [] := by simp [gfL, h]
theorem gfL_t {xs : List Int} {s : Int} {n : Nat} (h : gv xs s = true) : gfL xs s n = (List.range 8).map (frm s n xs) := by simp [gfL, h]
theorem gat_map {f : Nat → List Int} {m k : Nat} (h : k < m) : gat ((List.range m).map f) k = f k := by simp [gat, List.getD_eq_getElem?_getD, h]
end Go.Proofs.Ytgeedgljabdllaa
set_option maxRecDepth 8000
namespace Go.Proofs.Ytgeedgljabdllaa
open Go.ChangeShapes Go.WideShapes Go.ChangeAt Go.RowKit
theorem szIntS_any (A : Option Addr) (c n : Nat) (l : Int) (w : World) (hm : n ≤ 9223372036854775807) (h0 : 0 ≤ l) (h1 : l ≤ 1099511627776) :
    Calls Try.prog 98 #[.slice A n c, .int .i64 l] w fun e w' => e = .returned (.int .i64 (if (n : Int) ≤ l then l - n else -1)) ∧ w = w' := by
  have e1 : wrap64 (l - n) = l - n := IntWalk.wrap64_in _ ⟨by omega, by omega⟩
  by_cases hn : (n : Int) ≤ l
  · go_enter Try.func98, Try.ntmps98
    go_wp2
    go_ret
    exact ⟨rfl, rfl⟩
  · go_enter Try.func98, Try.ntmps98
    go_wp2
    go_ret
    exact ⟨rfl, rfl⟩
end Go.Proofs.Ytgeedgljabdllaa
set_option maxRecDepth 8000
namespace Go.Proofs.Ytgeedgljabdllaa
open Go.ChangeShapes Go.WideShapes Go.ChangeAt Go.RowKit
/-! slices of slices of numbers: counted, copied, compared. -/
/-- numbers of any kind that came in. -/
def Rdx (w : World) (B : Nat) (A : Option Addr) (n : Nat) (xs : List Int) : Prop := Rd w B A n xs ∧ n ≤ 9223372036854775807 ∧ B64 xs
abbrev Rrx (w : World) (B : Nat) (A : Option Addr) (n : Nat) (Ls : List (List Int)) : Prop := Rr Rdx w B A n Ls
theorem Rrx.below {w w' : World} {B : Nat} {A : Option Addr} {n : Nat} {Ls : List (List Int)} (h : Rrx w B A n Ls) (hb : Below B w w') : Rrx w' B A n Ls :=
  h.map (Nat.le_refl _) (fun b i hlt => hb.cell (p := ⟨b, i, none⟩) hlt) fun _ _ _ hr => ⟨hr.1.below hb, hr.2⟩
theorem Rrx.lns {w : World} {B : Nat} {A : Option Addr} {n : Nat} {Ls : List (List Int)} (h : Rrx w B A n Ls) (hn : n ≤ 1099511627776) (hs : ∀ k, k < n → (gtl Ls k).length ≤ 1099511627776) : Lns w B A n Ls :=
  ⟨h.map (Nat.le_refl _) (fun _ _ _ => rfl) fun _ _ _ hr => hr.1, hn, hs, fun k hk => by
    obtain ⟨_, _, _, _, _, _, _, hr⟩ := h.at_ hk
    exact hr.2.2⟩
theorem Gs.lns {w : World} {lo m cap : Nat} {A : Option Addr} {d : List GV} (h : Gs w lo (.slice A m cap) d) (hm : d.length = m) (hn : m ≤ 1099511627776) (hs : ∀ k, k < m → (gtl (gsC d) k).length ≤ 1099511627776) (hb : ∀ k, k < m → B64 (gtl (gsC d) k)) : Lns w w.heap.size A m (gsC d) := by
  refine ⟨⟨by rw [cnt_len, hm], fun h0 => ?_⟩, hn, hs, hb⟩
  obtain ⟨g, A', c', rfl, _, _, hg, _⟩ := h.at_ (show 0 < d.length by omega)
  refine ⟨g, 0, rfl, hg, fun k hk => ?_⟩
  obtain ⟨g1, A1, c1, e1, _, _, _, hc, _, ho, _⟩ := h.at_ (show k < d.length by omega)
  cases e1
  exact ⟨A1, c1, by rw [Nat.zero_add]; exact hc, ho.rd⟩
/-- one element put, in a block of its own. -/
theorem Gs.put13 {w w3 : World} {lo g m cap k c3 : Nat} {d : List GV} {A3 : Option Addr} {xs : List Int} (h : Gs w lo (.slice (some ⟨g, 0, none⟩) m cap) d) (hm : d.length = m) (hk : k < d.length) (hb : Below w.heap.size w w3) (ho : Ow w3 w.heap.size A3 xs.length c3 xs) :
    Gs (w3.setCell ⟨g, k, none⟩ (.slice A3 xs.length c3)) lo (.slice (some ⟨g, 0, none⟩) m cap) (d.set k (.slice A3 xs.length c3, xs)) := by
  subst hm
  obtain ⟨g', A', c', e, -, hlo, hgw, -⟩ := h.at_ hk
  cases e
  have h3 := h.below hb
  obtain ⟨hst, hgr⟩ := World.ownsRow.stored h3.1 k (.slice A3 xs.length c3)
  have hnew : ∀ b, (Value.slice A3 xs.length c3).ownBlock = some b → w.heap.size ≤ b := ho.own_lo
  have hvb : (Value.slice (some ⟨g, 0, none⟩) d.length cap).ownBlock = some g := rfl
  have hold : ∀ x ∈ d, ∀ b, x.1.ownBlock = some b → b < w.heap.size := fun x hx => h.hi hx
  refine ⟨by rw [List.length_set, List.map_set]; exact hst, fun x hx => ?_, ?_⟩
  · rcases List.mem_or_eq_of_mem_set hx with hx | rfl
    · obtain ⟨⟨A, c, e, hx1⟩, hx2⟩ := h3.2.1 x hx
      exact ⟨⟨A, c, e, hx1.off hgr (fun b hb2 q => hx2 b (by rw [e]; exact hb2) (by rw [hvb]; exact q))⟩, hx2⟩
    · refine ⟨⟨A3, c3, rfl, (ho.off hgr (fun b hb2 q => ?_)).mono (by omega)⟩, fun b hb2 q => ?_⟩
      · have := hnew b hb2
        injection q with q
        omega
      · have := hnew b hb2
        rw [hvb] at q
        injection q with q
        omega
  · rw [List.pairwise_iff_getElem]
    have hp := List.pairwise_iff_getElem.1 h.2.2
    intro i j hi hj hij b h1 h2
    rw [List.length_set] at hi hj
    rw [List.getElem_set] at h1 h2
    by_cases e1 : k = i
    · rw [if_pos e1] at h1
      rw [if_neg (by omega)] at h2
      have := hnew b h1
      have := hold _ (List.getElem_mem hj) b h2
      omega
    · rw [if_neg e1] at h1
      by_cases e2 : k = j
      · rw [if_pos e2] at h2
        have := hnew b h2
        have := hold _ (List.getElem_mem hi) b h1
        omega
      · rw [if_neg e2] at h2
        exact hp i j hi hj hij b h1 h2
theorem Gs.zeros {w : World} {lo m : Nat} {A : Option Addr} (h : w.ownsRow lo 28 1 (.slice A m m) m (List.replicate m (.slice none 0 0))) : Gs w lo (.slice A m m) (List.replicate m (.slice none 0 0, [])) := by
  refine ⟨by rw [List.length_replicate, List.map_replicate]; exact h, fun x hx => ?_, ?_⟩
  · obtain ⟨_, rfl⟩ := List.mem_replicate.1 hx
    exact ⟨⟨none, 0, rfl, Ow.nil_ _ _⟩, fun g hg => by simp [Value.ownBlock] at hg⟩
  · rw [List.pairwise_iff_getElem]
    intro i j hi hj hij b h1
    rw [List.getElem_replicate] at h1
    simp [Value.ownBlock] at h1
theorem gtl_set {d : List GV} {k : Nat} {v : Value} {xs : List Int} (hk : k < d.length) (j : Nat) : gtl (gsC (d.set k (v, xs))) j = if j = k then xs else gtl (gsC d) j := by
  unfold gtl gsC
  rw [List.map_set, List.getD_eq_getElem?_getD, List.getD_eq_getElem?_getD, List.getElem?_set]
  by_cases e : k = j
  · subst e; simp [hk]
  · rw [if_neg e, if_neg (fun q => e q.symm)]
theorem gsC_all {d : List GV} {Ls : List (List Int)} {m : Nat} (hd : d.length = m) (hl : Ls.length = m) (h : ∀ j, j < m → gtl (gsC d) j = gtl Ls j) : gsC d = Ls := by
  apply List.ext_getElem (by rw [cnt_len, hd, hl])
  intro i h1 h2
  have := h i (by omega)
  simpa [gtl, List.getD_eq_getElem?_getD, h1, h2] using this
set_option maxHeartbeats 1000000 in
theorem szIntSS_any (A : Option Addr) (c n B : Nat) (Ls : List (List Int)) (l : Int) (w : World) (h : Rrx w B A n Ls) (hB : B ≤ w.heap.size) (hm : n ≤ 9223372036854775807) (h0 : 0 ≤ l) (h1 : l ≤ 1099511627776) :
    Calls Try.prog 69 #[.slice A n c, .int .i64 l] w fun e w' => ∃ r : Int, e = .returned (.int .i64 r) ∧ Below w.heap.size w w' ∧ (r = -1 ∨ (0 ≤ r ∧ r ≤ l ∧ (n : Int) ≤ l ∧ ∀ i, i < n → ((gtl Ls i).length : Int) ≤ l)) := by
  have HR := Lib.hid (fun (w' : World) (hb : Below w.heap.size w w') => Rrx.below h (hb.mono hB))
  have e1 : wrap64 (l - n) = l - n := IntWalk.wrap64_in _ ⟨by omega, by omega⟩
  by_cases hn : (n : Int) ≤ l
  · have hq4 : ¬ l - (n : Int) < 0 := by omega
    have HQ := Lib.hid (show 0 ≤ l - (n : Int) ∧ l - (n : Int) ≤ l by omega)
    have HN := Lib.hid hn
    clear hn
    go_enter Try.func69, Try.ntmps69
    go_wp2
    go_loopw [1, 5] (fun lv i wr => ∃ (u : Nat) (q : Int), u ≤ n ∧ 0 ≤ q ∧ q ≤ l ∧ lv = .int .i64 q ∧ i = .int .i64 u ∧ Hid (∀ j, j < u → ((gtl Ls j).length : Int) ≤ l) ∧ Below w.heap.size w wr) (fun _ i _ => n - (intOf i).toNat)
    case atStart => exact ⟨0, _, Nat.zero_le _, HQ.out.1, HQ.out.2, rfl, rfl, Lib.hid (fun j hj => absurd hj (by omega)), Below.refl _ _⟩
    case round =>
      obtain ⟨u, q, hu, hq0', hq1', rfl, rfl, hall, hb⟩ := hrel
      by_cases hlt : u < n
      · obtain ⟨b, off, A', c', rfl, hbB, r1, r3⟩ := (HR.out _ hb).at_ hlt
        obtain ⟨rx, hrx⟩ : ∃ x, x = (gtl Ls u).length := ⟨_, rfl⟩
        rw [← hrx] at r1
        have r4 : rx ≤ 9223372036854775807 := by rw [hrx]; exact r3.2.1
        have HC := Lib.hid (szIntS_any A' c' rx q wr r4 hq0' (by omega))
        have hin : (u : Int) < (n : Int) := by omega
        clear r3
        by_cases hfit : (rx : Int) ≤ q
        · obtain ⟨q2, hq2⟩ : ∃ z, q - (rx : Int) = z := ⟨_, rfl⟩
          rw [if_pos hfit, hq2] at HC
          have hq5 : ¬ q2 < 0 := by omega
          have Hall2 := Lib.hid (show ∀ j, j < u + 1 → ((gtl Ls j).length : Int) ≤ l from fun j hj => by
            by_cases e : j = u
            · subst e; rw [← hrx]; omega
            · exact hall.out j (by omega))
          have HQ := Lib.hid (show 0 ≤ q2 ∧ q2 ≤ l by omega)
          clear hq2 hfit hrx
          go_wp2_with (go_at_call 98; refine HC.out.mono ?_; rintro e w4 ⟨rfl, rfl⟩)
          go_roundw
          case rel => exact ⟨u + 1, q2, by omega, HQ.out.1, HQ.out.2, rfl, by go_num, Hall2, hb⟩
          case measure => simp [intOf]; omega
        · rw [if_neg hfit] at HC
          clear hrx
          go_wp2_with (go_at_call 98; refine HC.out.mono ?_; rintro e w4 ⟨rfl, rfl⟩)
          go_ret
          exact ⟨-1, rfl, hb, .inl rfl⟩
      · obtain rfl : u = n := by omega
        go_wp2
        go_ret
        exact ⟨q, rfl, hb, .inr ⟨hq0', hq1', HN.out, hall.out⟩⟩
  · have hq4 : l - (n : Int) < 0 := by omega
    go_enter Try.func69, Try.ntmps69
    go_wp2
    go_ret
    exact ⟨-1, rfl, Below.refl _ _, .inl rfl⟩
set_option maxHeartbeats 1000000 in
theorem toIntSS_any (A : Option Addr) (c m B : Nat) (Ls : List (List Int)) (w : World) (h : Lns w B A m Ls) (hB : B ≤ w.heap.size) :
    Calls Try.prog 70 #[.slice A m c] w fun e w' => ∃ d, e = .returned (.slice (some ⟨w.heap.size, 0, none⟩) m m) ∧ Gs w' w.heap.size (.slice (some ⟨w.heap.size, 0, none⟩) m m) d ∧ d.length = m ∧ gsC d = Ls ∧ Below w.heap.size w w' := by
  obtain ⟨i0, hi, hz0, hz1, hz2⟩ := info_parts sl_info
  have hm := h.m
  have HR := Lib.hid (fun (w' : World) (hb : Below w.heap.size w w') => h.below (hb.mono hB))
  have HT := Lib.hid (fun (w' : World) (A' : Option Addr) (c' n : Nat) (xs : List Int) => toIntS_any A' c' n B xs w')
  have Hlen := Lib.hid h.len
  have Hms := Lib.hid h.ms
  clear h
  go_enter Try.func70, Try.ntmps70
  go_wp2_with (refine wpList_make_full _ rfl (.tmp 6) (.tmp 6) 23 rfl w.heap.size 28 i0 (.slice none 0 0) 1 Try.underlying23 hi hz0 hz1 .i64 .i64 m m m rfl rfl rfl rfl ?_ ?_ (Nat.le_refl _) ?_)
  · rw [hz2]; omega
  · simp only [maxLen]; omega
  · intro w1 hown hgr
    have hG1 : Gs w1 w.heap.size (.slice (some ⟨w.heap.size, 0, none⟩) m m) (List.replicate m (.slice none 0 0, [])) := Gs.zeros (by rw [← toList_madeCells_one]; exact hown)
    have hb1 : Below w.heap.size w w1 := (Below.refl _ _).grown hgr (Nat.le_refl _) (fun k hk => by cases hk)
    clear hown hgr
    go_wp2
    go_loopw [4] (fun i wr => ∃ (k : Nat) (d : List GV), k ≤ m ∧ i = .int .i64 k ∧ Hid (d.length = m) ∧ Hid (Gs wr w.heap.size (.slice (some ⟨w.heap.size, 0, none⟩) m m) d) ∧ Hid (∀ j, j < k → gtl (gsC d) j = gtl Ls j) ∧ Below w.heap.size w wr) (fun i _ => m - (intOf i).toNat)
    case atStart => exact ⟨0, _, Nat.zero_le _, rfl, Lib.hid (by simp), Lib.hid hG1, Lib.hid (fun j hj => absurd hj (by omega)), hb1⟩
    case round =>
      obtain ⟨k, d, hk, rfl, Hd, HG, Ha, hb⟩ := hrel
      by_cases hlt : k < m
      · obtain ⟨b, off, A', c', rfl, hbB, r1, r3⟩ := (HR.out _ hb).r.at_ hlt
        have hwB : B ≤ wr.heap.size := Nat.le_trans hB hb.size
        have HC := Lib.hid (HT.out wr A' c' _ _ r3 hwB (Hms.out k hlt))
        obtain ⟨q, hq⟩ : ∃ q, q = (gtl Ls k).length := ⟨_, rfl⟩
        rw [← hq] at r1 HC
        have Hq := Lib.hid hq
        have hG5 := HG.out
        obtain ⟨g', A5, c5, e5, -, hlo5, hgw5, -⟩ := HG.out.at_ (show k < d.length by rw [Hd.out]; exact hlt)
        have HP : Hid (∀ w3, Below wr.heap.size wr w3 → (∃ v, w3.cell? ⟨w.heap.size, k, none⟩ = some v) ∧ w3.frozen? ⟨w.heap.size, k, none⟩ = false) := Lib.hid fun w3 hb3 => by
          obtain ⟨g6, A6, c6, e6, -, -, -, hc6, hf6, -⟩ := (hG5.below hb3).at_ (show k < d.length by rw [Hd.out]; exact hlt)
          cases e6
          exact ⟨⟨_, hc6⟩, hf6⟩
        clear hq r3 hG5 e5
        go_wp2_with (go_at_call 99; refine HC.out.mono ?_; rintro e w3 ⟨rfl, ho3, hb3⟩; obtain ⟨⟨v3, hc3⟩, hf3⟩ := HP.out w3 hb3)
        have hG6 := HG.out.put13 Hd.out (show k < d.length by rw [Hd.out]; exact hlt) hb3 (A3 := some ⟨wr.heap.size, 0, none⟩) (c3 := q) (xs := gtl Ls k) (by rw [← Hq.out]; exact ho3)
        rw [← Hq.out] at hG6
        go_roundw
        case rel => exact ⟨k + 1, _, by omega, by go_num, Lib.hid (by rw [List.length_set, Hd.out]), Lib.hid hG6, Lib.hid (fun j hj => by
          rw [gtl_set (by rw [Hd.out]; exact hlt)]
          by_cases e : j = k
          · rw [if_pos e, e]
          · rw [if_neg e]; exact Ha.out j (by omega)), (step hb hb3).setCell (Nat.le_refl _) _⟩
        case measure => simp [intOf]; omega
      · obtain rfl : k = m := by omega
        go_wp2
        go_ret
        exact ⟨d, rfl, HG.out, Hd.out, gsC_all Hd.out Hlen.out Ha.out, hb⟩
/-- two that read the same. -/
theorem eqIntSS_rd (A A' : Option Addr) (c c' m B B' : Nat) (Ls : List (List Int)) (w : World) (h : Lns w B A m Ls) (h' : Lns w B' A' m Ls) (hB : B ≤ w.heap.size) (hB' : B' ≤ w.heap.size) :
    Calls Try.prog 41 #[.slice A m c, .slice A' m c'] w fun e w' => e = .returned (.bool true) ∧ Below w.heap.size w w' := by
  have hm := h.m
  have H1 := Lib.hid (fun (w' : World) (hb : Below w.heap.size w w') => h.below (hb.mono hB))
  have H2 := Lib.hid (fun (w' : World) (hb : Below w.heap.size w w') => h'.below (hb.mono hB'))
  have Hms := Lib.hid h.ms
  clear h h'
  go_enter Try.func41, Try.ntmps41
  go_wp2
  go_loopw [5] (fun i wr => ∃ k : Nat, k ≤ m ∧ i = .int .i64 k ∧ Below w.heap.size w wr) (fun i _ => m - (intOf i).toNat)
  case atStart => exact ⟨0, Nat.zero_le _, rfl, Below.refl _ _⟩
  case round =>
    obtain ⟨k, hk, rfl, hb⟩ := hrel
    by_cases hlt : k < m
    · have hltI : (k : Int) < (m : Int) := by omega
      obtain ⟨b, off, A3, c3, rfl, hbB, hck, ho3⟩ := (H1.out _ hb).r.at_ hlt
      obtain ⟨b', off', A4, c4, rfl, hbB', hck', ho4⟩ := (H2.out _ hb).r.at_ hlt
      have h16 := Hms.out k hlt
      obtain ⟨L, hL⟩ : ∃ L, gtl Ls k = L := ⟨_, rfl⟩
      rw [hL] at hck ho3 hck' ho4 h16
      have hs := same_refl L
      obtain ⟨q, hq⟩ : ∃ q, L.length = q := ⟨_, rfl⟩
      rw [hq] at hck ho3 hck' ho4 h16
      clear hL hq
      have O3 := Lib.hid ho3
      have O4 := Lib.hid ho4
      clear ho3 ho4
      go_wp2_with fail
      go_region_with (go_at_call 75; refine (eqIntS_any _ _ _ _ _ _ _ _ _ _ _ (O3.out.below (by first | exact Below.refl _ _ | exact (Below.refl _ _).drew)) (O4.out.below (by first | exact Below.refl _ _ | exact (Below.refl _ _).drew)) (by omega)).mono ?_; rintro e w3 ⟨rfl, hb3⟩; rw [hs])
      all_goals
        have hb3' := of_drew_below hb3
        go_wp2
        go_roundw
        case rel => exact ⟨k + 1, by omega, by go_num, step hb hb3'⟩
        case measure => simp [intOf]; omega
    · obtain rfl : k = m := by omega
      go_wp2
      go_ret
      exact ⟨rfl, hb⟩
end Go.Proofs.Ytgeedgljabdllaa
