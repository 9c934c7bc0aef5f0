import Derived.Test.YtjdhfknoldginaaOwn
import Derived.Test.YtjdhfknoldginaaFMin
import Derived.Test.YtjdhfknoldginaaC3
import Derived.Test.YtjdhfknoldginaaC3G
import Derived.Test.YtjdhfknoldginaaC1L
import Derived.Test.YtjdhfknoldginaaR4P
import Derived.Test.YtjdhfknoldginaaQ4S
import Derived.Test.YtjdhfknoldginaaDrawH
import Derived.Test.YtjdhfknoldginaaBase
set_option maxRecDepth 8000
namespace Go.Proofs.Ytjdhfknoldginaa
open Go.ChangeShapes Go.WideShapes Go.ChangeAt Go.RowKit

/-- what a cell may have at first. -/
def startC (gi : List Int) (s : Nat) (j : Nat) : Int := if 0 < nth gi j then 2 ^ (nth gi j).toNat else 2 ^ (s + 1) - 2
def startL (s : Int) (gi : List Int) (rs : List RuleM) (n : Nat) : List Int := if pvB s gi rs = true then mapTo (startC gi s.toNat) n else []
end Go.Proofs.Ytjdhfknoldginaa
set_option maxRecDepth 8000
namespace Go.Proofs.Ytjdhfknoldginaa
open Go.ChangeShapes Go.WideShapes Go.ChangeAt Go.RowKit

theorem Ow.putN {w : World} {lo g n c : Nat} {xs : List Int} (h : Ow w lo (some ⟨g, 0, none⟩) n c xs) (k : Nat) (v : Int) : Ow (w.setCell ⟨g, k, none⟩ (.int .i64 v)) lo (some ⟨g, 0, none⟩) n c (xs.set k v) := by
  have := (World.ownsRow.stored h k (.int .i64 v)).1
  rw [vals_set] at this
  exact this
/-- the cells that lie in a line with another. -/
def seesB (s k i : Nat) : Bool := (k != i) && (k / s == i / s || k % s == i % s)
def nsIn (m : List Int) (s i : Nat) (o : List Int) : Nat → List Int
  | 0 => o
  | k + 1 => if seesB s k i = true then (nsIn m s i o k).set k (bits .andNot .i64 (nth (nsIn m s i o k) k) (nth m i)) else nsIn m s i o k
def nsTo (m : List Int) (s n : Nat) : Nat → List Int
  | 0 => m
  | i + 1 => if (maskVals (nth m i)).length = 1 then nsIn m s i (nsTo m s n i) n else nsTo m s n i
def nsL (m : List Int) (s : Int) (n : Nat) : List Int := if mvd m s = true then nsTo m s.toNat n n else []
theorem nsIn_len (m : List Int) (s i : Nat) (o : List Int) (k : Nat) : (nsIn m s i o k).length = o.length := by
  induction k with
  | zero => rfl
  | succ k ih =>
    simp only [nsIn]
    split
    · rw [List.length_set, ih]
    · exact ih
theorem nsTo_len (m : List Int) (s n i : Nat) : (nsTo m s n i).length = m.length := by
  induction i with
  | zero => rfl
  | succ i ih =>
    simp only [nsTo]
    split
    · rw [nsIn_len, ih]
    · exact ih
end Go.Proofs.Ytjdhfknoldginaa
set_option maxRecDepth 8000
namespace Go.Proofs.Ytjdhfknoldginaa
open Go.ChangeShapes Go.WideShapes Go.ChangeAt Go.RowKit

/-- of a line's cells: has the k-th the value v; how many have, before the k-th; which is the last. -/
def hB (m : List Int) (S u : Int) (v k : Nat) : Bool := (nth m (lineAt S u k).toNat).toNat.testBit v
def hC (m : List Int) (S u : Int) (v : Nat) : Nat → Nat
  | 0 => 0
  | k + 1 => if hB m S u v k = true then hC m S u v k + 1 else hC m S u v k
def hL (m : List Int) (S u : Int) (v : Nat) : Nat → Nat
  | 0 => 0
  | k + 1 => if hB m S u v k = true then (lineAt S u k).toNat else hL m S u v k
def hVs (m : List Int) (S : Int) (N : Nat) (u : Int) (o : List Int) : Nat → List Int
  | 0 => o
  | r + 1 => if hC m S u (r + 1) N = 1 then (hVs m S N u o r).set (hL m S u (r + 1) N) (bits .and .i64 (nth (hVs m S N u o r) (hL m S u (r + 1) N)) (2 ^ (r + 1))) else hVs m S N u o r
def hU (m : List Int) (S : Int) (N : Nat) : Nat → List Int
  | 0 => m
  | u + 1 => hVs m S N u (hU m S N u) N
def nhL (m : List Int) (S : Int) : List Int := if mvd m S = true then hU m S S.toNat (2 * S.toNat) else []
theorem hC_le (m : List Int) (S u : Int) (v k : Nat) : hC m S u v k ≤ k := by
  induction k with
  | zero => exact Nat.le_refl _
  | succ k ih => simp only [hC]; split <;> omega
theorem hL_lt {m : List Int} {S u : Int} {v n k : Nat} (h : ∀ j, j < k → (lineAt S u j).toNat < n) (h0 : 0 < n) : hL m S u v k < n := by
  induction k with
  | zero => exact h0
  | succ k ih =>
    simp only [hL]
    split
    · exact h k (by omega)
    · exact ih (fun j hj => h j (by omega))
theorem hVs_len (m : List Int) (S : Int) (N : Nat) (u : Int) (o : List Int) (r : Nat) : (hVs m S N u o r).length = o.length := by
  induction r with
  | zero => rfl
  | succ r ih =>
    simp only [hVs]
    split
    · rw [List.length_set, ih]
    · exact ih
theorem hU_len (m : List Int) (S : Int) (N u : Nat) : (hU m S N u).length = m.length := by
  induction u with
  | zero => rfl
  | succ u ih => simp only [hU]; rw [hVs_len, ih]
theorem pow_wrap5 {r : Nat} (h : r < 4) : wrap64 ((2 : Int) ^ (r + 1)) = 2 ^ (r + 1) := by
  have : r = 0 ∨ r = 1 ∨ r = 2 ∨ r = 3 := by omega
  rcases this with rfl | rfl | rfl | rfl <;> exact IntWalk.wrap64_in _ ⟨by decide, by decide⟩
end Go.Proofs.Ytjdhfknoldginaa
namespace Go.Proofs.Ytjdhfknoldginaa
open Go.ChangeShapes Go.WideShapes Go.ChangeAt Go.RowKit

def lcN (S u : Int) (k : Nat) : Nat := (lineAt S u k).toNat
def pIn (m : List Int) (S u : Int) (a b : Nat) (o : List Int) : Nat → List Int
  | 0 => o
  | k + 1 => if k ≠ a ∧ k ≠ b then (pIn m S u a b o k).set (lcN S u k) (bits .andNot .i64 (nth (pIn m S u a b o k) (lcN S u k)) (nth m (lcN S u a))) else pIn m S u a b o k
def pB (m : List Int) (S : Int) (N : Nat) (u : Int) (a : Nat) (o : List Int) : Nat → List Int
  | 0 => o
  | b + 1 => if nth m (lcN S u a) = nth m (lcN S u b) ∧ (maskVals (nth m (lcN S u a))).length = 2 then pIn m S u a b (pB m S N u a o b) N else pB m S N u a o b
def pA (m : List Int) (S : Int) (N : Nat) (u : Int) (o : List Int) : Nat → List Int
  | 0 => o
  | a + 1 => pB m S N u a (pA m S N u o a) a
def pU (m : List Int) (S : Int) (N : Nat) : Nat → List Int
  | 0 => m
  | u + 1 => pA m S N u (pU m S N u) N
def npL (m : List Int) (S : Int) : List Int := if mvd m S = true then pU m S S.toNat (2 * S.toNat) else []
theorem pIn_len (m : List Int) (S u : Int) (a b : Nat) (o : List Int) (k : Nat) : (pIn m S u a b o k).length = o.length := by
  induction k with
  | zero => rfl
  | succ k ih =>
    simp only [pIn]
    split
    · rw [List.length_set, ih]
    · exact ih
theorem pB_len (m : List Int) (S : Int) (N : Nat) (u : Int) (a : Nat) (o : List Int) (b : Nat) : (pB m S N u a o b).length = o.length := by
  induction b with
  | zero => rfl
  | succ b ih =>
    simp only [pB]
    split
    · rw [pIn_len, ih]
    · exact ih
theorem pA_len (m : List Int) (S : Int) (N : Nat) (u : Int) (o : List Int) (a : Nat) : (pA m S N u o a).length = o.length := by
  induction a with
  | zero => rfl
  | succ a ih => simp only [pA]; rw [pB_len, ih]
theorem pU_len (m : List Int) (S : Int) (N u : Nat) : (pU m S N u).length = m.length := by
  induction u with
  | zero => rfl
  | succ u ih => simp only [pU]; rw [pA_len, ih]
end Go.Proofs.Ytjdhfknoldginaa
set_option maxRecDepth 8000
namespace Go.Proofs.Ytjdhfknoldginaa
open Go.ChangeShapes Go.WideShapes Go.ChangeAt Go.RowKit
/-! All ways to give cells values of their masks, as a list, in order. -/
def allW (ms : List Int) : Nat → List Int → List (List Int)
  | 0, vs => [vs]
  | d + 1, vs => (bitsTo (nth ms vs.length).toNat 4).flatMap fun x => allW ms d (vs ++ [x])
theorem bits_flat {β : Type} (M u : Nat) (f : Int → List β) : (bitsTo M (u + 1)).flatMap f = (bitsTo M u).flatMap f ++ (if M.testBit (u + 1) = true then f ((u : Int) + 1) else []) := by
  simp only [bitsTo, List.flatMap_append]
  split <;> simp
theorem bits_mem {M u : Nat} {y : Int} (h : y ∈ bitsTo M u) : 1 ≤ y ∧ y ≤ (u : Int) := by
  induction u with
  | zero => simp [bitsTo] at h
  | succ u ih =>
    simp only [bitsTo, List.mem_append] at h
    rcases h with h | h
    · have := ih h; omega
    · split at h
      · simp at h; omega
      · simp at h
theorem allW_len {ms : List Int} : ∀ {d : Nat} {vs ys : List Int}, ys ∈ allW ms d vs → ys.length = vs.length + d := by
  intro d
  induction d with
  | zero => intro vs ys h; simp [allW] at h; subst h; rfl
  | succ d ih =>
    intro vs ys h
    simp only [allW, List.mem_flatMap] at h
    obtain ⟨x, _, h⟩ := h
    have := ih h
    rw [List.length_append, List.length_singleton] at this
    omega
theorem allW_small {ms : List Int} : ∀ {d : Nat} {vs ys : List Int}, (∀ i, i < vs.length → 1 ≤ nth vs i ∧ nth vs i ≤ 4) → ys ∈ allW ms d vs → ∀ i, i < vs.length + d → 1 ≤ nth ys i ∧ nth ys i ≤ 4 := by
  intro d
  induction d with
  | zero => intro vs ys hv h; simp [allW] at h; subst h; simpa using hv
  | succ d ih =>
    intro vs ys hv h
    simp only [allW, List.mem_flatMap] at h
    obtain ⟨x, hx, h⟩ := h
    have hx' := bits_mem hx
    intro i hi
    refine ih (fun j hj => ?_) h i (by rw [List.length_append, List.length_singleton]; omega)
    rw [List.length_append, List.length_singleton] at hj
    rw [nth_push rfl]
    split
    · exact hv j (by assumption)
    · rw [if_pos (by omega)]; omega
theorem foldN_foldl (step : Int → List Nat → List Nat) (L : List Int) (F : List Nat) : ∀ t, t ≤ L.length → foldN step L t F = (L.take t).foldl (fun G x => step x G) F := by
  intro t
  induction t with
  | zero => intro _; simp [foldN]
  | succ t ih =>
    intro ht
    simp only [foldN]
    rw [ih (by omega), List.take_add_one, List.foldl_append, List.getElem?_eq_getElem (by omega)]
    simp [nth, List.getD_eq_getElem?_getD, List.getElem?_eq_getElem (show t < L.length by omega)]
def orWay (k v : Int) (G : List Nat) (ys : List Int) : List Nat := if holdsB k v ys = true then orTo ys G G.length else G
def orAll (G : List Nat) (ys : List Int) : List Nat := orTo ys G G.length
theorem waysF_fold (k v : Int) (xs ms pm : List Int) : ∀ d vs F, (∀ i, vs.length ≤ i → i < vs.length + d → maskVals (nth ms (nth xs i).toNat) = bitsTo (nth pm i).toNat 4) → waysF k v xs ms d vs F = (allW pm d vs).foldl (orWay k v) F := by
  intro d
  induction d with
  | zero => intro vs F _; rfl
  | succ d ih =>
    intro vs F h
    simp only [waysF, allW]
    rw [h vs.length (Nat.le_refl _) (by omega), foldN_foldl _ _ _ _ (Nat.le_refl _), List.take_length, List.foldl_flatMap]
    congr 1
    funext G x
    refine ih _ _ fun i h1 h2 => h i ?_ ?_
    · rw [List.length_append, List.length_singleton] at h1; omega
    · rw [List.length_append, List.length_singleton] at h2; omega
theorem fold_filter (k v : Int) (L : List (List Int)) (F : List Nat) : L.foldl (orWay k v) F = (L.filter (holdsB k v)).foldl orAll F := by
  rw [List.foldl_filter]
  rfl
theorem orAll_length (G : List Nat) (ys : List Int) : (orAll G ys).length = G.length := orTo_length _ _ _
theorem orAll_lt {n : Nat} {G : List Nat} {ys : List Int} (h : lt32 G) (hl : G.length = n) (hv : small4 ys n) : lt32 (orAll G ys) := orTo_lt h hl hv
theorem foldAll_inv {n : Nat} : ∀ (L : List (List Int)) (G : List Nat), (∀ ys ∈ L, small4 ys n) → G.length = n → lt32 G → (L.foldl orAll G).length = n ∧ lt32 (L.foldl orAll G) := by
  intro L
  induction L with
  | nil => intro G _ h1 h2; exact ⟨h1, h2⟩
  | cons y L ih =>
    intro G hs h1 h2
    exact ih _ (fun z hz => hs z (List.mem_cons_of_mem _ hz)) (by rw [orAll_length, h1]) (orAll_lt h2 h1 (hs y (List.mem_cons_self ..)))
theorem foldAll_pos : ∀ (L : List (List Int)) (G : List Nat), 0 < G.length → G.getD 0 0 ≠ 0 → (L.foldl orAll G).getD 0 0 ≠ 0 := by
  intro L
  induction L with
  | nil => intro G _ h; exact h
  | cons y L ih =>
    intro G hl h
    refine ih _ (by rw [orAll_length]; exact hl) ?_
    unfold orAll
    rw [orTo_get hl, if_pos hl]
    intro e
    exact h (Nat.or_eq_zero_iff.1 e).1
theorem foldAll_zero (L : List (List Int)) (n : Nat) (hn : 0 < n) : (nth (nats (L.foldl orAll (zerosN n))) 0 != 0) = !L.isEmpty := by
  rw [nats_nth]
  cases L with
  | nil => simp [zerosN, List.getD_eq_getElem?_getD, hn]
  | cons y L =>
    have hz : 0 < (zerosN n).length := by simp [zerosN]; exact hn
    have h1 : (orAll (zerosN n) y).getD 0 0 ≠ 0 := by
      unfold orAll
      rw [orTo_get hz, if_pos hz]
      intro e
      have := (Nat.or_eq_zero_iff.1 e).2
      exact absurd this (by have := Nat.two_pow_pos (nth y 0).toNat; omega)
    have := foldAll_pos L _ (by rw [orAll_length]; exact hz) h1
    simp only [List.foldl_cons, List.isEmpty_cons, Bool.not_false, bne_iff_ne, ne_eq]
    omega
end Go.Proofs.Ytjdhfknoldginaa
set_option maxRecDepth 8000
namespace Go.Proofs.Ytjdhfknoldginaa
open Go.ChangeShapes Go.WideShapes Go.ChangeAt Go.RowKit
/-! What a rule leaves to its cells, by the list of all ways. -/
theorem maskVals_ok {m : Int} (h0 : 0 ≤ m) (h1 : m ≤ 30) (h2 : m.tmod 2 = 0) : maskVals m = bitsTo m.toNat 4 := by
  unfold maskVals
  rw [if_pos (by simp only [mvOk, inr, Bool.and_eq_true, decide_eq_true_eq, beq_iff_eq]; exact ⟨⟨h0, h1⟩, h2⟩)]
def waysN (k v : Int) (pm : List Int) (n : Nat) : List (List Int) := (allW pm n []).filter (holdsB k v)
theorem rm_ways {k v s : Int} {xs ms : List Int} {n : Nat} (hl : xs.length = n) (hv : rv k xs v s = true) (hm : mvd ms s = true) :
    rmL k xs v ms s = nats ((waysN k v (pks ms xs n) n).foldl orAll (zerosN n)) := by
  subst hl
  obtain ⟨hs, _, _, hx⟩ := rv_facts rfl hv
  obtain ⟨_, hml, _, hmk⟩ := mvd_at hm
  unfold rmL rmN waysN
  rw [hv, hm, Bool.true_and, if_pos rfl, waysF_fold k v xs ms (pks ms xs xs.length) _ _ _ (fun i h1 h2 => ?_), fold_filter]
  have hi : i < xs.length := by simpa using h2
  obtain ⟨a, b⟩ := hx i hi
  obtain ⟨m0, m1, m2⟩ := hmk (nth xs i).toNat (by omega)
  rw [pks_nth hi]
  exact maskVals_ok m0 m1 m2
theorem em_pks {g xs : List Int} {s : Int} {n : Nat} (hx : ∀ i, i < n → (nth xs i).toNat < g.length) : pks (emL g s) xs n = emL (pks g xs n) s := by
  apply ext_nth (by rw [pks_length]; unfold emL; rw [mapTo_length, pks_length])
  intro i hi
  rw [pks_length] at hi
  rw [pks_nth hi]
  unfold emL
  rw [mapTo_nth (hx i hi), mapTo_nth (by rw [pks_length]; exact hi)]
  unfold emG emN
  rw [pks_nth hi]
theorem rp_ways {k v : Int} {s : Nat} {xs g : List Int} {n : Nat} (hl : xs.length = n) (hv : rv k xs v s = true) (hg : gv g s = true) (hs : s ∈ [2, 3, 4]) :
    rpB k xs v g s = !((allW (emL (pks g xs n) s) n []).filter (holdsB k v)).isEmpty := by
  obtain ⟨_, ⟨hn1, hn4⟩, _, _⟩ := rv_facts hl hv
  obtain ⟨_, hin⟩ := pks_small hl hv hg
  unfold rpB
  rw [hv, hg, Bool.true_and, Bool.true_and, rm_ways hl hv (emL_valid hs hg), foldAll_zero _ _ (by omega), em_pks (fun i hi => by have := hin i hi; omega)]
  rfl
end Go.Proofs.Ytjdhfknoldginaa
set_option maxRecDepth 8000
namespace Go.Proofs.Ytjdhfknoldginaa
open Go.ChangeShapes Go.WideShapes Go.ChangeAt Go.RowKit
/-! A rule that can hold can hold with fewer values known; with all values known it can hold exactly if it holds. -/
theorem bits_iff {M u : Nat} {y : Int} : y ∈ bitsTo M u ↔ ∃ t : Nat, y = (t : Int) ∧ 1 ≤ t ∧ t ≤ u ∧ M.testBit t = true := by
  induction u with
  | zero => simp [bitsTo]; intro t _ h1 h2; omega
  | succ u ih =>
    simp only [bitsTo, List.mem_append, ih]
    constructor
    · rintro (⟨t, h1, h2, h3, h4⟩ | h)
      · exact ⟨t, h1, h2, by omega, h4⟩
      · split at h
        · next hb => exact ⟨u + 1, by simpa using h, by omega, Nat.le_refl _, hb⟩
        · cases h
    · rintro ⟨t, h1, h2, h3, h4⟩
      by_cases e : t = u + 1
      · subst e; right; rw [if_pos h4]; simpa using h1
      · left; exact ⟨t, h1, h2, by omega, h4⟩
theorem allW_mono {ms ms' : List Int} : ∀ (d : Nat) (vs ys : List Int), (∀ i, vs.length ≤ i → i < vs.length + d → ∀ t, 1 ≤ t → t ≤ 4 → (nth ms i).toNat.testBit t = true → (nth ms' i).toNat.testBit t = true) → ys ∈ allW ms d vs → ys ∈ allW ms' d vs := by
  intro d
  induction d with
  | zero => intro vs ys _ h; exact h
  | succ d ih =>
    intro vs ys hb h
    simp only [allW, List.mem_flatMap] at h ⊢
    obtain ⟨x, hx, h⟩ := h
    obtain ⟨t, rfl, t1, t2, t3⟩ := bits_iff.1 hx
    refine ⟨(t : Int), bits_iff.2 ⟨t, rfl, t1, t2, hb _ (Nat.le_refl _) (by omega) t t1 t2 t3⟩, ih _ _ (fun i h1 h2 => ?_) h⟩
    rw [List.length_append, List.length_singleton] at h1 h2
    exact hb i (by omega) (by omega)
theorem em_bits : ∀ s ∈ [2, 3, 4], ∀ v, v < 5 → v ≤ s → ∀ t, t < 5 → 1 ≤ t → (2 ^ v).testBit t = true → (2 ^ (s + 1) - 2).testBit t = true := by decide
theorem emL_nth {g : List Int} {s : Nat} {i : Nat} (h : i < g.length) : (nth (emL g s) i).toNat = emN g s i := by
  unfold emL
  rw [mapTo_nth h]
  simp [emG]
theorem rp_mono {k v : Int} {s : Nat} {xs g g' : List Int} (hv : rv k xs v s = true) (hg : gv g s = true) (hg' : gv g' s = true) (hs : s ∈ [2, 3, 4]) (h : ∀ i, i < g.length → nth g' i = nth g i ∨ nth g' i = 0) (hp : rpB k xs v g s = true) : rpB k xs v g' s = true := by
  obtain ⟨_, _, _, hx⟩ := rv_facts rfl hv
  have hl := gv_len hg
  have hl' := gv_len hg'
  rw [rp_ways rfl hv hg hs] at hp
  rw [rp_ways rfl hv hg' hs]
  simp only [Bool.not_eq_true', List.isEmpty_eq_false_iff_exists_mem, List.mem_filter] at hp ⊢
  obtain ⟨ys, hy, hh⟩ := hp
  refine ⟨ys, allW_mono _ _ _ (fun i _ hi t t1 t4 hb => ?_) hy, hh⟩
  have hi' : i < xs.length := by simpa using hi
  rw [emL_nth (by rw [pks_length]; exact hi')] at hb ⊢
  obtain ⟨x0, x1⟩ := hx i hi'
  have hlt : (nth xs i).toNat < g.length := by omega
  unfold emN at hb ⊢
  rw [pks_nth hi'] at hb ⊢
  obtain ⟨v0, v4⟩ := gv_nth hg hlt
  have h24 := gv_size hg
  rcases h _ hlt with e | e
  · rw [e]; exact hb
  · rw [if_pos e]
    split at hb
    · exact hb
    · exact em_bits s hs _ (by omega) (by omega) t (by omega) t1 hb
theorem gv_put {g : List Int} {s : Int} (hg : gv g s = true) (c : Nat) : gv (g.set c 0) s = true := by
  obtain ⟨h2, h4⟩ := gv_size hg
  have hl := gv_len hg
  have h1 : inr s 2 4 = true := by simp [inr]; omega
  have h3 : (g.set c 0).all (fun x => inr x 0 s) = true := by
    refine okTo_all (n := g.length) (fun j hj => ?_) (by simp)
    by_cases e : j = c
    · subst e; rw [show nth (g.set j 0) j = 0 by simp [nth, List.getD_eq_getElem?_getD, hj]]; simp [inr]; omega
    · rw [show nth (g.set c 0) j = nth g j by simp [nth, List.getD_eq_getElem?_getD, List.getElem?_set_ne (fun e' => e e'.symm)]]
      have := gv_nth hg hj
      simp [inr]; omega
  simp [gv, h1, h3, hl]
theorem gv_zeros {g : List Int} {s : Int} (hg : gv g s = true) : gv (zeros g.length) s = true := by
  obtain ⟨h2, h4⟩ := gv_size hg
  have hl := gv_len hg
  have h1 : inr s 2 4 = true := by simp [inr]; omega
  have h3 : (zeros g.length).all (fun x => inr x 0 s) = true := by
    simp only [zeros, List.all_eq_true, List.mem_replicate]
    rintro x ⟨_, rfl⟩
    simp [inr]; omega
  have h5 : (zeros g.length).length = g.length := by simp [zeros]
  simp [gv, h1, h3, h5, hl]
theorem rp_less {k v s : Int} {xs g : List Int} (hv : rv k xs v s = true) (hg : gv g s = true) (hp : rpB k xs v g s = true) (c : Nat) : rpB k xs v (g.set c 0) s = true ∧ rpB k xs v (zeros g.length) s = true := by
  obtain ⟨h2, h4⟩ := gv_size hg
  obtain ⟨t, rfl⟩ := Int.eq_ofNat_of_zero_le (by omega : 0 ≤ s)
  have hs : t ∈ [2, 3, 4] := by simp; omega
  refine ⟨rp_mono hv hg (gv_put hg c) hs (fun i hi => ?_) hp, rp_mono hv hg (gv_zeros hg) hs (fun i hi => .inr ?_) hp⟩
  · by_cases e : i = c
    · subst e; right; simp [nth, List.getD_eq_getElem?_getD, hi]
    · left; simp [nth, List.getD_eq_getElem?_getD, List.getElem?_set_ne (fun e' => e e'.symm)]
  · simp [nth, zeros, List.getD_eq_getElem?_getD, hi]
/-- all cells of the rule have values: it can hold exactly if it holds. -/
theorem allW_one {ms zs : List Int} : ∀ (d : Nat) (vs : List Int), zs.length = vs.length + d → (∀ i, i < vs.length → nth vs i = nth zs i) → (∀ i, vs.length ≤ i → i < vs.length + d → bitsTo (nth ms i).toNat 4 = [nth zs i]) → allW ms d vs = [zs] := by
  intro d
  induction d with
  | zero =>
    intro vs hl hv _
    have : vs = zs := ext_nth (by omega) (fun i hi => hv i hi)
    simp [allW, this]
  | succ d ih =>
    intro vs hl hv hb
    simp only [allW]
    rw [hb _ (Nat.le_refl _) (by omega)]
    simp only [List.flatMap_cons, List.flatMap_nil, List.append_nil]
    refine ih _ (by simp; omega) (fun i hi => ?_) (fun i h1 h2 => ?_)
    · rw [List.length_append, List.length_singleton] at hi
      rw [nth_push rfl]
      split
      · exact hv i (by assumption)
      · obtain rfl : i = vs.length := by omega
        rw [if_pos rfl]
    · rw [List.length_append, List.length_singleton] at h1 h2
      exact hb i (by omega) (by omega)
theorem bits_pow : ∀ v : Nat, v < 5 → 1 ≤ v → bitsTo (2 ^ v) 4 = [(v : Int)] := by decide
theorem rp_full {k v s : Int} {xs g : List Int} (hv : rv k xs v s = true) (hg : gv g s = true) (hf : ∀ i, i < xs.length → nth (pks g xs xs.length) i ≠ 0) : rpB k xs v g s = holdsB k v (pks g xs xs.length) := by
  obtain ⟨h2, h4⟩ := gv_size hg
  obtain ⟨t, rfl⟩ := Int.eq_ofNat_of_zero_le (by omega : 0 ≤ s)
  have hs : t ∈ [2, 3, 4] := by simp; omega
  obtain ⟨hsm, _⟩ := pks_small rfl hv hg
  rw [rp_ways rfl hv hg hs]
  have : allW (emL (pks g xs xs.length) t) xs.length [] = [pks g xs xs.length] := by
    refine allW_one _ _ (by simp [pks_length]) (fun i hi => absurd hi (by simp)) (fun i _ hi => ?_)
    have hi' : i < xs.length := by simpa using hi
    rw [emL_nth (by rw [pks_length]; exact hi')]
    unfold emN
    rw [if_neg (hf i hi')]
    have := hsm i hi'
    have hne := hf i hi'
    rw [bits_pow _ (by omega) (by omega)]
    congr 1
    omega
  rw [this]
  cases hh : holdsB k v (pks g xs xs.length) <;> simp [hh]
theorem mem_ne {zs : List Int} {n : Nat} (h : memTo zs 0 n = false) : ∀ i, i < n → nth zs i ≠ 0 := fun i hi e => by rw [memTo_hit hi e] at h; cases h
theorem rh_rp {k v s : Int} {xs g : List Int} (h : rhB k xs v g s = true) : rpB k xs v g s = true := by
  unfold rhB at h
  simp only [Bool.and_eq_true, Bool.not_eq_true'] at h
  obtain ⟨⟨⟨hv, hg⟩, hm⟩, hh⟩ := h
  rw [rp_full hv hg (mem_ne hm)]
  exact hh
theorem cnz_all {xs : List Int} : ∀ {n : Nat}, cnz xs n = n → ∀ k, k < n → nth xs k ≠ 0 := by
  intro n
  induction n with
  | zero => intro _ k hk; omega
  | succ n ih =>
    intro h k hk
    simp only [cnz] at h
    have hle := cnz_le xs n
    split at h
    · omega
    · next hz =>
      by_cases e : k = n
      · subst e; exact hz
      · exact ih (by omega) k (by omega)
theorem rh_full {k v s : Int} {xs g : List Int} (hv : rv k xs v s = true) (hg : gv g s = true) (hf : cnz g g.length = g.length) : rhB k xs v g s = rpB k xs v g s := by
  obtain ⟨_, _, _, hx⟩ := rv_facts rfl hv
  have hl := gv_len hg
  have hall := cnz_all hf
  have hne : ∀ i, i < xs.length → nth (pks g xs xs.length) i ≠ 0 := fun i hi => by
    rw [pks_nth hi]
    obtain ⟨a, b⟩ := hx i hi
    exact hall _ (by omega)
  have hm : memTo (pks g xs xs.length) 0 xs.length = false := by
    cases e : memTo (pks g xs xs.length) 0 xs.length
    · rfl
    · exfalso
      have : ∀ n, n ≤ xs.length → memTo (pks g xs xs.length) 0 n = false := by
        intro n
        induction n with
        | zero => intro _; rfl
        | succ n ih => intro hn; simp only [memTo, Bool.or_eq_false_iff, beq_eq_false_iff_ne]; exact ⟨ih (by omega), hne n (by omega)⟩
      rw [this _ (Nat.le_refl _)] at e; cases e
  rw [rp_full hv hg hne]
  unfold rhB
  rw [hv, hg, hm]
  simp
end Go.Proofs.Ytjdhfknoldginaa
set_option maxRecDepth 8000
namespace Go.Proofs.Ytjdhfknoldginaa
open Go.ChangeShapes Go.WideShapes Go.ChangeAt Go.RowKit
/-! masks within others: every technique keeps within. -/
def Sub (a b : List Int) : Prop := a.length = b.length ∧ ∀ k, k < b.length → 0 ≤ nth a k ∧ nth a k ≤ nth b k ∧ (nth a k).tmod 2 = 0
theorem mvd_nth {m : List Int} {s : Int} (h : mvd m s = true) (i : Nat) : 0 ≤ nth m i ∧ nth m i ≤ 30 ∧ (nth m i).tmod 2 = 0 := by
  by_cases hi : i < m.length
  · exact (mvd_at h).2.2.2 i hi
  · have : nth m i = 0 := by simp [nth, List.getD_eq_getElem?_getD, List.getElem?_eq_none (by omega : m.length ≤ i)]
    rw [this]; decide
theorem Sub.of_mvd {m : List Int} {s : Int} (h : mvd m s = true) : Sub m m := ⟨rfl, fun k _ => ⟨(mvd_nth h k).1, Int.le_refl _, (mvd_nth h k).2.2⟩⟩
theorem Sub.trans {a b c : List Int} (h : Sub a b) (h' : Sub b c) : Sub a c :=
  ⟨h.1.trans h'.1, fun k hk => by
    obtain ⟨x1, x2, x3⟩ := h.2 k (by rw [h'.1]; exact hk)
    obtain ⟨_, y2, _⟩ := h'.2 k hk
    exact ⟨x1, by omega, x3⟩⟩
theorem Sub.put {o b : List Int} (h : Sub o b) {k : Nat} {v : Int} (hv : k < b.length → 0 ≤ v ∧ v ≤ nth b k ∧ v.tmod 2 = 0) : Sub (o.set k v) b := by
  refine ⟨by rw [List.length_set]; exact h.1, fun j hj => ?_⟩
  by_cases e : k = j
  · subst e
    rw [nth_set (by rw [h.1]; exact hj), if_pos rfl]
    exact hv hj
  · have : nth (o.set k v) j = nth o j := by simp only [nth, List.getD_eq_getElem?_getD, List.getElem?_set]; rw [if_neg e]
    rw [this]; exact h.2 j hj
theorem Sub.mvd_ {a b : List Int} {s : Int} (h : Sub a b) (hb : mvd b s = true) : mvd a s = true := by
  simp only [mvd, Bool.and_eq_true, beq_iff_eq] at hb ⊢
  refine ⟨⟨hb.1.1, by rw [h.1]; exact hb.1.2⟩, allTo_all (n := a.length) (fun k hk => ?_) rfl⟩
  have hkb : k < b.length := by rw [← h.1]; exact hk
  obtain ⟨x1, x2, x3⟩ := h.2 k hkb
  have := List.all_eq_true.1 hb.2 b[k] (List.getElem_mem hkb)
  simp only [mkOk, Bool.and_eq_true, beq_iff_eq] at this ⊢
  obtain ⟨y1, y2⟩ := inr_t this.1
  have e : nth b k = b[k] := by simp [nth, List.getD_eq_getElem?_getD, hkb]
  exact ⟨by simp only [inr, decide_eq_true_eq]; omega, x3⟩
theorem an_key : ∀ x, x < 32 → ∀ y, y < 32 → (0 ≤ bits .andNot .i64 (x : Nat) (y : Nat) ∧ bits .andNot .i64 (x : Nat) (y : Nat) ≤ (x : Nat) ∧ (x % 2 = 0 → (bits .andNot .i64 (x : Nat) (y : Nat)).tmod 2 = 0)) := by decide +kernel
theorem an_sub {x y : Int} (hx : 0 ≤ x ∧ x ≤ 30 ∧ x.tmod 2 = 0) (hy : 0 ≤ y ∧ y ≤ 30) : 0 ≤ bits .andNot .i64 x y ∧ bits .andNot .i64 x y ≤ x ∧ (bits .andNot .i64 x y).tmod 2 = 0 := by
  obtain ⟨a, rfl⟩ := Int.eq_ofNat_of_zero_le hx.1
  obtain ⟨b, rfl⟩ := Int.eq_ofNat_of_zero_le hy.1
  obtain ⟨q1, q2, q3⟩ := an_key a (by omega) b (by omega)
  exact ⟨q1, q2, q3 (by have := hx.2.2; rw [Int.tmod_eq_emod_of_nonneg (by omega)] at this; omega)⟩
theorem ad_key : ∀ x, x < 32 → ∀ v, v < 5 → (0 ≤ bits .and .i64 (x : Nat) (2 ^ v) ∧ bits .and .i64 (x : Nat) (2 ^ v) ≤ (x : Nat) ∧ (x % 2 = 0 → (bits .and .i64 (x : Nat) (2 ^ v)).tmod 2 = 0)) := by decide +kernel
theorem ad_sub {x : Int} {v : Nat} (hx : 0 ≤ x ∧ x ≤ 30 ∧ x.tmod 2 = 0) (hv : v ≤ 4) : 0 ≤ bits .and .i64 x (2 ^ v) ∧ bits .and .i64 x (2 ^ v) ≤ x ∧ (bits .and .i64 x (2 ^ v)).tmod 2 = 0 := by
  obtain ⟨a, rfl⟩ := Int.eq_ofNat_of_zero_le hx.1
  obtain ⟨q1, q2, q3⟩ := ad_key a (by omega) v (by omega)
  exact ⟨q1, q2, q3 (by have := hx.2.2; rw [Int.tmod_eq_emod_of_nonneg (by omega)] at this; omega)⟩
/-- of a part of valid masks, an element. -/
theorem Sub.at_ {o m : List Int} {s : Int} (h : Sub o m) (hm : mvd m s = true) {k : Nat} (hk : k < m.length) : (0 ≤ nth o k ∧ nth o k ≤ 30 ∧ (nth o k).tmod 2 = 0) ∧ nth o k ≤ nth m k := by
  obtain ⟨x1, x2, x3⟩ := h.2 k hk
  have := mvd_nth hm k
  exact ⟨⟨x1, by omega, x3⟩, x2⟩
theorem Sub.anput {o m : List Int} {s y : Int} (h : Sub o m) (hm : mvd m s = true) (hy : 0 ≤ y ∧ y ≤ 30) (k : Nat) : Sub (o.set k (bits .andNot .i64 (nth o k) y)) m :=
  h.put fun hk => by
    obtain ⟨h1, h2⟩ := h.at_ hm hk
    obtain ⟨q1, q2, q3⟩ := an_sub h1 hy
    exact ⟨q1, by omega, q3⟩
theorem nsIn_sub {m o : List Int} {s : Int} {S i : Nat} (hm : mvd m s = true) (h : Sub o m) (k : Nat) : Sub (nsIn m S i o k) m := by
  induction k with
  | zero => exact h
  | succ k ih =>
    simp only [nsIn]
    split
    · exact ih.anput hm ⟨(mvd_nth hm i).1, (mvd_nth hm i).2.1⟩ k
    · exact ih
theorem nsTo_sub {m : List Int} {s : Int} {S n : Nat} (hm : mvd m s = true) (i : Nat) : Sub (nsTo m S n i) m := by
  induction i with
  | zero => exact Sub.of_mvd hm
  | succ i ih =>
    simp only [nsTo]
    split
    · exact nsIn_sub hm ih n
    · exact ih
theorem ns_sub {m : List Int} {s : Int} (hm : mvd m s = true) (n : Nat) : Sub (nsL m s n) m := by
  unfold nsL; rw [if_pos hm]; exact nsTo_sub hm n
theorem hVs_sub {m o : List Int} {s S : Int} {N : Nat} {u : Int} (hm : mvd m s = true) (h : Sub o m) (r : Nat) (hr : r ≤ 4) : Sub (hVs m S N u o r) m := by
  induction r with
  | zero => exact h
  | succ r ih =>
    have ih := ih (by omega)
    simp only [hVs]
    split
    · exact ih.put fun hk => by
        obtain ⟨h1, h2⟩ := ih.at_ hm hk
        obtain ⟨q1, q2, q3⟩ := ad_sub (v := r + 1) h1 (by omega)
        exact ⟨q1, by omega, q3⟩
    · exact ih
theorem hU_sub {m : List Int} {s S : Int} {N : Nat} (hm : mvd m s = true) (hN : N ≤ 4) (u : Nat) : Sub (hU m S N u) m := by
  induction u with
  | zero => exact Sub.of_mvd hm
  | succ u ih => simp only [hU]; exact hVs_sub hm ih N hN
theorem nh_sub {m : List Int} {s : Int} (hm : mvd m s = true) : Sub (nhL m s) m := by
  unfold nhL; rw [if_pos hm]; exact hU_sub hm (by have := (mvd_at hm).1; omega) _
theorem pIn_sub {m o : List Int} {s S u : Int} {a b : Nat} (hm : mvd m s = true) (h : Sub o m) (k : Nat) : Sub (pIn m S u a b o k) m := by
  induction k with
  | zero => exact h
  | succ k ih =>
    simp only [pIn]
    split
    · exact ih.anput hm ⟨(mvd_nth hm _).1, (mvd_nth hm _).2.1⟩ _
    · exact ih
theorem pB_sub {m o : List Int} {s S u : Int} {N a : Nat} (hm : mvd m s = true) (h : Sub o m) (b : Nat) : Sub (pB m S N u a o b) m := by
  induction b with
  | zero => exact h
  | succ b ih =>
    simp only [pB]
    split
    · exact pIn_sub hm ih N
    · exact ih
theorem pA_sub {m o : List Int} {s S u : Int} {N : Nat} (hm : mvd m s = true) (h : Sub o m) (a : Nat) : Sub (pA m S N u o a) m := by
  induction a with
  | zero => exact h
  | succ a ih => simp only [pA]; exact pB_sub hm ih a
theorem pU_sub {m : List Int} {s S : Int} {N : Nat} (hm : mvd m s = true) (u : Nat) : Sub (pU m S N u) m := by
  induction u with
  | zero => exact Sub.of_mvd hm
  | succ u ih => simp only [pU]; exact pA_sub hm ih N
theorem np_sub {m : List Int} {s : Int} (hm : mvd m s = true) : Sub (npL m s) m := by
  unfold npL; rw [if_pos hm]; exact pU_sub hm _
theorem allW_bits {ms : List Int} : ∀ {d : Nat} {vs ys : List Int}, ys ∈ allW ms d vs → (∀ i, i < vs.length → nth ys i = nth vs i) ∧ ∀ i, vs.length ≤ i → i < vs.length + d → nth ys i ∈ bitsTo (nth ms i).toNat 4 := by
  intro d
  induction d with
  | zero => intro vs ys h; simp [allW] at h; subst h; exact ⟨fun _ _ => rfl, fun i h1 h2 => absurd h2 (by omega)⟩
  | succ d ih =>
    intro vs ys h
    simp only [allW, List.mem_flatMap] at h
    obtain ⟨x, hx, h⟩ := h
    obtain ⟨h1, h2⟩ := ih h
    rw [List.length_append, List.length_singleton] at h1 h2
    refine ⟨fun i hi => ?_, fun i hi hi2 => ?_⟩
    · rw [h1 i (by omega), nth_push rfl, if_pos hi]
    · by_cases e : i = vs.length
      · subst e
        rw [h1 _ (by omega), nth_push rfl, if_neg (by omega), if_pos rfl]
        exact hx
      · exact h2 i (by omega) (by omega)
theorem foldAll_bit {j t : Nat} : ∀ (L : List (List Int)) (G : List Nat), j < G.length → ((L.foldl orAll G).getD j 0).testBit t = true → (G.getD j 0).testBit t = true ∨ ∃ ys ∈ L, (nth ys j).toNat = t := by
  intro L
  induction L with
  | nil => intro G _ h; exact .inl h
  | cons ys L ih =>
    intro G hj h
    rcases ih (orAll G ys) (by rw [orAll_length]; exact hj) h with h | ⟨zs, hz, e⟩
    · unfold orAll at h
      rw [orTo_get hj, if_pos hj, Nat.testBit_or, Bool.or_eq_true] at h
      rcases h with h | h
      · exact .inl h
      · rw [Nat.testBit_two_pow, decide_eq_true_eq] at h
        exact .inr ⟨ys, List.mem_cons_self .., h⟩
    · exact .inr ⟨zs, List.mem_cons_of_mem _ hz, e⟩
theorem le_of_bits {a b : Nat} (h : ∀ t, a.testBit t = true → b.testBit t = true) : a ≤ b := by
  have e : a &&& b = a := by
    apply Nat.eq_of_testBit_eq
    intro t
    rw [Nat.testBit_and]
    cases ha : a.testBit t
    · rfl
    · rw [h t ha]; rfl
  rw [← e]
  exact Nat.and_le_right
theorem rm_sub {k v s : Int} {xs o : List Int} (hv : rv k xs v s = true) (hm : mvd o s = true) {j : Nat} (hj : j < xs.length) : 0 ≤ nth (rmL k xs v o s) j ∧ nth (rmL k xs v o s) j ≤ nth o (nth xs j).toNat ∧ (nth (rmL k xs v o s) j).tmod 2 = 0 := by
  rw [rm_ways rfl hv hm, nats_nth]
  have hbit : ∀ t, (((waysN k v (pks o xs xs.length) xs.length).foldl orAll (zerosN xs.length)).getD j 0).testBit t = true → 1 ≤ t ∧ (nth o (nth xs j).toNat).toNat.testBit t = true := fun t ht => by
    rcases foldAll_bit _ _ (by simpa [zerosN] using hj) ht with h | ⟨ys, hys, e⟩
    · simp [zerosN, List.getD_eq_getElem?_getD, hj] at h
    · have hy := (allW_bits (List.mem_filter.1 hys).1).2 j (Nat.zero_le _) (by simpa using hj)
      rw [pks_nth hj] at hy
      obtain ⟨u, hu, u1, _, u3⟩ := bits_iff.1 hy
      rw [hu] at e
      have e2 : u = t := by simpa using e
      subst e2
      exact ⟨u1, u3⟩
  obtain ⟨a, ha⟩ : ∃ a, ((waysN k v (pks o xs xs.length) xs.length).foldl orAll (zerosN xs.length)).getD j 0 = a := ⟨_, rfl⟩
  rw [ha] at hbit ⊢
  have hle := le_of_bits (fun t ht => (hbit t ht).2)
  have h0 := (mvd_nth hm (nth xs j).toNat).1
  refine ⟨by omega, by omega, ?_⟩
  rw [Int.tmod_eq_emod_of_nonneg (by omega)]
  have : a.testBit 0 = false := by
    cases hb : a.testBit 0
    · rfl
    · have := (hbit 0 hb).1; omega
  rw [Nat.testBit_zero] at this
  have : a % 2 ≠ 1 := by simpa using this
  omega
theorem rm_len {k v s : Int} {xs o : List Int} (hv : rv k xs v s = true) (hm : mvd o s = true) : (rmL k xs v o s).length = xs.length := by
  unfold rmL
  rw [hv, hm, Bool.true_and, if_pos rfl, nats_length]
  exact (rmN_inv k xs v o).1
/-- the fourth technique. -/
def nrIn (xs f o : List Int) : Nat → List Int
  | 0 => o
  | j + 1 => (nrIn xs f o j).set (nth xs j).toNat (nth f j)
def nrTo (s : Int) (rs : List RuleM) (m : List Int) : Nat → List Int
  | 0 => m
  | u + 1 => nrIn (rat rs u).xs (rmL (rat rs u).k (rat rs u).xs (rat rs u).v (nrTo s rs m u) s) (nrTo s rs m u) (rat rs u).xs.length
def nrL (s : Int) (gi : List Int) (rs : List RuleM) (m : List Int) : List Int := if (pvB s gi rs && mvd m s) = true then nrTo s rs m rs.length else []
theorem nrIn_sub {k v s : Int} {xs o : List Int} (hv : rv k xs v s = true) (hm : mvd o s = true) (j : Nat) (hj : j ≤ xs.length) : Sub (nrIn xs (rmL k xs v o s) o j) o := by
  induction j with
  | zero => exact Sub.of_mvd hm
  | succ j ih => exact (ih (by omega)).put fun _ => rm_sub hv hm (by omega)
theorem nrTo_sub {s : Int} {rs : List RuleM} {m : List Int} (hm : mvd m s = true) (hr : ∀ i, i < rs.length → rvR s (rat rs i) = true) (u : Nat) (hu : u ≤ rs.length) : Sub (nrTo s rs m u) m := by
  induction u with
  | zero => exact Sub.of_mvd hm
  | succ u ih =>
    have ih := ih (by omega)
    exact (nrIn_sub (hr u (by omega)) (ih.mvd_ hm) _ (Nat.le_refl _)).trans ih
theorem nr_sub {s : Int} {gi : List Int} {rs : List RuleM} {m : List Int} (hv : pvB s gi rs = true) (hm : mvd m s = true) : Sub (nrL s gi rs m) m := by
  unfold nrL
  rw [hv, hm, Bool.true_and, if_pos rfl]
  exact nrTo_sub hm (pv_gv hv).2.2 _ (Nat.le_refl _)
end Go.Proofs.Ytjdhfknoldginaa
set_option maxRecDepth 8000
namespace Go.Proofs.Ytjdhfknoldginaa
open Go.ChangeShapes Go.WideShapes Go.ChangeAt Go.RowKit
/-- a technique by its number. -/
def nbL (s : Int) (gi : List Int) (rs : List RuleM) (m : List Int) (t : Int) : List Int :=
  if (pvB s gi rs && mvd m s) = true then (if t = 1 then nsL m s m.length else if t = 2 then nhL m s else if t = 3 then npL m s else if t = 4 then nrL s gi rs m else []) else []
theorem nb_sub {s : Int} {gi : List Int} {rs : List RuleM} {m : List Int} {t : Int} (hv : pvB s gi rs = true) (hm : mvd m s = true) (h1 : 1 ≤ t) (h4 : t ≤ 4) : Sub (nbL s gi rs m t) m := by
  unfold nbL
  rw [hv, hm, Bool.true_and, if_pos rfl]
  have : t = 1 ∨ t = 2 ∨ t = 3 ∨ t = 4 := by omega
  rcases this with rfl | rfl | rfl | rfl
  · exact ns_sub hm _
  · exact nh_sub hm
  · exact np_sub hm
  · exact nr_sub hv hm
end Go.Proofs.Ytjdhfknoldginaa
namespace Go.Proofs.Ytjdhfknoldginaa
open Go.ChangeShapes Go.WideShapes Go.ChangeAt Go.RowKit

end Go.Proofs.Ytjdhfknoldginaa
set_option maxRecDepth 8000
namespace Go.Proofs.Ytjdhfknoldginaa
open Go.ChangeShapes Go.WideShapes Go.ChangeAt Go.RowKit

end Go.Proofs.Ytjdhfknoldginaa
set_option maxRecDepth 8000
namespace Go.Proofs.Ytjdhfknoldginaa
open Go.ChangeShapes Go.WideShapes Go.ChangeAt Go.RowKit
/-! rounds of techniques, until none changes anything: the masks' sum sinks. -/
def sumTo (xs : List Int) : Nat → Nat
  | 0 => 0
  | k + 1 => sumTo xs k + (nth xs k).toNat
/-- the sum of what a slice's cells hold. -/
def sumAt (w : World) (v : Value) : Nat → Nat
  | 0 => 0
  | k + 1 => sumAt w v k + (match v with | .slice (some a) _ _ => (match w.cell? ⟨a.block, a.off + k, none⟩ with | some (.int _ z) => z.toNat | _ => 0) | _ => 0)
theorem sumAt_ow {w : World} {lo n c : Nat} {A : Option Addr} {xs : List Int} (h : Ow w lo A n c xs) : ∀ k, k ≤ n → sumAt w (.slice A n c) k = sumTo xs k := by
  intro k
  induction k with
  | zero => intro _; rfl
  | succ k ih =>
    intro hk
    obtain ⟨b, off, rfl, _, hc⟩ := h.rd.at_ (show k < n by omega)
    simp only [sumAt, sumTo]
    rw [ih (by omega), hc]
theorem sum_le {a b : List Int} (h : Sub a b) : ∀ k, k ≤ b.length → sumTo a k ≤ sumTo b k := by
  intro k
  induction k with
  | zero => intro _; exact Nat.le_refl _
  | succ k ih =>
    intro hk
    obtain ⟨x0, x1, _⟩ := h.2 k (by omega)
    have := ih (by omega)
    simp only [sumTo]
    omega
theorem sum_lt {a b : List Int} (h : Sub a b) (hne : a ≠ b) : sumTo a b.length < sumTo b b.length := by
  have : ∃ k, k < b.length ∧ nth a k ≠ nth b k := by
    by_cases hx : ∃ k, k < b.length ∧ nth a k ≠ nth b k
    · exact hx
    · exact absurd (ext_nth h.1 fun k hk => by
        by_cases e : nth a k = nth b k
        · exact e
        · exact absurd ⟨k, by rw [← h.1]; exact hk, e⟩ hx) hne
  obtain ⟨k, hk, e⟩ := this
  have key : ∀ j, k < j → j ≤ b.length → sumTo a j < sumTo b j := by
    intro j
    induction j with
    | zero => intro h; omega
    | succ j ih =>
      intro h1 h2
      obtain ⟨x0, x1, _⟩ := h.2 j (by omega)
      simp only [sumTo]
      by_cases hj : k < j
      · have := ih hj (by omega); omega
      · obtain rfl : j = k := by omega
        have := sum_le h j (by omega)
        omega
  exact key _ hk (Nat.le_refl _)
end Go.Proofs.Ytjdhfknoldginaa
