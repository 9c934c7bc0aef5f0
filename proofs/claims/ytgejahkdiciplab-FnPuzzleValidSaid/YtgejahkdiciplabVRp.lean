import Derived.Test.YtgejahkdiciplabR4P
import Derived.Test.YtgejahkdiciplabQ4S
import Derived.Test.YtgejahkdiciplabDrawH
set_option maxRecDepth 8000
namespace Go.Proofs.Ytgejahkdiciplab
open Go.ChangeShapes Go.WideShapes Go.ChangeAt Go.RowKit
/-! All ways to give cells values of their masks, as a list, in order. -/
def allW (ms : List Int) : Nat → List Int → List (List Int)
  | 0, vs => [vs]
  | d + 1, vs => (bitsTo (nth ms vs.length).toNat 4).flatMap fun x => allW ms d (vs ++ [x])
theorem bits_flat {β : Type} (M u : Nat) (f : Int → List β) : (bitsTo M (u + 1)).flatMap f = (bitsTo M u).flatMap f ++ (if M.testBit (u + 1) = true then f ((u : Int) + 1) else []) := by
  simp only [bitsTo, List.flatMap_append]
  split <;> simp
theorem bits_mem {M u : Nat} {y : Int} (h : y ∈ bitsTo M u) : 1 ≤ y ∧ y ≤ (u : Int) := by
  induction u with
  | zero => simp [bitsTo] at h
  | succ u ih =>
    simp only [bitsTo, List.mem_append] at h
    rcases h with h | h
    · have := ih h; omega
    · split at h
      · simp at h; omega
      · simp at h
theorem allW_len {ms : List Int} : ∀ {d : Nat} {vs ys : List Int}, ys ∈ allW ms d vs → ys.length = vs.length + d := by
  intro d
  induction d with
  | zero => intro vs ys h; simp [allW] at h; subst h; rfl
  | succ d ih =>
    intro vs ys h
    simp only [allW, List.mem_flatMap] at h
    obtain ⟨x, _, h⟩ := h
    have := ih h
    rw [List.length_append, List.length_singleton] at this
    omega
theorem allW_small {ms : List Int} : ∀ {d : Nat} {vs ys : List Int}, (∀ i, i < vs.length → 1 ≤ nth vs i ∧ nth vs i ≤ 4) → ys ∈ allW ms d vs → ∀ i, i < vs.length + d → 1 ≤ nth ys i ∧ nth ys i ≤ 4 := by
  intro d
  induction d with
  | zero => intro vs ys hv h; simp [allW] at h; subst h; simpa using hv
  | succ d ih =>
    intro vs ys hv h
    simp only [allW, List.mem_flatMap] at h
    obtain ⟨x, hx, h⟩ := h
    have hx' := bits_mem hx
    intro i hi
    refine ih (fun j hj => ?_) h i (by rw [List.length_append, List.length_singleton]; omega)
    rw [List.length_append, List.length_singleton] at hj
    rw [nth_push rfl]
    split
    · exact hv j (by assumption)
    · rw [if_pos (by omega)]; omega
theorem foldN_foldl (step : Int → List Nat → List Nat) (L : List Int) (F : List Nat) : ∀ t, t ≤ L.length → foldN step L t F = (L.take t).foldl (fun G x => step x G) F := by
  intro t
  induction t with
  | zero => intro _; simp [foldN]
  | succ t ih =>
    intro ht
    simp only [foldN]
    rw [ih (by omega), List.take_add_one, List.foldl_append, List.getElem?_eq_getElem (by omega)]
    simp [nth, List.getD_eq_getElem?_getD, List.getElem?_eq_getElem (show t < L.length by omega)]
def orWay (k v : Int) (G : List Nat) (ys : List Int) : List Nat := if holdsB k v ys = true then orTo ys G G.length else G
def orAll (G : List Nat) (ys : List Int) : List Nat := orTo ys G G.length
theorem waysF_fold (k v : Int) (xs ms pm : List Int) : ∀ d vs F, (∀ i, vs.length ≤ i → i < vs.length + d → maskVals (nth ms (nth xs i).toNat) = bitsTo (nth pm i).toNat 4) → waysF k v xs ms d vs F = (allW pm d vs).foldl (orWay k v) F := by
  intro d
  induction d with
  | zero => intro vs F _; rfl
  | succ d ih =>
    intro vs F h
    simp only [waysF, allW]
    rw [h vs.length (Nat.le_refl _) (by omega), foldN_foldl _ _ _ _ (Nat.le_refl _), List.take_length, List.foldl_flatMap]
    congr 1
    funext G x
    refine ih _ _ fun i h1 h2 => h i ?_ ?_
    · rw [List.length_append, List.length_singleton] at h1; omega
    · rw [List.length_append, List.length_singleton] at h2; omega
theorem fold_filter (k v : Int) (L : List (List Int)) (F : List Nat) : L.foldl (orWay k v) F = (L.filter (holdsB k v)).foldl orAll F := by
  rw [List.foldl_filter]
  rfl
theorem orAll_length (G : List Nat) (ys : List Int) : (orAll G ys).length = G.length := orTo_length _ _ _
theorem orAll_lt {n : Nat} {G : List Nat} {ys : List Int} (h : lt32 G) (hl : G.length = n) (hv : small4 ys n) : lt32 (orAll G ys) := orTo_lt h hl hv
theorem foldAll_inv {n : Nat} : ∀ (L : List (List Int)) (G : List Nat), (∀ ys ∈ L, small4 ys n) → G.length = n → lt32 G → (L.foldl orAll G).length = n ∧ lt32 (L.foldl orAll G) := by
  intro L
  induction L with
  | nil => intro G _ h1 h2; exact ⟨h1, h2⟩
  | cons y L ih =>
    intro G hs h1 h2
    exact ih _ (fun z hz => hs z (List.mem_cons_of_mem _ hz)) (by rw [orAll_length, h1]) (orAll_lt h2 h1 (hs y (List.mem_cons_self ..)))
theorem foldAll_pos : ∀ (L : List (List Int)) (G : List Nat), 0 < G.length → G.getD 0 0 ≠ 0 → (L.foldl orAll G).getD 0 0 ≠ 0 := by
  intro L
  induction L with
  | nil => intro G _ h; exact h
  | cons y L ih =>
    intro G hl h
    refine ih _ (by rw [orAll_length]; exact hl) ?_
    unfold orAll
    rw [orTo_get hl, if_pos hl]
    intro e
    exact h (Nat.or_eq_zero_iff.1 e).1
theorem foldAll_zero (L : List (List Int)) (n : Nat) (hn : 0 < n) : (nth (nats (L.foldl orAll (zerosN n))) 0 != 0) = !L.isEmpty := by
  rw [nats_nth]
  cases L with
  | nil => simp [zerosN, List.getD_eq_getElem?_getD, hn]
  | cons y L =>
    have hz : 0 < (zerosN n).length := by simp [zerosN]; exact hn
    have h1 : (orAll (zerosN n) y).getD 0 0 ≠ 0 := by
      unfold orAll
      rw [orTo_get hz, if_pos hz]
      intro e
      have := (Nat.or_eq_zero_iff.1 e).2
      exact absurd this (by have := Nat.two_pow_pos (nth y 0).toNat; omega)
    have := foldAll_pos L _ (by rw [orAll_length]; exact hz) h1
    simp only [List.foldl_cons, List.isEmpty_cons, Bool.not_false, bne_iff_ne, ne_eq]
    omega
end Go.Proofs.Ytgejahkdiciplab
set_option maxRecDepth 8000
namespace Go.Proofs.Ytgejahkdiciplab
open Go.ChangeShapes Go.WideShapes Go.ChangeAt Go.RowKit
/-! What a rule leaves to its cells, by the list of all ways. -/
theorem maskVals_ok {m : Int} (h0 : 0 ≤ m) (h1 : m ≤ 30) (h2 : m.tmod 2 = 0) : maskVals m = bitsTo m.toNat 4 := by
  unfold maskVals
  rw [if_pos (by simp only [mvOk, inr, Bool.and_eq_true, decide_eq_true_eq, beq_iff_eq]; exact ⟨⟨h0, h1⟩, h2⟩)]
def waysN (k v : Int) (pm : List Int) (n : Nat) : List (List Int) := (allW pm n []).filter (holdsB k v)
theorem rm_ways {k v s : Int} {xs ms : List Int} {n : Nat} (hl : xs.length = n) (hv : rv k xs v s = true) (hm : mvd ms s = true) :
    rmL k xs v ms s = nats ((waysN k v (pks ms xs n) n).foldl orAll (zerosN n)) := by
  subst hl
  obtain ⟨hs, _, _, hx⟩ := rv_facts rfl hv
  obtain ⟨_, hml, _, hmk⟩ := mvd_at hm
  unfold rmL rmN waysN
  rw [hv, hm, Bool.true_and, if_pos rfl, waysF_fold k v xs ms (pks ms xs xs.length) _ _ _ (fun i h1 h2 => ?_), fold_filter]
  have hi : i < xs.length := by simpa using h2
  obtain ⟨a, b⟩ := hx i hi
  obtain ⟨m0, m1, m2⟩ := hmk (nth xs i).toNat (by omega)
  rw [pks_nth hi]
  exact maskVals_ok m0 m1 m2
theorem em_pks {g xs : List Int} {s : Int} {n : Nat} (hx : ∀ i, i < n → (nth xs i).toNat < g.length) : pks (emL g s) xs n = emL (pks g xs n) s := by
  apply ext_nth (by rw [pks_length]; unfold emL; rw [mapTo_length, pks_length])
  intro i hi
  rw [pks_length] at hi
  rw [pks_nth hi]
  unfold emL
  rw [mapTo_nth (hx i hi), mapTo_nth (by rw [pks_length]; exact hi)]
  unfold emG emN
  rw [pks_nth hi]
theorem rp_ways {k v : Int} {s : Nat} {xs g : List Int} {n : Nat} (hl : xs.length = n) (hv : rv k xs v s = true) (hg : gv g s = true) (hs : s ∈ [2, 3, 4]) :
    rpB k xs v g s = !((allW (emL (pks g xs n) s) n []).filter (holdsB k v)).isEmpty := by
  obtain ⟨_, ⟨hn1, hn4⟩, _, _⟩ := rv_facts hl hv
  obtain ⟨_, hin⟩ := pks_small hl hv hg
  unfold rpB
  rw [hv, hg, Bool.true_and, Bool.true_and, rm_ways hl hv (emL_valid hs hg), foldAll_zero _ _ (by omega), em_pks (fun i hi => by have := hin i hi; omega)]
  rfl
end Go.Proofs.Ytgejahkdiciplab
set_option maxRecDepth 8000
namespace Go.Proofs.Ytgejahkdiciplab
open Go.ChangeShapes Go.WideShapes Go.ChangeAt Go.RowKit
/-! A rule that can hold can hold with fewer values known; with all values known it can hold exactly if it holds. -/
theorem bits_iff {M u : Nat} {y : Int} : y ∈ bitsTo M u ↔ ∃ t : Nat, y = (t : Int) ∧ 1 ≤ t ∧ t ≤ u ∧ M.testBit t = true := by
  induction u with
  | zero => simp [bitsTo]; intro t _ h1 h2; omega
  | succ u ih =>
    simp only [bitsTo, List.mem_append, ih]
    constructor
    · rintro (⟨t, h1, h2, h3, h4⟩ | h)
      · exact ⟨t, h1, h2, by omega, h4⟩
      · split at h
        · next hb => exact ⟨u + 1, by simpa using h, by omega, Nat.le_refl _, hb⟩
        · cases h
    · rintro ⟨t, h1, h2, h3, h4⟩
      by_cases e : t = u + 1
      · subst e; right; rw [if_pos h4]; simpa using h1
      · left; exact ⟨t, h1, h2, by omega, h4⟩
theorem allW_mono {ms ms' : List Int} : ∀ (d : Nat) (vs ys : List Int), (∀ i, vs.length ≤ i → i < vs.length + d → ∀ t, 1 ≤ t → t ≤ 4 → (nth ms i).toNat.testBit t = true → (nth ms' i).toNat.testBit t = true) → ys ∈ allW ms d vs → ys ∈ allW ms' d vs := by
  intro d
  induction d with
  | zero => intro vs ys _ h; exact h
  | succ d ih =>
    intro vs ys hb h
    simp only [allW, List.mem_flatMap] at h ⊢
    obtain ⟨x, hx, h⟩ := h
    obtain ⟨t, rfl, t1, t2, t3⟩ := bits_iff.1 hx
    refine ⟨(t : Int), bits_iff.2 ⟨t, rfl, t1, t2, hb _ (Nat.le_refl _) (by omega) t t1 t2 t3⟩, ih _ _ (fun i h1 h2 => ?_) h⟩
    rw [List.length_append, List.length_singleton] at h1 h2
    exact hb i (by omega) (by omega)
theorem em_bits : ∀ s ∈ [2, 3, 4], ∀ v, v < 5 → v ≤ s → ∀ t, t < 5 → 1 ≤ t → (2 ^ v).testBit t = true → (2 ^ (s + 1) - 2).testBit t = true := by decide
theorem emL_nth {g : List Int} {s : Nat} {i : Nat} (h : i < g.length) : (nth (emL g s) i).toNat = emN g s i := by
  unfold emL
  rw [mapTo_nth h]
  simp [emG]
theorem rp_mono {k v : Int} {s : Nat} {xs g g' : List Int} (hv : rv k xs v s = true) (hg : gv g s = true) (hg' : gv g' s = true) (hs : s ∈ [2, 3, 4]) (h : ∀ i, i < g.length → nth g' i = nth g i ∨ nth g' i = 0) (hp : rpB k xs v g s = true) : rpB k xs v g' s = true := by
  obtain ⟨_, _, _, hx⟩ := rv_facts rfl hv
  have hl := gv_len hg
  have hl' := gv_len hg'
  rw [rp_ways rfl hv hg hs] at hp
  rw [rp_ways rfl hv hg' hs]
  simp only [Bool.not_eq_true', List.isEmpty_eq_false_iff_exists_mem, List.mem_filter] at hp ⊢
  obtain ⟨ys, hy, hh⟩ := hp
  refine ⟨ys, allW_mono _ _ _ (fun i _ hi t t1 t4 hb => ?_) hy, hh⟩
  have hi' : i < xs.length := by simpa using hi
  rw [emL_nth (by rw [pks_length]; exact hi')] at hb ⊢
  obtain ⟨x0, x1⟩ := hx i hi'
  have hlt : (nth xs i).toNat < g.length := by omega
  unfold emN at hb ⊢
  rw [pks_nth hi'] at hb ⊢
  obtain ⟨v0, v4⟩ := gv_nth hg hlt
  have h24 := gv_size hg
  rcases h _ hlt with e | e
  · rw [e]; exact hb
  · rw [if_pos e]
    split at hb
    · exact hb
    · exact em_bits s hs _ (by omega) (by omega) t (by omega) t1 hb
theorem gv_put {g : List Int} {s : Int} (hg : gv g s = true) (c : Nat) : gv (g.set c 0) s = true := by
  obtain ⟨h2, h4⟩ := gv_size hg
  have hl := gv_len hg
  have h1 : inr s 2 4 = true := by simp [inr]; omega
  have h3 : (g.set c 0).all (fun x => inr x 0 s) = true := by
    refine okTo_all (n := g.length) (fun j hj => ?_) (by simp)
    by_cases e : j = c
    · subst e; rw [show nth (g.set j 0) j = 0 by simp [nth, List.getD_eq_getElem?_getD, hj]]; simp [inr]; omega
    · rw [show nth (g.set c 0) j = nth g j by simp [nth, List.getD_eq_getElem?_getD, List.getElem?_set_ne (fun e' => e e'.symm)]]
      have := gv_nth hg hj
      simp [inr]; omega
  simp [gv, h1, h3, hl]
theorem gv_zeros {g : List Int} {s : Int} (hg : gv g s = true) : gv (zeros g.length) s = true := by
  obtain ⟨h2, h4⟩ := gv_size hg
  have hl := gv_len hg
  have h1 : inr s 2 4 = true := by simp [inr]; omega
  have h3 : (zeros g.length).all (fun x => inr x 0 s) = true := by
    simp only [zeros, List.all_eq_true, List.mem_replicate]
    rintro x ⟨_, rfl⟩
    simp [inr]; omega
  have h5 : (zeros g.length).length = g.length := by simp [zeros]
  simp [gv, h1, h3, h5, hl]
theorem rp_less {k v s : Int} {xs g : List Int} (hv : rv k xs v s = true) (hg : gv g s = true) (hp : rpB k xs v g s = true) (c : Nat) : rpB k xs v (g.set c 0) s = true ∧ rpB k xs v (zeros g.length) s = true := by
  obtain ⟨h2, h4⟩ := gv_size hg
  obtain ⟨t, rfl⟩ := Int.eq_ofNat_of_zero_le (by omega : 0 ≤ s)
  have hs : t ∈ [2, 3, 4] := by simp; omega
  refine ⟨rp_mono hv hg (gv_put hg c) hs (fun i hi => ?_) hp, rp_mono hv hg (gv_zeros hg) hs (fun i hi => .inr ?_) hp⟩
  · by_cases e : i = c
    · subst e; right; simp [nth, List.getD_eq_getElem?_getD, hi]
    · left; simp [nth, List.getD_eq_getElem?_getD, List.getElem?_set_ne (fun e' => e e'.symm)]
  · simp [nth, zeros, List.getD_eq_getElem?_getD, hi]
/-- all cells of the rule have values: it can hold exactly if it holds. -/
theorem allW_one {ms zs : List Int} : ∀ (d : Nat) (vs : List Int), zs.length = vs.length + d → (∀ i, i < vs.length → nth vs i = nth zs i) → (∀ i, vs.length ≤ i → i < vs.length + d → bitsTo (nth ms i).toNat 4 = [nth zs i]) → allW ms d vs = [zs] := by
  intro d
  induction d with
  | zero =>
    intro vs hl hv _
    have : vs = zs := ext_nth (by omega) (fun i hi => hv i hi)
    simp [allW, this]
  | succ d ih =>
    intro vs hl hv hb
    simp only [allW]
    rw [hb _ (Nat.le_refl _) (by omega)]
    simp only [List.flatMap_cons, List.flatMap_nil, List.append_nil]
    refine ih _ (by simp; omega) (fun i hi => ?_) (fun i h1 h2 => ?_)
    · rw [List.length_append, List.length_singleton] at hi
      rw [nth_push rfl]
      split
      · exact hv i (by assumption)
      · obtain rfl : i = vs.length := by omega
        rw [if_pos rfl]
    · rw [List.length_append, List.length_singleton] at h1 h2
      exact hb i (by omega) (by omega)
theorem bits_pow : ∀ v : Nat, v < 5 → 1 ≤ v → bitsTo (2 ^ v) 4 = [(v : Int)] := by decide
theorem rp_full {k v s : Int} {xs g : List Int} (hv : rv k xs v s = true) (hg : gv g s = true) (hf : ∀ i, i < xs.length → nth (pks g xs xs.length) i ≠ 0) : rpB k xs v g s = holdsB k v (pks g xs xs.length) := by
  obtain ⟨h2, h4⟩ := gv_size hg
  obtain ⟨t, rfl⟩ := Int.eq_ofNat_of_zero_le (by omega : 0 ≤ s)
  have hs : t ∈ [2, 3, 4] := by simp; omega
  obtain ⟨hsm, _⟩ := pks_small rfl hv hg
  rw [rp_ways rfl hv hg hs]
  have : allW (emL (pks g xs xs.length) t) xs.length [] = [pks g xs xs.length] := by
    refine allW_one _ _ (by simp [pks_length]) (fun i hi => absurd hi (by simp)) (fun i _ hi => ?_)
    have hi' : i < xs.length := by simpa using hi
    rw [emL_nth (by rw [pks_length]; exact hi')]
    unfold emN
    rw [if_neg (hf i hi')]
    have := hsm i hi'
    have hne := hf i hi'
    rw [bits_pow _ (by omega) (by omega)]
    congr 1
    omega
  rw [this]
  cases hh : holdsB k v (pks g xs xs.length) <;> simp [hh]
theorem mem_ne {zs : List Int} {n : Nat} (h : memTo zs 0 n = false) : ∀ i, i < n → nth zs i ≠ 0 := fun i hi e => by rw [memTo_hit hi e] at h; cases h
theorem rh_rp {k v s : Int} {xs g : List Int} (h : rhB k xs v g s = true) : rpB k xs v g s = true := by
  unfold rhB at h
  simp only [Bool.and_eq_true, Bool.not_eq_true'] at h
  obtain ⟨⟨⟨hv, hg⟩, hm⟩, hh⟩ := h
  rw [rp_full hv hg (mem_ne hm)]
  exact hh
theorem cnz_all {xs : List Int} : ∀ {n : Nat}, cnz xs n = n → ∀ k, k < n → nth xs k ≠ 0 := by
  intro n
  induction n with
  | zero => intro _ k hk; omega
  | succ n ih =>
    intro h k hk
    simp only [cnz] at h
    have hle := cnz_le xs n
    split at h
    · omega
    · next hz =>
      by_cases e : k = n
      · subst e; exact hz
      · exact ih (by omega) k (by omega)
theorem rh_full {k v s : Int} {xs g : List Int} (hv : rv k xs v s = true) (hg : gv g s = true) (hf : cnz g g.length = g.length) : rhB k xs v g s = rpB k xs v g s := by
  obtain ⟨_, _, _, hx⟩ := rv_facts rfl hv
  have hl := gv_len hg
  have hall := cnz_all hf
  have hne : ∀ i, i < xs.length → nth (pks g xs xs.length) i ≠ 0 := fun i hi => by
    rw [pks_nth hi]
    obtain ⟨a, b⟩ := hx i hi
    exact hall _ (by omega)
  have hm : memTo (pks g xs xs.length) 0 xs.length = false := by
    cases e : memTo (pks g xs xs.length) 0 xs.length
    · rfl
    · exfalso
      have : ∀ n, n ≤ xs.length → memTo (pks g xs xs.length) 0 n = false := by
        intro n
        induction n with
        | zero => intro _; rfl
        | succ n ih => intro hn; simp only [memTo, Bool.or_eq_false_iff, beq_eq_false_iff_ne]; exact ⟨ih (by omega), hne n (by omega)⟩
      rw [this _ (Nat.le_refl _)] at e; cases e
  rw [rp_full hv hg hne]
  unfold rhB
  rw [hv, hg, hm]
  simp
end Go.Proofs.Ytgejahkdiciplab
