import Derived.Test.YtkeoflnmbcdmfaaDoorR4P
set_option maxRecDepth 8000
namespace Go.Proofs.YtkeoflnmbcdmfaaDoor
open Go.ChangeShapes Go.WideShapes Go.ChangeAt Go.RowKit
/-! All ways to give cells values of their masks, as a list, in order. -/
def allW (ms : List Int) : Nat → List Int → List (List Int)
  | 0, vs => [vs]
  | d + 1, vs => (bitsTo (nth ms vs.length).toNat 4).flatMap fun x => allW ms d (vs ++ [x])
theorem bits_flat {β : Type} (M u : Nat) (f : Int → List β) : (bitsTo M (u + 1)).flatMap f = (bitsTo M u).flatMap f ++ (if M.testBit (u + 1) = true then f ((u : Int) + 1) else []) := by
  simp only [bitsTo, List.flatMap_append]
  split <;> simp
theorem bits_mem {M u : Nat} {y : Int} (h : y ∈ bitsTo M u) : 1 ≤ y ∧ y ≤ (u : Int) := by
  induction u with
  | zero => simp [bitsTo] at h
  | succ u ih =>
    simp only [bitsTo, List.mem_append] at h
    rcases h with h | h
    · have := ih h; omega
    · split at h
      · simp at h; omega
      · simp at h
theorem allW_len {ms : List Int} : ∀ {d : Nat} {vs ys : List Int}, ys ∈ allW ms d vs → ys.length = vs.length + d := by
  intro d
  induction d with
  | zero => intro vs ys h; simp [allW] at h; subst h; rfl
  | succ d ih =>
    intro vs ys h
    simp only [allW, List.mem_flatMap] at h
    obtain ⟨x, _, h⟩ := h
    have := ih h
    rw [List.length_append, List.length_singleton] at this
    omega
theorem allW_small {ms : List Int} : ∀ {d : Nat} {vs ys : List Int}, (∀ i, i < vs.length → 1 ≤ nth vs i ∧ nth vs i ≤ 4) → ys ∈ allW ms d vs → ∀ i, i < vs.length + d → 1 ≤ nth ys i ∧ nth ys i ≤ 4 := by
  intro d
  induction d with
  | zero => intro vs ys hv h; simp [allW] at h; subst h; simpa using hv
  | succ d ih =>
    intro vs ys hv h
    simp only [allW, List.mem_flatMap] at h
    obtain ⟨x, hx, h⟩ := h
    have hx' := bits_mem hx
    intro i hi
    refine ih (fun j hj => ?_) h i (by rw [List.length_append, List.length_singleton]; omega)
    rw [List.length_append, List.length_singleton] at hj
    rw [nth_push rfl]
    split
    · exact hv j (by assumption)
    · rw [if_pos (by omega)]; omega
theorem foldN_foldl (step : Int → List Nat → List Nat) (L : List Int) (F : List Nat) : ∀ t, t ≤ L.length → foldN step L t F = (L.take t).foldl (fun G x => step x G) F := by
  intro t
  induction t with
  | zero => intro _; simp [foldN]
  | succ t ih =>
    intro ht
    simp only [foldN]
    rw [ih (by omega), List.take_add_one, List.foldl_append, List.getElem?_eq_getElem (by omega)]
    simp [nth, List.getD_eq_getElem?_getD, List.getElem?_eq_getElem (show t < L.length by omega)]
def orWay (k v : Int) (G : List Nat) (ys : List Int) : List Nat := if holdsB k v ys = true then orTo ys G G.length else G
def orAll (G : List Nat) (ys : List Int) : List Nat := orTo ys G G.length
theorem waysF_fold (k v : Int) (xs ms pm : List Int) : ∀ d vs F, (∀ i, vs.length ≤ i → i < vs.length + d → maskVals (nth ms (nth xs i).toNat) = bitsTo (nth pm i).toNat 4) → waysF k v xs ms d vs F = (allW pm d vs).foldl (orWay k v) F := by
  intro d
  induction d with
  | zero => intro vs F _; rfl
  | succ d ih =>
    intro vs F h
    simp only [waysF, allW]
    rw [h vs.length (Nat.le_refl _) (by omega), foldN_foldl _ _ _ _ (Nat.le_refl _), List.take_length, List.foldl_flatMap]
    congr 1
    funext G x
    refine ih _ _ fun i h1 h2 => h i ?_ ?_
    · rw [List.length_append, List.length_singleton] at h1; omega
    · rw [List.length_append, List.length_singleton] at h2; omega
theorem fold_filter (k v : Int) (L : List (List Int)) (F : List Nat) : L.foldl (orWay k v) F = (L.filter (holdsB k v)).foldl orAll F := by
  rw [List.foldl_filter]
  rfl
theorem orAll_length (G : List Nat) (ys : List Int) : (orAll G ys).length = G.length := orTo_length _ _ _
theorem orAll_lt {n : Nat} {G : List Nat} {ys : List Int} (h : lt32 G) (hl : G.length = n) (hv : small4 ys n) : lt32 (orAll G ys) := orTo_lt h hl hv
theorem foldAll_inv {n : Nat} : ∀ (L : List (List Int)) (G : List Nat), (∀ ys ∈ L, small4 ys n) → G.length = n → lt32 G → (L.foldl orAll G).length = n ∧ lt32 (L.foldl orAll G) := by
  intro L
  induction L with
  | nil => intro G _ h1 h2; exact ⟨h1, h2⟩
  | cons y L ih =>
    intro G hs h1 h2
    exact ih _ (fun z hz => hs z (List.mem_cons_of_mem _ hz)) (by rw [orAll_length, h1]) (orAll_lt h2 h1 (hs y (List.mem_cons_self ..)))
theorem foldAll_pos : ∀ (L : List (List Int)) (G : List Nat), 0 < G.length → G.getD 0 0 ≠ 0 → (L.foldl orAll G).getD 0 0 ≠ 0 := by
  intro L
  induction L with
  | nil => intro G _ h; exact h
  | cons y L ih =>
    intro G hl h
    refine ih _ (by rw [orAll_length]; exact hl) ?_
    unfold orAll
    rw [orTo_get hl, if_pos hl]
    intro e
    exact h (Nat.or_eq_zero_iff.1 e).1
theorem foldAll_zero (L : List (List Int)) (n : Nat) (hn : 0 < n) : (nth (nats (L.foldl orAll (zerosN n))) 0 != 0) = !L.isEmpty := by
  rw [nats_nth]
  cases L with
  | nil => simp [zerosN, List.getD_eq_getElem?_getD, hn]
  | cons y L =>
    have hz : 0 < (zerosN n).length := by simp [zerosN]; exact hn
    have h1 : (orAll (zerosN n) y).getD 0 0 ≠ 0 := by
      unfold orAll
      rw [orTo_get hz, if_pos hz]
      intro e
      have := (Nat.or_eq_zero_iff.1 e).2
      exact absurd this (by have := Nat.two_pow_pos (nth y 0).toNat; omega)
    have := foldAll_pos L _ (by rw [orAll_length]; exact hz) h1
    simp only [List.foldl_cons, List.isEmpty_cons, Bool.not_false, bne_iff_ne, ne_eq]
    omega
end Go.Proofs.YtkeoflnmbcdmfaaDoor
