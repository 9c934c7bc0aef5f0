import Derived.Test.YtkeoflnmbcdmfaaDoorWz
import Derived.Test.YtkeoflnmbcdmfaaDoorDrawH
set_option maxRecDepth 8000
namespace Go.Proofs.YtkeoflnmbcdmfaaDoor
open Go.ChangeShapes Go.WideShapes Go.ChangeAt Go.RowKit
/-! A rule that can hold can hold with fewer values known; with all values known it can hold exactly if it holds. -/
theorem bits_iff {M u : Nat} {y : Int} : y ∈ bitsTo M u ↔ ∃ t : Nat, y = (t : Int) ∧ 1 ≤ t ∧ t ≤ u ∧ M.testBit t = true := by
  induction u with
  | zero => simp [bitsTo]; intro t _ h1 h2; omega
  | succ u ih =>
    simp only [bitsTo, List.mem_append, ih]
    constructor
    · rintro (⟨t, h1, h2, h3, h4⟩ | h)
      · exact ⟨t, h1, h2, by omega, h4⟩
      · split at h
        · next hb => exact ⟨u + 1, by simpa using h, by omega, Nat.le_refl _, hb⟩
        · cases h
    · rintro ⟨t, h1, h2, h3, h4⟩
      by_cases e : t = u + 1
      · subst e; right; rw [if_pos h4]; simpa using h1
      · left; exact ⟨t, h1, h2, by omega, h4⟩
theorem allW_mono {ms ms' : List Int} : ∀ (d : Nat) (vs ys : List Int), (∀ i, vs.length ≤ i → i < vs.length + d → ∀ t, 1 ≤ t → t ≤ 4 → (nth ms i).toNat.testBit t = true → (nth ms' i).toNat.testBit t = true) → ys ∈ allW ms d vs → ys ∈ allW ms' d vs := by
  intro d
  induction d with
  | zero => intro vs ys _ h; exact h
  | succ d ih =>
    intro vs ys hb h
    simp only [allW, List.mem_flatMap] at h ⊢
    obtain ⟨x, hx, h⟩ := h
    obtain ⟨t, rfl, t1, t2, t3⟩ := bits_iff.1 hx
    refine ⟨(t : Int), bits_iff.2 ⟨t, rfl, t1, t2, hb _ (Nat.le_refl _) (by omega) t t1 t2 t3⟩, ih _ _ (fun i h1 h2 => ?_) h⟩
    rw [List.length_append, List.length_singleton] at h1 h2
    exact hb i (by omega) (by omega)
theorem em_bits : ∀ s ∈ [2, 3, 4], ∀ v, v < 5 → v ≤ s → ∀ t, t < 5 → 1 ≤ t → (2 ^ v).testBit t = true → (2 ^ (s + 1) - 2).testBit t = true := by decide
theorem emL_nth {g : List Int} {s : Nat} {i : Nat} (h : i < g.length) : (nth (emL g s) i).toNat = emN g s i := by
  unfold emL
  rw [mapTo_nth h]
  simp [emG]
theorem rp_mono {k v : Int} {s : Nat} {xs g g' : List Int} (hv : rv k xs v s = true) (hg : gv g s = true) (hg' : gv g' s = true) (hs : s ∈ [2, 3, 4]) (h : ∀ i, i < g.length → nth g' i = nth g i ∨ nth g' i = 0) (hp : rpB k xs v g s = true) : rpB k xs v g' s = true := by
  obtain ⟨_, _, _, hx⟩ := rv_facts rfl hv
  have hl := gv_len hg
  have hl' := gv_len hg'
  rw [rp_ways rfl hv hg hs] at hp
  rw [rp_ways rfl hv hg' hs]
  simp only [Bool.not_eq_true', List.isEmpty_eq_false_iff_exists_mem, List.mem_filter] at hp ⊢
  obtain ⟨ys, hy, hh⟩ := hp
  refine ⟨ys, allW_mono _ _ _ (fun i _ hi t t1 t4 hb => ?_) hy, hh⟩
  have hi' : i < xs.length := by simpa using hi
  rw [emL_nth (by rw [pks_length]; exact hi')] at hb ⊢
  obtain ⟨x0, x1⟩ := hx i hi'
  have hlt : (nth xs i).toNat < g.length := by omega
  unfold emN at hb ⊢
  rw [pks_nth hi'] at hb ⊢
  obtain ⟨v0, v4⟩ := gv_nth hg hlt
  have h24 := gv_size hg
  rcases h _ hlt with e | e
  · rw [e]; exact hb
  · rw [if_pos e]
    split at hb
    · exact hb
    · exact em_bits s hs _ (by omega) (by omega) t (by omega) t1 hb
theorem gv_put {g : List Int} {s : Int} (hg : gv g s = true) (c : Nat) : gv (g.set c 0) s = true := by
  obtain ⟨h2, h4⟩ := gv_size hg
  have hl := gv_len hg
  have h1 : inr s 2 4 = true := by simp [inr]; omega
  have h3 : (g.set c 0).all (fun x => inr x 0 s) = true := by
    refine okTo_all (n := g.length) (fun j hj => ?_) (by simp)
    by_cases e : j = c
    · subst e; rw [show nth (g.set j 0) j = 0 by simp [nth, List.getD_eq_getElem?_getD, hj]]; simp [inr]; omega
    · rw [show nth (g.set c 0) j = nth g j by simp [nth, List.getD_eq_getElem?_getD, List.getElem?_set_ne (fun e' => e e'.symm)]]
      have := gv_nth hg hj
      simp [inr]; omega
  simp [gv, h1, h3, hl]
theorem gv_zeros {g : List Int} {s : Int} (hg : gv g s = true) : gv (zeros g.length) s = true := by
  obtain ⟨h2, h4⟩ := gv_size hg
  have hl := gv_len hg
  have h1 : inr s 2 4 = true := by simp [inr]; omega
  have h3 : (zeros g.length).all (fun x => inr x 0 s) = true := by
    simp only [zeros, List.all_eq_true, List.mem_replicate]
    rintro x ⟨_, rfl⟩
    simp [inr]; omega
  have h5 : (zeros g.length).length = g.length := by simp [zeros]
  simp [gv, h1, h3, h5, hl]
theorem rp_less {k v s : Int} {xs g : List Int} (hv : rv k xs v s = true) (hg : gv g s = true) (hp : rpB k xs v g s = true) (c : Nat) : rpB k xs v (g.set c 0) s = true ∧ rpB k xs v (zeros g.length) s = true := by
  obtain ⟨h2, h4⟩ := gv_size hg
  obtain ⟨t, rfl⟩ := Int.eq_ofNat_of_zero_le (by omega : 0 ≤ s)
  have hs : t ∈ [2, 3, 4] := by simp; omega
  refine ⟨rp_mono hv hg (gv_put hg c) hs (fun i hi => ?_) hp, rp_mono hv hg (gv_zeros hg) hs (fun i hi => .inr ?_) hp⟩
  · by_cases e : i = c
    · subst e; right; simp [nth, List.getD_eq_getElem?_getD, hi]
    · left; simp [nth, List.getD_eq_getElem?_getD, List.getElem?_set_ne (fun e' => e e'.symm)]
  · simp [nth, zeros, List.getD_eq_getElem?_getD, hi]
/-- all cells of the rule have values: it can hold exactly if it holds. -/
theorem allW_one {ms zs : List Int} : ∀ (d : Nat) (vs : List Int), zs.length = vs.length + d → (∀ i, i < vs.length → nth vs i = nth zs i) → (∀ i, vs.length ≤ i → i < vs.length + d → bitsTo (nth ms i).toNat 4 = [nth zs i]) → allW ms d vs = [zs] := by
  intro d
  induction d with
  | zero =>
    intro vs hl hv _
    have : vs = zs := ext_nth (by omega) (fun i hi => hv i hi)
    simp [allW, this]
  | succ d ih =>
    intro vs hl hv hb
    simp only [allW]
    rw [hb _ (Nat.le_refl _) (by omega)]
    simp only [List.flatMap_cons, List.flatMap_nil, List.append_nil]
    refine ih _ (by simp; omega) (fun i hi => ?_) (fun i h1 h2 => ?_)
    · rw [List.length_append, List.length_singleton] at hi
      rw [nth_push rfl]
      split
      · exact hv i (by assumption)
      · obtain rfl : i = vs.length := by omega
        rw [if_pos rfl]
    · rw [List.length_append, List.length_singleton] at h1 h2
      exact hb i (by omega) (by omega)
theorem bits_pow : ∀ v : Nat, v < 5 → 1 ≤ v → bitsTo (2 ^ v) 4 = [(v : Int)] := by decide
theorem rp_full {k v s : Int} {xs g : List Int} (hv : rv k xs v s = true) (hg : gv g s = true) (hf : ∀ i, i < xs.length → nth (pks g xs xs.length) i ≠ 0) : rpB k xs v g s = holdsB k v (pks g xs xs.length) := by
  obtain ⟨h2, h4⟩ := gv_size hg
  obtain ⟨t, rfl⟩ := Int.eq_ofNat_of_zero_le (by omega : 0 ≤ s)
  have hs : t ∈ [2, 3, 4] := by simp; omega
  obtain ⟨hsm, _⟩ := pks_small rfl hv hg
  rw [rp_ways rfl hv hg hs]
  have : allW (emL (pks g xs xs.length) t) xs.length [] = [pks g xs xs.length] := by
    refine allW_one _ _ (by simp [pks_length]) (fun i hi => absurd hi (by simp)) (fun i _ hi => ?_)
    have hi' : i < xs.length := by simpa using hi
    rw [emL_nth (by rw [pks_length]; exact hi')]
    unfold emN
    rw [if_neg (hf i hi')]
    have := hsm i hi'
    have hne := hf i hi'
    rw [bits_pow _ (by omega) (by omega)]
    congr 1
    omega
  rw [this]
  cases hh : holdsB k v (pks g xs xs.length) <;> simp [hh]
theorem mem_ne {zs : List Int} {n : Nat} (h : memTo zs 0 n = false) : ∀ i, i < n → nth zs i ≠ 0 := fun i hi e => by rw [memTo_hit hi e] at h; cases h
theorem rh_rp {k v s : Int} {xs g : List Int} (h : rhB k xs v g s = true) : rpB k xs v g s = true := by
  unfold rhB at h
  simp only [Bool.and_eq_true, Bool.not_eq_true'] at h
  obtain ⟨⟨⟨hv, hg⟩, hm⟩, hh⟩ := h
  rw [rp_full hv hg (mem_ne hm)]
  exact hh
theorem cnz_all {xs : List Int} : ∀ {n : Nat}, cnz xs n = n → ∀ k, k < n → nth xs k ≠ 0 := by
  intro n
  induction n with
  | zero => intro _ k hk; omega
  | succ n ih =>
    intro h k hk
    simp only [cnz] at h
    have hle := cnz_le xs n
    split at h
    · omega
    · next hz =>
      by_cases e : k = n
      · subst e; exact hz
      · exact ih (by omega) k (by omega)
theorem rh_full {k v s : Int} {xs g : List Int} (hv : rv k xs v s = true) (hg : gv g s = true) (hf : cnz g g.length = g.length) : rhB k xs v g s = rpB k xs v g s := by
  obtain ⟨_, _, _, hx⟩ := rv_facts rfl hv
  have hl := gv_len hg
  have hall := cnz_all hf
  have hne : ∀ i, i < xs.length → nth (pks g xs xs.length) i ≠ 0 := fun i hi => by
    rw [pks_nth hi]
    obtain ⟨a, b⟩ := hx i hi
    exact hall _ (by omega)
  have hm : memTo (pks g xs xs.length) 0 xs.length = false := by
    cases e : memTo (pks g xs xs.length) 0 xs.length
    · rfl
    · exfalso
      have : ∀ n, n ≤ xs.length → memTo (pks g xs xs.length) 0 n = false := by
        intro n
        induction n with
        | zero => intro _; rfl
        | succ n ih => intro hn; simp only [memTo, Bool.or_eq_false_iff, beq_eq_false_iff_ne]; exact ⟨ih (by omega), hne n (by omega)⟩
      rw [this _ (Nat.le_refl _)] at e; cases e
  rw [rp_full hv hg hne]
  unfold rhB
  rw [hv, hg, hm]
  simp
end Go.Proofs.YtkeoflnmbcdmfaaDoor
