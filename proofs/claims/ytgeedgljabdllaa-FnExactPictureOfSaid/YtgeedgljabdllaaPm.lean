import Derived.Test.YtgeedgljabdllaaIz
set_option maxRecDepth 8000
namespace Go.Proofs.Ytgeedgljabdllaa
open Go.ChangeShapes Go.WideShapes Go.ChangeAt Go.RowKit
/-! what the promises on lines ask. -/
theorem okL_iff {K : Nat → Bool → Bool} {c : List Int} {L : List Bool} : okL K c L = true ↔ (∀ j, j < L.length → K j (nb L j) = true) ∧ cl L = c := by
  unfold okL
  rw [Bool.and_eq_true, ft_iff, decide_eq_true_eq]
  simp only [Nat.zero_add]
theorem wys_congr {K K' : Nat → Bool → Bool} {c c' : List Int} {n : Nat} (h : ∀ L : List Bool, L.length = n → okL K c L = okL K' c' L) : wys K c n = wys K' c' n := sm_congr fun L hL => by rw [h L hL]
theorem flC_congr {K K' : Nat → Bool → Bool} {c c' : List Int} {n j : Nat} (h : ∀ L : List Bool, L.length = n → okL K c L = okL K' c' L) : flC K c n j = flC K' c' n j := sm_congr fun L hL => by rw [h L hL]
theorem flC_le (K : Nat → Bool → Bool) (c : List Int) (n j : Nat) : flC K c n j ≤ wys K c n := sm_mono fun L _ => by
  cases okL K c L <;> cases nb L j <;> simp
/-- the lines in which cell j is empty. -/
def epC (K : Nat → Bool → Bool) (c : List Int) (n j : Nat) : Nat := sm n (fun L => if okL K c L && !nb L j then 1 else 0)
theorem ep_fl (K : Nat → Bool → Bool) (c : List Int) (n j : Nat) : epC K c n j + flC K c n j = wys K c n := by
  unfold epC flC wys
  rw [← sm_add]
  refine sm_congr fun L _ => ?_
  cases okL K c L <;> cases nb L j <;> rfl
theorem fl_zero {K : Nat → Bool → Bool} {c : List Int} {n j : Nat} (h : flC K c n j = 0) {L : List Bool} (hL : L.length = n) (ho : okL K c L = true) : nb L j = false := by
  cases hb : nb L j
  · rfl
  · have : 0 < flC K c n j := sm_pos L hL (by rw [ho, hb]; decide)
    omega
theorem ep_zero {K : Nat → Bool → Bool} {c : List Int} {n j : Nat} (h : epC K c n j = 0) {L : List Bool} (hL : L.length = n) (ho : okL K c L = true) : nb L j = true := by
  cases hb : nb L j
  · have : 0 < epC K c n j := sm_pos L hL (by rw [ho, hb]; decide)
    omega
  · rfl
theorem kk_at {ks : List Int} {j : Nat} (hj : j < ks.length) (b : Bool) : kk ks j b = if b then nth ks j != 0 else nth ks j != 1 := by
  unfold kk
  rw [if_pos hj]
theorem kk_set {ks : List Int} {k j : Nat} {v : Int} (hk : k < ks.length) (b : Bool) : kk (ks.set k v) j b = if j = k then (if b then v != 0 else v != 1) else kk ks j b := by
  unfold kk
  rw [List.length_set]
  by_cases e : j = k
  · subst e
    rw [if_pos hk, if_pos rfl, nth_set hk, if_pos rfl]
  · rw [if_neg e]
    by_cases hj : j < ks.length
    · simp only [if_pos hj, nth_set hk, if_neg (show ¬ k = j from fun e' => e e'.symm)]
    · rw [if_neg hj, if_neg hj]
theorem okL_set {ks cs : List Int} {n k : Nat} {v : Int} {b : Bool} (hl : ks.length = n) (hk : k < n) (hv : v = if b then 1 else 0) (hok : kk ks k b = true) {L : List Bool} (hL : L.length = n) : okL (kk (ks.set k v)) cs L = (okL (kk ks) cs L && (nb L k == b)) := by
  rw [Bool.eq_iff_iff, Bool.and_eq_true, okL_iff, okL_iff, beq_iff_eq]
  have hkl : k < ks.length := by omega
  constructor
  · rintro ⟨h1, h2⟩
    have hb : nb L k = b := by
      have := h1 k (by omega)
      rw [kk_set hkl, if_pos rfl, hv] at this
      cases b <;> cases e : nb L k <;> simp [e] at this ⊢
    refine ⟨⟨fun j hj => ?_, h2⟩, hb⟩
    by_cases e : j = k
    · subst e; rw [hb]; exact hok
    · have := h1 j hj
      rwa [kk_set hkl, if_neg e] at this
  · rintro ⟨⟨h1, h2⟩, h3⟩
    refine ⟨fun j hj => ?_, h2⟩
    rw [kk_set hkl]
    by_cases e : j = k
    · subst e
      rw [if_pos rfl, h3, hv]
      cases b <;> rfl
    · rw [if_neg e]; exact h1 j hj
theorem wys_set1 {ks cs : List Int} {n k : Nat} (hl : ks.length = n) (hk : k < n) (h : nth ks k ≠ 0) : wys (kk (ks.set k 1)) cs n = flC (kk ks) cs n k := sm_congr fun L hL => by
  rw [okL_set (v := 1) (b := true) hl hk rfl (by rw [kk_at (by omega)]; simpa using h) hL]
  simp
theorem wys_set0 {ks cs : List Int} {n k : Nat} (hl : ks.length = n) (hk : k < n) (h : nth ks k ≠ 1) : wys (kk (ks.set k 0)) cs n = epC (kk ks) cs n k := sm_congr fun L hL => by
  rw [okL_set (v := 0) (b := false) hl hk rfl (by rw [kk_at (by omega)]; simpa using h) hL]
  simp
theorem fl_of0 {ks cs : List Int} {n k : Nat} (hl : ks.length = n) (hk : k < n) (h : nth ks k = 0) : flC (kk ks) cs n k = 0 := (sm_congr fun L hL => by
  show _ = (fun _ => 0) L
  refine if_neg fun hq => ?_
  rw [Bool.and_eq_true, okL_iff] at hq
  have := hq.1.1 k (by omega)
  rw [kk_at (by omega), hq.2, h] at this
  simp at this).trans (sm_zero n)
theorem ep_of1 {ks cs : List Int} {n k : Nat} (hl : ks.length = n) (hk : k < n) (h : nth ks k = 1) : epC (kk ks) cs n k = 0 := (sm_congr fun L hL => by
  show _ = (fun _ => 0) L
  refine if_neg fun hq => ?_
  rw [Bool.and_eq_true, okL_iff, Bool.not_eq_true'] at hq
  have := hq.1.1 k (by omega)
  rw [kk_at (by omega), hq.2, h] at this
  simp at this).trans (sm_zero n)
theorem kvB_set {ks : List Int} {k : Nat} {v : Int} (h : kvB ks = true) (hk : k < ks.length) (hv : -1 ≤ v ∧ v ≤ 1) : kvB (ks.set k v) = true := by
  unfold kvB at h ⊢
  rw [Bool.and_eq_true] at h ⊢
  rw [List.length_set]
  refine ⟨allN_t (List.length_set ..) fun j hj => ?_, h.2⟩
  rw [nth_set hk]
  split
  · simp only [inr, decide_eq_true_eq]; exact hv
  · have := allN_at h.1 hj
    simp only [inr, decide_eq_true_eq]; exact this
theorem waysI_ok {cs ks : List Int} {n : Nat} (hl : ks.length = n) (h : okK ks cs n = true) : waysI cs ks = (wys (kk ks) cs n : Nat) := by
  unfold waysI
  rw [hl, h]
  rfl
theorem waysI_no {cs ks : List Int} {n : Nat} (hl : ks.length = n) (h : okK ks cs n = false) : waysI cs ks = -1 := by
  unfold waysI
  rw [hl, h]
  rfl
theorem okK_set {ks cs : List Int} {n k : Nat} {v : Int} (hl : ks.length = n) (h : okK ks cs n = true) (hk : k < n) (hv : -1 ≤ v ∧ v ≤ 1) : okK (ks.set k v) cs n = true := by
  unfold okK at h ⊢
  rw [Bool.and_eq_true] at h ⊢
  exact ⟨kvB_set h.1 (by omega) hv, h.2⟩
theorem waysI_set1 {cs ks : List Int} {n k : Nat} (hl : ks.length = n) (h : okK ks cs n = true) (hk : k < n) (h0 : nth ks k ≠ 0) : waysI cs (ks.set k 1) = (flC (kk ks) cs n k : Nat) := by
  rw [waysI_ok (by rw [List.length_set]; exact hl) (okK_set hl h hk (by omega)), wys_set1 hl hk h0]
theorem waysI_set0 {cs ks : List Int} {n k : Nat} (hl : ks.length = n) (h : okK ks cs n = true) (hk : k < n) (h0 : nth ks k ≠ 1) : waysI cs (ks.set k 0) = (epC (kk ks) cs n k : Nat) := by
  rw [waysI_ok (by rw [List.length_set]; exact hl) (okK_set hl h hk (by omega)), wys_set0 hl hk h0]
/-- when nothing is unknown there is one line at most. -/
theorem wys_full {ks cs : List Int} {n : Nat} (hl : ks.length = n) (h : ∀ k, k < n → nth ks k ≠ -1) (hv : kvB ks = true) : wys (kk ks) cs n ≤ 1 := by
  have hlen : (mapTo (fun _ => 0) n).length = n := mapTo_length _ _
  have hM : ((List.range n).map fun k => decide (nth ks k = 1)).length = n := by simp
  refine Nat.le_trans (sm_mono (g := fun L => if L = ((List.range n).map fun k => decide (nth ks k = 1)) then 1 else 0) fun L hL => ?_) (Nat.le_of_eq (sm_one _ hM 1))
  by_cases ho : okL (kk ks) cs L = true
  · rw [okL_iff] at ho
    have e : L = (List.range n).map fun k => decide (nth ks k = 1) := by
      apply List.ext_getElem (by rw [hM, hL])
      intro i h1 h2
      have h3 := ho.1 i h1
      have hin : i < n := by omega
      rw [kk_at (by omega)] at h3
      have hb : nb L i = L[i] := by simp [nb, List.getD_eq_getElem?_getD, h1]
      rw [hb] at h3
      have hr := h i hin
      unfold kvB at hv
      rw [Bool.and_eq_true] at hv
      have h4 := allN_at hv.1 (show i < ks.length by omega)
      simp only [List.getElem_map, List.getElem_range]
      cases hbb : L[i]
      · rw [hbb] at h3
        simp at h3
        simp [h3]
      · rw [hbb] at h3
        simp at h3
        have : nth ks i = 1 := by omega
        simp [this]
    rw [if_pos e]
    split <;> omega
  · rw [Bool.not_eq_true] at ho
    rw [ho]
    simp
/-- the forced line keeps the ways. -/
theorem okL_for {ks cs : List Int} {n : Nat} (hl : ks.length = n) (hW : 0 < wys (kk ks) cs n) {L : List Bool} (hL : L.length = n) : okL (kk (forL cs ks)) cs L = okL (kk ks) cs L := by
  have hfl : (forL cs ks).length = n := by unfold forL; rw [mapTo_length, hl]
  have hnth : ∀ j, j < n → nth (forL cs ks) j = fcV (wys (kk ks) cs n) (flC (kk ks) cs n j) := fun j hj => by unfold forL; rw [hl, mapTo_nth hj]
  rw [Bool.eq_iff_iff]
  constructor
  · intro h
    rw [okL_iff] at h ⊢
    refine ⟨fun j hj => ?_, h.2⟩
    have hjn : j < n := by omega
    have h1 := h.1 j hj
    rw [kk_at (by omega), hnth j hjn] at h1
    rw [kk_at (by omega)]
    by_cases e0 : nth ks j = 0
    · rw [fl_of0 hl hjn e0] at h1
      cases hb : nb L j
      · simp [e0]
      · rw [hb] at h1; simp [fcV] at h1
    · by_cases e1 : nth ks j = 1
      · have h2 := ep_fl (kk ks) cs n j
        rw [ep_of1 hl hjn e1, Nat.zero_add] at h2
        rw [h2] at h1
        cases hb : nb L j
        · rw [hb] at h1; simp [fcV] at h1; omega
        · simp [e1]
      · cases nb L j <;> simp [e0, e1]
  · intro h
    have hall := fun j hj => fl_zero (K := kk ks) (c := cs) (n := n) (j := j) hj hL h
    have hall2 := fun j hj => ep_zero (K := kk ks) (c := cs) (n := n) (j := j) hj hL h
    rw [okL_iff] at h ⊢
    refine ⟨fun j hj => ?_, h.2⟩
    have hjn : j < n := by omega
    rw [kk_at (by omega), hnth j hjn]
    have h2 := ep_fl (kk ks) cs n j
    unfold fcV
    by_cases e0 : flC (kk ks) cs n j = 0
    · rw [if_pos e0, hall j e0]
      rfl
    · rw [if_neg e0]
      by_cases e1 : flC (kk ks) cs n j = wys (kk ks) cs n
      · rw [if_pos e1, hall2 j (by omega)]
        rfl
      · rw [if_neg e1]
        cases nb L j <;> rfl
theorem fcV_bd (W x : Nat) : -1 ≤ fcV W x ∧ fcV W x ≤ 1 := by
  unfold fcV
  split
  · omega
  · split <;> omega
theorem kvB_for {ks cs : List Int} (hv : kvB ks = true) : kvB (forL cs ks) = true := by
  unfold kvB at hv ⊢
  rw [Bool.and_eq_true] at hv ⊢
  have hfl : (forL cs ks).length = ks.length := by unfold forL; rw [mapTo_length]
  rw [hfl]
  refine ⟨allN_t hfl fun j hj => ?_, hv.2⟩
  unfold forL
  rw [mapTo_nth hj]
  simp only [inr, decide_eq_true_eq]
  exact fcV_bd _ _
theorem okK_for {ks cs : List Int} {n : Nat} (h : okK ks cs n = true) : okK (forL cs ks) cs n = true := by
  unfold okK at h ⊢
  rw [Bool.and_eq_true] at h ⊢
  exact ⟨kvB_for h.1, h.2⟩
theorem okK_kv {ks cs : List Int} {n : Nat} (h : okK ks cs n = true) : kvB ks = true := by
  unfold okK at h
  rw [Bool.and_eq_true] at h
  exact h.1
theorem waysI_for {ks cs : List Int} {n : Nat} (hl : ks.length = n) (h : okK ks cs n = true) (hW : 0 < wys (kk ks) cs n) : waysI cs (forL cs ks) = waysI cs ks := by
  have hfl : (forL cs ks).length = n := by unfold forL; rw [mapTo_length, hl]
  rw [waysI_ok hfl (okK_for h), waysI_ok hl h, wys_congr (fun L hL => okL_for hl hW hL)]
theorem forI_for {ks cs : List Int} {n : Nat} (hl : ks.length = n) (h : okK ks cs n = true) (hW : 0 < wys (kk ks) cs n) : forI cs (forL cs ks) = forL cs ks ∧ forB cs (forL cs ks) = true := by
  have hfl : (forL cs ks).length = n := by unfold forL; rw [mapTo_length, hl]
  have hw := wys_congr (c := cs) (n := n) (fun L hL => okL_for hl hW hL)
  have hf := fun j => flC_congr (c := cs) (n := n) (j := j) (fun L hL => okL_for hl hW hL)
  unfold forI forB
  rw [hfl, okK_for h, if_pos rfl, hw, if_neg (by omega)]
  refine ⟨?_, by simp; omega⟩
  have e : forL cs (forL cs ks) = mapTo (fun j => fcV (wys (kk (forL cs ks)) cs n) (flC (kk (forL cs ks)) cs n j)) n := by
    show mapTo (fun j => fcV (wys (kk (forL cs ks)) cs (forL cs ks).length) (flC (kk (forL cs ks)) cs (forL cs ks).length j)) (forL cs ks).length = _
    rw [hfl]
  have e2 : forL cs ks = mapTo (fun j => fcV (wys (kk ks) cs n) (flC (kk ks) cs n j)) n := by unfold forL; rw [hl]
  rw [e, hw]
  conv => rhs; rw [e2]
  exact mapTo_congr fun j _ => by rw [hf j]
theorem forI_yes {ks cs : List Int} (h : forB cs ks = true) : forI cs ks = forL cs ks ∧ okK ks cs ks.length = true ∧ 0 < wys (kk ks) cs ks.length := by
  unfold forB at h
  rw [Bool.and_eq_true, decide_eq_true_eq] at h
  refine ⟨?_, h.1, by omega⟩
  unfold forI
  rw [h.1, if_pos rfl, if_neg h.2]
theorem forI_not {ks cs : List Int} (h : forB cs ks = false) : forI cs ks = [] ∨ (forI cs ks = ks ∧ waysI cs ks = 0) := by
  unfold forB at h
  unfold forI waysI
  cases ho : okK ks cs ks.length
  · exact .inl rfl
  · rw [ho, Bool.true_and, decide_eq_false_iff_not] at h
    have h0 : wys (kk ks) cs ks.length = 0 := by omega
    refine .inr ⟨by rw [if_pos rfl, if_pos h0], by rw [if_pos rfl, h0]; rfl⟩
/-- everything is known of a line. -/
def vsL (L : List Bool) : List Int := mapTo (fun k => if nb L k then 1 else 0) L.length
theorem vsL_length (L : List Bool) : (vsL L).length = L.length := mapTo_length _ _
theorem vsL_kv {L : List Bool} (h1 : 1 ≤ L.length) (h8 : L.length ≤ 8) : kvB (vsL L) = true := by
  unfold kvB
  rw [Bool.and_eq_true, vsL_length]
  refine ⟨allN_t (vsL_length L) fun j hj => ?_, by simp only [inr, decide_eq_true_eq]; omega⟩
  unfold vsL
  rw [mapTo_nth hj]
  split <;> decide
theorem vsL_no {L : List Bool} (h : L.length < 1 ∨ 8 < L.length) : kvB (vsL L) = false := by
  unfold kvB
  rw [vsL_length, show inr (L.length : Int) 1 8 = false by simp only [inr, decide_eq_false_iff_not]; omega, Bool.and_false]
theorem okL_vs {L M : List Bool} {c : List Int} (hM : M.length = L.length) : okL (kk (vsL L)) c M = (decide (M = L) && decide (cl L = c)) := by
  rw [Bool.eq_iff_iff, okL_iff, Bool.and_eq_true, decide_eq_true_eq, decide_eq_true_eq]
  have hk : ∀ j, j < L.length → ∀ b, kk (vsL L) j b = (b == nb L j) := fun j hj b => by
    rw [kk_at (by rw [vsL_length]; exact hj)]
    unfold vsL
    rw [mapTo_nth hj]
    cases b <;> cases nb L j <;> rfl
  constructor
  · rintro ⟨h1, h2⟩
    have e : M = L := by
      apply List.ext_getElem hM
      intro i p q
      have := h1 i p
      rw [hk i q] at this
      have e2 := beq_iff_eq.1 this
      simpa [nb, List.getD_eq_getElem?_getD, p, q] using e2
    exact ⟨e, by rw [← e]; exact h2⟩
  · rintro ⟨rfl, h2⟩
    exact ⟨fun j hj => by rw [hk j hj]; simp, h2⟩
theorem wys_vs (L : List Bool) (c : List Int) : wys (kk (vsL L)) c L.length = if cl L = c then 1 else 0 := by
  unfold wys
  rw [← sm_one (n := L.length) L rfl (if cl L = c then 1 else 0)]
  refine sm_congr fun M hM => ?_
  rw [okL_vs hM]
  by_cases e : M = L <;> by_cases e2 : cl L = c <;> simp [e, e2]
theorem flC_vs (L : List Bool) (j : Nat) : flC (kk (vsL L)) (cl L) L.length j = if nb L j then 1 else 0 := by
  unfold flC
  rw [← sm_one (n := L.length) L rfl (if nb L j then 1 else 0)]
  refine sm_congr fun M hM => ?_
  rw [okL_vs hM]
  by_cases e : M = L
  · subst e; simp
  · simp [e]
theorem sI_sum (xs : List Int) : sI xs xs.length = xs.sum := by
  have : ∀ k, k ≤ xs.length → sI xs k = (xs.take k).sum := by
    intro k
    induction k with
    | zero => intro _; rfl
    | succ k ih =>
      intro h
      have hk : k < xs.length := by omega
      simp only [sI]
      rw [ih (by omega), List.take_add_one, List.getElem?_eq_getElem hk, List.sum_append]
      simp [nth, List.getD_eq_getElem?_getD, hk]
  rw [this _ (Nat.le_refl _), List.take_length]
theorem cv_cl {L : List Bool} (h1 : 1 ≤ L.length) (h8 : L.length ≤ 8) : cvB (cl L) (L.length : Int) = true := by
  unfold cvB
  simp only [Bool.and_eq_true, decide_eq_true_eq]
  refine ⟨⟨allN_t rfl fun j hj => ?_, by simp only [inr, decide_eq_true_eq]; omega⟩, ?_⟩
  · have e : nth (cl L) j = (cl L)[j] := by simp [nth, List.getD_eq_getElem?_getD, hj]
    have := cl_pos L _ (List.getElem_mem hj)
    rw [e]
    simp only [inr, decide_eq_true_eq]; omega
  · rw [sI_sum]
    have := cl_fits L
    omega
theorem line_clue {L : List Bool} (h1 : 1 ≤ L.length) (h8 : L.length ≤ 8) : waysI (cl L) (vsL L) = 1 ∧ forI (cl L) (vsL L) = vsL L ∧ forB (cl L) (vsL L) = true ∧ waysI (cl L ++ [1]) (vsL L) ≤ 0 := by
  have hok : okK (vsL L) (cl L) L.length = true := by unfold okK; rw [vsL_kv h1 h8, cv_cl h1 h8]; rfl
  have hw : wys (kk (vsL L)) (cl L) L.length = 1 := by rw [wys_vs, if_pos rfl]
  refine ⟨by rw [waysI_ok (vsL_length L) hok, hw]; rfl, ?_, ?_, ?_⟩
  · unfold forI
    rw [vsL_length, hok, if_pos rfl, hw, if_neg (by omega)]
    unfold forL
    rw [vsL_length, hw]
    conv => rhs; unfold vsL
    refine mapTo_congr fun j _ => ?_
    rw [flC_vs]
    cases nb L j <;> rfl
  · unfold forB
    rw [vsL_length, hok, hw]
    rfl
  · cases h : okK (vsL L) (cl L ++ [1]) L.length
    · rw [waysI_no (vsL_length L) h]; omega
    · rw [waysI_ok (vsL_length L) h, wys_vs, if_neg (by intro e; have := congrArg List.length e; simp at this)]
      omega
theorem cl_repF (n : Nat) : cl (List.replicate n false) = [] := by
  induction n with
  | zero => rfl
  | succ n ih => rw [List.replicate_succ', cl_f, ih]
/-- a valid clue has a line. -/
theorem clue_line (cs : List Int) : ∀ n : Nat, (∀ v ∈ cs, 1 ≤ v) → cs.sum + (cs.length : Int) - 1 ≤ n → ∃ L : List Bool, L.length = n ∧ cl L = cs ∧ (cs = [] ∨ True) := by
  induction cs with
  | nil =>
    intro n _ _
    exact ⟨List.replicate n false, by simp, cl_repF n, .inr trivial⟩
  | cons a t ih =>
    intro n hv hs
    have ha := hv a (by simp)
    obtain ⟨r, rfl⟩ := Int.eq_ofNat_of_zero_le (show 0 ≤ a by omega)
    have hr : 0 < r := by omega
    have hsum : (t.length : Int) ≤ t.sum := by
      have : ∀ v ∈ t, 1 ≤ v := fun v h => hv v (by simp [h])
      clear ih hs hv
      induction t with
      | nil => simp
      | cons b t ih =>
        have h1 := this b (by simp)
        have h2 := ih (fun v h => this v (by simp [h]))
        simp; omega
    cases t with
    | nil =>
      simp at hs
      refine ⟨List.replicate r true ++ List.replicate (n - r) false, by simp; omega, ?_, .inr trivial⟩
      have : hd (List.replicate (n - r) false) = false := by
        cases n - r <;> simp [hd, nb, List.replicate_succ]
      rw [cl_app' this, cl_all hr]
      rw [cl_repF]; rfl
    | cons b t =>
      simp at hs hsum
      obtain ⟨L, hL, hcl, _⟩ := ih (n - r - 1) (fun v h => hv v (by simp [h])) (by simp; omega)
      refine ⟨List.replicate r true ++ (false :: L), by simp [hL]; omega, ?_, .inr trivial⟩
      have e2 : cl (false :: L) = cl L := by
        have := cl_app (A := [false]) (B := L) rfl
        simpa [show cl [false] = [] from rfl] using this
      rw [cl_app' (by simp [hd, nb]), cl_all hr, e2, hcl]
      rfl
theorem unk_pos {cs : List Int} {n : Nat} (h1 : 1 ≤ n) (h8 : n ≤ 8) : decide (0 < waysI cs (mapTo (fun _ => -1) n)) = cvB cs (n : Int) := by
  have hl : (mapTo (fun _ => (-1 : Int)) n).length = n := mapTo_length _ _
  have hkv : kvB (mapTo (fun _ => -1) n) = true := by
    unfold kvB
    rw [Bool.and_eq_true, hl]
    refine ⟨allN_t hl fun j hj => by rw [mapTo_nth hj]; rfl, by simp only [inr, decide_eq_true_eq]; omega⟩
  have hok : okK (mapTo (fun _ => -1) n) cs n = cvB cs (n : Int) := by unfold okK; rw [hkv, Bool.true_and]
  cases hc : cvB cs (n : Int)
  · rw [waysI_no hl (by rw [hok, hc])]
    rfl
  · rw [waysI_ok hl (by rw [hok, hc])]
    have hp := cv_parts hc
    have hs : cs.sum + (cs.length : Int) - 1 ≤ n := by
      unfold cvB at hc
      simp only [Bool.and_eq_true, decide_eq_true_eq] at hc
      rw [← sI_sum]
      exact hc.2
    obtain ⟨L, hL, hcl, _⟩ := clue_line cs n (fun v hv => (hp.2.2 v hv).1) hs
    have : 0 < wys (kk (mapTo (fun _ => -1) n)) cs n := sm_pos L hL (by
      rw [show okL (kk (mapTo (fun _ => -1) n)) cs L = true from okL_iff.2 ⟨fun j hj => by
        rw [kk_at (by rw [hl]; omega), mapTo_nth (by omega)]
        cases nb L j <;> rfl, hcl⟩]
      decide)
    rw [decide_eq_true_eq]
    omega
theorem kv_tail {xs : List Int} (h : kvB xs = true) (h2 : 2 ≤ xs.length) : kvB (xs.drop 1) = true := by
  unfold kvB at h ⊢
  rw [Bool.and_eq_true] at h ⊢
  have h8 := inr_t h.2
  have hl : (xs.drop 1).length = xs.length - 1 := by simp
  refine ⟨allN_t hl fun j hj => ?_, by rw [hl]; simp only [inr, decide_eq_true_eq]; omega⟩
  have := allN_at h.1 (show 1 + j < xs.length by omega)
  rw [show nth (xs.drop 1) j = nth xs (1 + j) by simp [nth, List.getD_eq_getElem?_getD, Nat.add_comm]]
  simp only [inr, decide_eq_true_eq]; exact this
theorem kv_two (xs : List Int) : kvB (xs ++ [2]) = false := by
  unfold kvB
  rw [allN_f (k := xs.length) (by simp) (by rw [show nth (xs ++ [2]) xs.length = 2 by simp [nth, List.getD_eq_getElem?_getD]]; rfl), Bool.false_and]
end Go.Proofs.Ytgeedgljabdllaa
