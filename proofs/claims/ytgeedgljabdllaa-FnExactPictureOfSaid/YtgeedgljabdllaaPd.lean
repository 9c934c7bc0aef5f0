import Derived.Test.YtgeedgljabdllaaPc
set_option maxRecDepth 8000
namespace Go.Proofs.Ytgeedgljabdllaa
open Go.ChangeShapes Go.WideShapes Go.ChangeAt Go.RowKit
/-! what is known of a picture: any order of lines leads to the same (drafted in round 12, before chapter 13 had landed). -/
def LeL (n : Nat) (ks ks' : List Int) : Prop := ∀ k, k < n → nth ks k ≠ -1 → nth ks' k = nth ks k
theorem okL_le {ks ks' c : List Int} {n : Nat} {L : List Bool} (hl : ks.length = n) (hl' : ks'.length = n) (hL : L.length = n) (hle : LeL n ks ks') (h : okL (kk ks') c L = true) : okL (kk ks) c L = true := by
  rw [okL_iff] at h ⊢
  refine ⟨fun j hj => ?_, h.2⟩
  have h1 := h.1 j hj
  rw [kk_at (by omega)] at h1 ⊢
  by_cases e : nth ks j = -1
  · rw [e]; cases nb L j <;> rfl
  · rw [hle j (by omega) e] at h1
    exact h1
theorem forL_at {ks c : List Int} {n j : Nat} (hl : ks.length = n) (hj : j < n) : nth (forL c ks) j = fcV (wys (kk ks) c n) (flC (kk ks) c n j) := by
  unfold forL
  rw [hl, mapTo_nth hj]
theorem line_mono {ks ks' c : List Int} {n : Nat} (hl : ks.length = n) (hl' : ks'.length = n) (hk : okK ks c n = true) (hle : LeL n ks ks') (hb : forB c ks' = true) :
    forB c ks = true ∧ LeL n (forL c ks) (forL c ks') := by
  obtain ⟨_, _, w'⟩ := forI_yes hb
  rw [hl'] at w'
  have m1 : ∀ j, flC (kk ks') c n j ≤ flC (kk ks) c n j := fun j => sm_mono fun L hL => by
    cases h : okL (kk ks') c L
    · simp
    · rw [okL_le hl hl' hL hle h]; simp
  have m2 : ∀ j, epC (kk ks') c n j ≤ epC (kk ks) c n j := fun j => sm_mono fun L hL => by
    cases h : okL (kk ks') c L
    · simp
    · rw [okL_le hl hl' hL hle h]; simp
  have w : 0 < wys (kk ks) c n := by
    have h1 := ep_fl (kk ks) c n 0
    have h2 := ep_fl (kk ks') c n 0
    have h3 := m1 0
    have h4 := m2 0
    omega
  refine ⟨by unfold forB; rw [hl, hk]; simp; omega, fun j hj hne => ?_⟩
  rw [forL_at hl hj] at hne ⊢
  rw [forL_at hl' hj]
  have h1 := ep_fl (kk ks) c n j
  have h2 := ep_fl (kk ks') c n j
  have h3 := m1 j
  have h4 := m2 j
  unfold fcV at hne ⊢
  by_cases a : flC (kk ks) c n j = 0
  · rw [if_pos a, if_pos (by omega)]
  · rw [if_neg a] at hne ⊢
    by_cases b : flC (kk ks) c n j = wys (kk ks) c n
    · rw [if_pos b, if_neg (by omega), if_pos (by omega)]
    · rw [if_neg b] at hne
      exact absurd rfl hne
/-- line l of what is known of a picture of r rows of n cells: its rows, and behind them its columns. -/
def lnK (r n : Nat) (K : Nat → Nat → Int) (l : Nat) : List Int := if l < r then mapTo (K l) n else mapTo (fun i => K i (l - r)) r
def lnN (r n l : Nat) : Nat := if l < r then n else r
def lnS (r : Nat) (K : Nat → Nat → Int) (l : Nat) (ks : List Int) : Nat → Nat → Int :=
  if l < r then fun a b => if a = l then nth ks b else K a b else fun a b => if b = l - r then nth ks a else K a b
def lnC (rc cc : List (List Int)) (l : Nat) : List Int := if l < rc.length then rc.getD l [] else cc.getD (l - rc.length) []
theorem lnK_length (r n : Nat) (K : Nat → Nat → Int) (l : Nat) : (lnK r n K l).length = lnN r n l := by
  unfold lnK lnN
  split <;> exact mapTo_length _ _
theorem lnK_row {r n : Nat} {K : Nat → Nat → Int} {l k : Nat} (h : l < r) (hk : k < n) : nth (lnK r n K l) k = K l k := by
  unfold lnK
  rw [if_pos h, mapTo_nth hk]
theorem lnK_col {r n : Nat} {K : Nat → Nat → Int} {l k : Nat} (h : ¬ l < r) (hk : k < r) : nth (lnK r n K l) k = K k (l - r) := by
  unfold lnK
  rw [if_neg h, mapTo_nth hk]
def LeK (r n : Nat) (K K' : Nat → Nat → Int) : Prop := ∀ i j, i < r → j < n → K i j ≠ -1 → K' i j = K i j
def EqK (r n : Nat) (K K' : Nat → Nat → Int) : Prop := ∀ i j, i < r → j < n → K i j = K' i j
def BdK (r n : Nat) (K : Nat → Nat → Int) : Prop := ∀ i j, i < r → j < n → -1 ≤ K i j ∧ K i j ≤ 1
theorem lnK_le {r n l : Nat} {K K' : Nat → Nat → Int} (h : LeK r n K K') (hl : l < r + n) : LeL (lnN r n l) (lnK r n K l) (lnK r n K' l) := by
  intro k hk hne
  by_cases hr : l < r
  · rw [lnN, if_pos hr] at hk
    rw [lnK_row hr hk] at hne ⊢
    rw [lnK_row hr hk]
    exact h l k hr hk hne
  · rw [lnN, if_neg hr] at hk
    rw [lnK_col hr hk] at hne ⊢
    rw [lnK_col hr hk]
    exact h k (l - r) hk (by omega) hne
theorem lnK_eq {r n l : Nat} {K K' : Nat → Nat → Int} (h : EqK r n K K') (hl : l < r + n) : lnK r n K l = lnK r n K' l := by
  unfold lnK
  split
  · next hr => exact List.map_congr_left fun j hj => h l j hr (List.mem_range.1 hj)
  · exact List.map_congr_left fun i hi => h i (l - r) (List.mem_range.1 hi) (by omega)
theorem lnS_le {r n l : Nat} {K K' : Nat → Nat → Int} {ks ks' : List Int} (h : LeK r n K K') (hk : LeL (lnN r n l) ks ks') : LeK r n (lnS r K l ks) (lnS r K' l ks') := by
  intro i j hi hj hne
  unfold lnS at hne ⊢
  unfold lnN at hk
  by_cases hr : l < r
  · rw [if_pos hr] at hne hk ⊢
    rw [if_pos hr]
    by_cases e : i = l
    · rw [if_pos e] at hne ⊢
      rw [if_pos e]
      exact hk j hj hne
    · rw [if_neg e] at hne ⊢
      rw [if_neg e]
      exact h i j hi hj hne
  · rw [if_neg hr] at hne hk ⊢
    rw [if_neg hr]
    by_cases e : j = l - r
    · rw [if_pos e] at hne ⊢
      rw [if_pos e]
      exact hk i hi hne
    · rw [if_neg e] at hne ⊢
      rw [if_neg e]
      exact h i j hi hj hne
theorem lnS_same {r n l : Nat} {K : Nat → Nat → Int} : EqK r n (lnS r K l (lnK r n K l)) K := by
  intro i j hi hj
  unfold lnS
  by_cases hr : l < r
  · rw [if_pos hr]
    by_cases e : i = l
    · rw [if_pos e, lnK_row hr hj, e]
    · rw [if_neg e]
  · rw [if_neg hr]
    by_cases e : j = l - r
    · rw [if_pos e, lnK_col hr hi, e]
    · rw [if_neg e]
theorem lnS_bd {r n l : Nat} {K : Nat → Nat → Int} {ks : List Int} (h : BdK r n K) (hk : ∀ k, k < lnN r n l → -1 ≤ nth ks k ∧ nth ks k ≤ 1) : BdK r n (lnS r K l ks) := by
  intro i j hi hj
  unfold lnS
  unfold lnN at hk
  by_cases hr : l < r
  · rw [if_pos hr] at hk ⊢
    by_cases e : i = l
    · rw [if_pos e]; exact hk j hj
    · rw [if_neg e]; exact h i j hi hj
  · rw [if_neg hr] at hk ⊢
    by_cases e : j = l - r
    · rw [if_pos e]; exact hk i hi
    · rw [if_neg e]; exact h i j hi hj
/-- a valid picture puzzle. -/
def PV (rc cc : List (List Int)) : Prop := (1 ≤ rc.length ∧ rc.length ≤ 8) ∧ (1 ≤ cc.length ∧ cc.length ≤ 8) ∧ ∀ l, l < rc.length + cc.length → cvB (lnC rc cc l) (lnN rc.length cc.length l : Nat) = true
theorem lnK_ok {rc cc : List (List Int)} (hp : PV rc cc) {K : Nat → Nat → Int} (h : BdK rc.length cc.length K) {l : Nat} (hl : l < rc.length + cc.length) : okK (lnK rc.length cc.length K l) (lnC rc cc l) (lnN rc.length cc.length l) = true := by
  unfold okK
  rw [Bool.and_eq_true]
  refine ⟨?_, hp.2.2 l hl⟩
  unfold kvB
  rw [Bool.and_eq_true]
  refine ⟨allN_t (lnK_length ..) fun k hk => ?_, ?_⟩
  · simp only [inr, decide_eq_true_eq]
    by_cases hr : l < rc.length
    · rw [lnN, if_pos hr] at hk
      rw [lnK_row hr hk]
      exact h l k hr hk
    · rw [lnN, if_neg hr] at hk
      rw [lnK_col hr hk]
      exact h k _ hk (by omega)
  · rw [lnK_length]
    simp only [inr, decide_eq_true_eq]
    have h1 := hp.1
    have h2 := hp.2.1
    unfold lnN
    split <;> omega
/-- line l forced. -/
def stK (rc cc : List (List Int)) (K : Nat → Nat → Int) (l : Nat) : Nat → Nat → Int := lnS rc.length K l (forL (lnC rc cc l) (lnK rc.length cc.length K l))
def fbK (rc cc : List (List Int)) (K : Nat → Nat → Int) (l : Nat) : Bool := forB (lnC rc cc l) (lnK rc.length cc.length K l)
/-- what lines forced in any order lead to, from what is known at first. -/
inductive Rch (rc cc : List (List Int)) (K0 : Nat → Nat → Int) : (Nat → Nat → Int) → Prop
  | start : Rch rc cc K0 K0
  | step {K : Nat → Nat → Int} {l : Nat} : Rch rc cc K0 K → l < rc.length + cc.length → fbK rc cc K l = true → Rch rc cc K0 (stK rc cc K l)
  | eq {K K' : Nat → Nat → Int} : Rch rc cc K0 K → EqK rc.length cc.length K K' → Rch rc cc K0 K'
/-- nothing is known. -/
def noK : Nat → Nat → Int := fun _ _ => -1
theorem noK_bd (r n : Nat) : BdK r n noK := fun _ _ _ _ => by simp [noK]
theorem noK_le (r n : Nat) (S : Nat → Nat → Int) : LeK r n noK S := fun _ _ _ _ hne => absurd rfl hne
theorem forL_bd {c ks : List Int} {n k : Nat} (hl : ks.length = n) (hk : k < n) : -1 ≤ nth (forL c ks) k ∧ nth (forL c ks) k ≤ 1 := by
  rw [forL_at hl hk]
  exact fcV_bd _ _
theorem Rch.bd {rc cc : List (List Int)} {K0 K : Nat → Nat → Int} (h : Rch rc cc K0 K) (h0 : BdK rc.length cc.length K0) : BdK rc.length cc.length K := by
  induction h with
  | start => exact h0
  | step _ _ _ ih => exact lnS_bd ih fun k hk => forL_bd (lnK_length ..) hk
  | eq _ he ih => intro i j hi hj; rw [← he i j hi hj]; exact ih i j hi hj
/-- nothing more is forced. -/
def Stb (rc cc : List (List Int)) (S : Nat → Nat → Int) : Prop := ∀ l, l < rc.length + cc.length → fbK rc cc S l = true ∧ forL (lnC rc cc l) (lnK rc.length cc.length S l) = lnK rc.length cc.length S l
theorem rch_le {rc cc : List (List Int)} (hp : PV rc cc) {K0 X S : Nat → Nat → Int} (h : Rch rc cc K0 X) (h0 : BdK rc.length cc.length K0) (hs : Stb rc cc S) (hS : LeK rc.length cc.length K0 S) : LeK rc.length cc.length X S := by
  induction h with
  | start => exact hS
  | @step K l hK hl hb ih =>
    obtain ⟨s1, s2⟩ := hs l hl
    have hm := line_mono (lnK_length ..) (lnK_length ..) (lnK_ok hp (hK.bd h0) hl) (lnK_le ih hl) s1
    rw [s2] at hm
    intro i j hi hj hne
    have h1 := lnS_le ih hm.2 i j hi hj hne
    rw [lnS_same i j hi hj] at h1
    exact h1
  | eq _ he ih => intro i j hi hj hne; rw [← he i j hi hj] at hne ⊢; exact ih i j hi hj hne
theorem rch_for {rc cc : List (List Int)} (hp : PV rc cc) {K0 X S : Nat → Nat → Int} (h : Rch rc cc K0 X) (h0 : BdK rc.length cc.length K0) (hs : Stb rc cc S) (hS : LeK rc.length cc.length K0 S) {l : Nat} (hl : l < rc.length + cc.length) : fbK rc cc X l = true :=
  (line_mono (lnK_length ..) (lnK_length ..) (lnK_ok hp (h.bd h0) hl) (lnK_le (rch_le hp h h0 hs hS) hl) (hs l hl).1).1
/-- what is known only grows. -/
theorem st_grows {rc cc : List (List Int)} {K : Nat → Nat → Int} (hb : BdK rc.length cc.length K) {l : Nat} (hl : l < rc.length + cc.length) (hf : fbK rc cc K l = true) : LeK rc.length cc.length K (stK rc cc K l) := by
  obtain ⟨_, _, w⟩ := forI_yes hf
  rw [lnK_length] at w
  have hle : LeL (lnN rc.length cc.length l) (lnK rc.length cc.length K l) (forL (lnC rc cc l) (lnK rc.length cc.length K l)) := fun k hk hne => by
    have hbk : -1 ≤ nth (lnK rc.length cc.length K l) k ∧ nth (lnK rc.length cc.length K l) k ≤ 1 := by
      by_cases hr : l < rc.length
      · rw [lnN, if_pos hr] at hk; rw [lnK_row hr hk]; exact hb l k hr hk
      · rw [lnN, if_neg hr] at hk; rw [lnK_col hr hk]; exact hb k _ hk (by omega)
    rw [forL_at (lnK_length ..) hk]
    unfold fcV
    have h1 := ep_fl (kk (lnK rc.length cc.length K l)) (lnC rc cc l) (lnN rc.length cc.length l) k
    by_cases e0 : nth (lnK rc.length cc.length K l) k = 0
    · rw [if_pos (fl_of0 (lnK_length ..) hk e0), e0]
    · have e1 : nth (lnK rc.length cc.length K l) k = 1 := by omega
      have h2 := ep_of1 (cs := lnC rc cc l) (lnK_length ..) hk e1
      rw [if_neg (by omega), if_pos (by omega), e1]
  intro i j hi hj hne
  have h1 := lnS_le (ks := lnK rc.length cc.length K l) (l := l) (fun _ _ _ _ _ => rfl : LeK rc.length cc.length K K) hle i j hi hj
  rw [lnS_same i j hi hj] at h1
  exact h1 hne
theorem rch_grows {rc cc : List (List Int)} {K0 X : Nat → Nat → Int} (h : Rch rc cc K0 X) (h0 : BdK rc.length cc.length K0) : LeK rc.length cc.length K0 X := by
  induction h with
  | start => intro _ _ _ _ _; rfl
  | step hK hl hf ih =>
    intro i j hi hj hne
    have h1 := ih i j hi hj hne
    have h2 := st_grows (hK.bd h0) hl hf i j hi hj (by rw [h1]; exact hne)
    rw [h2, h1]
  | eq _ he ih => intro i j hi hj hne; rw [← he i j hi hj]; exact ih i j hi hj hne
theorem stb_one {rc cc : List (List Int)} (hp : PV rc cc) {K0 X Y : Nat → Nat → Int} (h0 : BdK rc.length cc.length K0) (hX : Rch rc cc K0 X) (sX : Stb rc cc X) (hY : Rch rc cc K0 Y) (sY : Stb rc cc Y) : EqK rc.length cc.length X Y := by
  intro i j hi hj
  have h1 := rch_le hp hX h0 sY (rch_grows hY h0) i j hi hj
  have h2 := rch_le hp hY h0 sX (rch_grows hX h0) i j hi hj
  by_cases e : X i j = -1
  · by_cases e' : Y i j = -1
    · rw [e, e']
    · exact h2 e'
  · exact (h1 e).symm
/-- where one order fails, no order ends stable. -/
theorem two_ends {rc cc : List (List Int)} (hp : PV rc cc) {K0 X Y : Nat → Nat → Int} (h0 : BdK rc.length cc.length K0) (hX : Rch rc cc K0 X) (hY : Rch rc cc K0 Y) {l : Nat} (hl : l < rc.length + cc.length) (fX : fbK rc cc X l = false) (sY : Stb rc cc Y) : False := by
  have := rch_for hp hX h0 sY (rch_grows hY h0) hl
  rw [fX] at this
  simp at this
theorem lnS_at {r n l : Nat} {K : Nat → Nat → Int} {ks : List Int} (h : ks.length = lnN r n l) : lnK r n (lnS r K l ks) l = ks := by
  refine ext_nth (by rw [lnK_length, h]) fun k hk => ?_
  rw [lnK_length] at hk
  by_cases hr : l < r
  · rw [lnN, if_pos hr] at hk
    rw [lnK_row hr hk, lnS, if_pos hr, if_pos rfl]
  · rw [lnN, if_neg hr] at hk
    rw [lnK_col hr hk, lnS, if_neg hr, if_pos rfl]
theorem forL_length (c ks : List Int) : (forL c ks).length = ks.length := by unfold forL; rw [mapTo_length]
theorem stK_at {rc cc : List (List Int)} {K : Nat → Nat → Int} {l : Nat} : lnK rc.length cc.length (stK rc cc K l) l = forL (lnC rc cc l) (lnK rc.length cc.length K l) :=
  lnS_at (by rw [forL_length, lnK_length])
/-- a line that was just forced is not forced further. -/
theorem stK_idem {rc cc : List (List Int)} (hp : PV rc cc) {K : Nat → Nat → Int} (hK : BdK rc.length cc.length K) {l : Nat} (hl : l < rc.length + cc.length) (hb : fbK rc cc K l = true) : fbK rc cc (stK rc cc K l) l = true ∧ forL (lnC rc cc l) (lnK rc.length cc.length (stK rc cc K l) l) = lnK rc.length cc.length (stK rc cc K l) l := by
  have ho := lnK_ok hp hK hl
  obtain ⟨_, _, w⟩ := forI_yes hb
  rw [lnK_length] at w
  obtain ⟨h1, h2⟩ := forI_for (lnK_length ..) ho w
  unfold fbK
  rw [stK_at]
  exact ⟨h2, by rw [← (forI_yes h2).1]; exact h1⟩
/-- the cells of a picture that agree with what is known. -/
def AgK (r n : Nat) (K : Nat → Nat → Int) (M : List (List Bool)) : Prop := ∀ i j, i < r → j < n → (if mc M i j then K i j ≠ 0 else K i j ≠ 1)
def lnM (r : Nat) (M : List (List Bool)) (l : Nat) : List Bool := if l < r then M.getD l [] else M.map (fun L => nb L (l - r))
theorem lnM_length {r n : Nat} {M : List (List Bool)} (h : Mx r n M) (l : Nat) : (lnM r M l).length = lnN r n l := by
  unfold lnM lnN
  split
  · next hr =>
    have hl : l < M.length := by rw [h.1]; exact hr
    rw [List.getD_eq_getElem?_getD, List.getElem?_eq_getElem hl]
    exact h.2 _ (List.getElem_mem hl)
  · rw [List.length_map, h.1]
theorem lnM_at {r n : Nat} {M : List (List Bool)} (h : Mx r n M) {l k : Nat} (hk : k < lnN r n l) : nb (lnM r M l) k = if l < r then mc M l k else mc M k (l - r) := by
  unfold lnM
  unfold lnN at hk
  by_cases hr : l < r
  · rw [if_pos hr, if_pos hr]; rfl
  · rw [if_neg hr] at hk ⊢
    rw [if_neg hr]
    have hl : k < M.length := by rw [h.1]; exact hk
    simp [nb, mc, List.getD_eq_getElem?_getD, hl]
theorem lnM_cl {rc cc : List (List Int)} {M : List (List Bool)} (h : pic rc cc M = true) {l : Nat} (hl : l < rc.length + cc.length) : cl (lnM rc.length M l) = lnC rc cc l := by
  unfold lnM lnC
  split
  · next hr => exact pic_row h hr
  · exact pic_col h (by omega)
theorem ag_line {rc cc : List (List Int)} {K : Nat → Nat → Int} {M : List (List Bool)} (hM : Mx rc.length cc.length M) (hp : pic rc cc M = true) (ha : AgK rc.length cc.length K M) {l : Nat} (hl : l < rc.length + cc.length) :
    okL (kk (lnK rc.length cc.length K l)) (lnC rc cc l) (lnM rc.length M l) = true := by
  rw [okL_iff]
  refine ⟨fun j hj => ?_, lnM_cl hp hl⟩
  rw [lnM_length hM] at hj
  rw [kk_at (by rw [lnK_length]; exact hj), lnM_at hM hj]
  by_cases hr : l < rc.length
  · rw [if_pos hr]
    rw [lnN, if_pos hr] at hj
    rw [lnK_row hr hj]
    have := ha l j hr hj
    cases e : mc M l j <;> rw [e] at this <;> simpa using this
  · rw [if_neg hr]
    rw [lnN, if_neg hr] at hj
    rw [lnK_col hr hj]
    have := ha j (l - rc.length) hj (by omega)
    cases e : mc M j (l - rc.length) <;> rw [e] at this <;> simpa using this
theorem rch_ag {rc cc : List (List Int)} (hp : PV rc cc) {K0 X : Nat → Nat → Int} (h : Rch rc cc K0 X) (h0 : BdK rc.length cc.length K0) {M : List (List Bool)} (hM : Mx rc.length cc.length M) (hc : pic rc cc M = true) (ha : AgK rc.length cc.length K0 M) : AgK rc.length cc.length X M := by
  induction h with
  | start => exact ha
  | @step K l hK hl hb ih =>
    have h1 := line_step (lnK_length ..) (lnK_ok hp (hK.bd h0) hl) (lnM_length hM l) (ag_line hM hc ih hl)
    have h2 := (okL_iff.1 h1.2.1).1
    have h3 := h1.2.2.1
    rw [(forI_yes h1.1).1] at h2 h3
    intro i j hi hj
    have h4 := ih i j hi hj
    unfold stK lnS
    by_cases hr : l < rc.length
    · rw [if_pos hr]
      by_cases e : i = l
      · subst e
        rw [if_pos rfl]
        have hk : j < lnN rc.length cc.length i := by rw [lnN, if_pos hr]; exact hj
        have h5 := h2 j (by rw [lnM_length hM]; exact hk)
        rw [kk_at (by rw [h3]; exact hk), lnM_at hM hk, if_pos hr] at h5
        cases e : mc M i j <;> rw [e] at h5 <;> simpa using h5
      · rw [if_neg e]; exact h4
    · rw [if_neg hr]
      by_cases e : j = l - rc.length
      · rw [if_pos e]
        have hk : i < lnN rc.length cc.length l := by rw [lnN, if_neg hr]; exact hi
        have h5 := h2 i (by rw [lnM_length hM]; exact hk)
        rw [kk_at (by rw [h3]; exact hk), lnM_at hM hk, if_neg hr, ← e] at h5
        cases e : mc M i j <;> rw [e] at h5 <;> simpa using h5
      · rw [if_neg e]; exact h4
  | eq _ he ih => intro i j hi hj; rw [← he i j hi hj]; exact ih i j hi hj
/-- a picture with the clues: no line fails. -/
theorem ag_ok {rc cc : List (List Int)} (hp : PV rc cc) {X : Nat → Nat → Int} (hb : BdK rc.length cc.length X) {M : List (List Bool)} (hM : Mx rc.length cc.length M) (hc : pic rc cc M = true) (ha : AgK rc.length cc.length X M) {l : Nat} (hl : l < rc.length + cc.length) : fbK rc cc X l = true :=
  (line_step (lnK_length ..) (lnK_ok hp hb hl) (lnM_length hM l) (ag_line hM hc ha hl)).1
theorem ag_le {r n : Nat} {K X : Nat → Nat → Int} {M : List (List Bool)} (hb : BdK r n K) (h : LeK r n K X) (ha : AgK r n X M) : AgK r n K M := by
  intro i j hi hj
  have h1 := ha i j hi hj
  have h2 := h i j hi hj
  have b := hb i j hi hj
  by_cases e : K i j = -1
  · split <;> omega
  · rw [h2 e] at h1
    exact h1
instance agDec (r n : Nat) (K : Nat → Nat → Int) (M : List (List Bool)) : Decidable (AgK r n K M) :=
  decidable_of_iff (∀ i, i < r → ∀ j, j < n → (if mc M i j then K i j ≠ 0 else K i j ≠ 1)) ⟨fun h i j hi hj => h i hi j hj, fun h i hi j hj => h i j hi hj⟩
/-- the pictures with the clues that agree with what is known. -/
def cntK (rc cc : List (List Int)) (K : Nat → Nat → Int) : Nat := smM cc.length rc.length (fun M => if pic rc cc M = true ∧ AgK rc.length cc.length K M then 1 else 0)
theorem noK_ag (r n : Nat) (M : List (List Bool)) : AgK r n noK M := fun _ _ _ _ => by unfold noK; split <;> decide
theorem cnt_noK (rc cc : List (List Int)) : cntK rc cc noK = picC rc cc := smM_congr fun M _ => by
  have := noK_ag rc.length cc.length M
  cases pic rc cc M <;> simp [this]
theorem cnt_rch {rc cc : List (List Int)} (hp : PV rc cc) {K0 X : Nat → Nat → Int} (h : Rch rc cc K0 X) (h0 : BdK rc.length cc.length K0) : cntK rc cc X = cntK rc cc K0 := smM_congr fun M hM => by
  by_cases e : pic rc cc M = true
  · by_cases a : AgK rc.length cc.length K0 M
    · rw [if_pos (show pic rc cc M = true ∧ AgK rc.length cc.length X M from ⟨e, rch_ag hp h h0 hM e a⟩), if_pos (show pic rc cc M = true ∧ AgK rc.length cc.length K0 M from ⟨e, a⟩)]
    · rw [if_neg (fun h1 : pic rc cc M = true ∧ AgK rc.length cc.length X M => a (ag_le h0 (rch_grows h h0) h1.2)), if_neg (fun h1 : pic rc cc M = true ∧ AgK rc.length cc.length K0 M => a h1.2)]
  · rw [if_neg (fun h1 => e h1.1), if_neg (fun h1 => e h1.1)]
theorem cnt_fail {rc cc : List (List Int)} (hp : PV rc cc) {X : Nat → Nat → Int} (hb : BdK rc.length cc.length X) {l : Nat} (hl : l < rc.length + cc.length) (hf : fbK rc cc X l = false) : cntK rc cc X = 0 := by
  refine smM_none fun M hM => if_neg fun h => ?_
  have := ag_ok hp hb hM h.1 h.2 hl
  rw [hf] at this
  simp at this
/-- cell (i, j) known to be v. -/
def seK (K : Nat → Nat → Int) (i j : Nat) (v : Int) : Nat → Nat → Int := fun a b => if a = i ∧ b = j then v else K a b
theorem seK_bd {r n i j : Nat} {K : Nat → Nat → Int} {v : Int} (h : BdK r n K) (hv : -1 ≤ v ∧ v ≤ 1) : BdK r n (seK K i j v) := fun a b ha hb => by
  unfold seK
  split
  · exact hv
  · exact h a b ha hb
theorem seK_ag {r n i j : Nat} {K : Nat → Nat → Int} {M : List (List Bool)} (hi : i < r) (hj : j < n) (hu : K i j = -1) (x : Bool) : AgK r n (seK K i j (if x then 1 else 0)) M ↔ AgK r n K M ∧ mc M i j = x := by
  constructor
  · intro h
    refine ⟨fun a b ha hb => ?_, ?_⟩
    · have := h a b ha hb
      unfold seK at this
      by_cases e : a = i ∧ b = j
      · rw [e.1, e.2, hu]; split <;> decide
      · rw [if_neg e] at this; exact this
    · have h2 := h i j hi hj
      have h3 : seK K i j (if x then 1 else 0) i j = if x then 1 else 0 := if_pos (show i = i ∧ j = j from ⟨rfl, rfl⟩)
      rw [h3] at h2
      cases e : mc M i j <;> cases x <;> rw [e] at h2 <;> simp at h2 <;> rfl
  · intro ⟨h, hx⟩ a b ha hb
    unfold seK
    by_cases e : a = i ∧ b = j
    · rw [if_pos e, e.1, e.2, hx]; cases x <;> decide
    · rw [if_neg e]; exact h a b ha hb
theorem smM_add (n : Nat) : ∀ (r : Nat) (f g : List (List Bool) → Nat), smM n r (fun M => f M + g M) = smM n r f + smM n r g := by
  intro r
  induction r with
  | zero => intro f g; rfl
  | succ r ih =>
    intro f g
    show sm n (fun L => smM n r (fun M => f (L :: M) + g (L :: M))) = _
    rw [show (fun L => smM n r (fun M => f (L :: M) + g (L :: M))) = fun L => smM n r (fun M => f (L :: M)) + smM n r (fun M => g (L :: M)) from by funext L; exact ih _ _]
    exact sm_add n _ _
/-- a cell that is not known is empty or filled. -/
theorem cnt_split {rc cc : List (List Int)} {K : Nat → Nat → Int} {i j : Nat} (hi : i < rc.length) (hj : j < cc.length) (hu : K i j = -1) : cntK rc cc K = cntK rc cc (seK K i j 0) + cntK rc cc (seK K i j 1) := by
  unfold cntK
  rw [← smM_add]
  refine smM_congr fun M _ => ?_
  have h0 := seK_ag (M := M) hi hj hu false
  have h1 := seK_ag (M := M) hi hj hu true
  simp only [Bool.false_eq_true, if_false, if_true] at h0 h1
  cases e : mc M i j <;> simp [h0, h1, e]
theorem sm_some {n : Nat} {f : List Bool → Nat} (h : 0 < sm n f) : ∃ L, L.length = n ∧ 0 < f L := by
  by_cases e : ∃ L : List Bool, L.length = n ∧ 0 < f L
  · exact e
  · have : sm n f = sm n (fun _ => 0) := sm_congr fun L hL => by
      by_cases h0 : 0 < f L
      · exact absurd ⟨L, hL, h0⟩ e
      · omega
    rw [this, sm_zero] at h
    omega
def fullM (r n : Nat) (K : Nat → Nat → Int) : List (List Bool) := (List.range r).map fun i => (List.range n).map fun j => decide (K i j = 1)
theorem fullM_mx (r n : Nat) (K : Nat → Nat → Int) : Mx r n (fullM r n K) := by
  refine ⟨by simp [fullM], fun L hL => ?_⟩
  obtain ⟨i, _, rfl⟩ := List.mem_map.1 hL
  simp
theorem fullM_at {r n i j : Nat} {K : Nat → Nat → Int} (hi : i < r) (hj : j < n) : mc (fullM r n K) i j = decide (K i j = 1) := by
  simp [mc, fullM, nb, List.getD_eq_getElem?_getD, hi, hj]
/-- when all is known and no line fails, there is one picture. -/
theorem full_pic {rc cc : List (List Int)} {X : Nat → Nat → Int} (hb : BdK rc.length cc.length X) (hs : ∀ l, l < rc.length + cc.length → fbK rc cc X l = true) (hf : ∀ i j, i < rc.length → j < cc.length → X i j ≠ -1) : pic rc cc (fullM rc.length cc.length X) = true := by
  have hM := fullM_mx rc.length cc.length X
  have hall : ∀ l, l < rc.length + cc.length → cl (lnM rc.length (fullM rc.length cc.length X) l) = lnC rc cc l := fun l hl => by
    obtain ⟨_, _, w⟩ := forI_yes (hs l hl)
    rw [lnK_length] at w
    obtain ⟨L, hL, h0⟩ := sm_some w
    have ho : okL (kk (lnK rc.length cc.length X l)) (lnC rc cc l) L = true := by
      cases e : okL (kk (lnK rc.length cc.length X l)) (lnC rc cc l) L
      · simp [e] at h0
      · rfl
    rw [okL_iff] at ho
    rw [← ho.2]
    congr 1
    refine List.ext_getElem (by rw [lnM_length hM, hL]) fun k h1 h2 => ?_
    rw [lnM_length hM] at h1
    have h3 := ho.1 k h2
    have h4 := lnM_at hM h1
    rw [kk_at (by rw [lnK_length]; exact h1)] at h3
    have e1 : nb L k = L[k] := by simp [nb, List.getD_eq_getElem?_getD, h2]
    have e2 : nb (lnM rc.length (fullM rc.length cc.length X) l) k = (lnM rc.length (fullM rc.length cc.length X) l)[k]'(by rw [lnM_length hM]; exact h1) := by
      rw [nb, List.getD_eq_getElem?_getD, List.getElem?_eq_getElem (by rw [lnM_length hM]; exact h1)]; rfl
    rw [← e1, ← e2, h4]
    by_cases hr : l < rc.length
    · rw [lnN, if_pos hr] at h1
      rw [if_pos hr, fullM_at hr h1]
      rw [lnK_row hr h1] at h3
      have b := hb l k hr h1
      have f := hf l k hr h1
      cases e : nb L k <;> rw [e] at h3 <;> simp at h3 <;> simp <;> omega
    · rw [lnN, if_neg hr] at h1
      have hj : l - rc.length < cc.length := by omega
      rw [if_neg hr, fullM_at h1 hj]
      rw [lnK_col hr h1] at h3
      have b := hb k _ h1 hj
      have f := hf k _ h1 hj
      cases e : nb L k <;> rw [e] at h3 <;> simp at h3 <;> simp <;> omega
  rw [pic_iff hM.1]
  refine ⟨fun i hi => ?_, fun j hj => ?_⟩
  · have := hall i (by omega)
    simpa [lnM, lnC, hi] using this
  · have := hall (rc.length + j) (by omega)
    unfold lnM lnC at this
    rw [if_neg (by omega), if_neg (by omega), Nat.add_sub_cancel_left] at this
    exact this
theorem full_ag {r n : Nat} {X : Nat → Nat → Int} (hb : BdK r n X) (hf : ∀ i j, i < r → j < n → X i j ≠ -1) {N : List (List Bool)} (hN : Mx r n N) : AgK r n X N ↔ N = fullM r n X := by
  have hM := fullM_mx r n X
  constructor
  · intro ha
    refine mx_ext hN hM fun i j hi hj => ?_
    have ha := ha i j hi hj
    rw [fullM_at hi hj]
    have b := hb i j hi hj
    have f := hf i j hi hj
    cases e : mc N i j <;> rw [e] at ha <;> simp at ha <;> simp <;> omega
  · rintro rfl i j hi hj
    rw [fullM_at hi hj]
    by_cases e : X i j = 1 <;> simp [e]
theorem full_one {rc cc : List (List Int)} {X : Nat → Nat → Int} (hb : BdK rc.length cc.length X) (hs : ∀ l, l < rc.length + cc.length → fbK rc cc X l = true) (hf : ∀ i j, i < rc.length → j < cc.length → X i j ≠ -1) : cntK rc cc X = 1 := by
  have hM := fullM_mx rc.length cc.length X
  have h1 := full_pic hb hs hf
  unfold cntK
  refine (smM_congr fun N hN => ?_).trans (smM_one (n := cc.length) 1 (fullM rc.length cc.length X) hM)
  have h2 := full_ag hb hf hN
  by_cases e : N = fullM rc.length cc.length X
  · rw [if_pos e, if_pos ⟨by rw [e]; exact h1, h2.2 e⟩]
  · rw [if_neg e, if_neg fun h => e (h2.1 h.2)]
end Go.Proofs.Ytgeedgljabdllaa
