import Derived.Test.YtgeedgljabdllaaPf
set_option maxRecDepth 8000
namespace Go.Proofs.Ytgeedgljabdllaa
open Go.ChangeShapes Go.WideShapes Go.ChangeAt Go.RowKit
/-! all pictures in the order of the first one; those with the clues that agree with what is known. -/
def alM (n : Nat) : Nat → List (List (List Bool))
  | 0 => [[]]
  | r + 1 => (List.range (2 ^ n)).flatMap fun k => (alM n r).map fun M => lnB k n :: M
theorem alM_mx {n : Nat} : ∀ {r : Nat} {M : List (List Bool)}, M ∈ alM n r ↔ Mx r n M := by
  intro r
  induction r with
  | zero =>
    intro M
    simp only [alM, List.mem_singleton]
    exact ⟨fun h => by subst h; exact Mx.nil n, fun h => List.length_eq_zero_iff.1 h.1⟩
  | succ r ih =>
    intro M
    simp only [alM, List.mem_flatMap, List.mem_map]
    constructor
    · rintro ⟨k, _, N, hN, rfl⟩
      exact (ih.1 hN).cons (lnB_length k n)
    · intro h
      cases M with
      | nil => have := h.1; simp at this
      | cons L M =>
        obtain ⟨k, hk, e⟩ := row_num n L (h.2 L (by simp))
        exact ⟨k, List.mem_range.2 hk, M, ih.2 ⟨by have := h.1; simpa using this, fun X hX => h.2 X (by simp [hX])⟩, by rw [e]⟩
theorem mc_zero (L : List Bool) (M : List (List Bool)) (j : Nat) : mc (L :: M) 0 j = nb L j := rfl
theorem mc_succ (L : List Bool) (M : List (List Bool)) (i j : Nat) : mc (L :: M) (i + 1) j = mc M i j := by simp [mc]
theorem alM_sorted {n : Nat} : ∀ {r : Nat}, (alM n r).Pairwise (ltM r n) := by
  intro r
  induction r with
  | zero => exact List.pairwise_singleton _ _
  | succ r ih =>
    rw [alM, List.pairwise_flatMap]
    refine ⟨fun k _ => ?_, ?_⟩
    · rw [List.pairwise_map]
      refine ih.imp fun {M N} h => ?_
      obtain ⟨i, j, ⟨hi, hj⟩, ⟨e1, e2⟩, h1, h2⟩ := h
      refine ⟨i + 1, j, ⟨by omega, hj⟩, ⟨by rw [mc_succ]; exact e1, by rw [mc_succ]; exact e2⟩, fun b hb hb' => by rw [mc_succ, mc_succ]; exact h1 b hb hb', fun a b ha hb => ?_⟩
      cases a with
      | zero => rfl
      | succ a => rw [mc_succ, mc_succ]; exact h2 a b (by omega) hb
    · have hlt : (List.range (2 ^ n)).Pairwise fun a b => a < b ∧ b < 2 ^ n := by
        rw [List.pairwise_iff_getElem]
        intro i j hi hj hij
        rw [List.length_range] at hi hj
        rw [List.getElem_range, List.getElem_range]
        exact ⟨hij, hj⟩
      refine hlt.imp fun {a b} h x hx y hy => ?_
      obtain ⟨M, _, rfl⟩ := List.mem_map.1 hx
      obtain ⟨N, _, rfl⟩ := List.mem_map.1 hy
      obtain ⟨j, hj, e1, e2, h3⟩ := lt_row (n := n) (by omega) h.2 h.1
      exact ⟨0, j, ⟨by omega, hj⟩, ⟨e1, e2⟩, fun b hb hb' => h3 b hb hb', fun a b ha _ => by omega⟩
theorem flat_len {α : Type} (g : Nat → List α) (m : Nat) : ((List.range m).flatMap g).length = sN m fun k => (g k).length := by
  induction m with
  | zero => rfl
  | succ m ih => rw [List.range_succ, List.flatMap_append, List.length_append, ih]; simp [sN]
theorem alM_count {n : Nat} : ∀ {r : Nat} (p : List (List Bool) → Bool), ((alM n r).filter p).length = smM n r fun M => if p M then 1 else 0 := by
  intro r
  induction r with
  | zero => intro p; simp only [alM, smM]; cases h : p [] <;> simp [h]
  | succ r ih =>
    intro p
    show _ = sm n fun L => smM n r fun M => if p (L :: M) then 1 else 0
    rw [← sN_lines, alM, List.filter_flatMap, flat_len]
    refine sN_congr fun k _ => ?_
    rw [List.filter_map, List.length_map, ih]
    rfl
theorem filt_split {α : Type} {R : α → α → Prop} {p p0 p1 : α → Bool} : ∀ {l : List α}, l.Pairwise R → (∀ x ∈ l, p x = (p0 x || p1 x)) → (∀ x ∈ l, p0 x = true → p1 x = true → False) → (∀ x ∈ l, ∀ y ∈ l, p1 x = true → p0 y = true → ¬ R x y) → l.filter p = l.filter p0 ++ l.filter p1 := by
  intro l
  induction l with
  | nil => intro _ _ _ _; rfl
  | cons a t ih =>
    intro hR hp hx hn
    rw [List.pairwise_cons] at hR
    have h1 := ih hR.2 (fun x h => hp x (List.mem_cons_of_mem _ h)) (fun x h => hx x (List.mem_cons_of_mem _ h)) (fun x h y h' => hn x (List.mem_cons_of_mem _ h) y (List.mem_cons_of_mem _ h'))
    have ha := hp a List.mem_cons_self
    cases e0 : p0 a
    · cases e1 : p1 a
      · rw [e0, e1] at ha
        rw [List.filter_cons, List.filter_cons, List.filter_cons, ha, e0, e1]
        exact h1
      · rw [e0, e1] at ha
        have h2 : t.filter p0 = [] := by
          rw [List.filter_eq_nil_iff]
          intro y hy h0
          exact hn a List.mem_cons_self y (List.mem_cons_of_mem _ hy) e1 h0 (hR.1 y hy)
        rw [List.filter_cons, List.filter_cons, List.filter_cons, ha, e0, e1, h1, h2]
        rfl
    · cases e1 : p1 a
      · rw [e0, e1] at ha
        rw [List.filter_cons, List.filter_cons, List.filter_cons, ha, e0, e1, h1]
        rfl
      · exact (hx a List.mem_cons_self e0 e1).elim
open Classical in
/-- the pictures with the clues that agree with what is known, in order. -/
noncomputable def wkL (rc cc : List (List Int)) (K : Nat → Nat → Int) : List (List (List Bool)) := (alM cc.length rc.length).filter fun M => decide (agP rc cc K M)
/-- the pictures with the clues, in order. -/
def pcL (rc cc : List (List Int)) : List (List (List Bool)) := (alM cc.length rc.length).filter (pic rc cc)
theorem mem_wkL {rc cc : List (List Int)} {K : Nat → Nat → Int} {M : List (List Bool)} : M ∈ wkL rc cc K ↔ Mx rc.length cc.length M ∧ agP rc cc K M := by
  unfold wkL
  rw [List.mem_filter, alM_mx]
  simp
theorem mem_pcL {rc cc : List (List Int)} {M : List (List Bool)} : M ∈ pcL rc cc ↔ Mx rc.length cc.length M ∧ pic rc cc M = true := by
  unfold pcL
  rw [List.mem_filter, alM_mx]
open Classical in
theorem wkL_congr {rc cc : List (List Int)} {K K' : Nat → Nat → Int} (h : ∀ M, Mx rc.length cc.length M → (agP rc cc K M ↔ agP rc cc K' M)) : wkL rc cc K = wkL rc cc K' := by
  unfold wkL
  refine List.filter_congr fun M hM => ?_
  have h1 := h M (alM_mx.1 hM)
  by_cases e : agP rc cc K M
  · rw [decide_eq_true e, decide_eq_true (h1.1 e)]
  · rw [decide_eq_false e, decide_eq_false (fun a => e (h1.2 a))]
theorem wkL_noK (rc cc : List (List Int)) : wkL rc cc noK = pcL rc cc := by
  unfold wkL pcL
  refine List.filter_congr fun M hM => ?_
  have := noK_ag rc.length cc.length M
  cases e : pic rc cc M <;> simp [agP, e, this]
theorem wkL_eq {rc cc : List (List Int)} {K K' : Nat → Nat → Int} (h : EqK rc.length cc.length K K') : wkL rc cc K = wkL rc cc K' :=
  wkL_congr fun M _ => ⟨fun a => ⟨a.1, fun i j hi hj => by rw [← h i j hi hj]; exact a.2 i j hi hj⟩, fun a => ⟨a.1, fun i j hi hj => by rw [h i j hi hj]; exact a.2 i j hi hj⟩⟩
theorem wkL_rch {rc cc : List (List Int)} (hp : PV rc cc) {K0 X : Nat → Nat → Int} (hr : Rch rc cc K0 X) (h0 : BdK rc.length cc.length K0) : wkL rc cc X = wkL rc cc K0 :=
  wkL_congr fun _ hN => ⟨fun a => ⟨a.1, ag_le h0 (rch_grows hr h0) a.2⟩, fun a => ⟨a.1, rch_ag hp hr h0 hN a.1 a.2⟩⟩
theorem wkL_fail {rc cc : List (List Int)} (hp : PV rc cc) {K0 X : Nat → Nat → Int} (hr : Rch rc cc K0 X) (h0 : BdK rc.length cc.length K0) {l : Nat} (hl : l < rc.length + cc.length) (hf : fbK rc cc X l = false) : wkL rc cc K0 = [] := by
  rw [← wkL_rch hp hr h0]
  unfold wkL
  rw [List.filter_eq_nil_iff]
  intro M hM h
  simp only [decide_eq_true_eq] at h
  have := ag_ok hp (hr.bd h0) (alM_mx.1 hM) h.1 h.2 hl
  rw [hf] at this
  cases this
theorem pcL_len (rc cc : List (List Int)) : (pcL rc cc).length = picC rc cc := by
  unfold pcL picC
  rw [alM_count]
theorem wkL_full {rc cc : List (List Int)} {X : Nat → Nat → Int} (hb : BdK rc.length cc.length X) (hs : ∀ l, l < rc.length + cc.length → fbK rc cc X l = true) (hf : ∀ i j, i < rc.length → j < cc.length → X i j ≠ -1) : wkL rc cc X = [fullM rc.length cc.length X] := by
  have hl : (wkL rc cc X).length = 1 := by
    have h1 := full_one hb hs hf
    unfold wkL
    rw [alM_count]
    unfold cntK at h1
    refine Eq.trans (smM_congr fun M _ => ?_) h1
    by_cases e : agP rc cc X M
    · have e' : pic rc cc M = true ∧ AgK rc.length cc.length X M := e
      rw [if_pos (by simpa using e), if_pos e']
    · have e' : ¬ (pic rc cc M = true ∧ AgK rc.length cc.length X M) := e
      rw [if_neg (by simpa using e), if_neg e']
  have hm : fullM rc.length cc.length X ∈ wkL rc cc X := mem_wkL.2 ⟨fullM_mx .., full_pic hb hs hf, (full_ag hb hf (fullM_mx ..)).2 rfl⟩
  match h : wkL rc cc X, hl, hm with
  | [x], _, hm => simp only [List.mem_singleton] at hm; rw [hm]
/-- the first unknown cell in the order: those in which it is empty come ahead of those in which it is filled. -/
theorem wkL_split {rc cc : List (List Int)} {K : Nat → Nat → Int} {i j : Nat} (hb : BdK rc.length cc.length K) (hf : frontK rc.length cc.length K i j) : wkL rc cc K = wkL rc cc (seK K i j 0) ++ wkL rc cc (seK K i j 1) := by
  obtain ⟨⟨hi, hj⟩, hu, hr, hp⟩ := hf
  have s0 := fun N : List (List Bool) => seK_ag (M := N) hi hj hu false
  have s1 := fun N : List (List Bool) => seK_ag (M := N) hi hj hu true
  simp only [Bool.false_eq_true, if_false, if_true] at s0 s1
  unfold wkL
  refine filt_split (R := ltM rc.length cc.length) alM_sorted (fun M _ => ?_) (fun M _ h0 h1 => ?_) (fun M hM N hN h1 h0 hlt => ?_)
  · rw [Bool.eq_iff_iff]
    simp only [decide_eq_true_eq, Bool.or_eq_true]
    unfold agP
    rw [s0, s1]
    cases mc M i j <;> simp
  · simp only [decide_eq_true_eq, agP, s0, s1] at h0 h1
    have := h0.2.2
    rw [h1.2.2] at this
    cases this
  · simp only [decide_eq_true_eq, agP, s0, s1] at h0 h1
    have hNM : ltM rc.length cc.length N M := ⟨i, j, ⟨hi, hj⟩, ⟨h0.2.2, h1.2.2⟩, fun b hb1 hb2 => ag_same hb hi hb2 h0.2.1 h1.2.1 (hr b hb1 hb2), fun a b ha hb2 => ag_same hb (by omega) hb2 h0.2.1 h1.2.1 (hp a b ha hb2)⟩
    exact ltM_asymm hlt hNM
/-! the cells row by row. -/
def flK (r n : Nat) (K : Nat → Nat → Int) : List Int := mapTo (fun c => K (c / n) (c % n)) (r * n)
def mK (M : List (List Bool)) : Nat → Nat → Int := fun i j => if mc M i j then 1 else 0
def flM (r n : Nat) (M : List (List Bool)) : List Int := flK r n (mK M)
theorem flK_length (r n : Nat) (K : Nat → Nat → Int) : (flK r n K).length = r * n := mapTo_length _ _
theorem cell_lt_rn {r n i j : Nat} (hi : i < r) (hj : j < n) : i * n + j < r * n := by
  have : (i + 1) * n ≤ r * n := Nat.mul_le_mul_right n hi
  rw [Nat.add_mul] at this
  omega
theorem cell_div {n i j : Nat} (hj : j < n) : (i * n + j) / n = i := by
  rw [Nat.mul_comm, Nat.mul_add_div (by omega), Nat.div_eq_of_lt hj, Nat.add_zero]
theorem cell_mod {n i j : Nat} (hj : j < n) : (i * n + j) % n = j := by
  rw [Nat.mul_comm, Nat.mul_add_mod, Nat.mod_eq_of_lt hj]
theorem flK_at {r n i j : Nat} {K : Nat → Nat → Int} (hi : i < r) (hj : j < n) : nth (flK r n K) (i * n + j) = K i j := by
  unfold flK
  rw [mapTo_nth (cell_lt_rn hi hj), cell_div hj, cell_mod hj]
theorem flK_c {r n c : Nat} {K : Nat → Nat → Int} (hc : c < r * n) : nth (flK r n K) c = K (c / n) (c % n) := by
  unfold flK
  rw [mapTo_nth hc]
theorem div_lt_r {r n c : Nat} (hc : c < r * n) : c / n < r := Nat.div_lt_of_lt_mul (by rw [Nat.mul_comm]; exact hc)
theorem n_pos {r n c : Nat} (hc : c < r * n) : 0 < n := Nat.pos_of_ne_zero fun e => by subst e; omega
theorem mod_lt_n {r n c : Nat} (hc : c < r * n) : c % n < n := Nat.mod_lt _ (n_pos hc)
theorem flK_eq {r n : Nat} {K K' : Nat → Nat → Int} : flK r n K = flK r n K' ↔ EqK r n K K' := by
  constructor
  · intro h i j hi hj
    rw [← flK_at (K := K) hi hj, h, flK_at hi hj]
  · intro h
    refine ext_nth (by rw [flK_length, flK_length]) fun c hc => ?_
    rw [flK_length] at hc
    rw [flK_c hc, flK_c hc]
    exact h _ _ (div_lt_r hc) (mod_lt_n hc)
theorem flM_full {r n : Nat} {X : Nat → Nat → Int} (hb : BdK r n X) (hf : ∀ i j, i < r → j < n → X i j ≠ -1) : flM r n (fullM r n X) = flK r n X := by
  refine flK_eq.2 fun i j hi hj => ?_
  unfold mK
  rw [fullM_at hi hj]
  have b := hb i j hi hj
  have f := hf i j hi hj
  by_cases e : X i j = 1
  · simp [e]
  · simp [e]; omega
end Go.Proofs.Ytgeedgljabdllaa
