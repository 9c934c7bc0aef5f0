import Derived.Test.YtgeedgljabdllaaPd
set_option maxRecDepth 8000
namespace Go.Proofs.Ytgeedgljabdllaa
open Go.ChangeShapes Go.WideShapes Go.ChangeAt Go.RowKit
/-! the first picture: rows in order, a row by its number, cell k counting 2^k (drafted in round 12, before chapter 13 had landed). -/
def ltM (r n : Nat) (M N : List (List Bool)) : Prop := ∃ i j, (i < r ∧ j < n) ∧ (mc M i j = false ∧ mc N i j = true) ∧ (∀ b, j < b → b < n → mc M i b = mc N i b) ∧ (∀ a b, a < i → b < n → mc M a b = mc N a b)
theorem ltM_asymm {r n : Nat} {M N : List (List Bool)} (h : ltM r n M N) (h' : ltM r n N M) : False := by
  obtain ⟨i, j, ⟨hi, hj⟩, ⟨e1, e2⟩, h1, h2⟩ := h
  obtain ⟨i', j', ⟨hi', hj'⟩, ⟨e1', e2'⟩, h1', h2'⟩ := h'
  have t : ∀ x y : Bool, x = false → y = true → x = y → False := by decide
  by_cases a : i < i'
  · exact t _ _ e1 e2 (h2' i j a hj).symm
  · by_cases b : i' < i
    · exact t _ _ e1' e2' (h2 i' j' b hj').symm
    · have e : i = i' := by omega
      subst e
      by_cases a : j < j'
      · exact t _ _ e1' e2' (h1 j' a hj').symm
      · by_cases b : j' < j
        · exact t _ _ e1 e2 (h1' j b hj).symm
        · have e : j = j' := by omega
          subst e
          rw [e1] at e2'
          simp at e2'
def isFst (r n : Nat) (P : List (List Bool) → Prop) (M : List (List Bool)) : Prop := Mx r n M ∧ P M ∧ ∀ N, Mx r n N → P N → N = M ∨ ltM r n M N
theorem fst_one {r n : Nat} {P : List (List Bool) → Prop} {M N : List (List Bool)} (h : isFst r n P M) (h' : isFst r n P N) : M = N := by
  rcases h.2.2 N h'.1 h'.2.1 with e | e
  · exact e.symm
  · rcases h'.2.2 M h.1 h.2.1 with e' | e'
    · exact e'
    · exact (ltM_asymm e e').elim
theorem fst_congr {r n : Nat} {P Q : List (List Bool) → Prop} {M : List (List Bool)} (h : isFst r n P M) (hPQ : ∀ N, Mx r n N → (P N ↔ Q N)) : isFst r n Q M :=
  ⟨h.1, (hPQ M h.1).1 h.2.1, fun N hN hq => h.2.2 N hN ((hPQ N hN).2 hq)⟩
/-- what agrees agrees with each other where something is known. -/
theorem ag_same {r n i j : Nat} {K : Nat → Nat → Int} {M N : List (List Bool)} (hb : BdK r n K) (hi : i < r) (hj : j < n) (hM : AgK r n K M) (hN : AgK r n K N) (hk : K i j ≠ -1) : mc M i j = mc N i j := by
  have h1 := hM i j hi hj
  have h2 := hN i j hi hj
  have b := hb i j hi hj
  cases e : mc M i j <;> cases e' : mc N i j <;> rw [e] at h1 <;> rw [e'] at h2 <;> simp at h1 h2 ⊢ <;> omega
def agP (rc cc : List (List Int)) (K : Nat → Nat → Int) (M : List (List Bool)) : Prop := pic rc cc M = true ∧ AgK rc.length cc.length K M
/-- the first cell in the order that is not known: all pictures in which it is empty come before those in which it is filled. -/
def frontK (r n : Nat) (K : Nat → Nat → Int) (i j : Nat) : Prop := (i < r ∧ j < n) ∧ K i j = -1 ∧ (∀ b, j < b → b < n → K i b ≠ -1) ∧ (∀ a b, a < i → b < n → K a b ≠ -1)
theorem fst_empty {rc cc : List (List Int)} {K : Nat → Nat → Int} {i j : Nat} {M : List (List Bool)} (hb : BdK rc.length cc.length K) (hf : frontK rc.length cc.length K i j) (h : isFst rc.length cc.length (agP rc cc (seK K i j 0)) M) : isFst rc.length cc.length (agP rc cc K) M := by
  obtain ⟨⟨hi, hj⟩, hu, hr, hp⟩ := hf
  obtain ⟨hM, ⟨hc, ha⟩, hall⟩ := h
  have s0 := fun N : List (List Bool) => seK_ag (M := N) hi hj hu false
  simp only [Bool.false_eq_true, if_false] at s0
  obtain ⟨hM1, hM2⟩ := (s0 M).1 ha
  refine ⟨hM, ⟨hc, hM1⟩, fun N hN hn => ?_⟩
  cases e : mc N i j
  · exact hall N hN ⟨hn.1, (s0 N).2 ⟨hn.2, e⟩⟩
  · exact .inr ⟨i, j, ⟨hi, hj⟩, ⟨hM2, e⟩, fun b h1 h2 => ag_same hb hi h2 hM1 hn.2 (hr b h1 h2), fun a b h1 h2 => ag_same hb (by omega) h2 hM1 hn.2 (hp a b h1 h2)⟩
theorem fst_filled {rc cc : List (List Int)} {K : Nat → Nat → Int} {i j : Nat} {M : List (List Bool)} (hf : frontK rc.length cc.length K i j) (h0 : cntK rc cc (seK K i j 0) = 0) (h : isFst rc.length cc.length (agP rc cc (seK K i j 1)) M) : isFst rc.length cc.length (agP rc cc K) M := by
  obtain ⟨⟨hi, hj⟩, hu, _, _⟩ := hf
  obtain ⟨hM, ⟨hc, ha⟩, hall⟩ := h
  have s0 := fun N : List (List Bool) => seK_ag (M := N) hi hj hu false
  have s1 := fun N : List (List Bool) => seK_ag (M := N) hi hj hu true
  simp only [Bool.false_eq_true, if_false, if_true] at s0 s1
  refine ⟨hM, ⟨hc, ((s1 M).1 ha).1⟩, fun N hN hn => ?_⟩
  cases e : mc N i j
  · have hlt : 0 < cntK rc cc (seK K i j 0) := smM_pos N hN (by rw [if_pos ⟨hn.1, (s0 N).2 ⟨hn.2, e⟩⟩]; decide)
    omega
  · exact hall N hN ⟨hn.1, (s1 N).2 ⟨hn.2, e⟩⟩
theorem fst_rch {rc cc : List (List Int)} (hp : PV rc cc) {K0 X : Nat → Nat → Int} {M : List (List Bool)} (hr : Rch rc cc K0 X) (h0 : BdK rc.length cc.length K0) (h : isFst rc.length cc.length (agP rc cc X) M) : isFst rc.length cc.length (agP rc cc K0) M :=
  fst_congr h fun _ hN => ⟨fun a => ⟨a.1, ag_le h0 (rch_grows hr h0) a.2⟩, fun a => ⟨a.1, rch_ag hp hr h0 hN a.1 a.2⟩⟩
theorem fst_full {rc cc : List (List Int)} {X : Nat → Nat → Int} (hb : BdK rc.length cc.length X) (hs : ∀ l, l < rc.length + cc.length → fbK rc cc X l = true) (hf : ∀ i j, i < rc.length → j < cc.length → X i j ≠ -1) : isFst rc.length cc.length (agP rc cc X) (fullM rc.length cc.length X) :=
  ⟨fullM_mx .., ⟨full_pic hb hs hf, (full_ag hb hf (fullM_mx ..)).2 rfl⟩, fun _ hN hn => .inl ((full_ag hb hf hN).1 hn.2)⟩
theorem cnt_pos_of_fst {rc cc : List (List Int)} {K : Nat → Nat → Int} {M : List (List Bool)} (h : isFst rc.length cc.length (agP rc cc K) M) : 0 < cntK rc cc K :=
  smM_pos M h.1 (by rw [if_pos (show pic rc cc M = true ∧ AgK rc.length cc.length K M from h.2.1)]; decide)
/-! a row's number. -/
theorem lnB_at {k n j : Nat} (h : j < n) : nb (lnB k n) j = k.testBit j := by simp [nb, lnB, List.getD_eq_getElem?_getD, h]
theorem lt_bits {a b n j : Nat} (ha : a < 2 ^ n) (hb : b < 2 ^ n) (h0 : a.testBit j = false) (h1 : b.testBit j = true) (h : ∀ k, j < k → k < n → a.testBit k = b.testBit k) : a < b := by
  have hall : ∀ k, j < k → a.testBit k = b.testBit k := fun k hk => by
    by_cases hn : k < n
    · exact h k hk hn
    · rw [Nat.testBit_lt_two_pow (Nat.lt_of_lt_of_le ha (Nat.pow_le_pow_right (by omega) (by omega))), Nat.testBit_lt_two_pow (Nat.lt_of_lt_of_le hb (Nat.pow_le_pow_right (by omega) (by omega)))]
  have hq : a / 2 ^ (j + 1) = b / 2 ^ (j + 1) := Nat.eq_of_testBit_eq fun k => by
    rw [Nat.testBit_div_two_pow, Nat.testBit_div_two_pow]
    exact hall _ (by omega)
  rw [Nat.pow_succ, ← Nat.div_div_eq_div_mul, ← Nat.div_div_eq_div_mul] at hq
  rw [Nat.testBit_eq_decide_div_mod_eq] at h0 h1
  simp only [decide_eq_false_iff_not, decide_eq_true_eq] at h0 h1
  by_cases hle : b ≤ a
  · have := Nat.div_le_div_right (c := 2 ^ j) hle
    omega
  · omega
theorem bits_eq {a b n : Nat} (ha : a < 2 ^ n) (hb : b < 2 ^ n) (h : ∀ k, k < n → a.testBit k = b.testBit k) : a = b := by
  refine Nat.eq_of_testBit_eq fun k => ?_
  by_cases hn : k < n
  · exact h k hn
  · rw [Nat.testBit_lt_two_pow (Nat.lt_of_lt_of_le ha (Nat.pow_le_pow_right (by omega) (by omega))), Nat.testBit_lt_two_pow (Nat.lt_of_lt_of_le hb (Nat.pow_le_pow_right (by omega) (by omega)))]
/-- the last cell in which two rows differ decides. -/
theorem top_diff {n : Nat} (f g : Nat → Bool) : (∀ k, k < n → f k = g k) ∨ ∃ j, j < n ∧ f j ≠ g j ∧ ∀ k, j < k → k < n → f k = g k := by
  induction n with
  | zero => exact .inl fun k hk => by omega
  | succ n ih =>
    by_cases e : f n = g n
    · rcases ih with h | ⟨j, h1, h2, h3⟩
      · exact .inl fun k hk => by
          by_cases e' : k = n
          · rw [e']; exact e
          · exact h k (by omega)
      · exact .inr ⟨j, by omega, h2, fun k hk hk' => by
          by_cases e' : k = n
          · rw [e']; exact e
          · exact h3 k hk (by omega)⟩
    · exact .inr ⟨n, by omega, e, fun k hk hk' => by omega⟩
theorem lt_row {a b n : Nat} (ha : a < 2 ^ n) (hb : b < 2 ^ n) (h : a < b) : ∃ j, j < n ∧ nb (lnB a n) j = false ∧ nb (lnB b n) j = true ∧ ∀ k, j < k → k < n → nb (lnB a n) k = nb (lnB b n) k := by
  rcases top_diff (n := n) (fun k => a.testBit k) (fun k => b.testBit k) with e | ⟨j, hj, hne, hrest⟩
  · exact absurd (bits_eq ha hb e) (by omega)
  · have h1 : a.testBit j = false ∧ b.testBit j = true := by
      cases x : a.testBit j <;> cases y : b.testBit j
      · rw [x, y] at hne; exact absurd rfl hne
      · exact ⟨rfl, rfl⟩
      · have := lt_bits hb ha y x (fun k hk hk' => (hrest k hk hk').symm)
        omega
      · rw [x, y] at hne; exact absurd rfl hne
    refine ⟨j, hj, by rw [lnB_at hj]; exact h1.1, by rw [lnB_at hj]; exact h1.2, fun k hk hk' => ?_⟩
    rw [lnB_at hk', lnB_at hk']
    exact hrest k hk hk'
/-- every row has a number. -/
theorem row_num : ∀ (n : Nat) (L : List Bool), L.length = n → ∃ k, k < 2 ^ n ∧ lnB k n = L := by
  intro n L hL
  have h1 : 0 < sm n (fun M => if M = L then 1 else 0) := by rw [sm_one L hL]; decide
  rw [← sN_lines] at h1
  have : ∀ m, 0 < sN m (fun k => if lnB k n = L then 1 else 0) → ∃ k, k < m ∧ lnB k n = L := by
    intro m
    induction m with
    | zero => intro h; simp [sN] at h
    | succ m ih =>
      intro h
      by_cases e : lnB m n = L
      · exact ⟨m, by omega, e⟩
      · simp only [sN, if_neg e] at h
        obtain ⟨k, hk, hk'⟩ := ih (by omega)
        exact ⟨k, by omega, hk'⟩
  exact this _ h1
end Go.Proofs.Ytgeedgljabdllaa
