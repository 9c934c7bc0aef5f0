import Derived.RegionTactic
namespace Go.Proofs.Ytgeedgljabdllaa
/-! A region that draws its order, by an invariant: one step a row of the region, whatever the order. -/
section
variable {P : Program} {md : Region.Mode} {ops : Array Oper} {Q : Exit → Act → World → Prop} {Inv : Array Bool → Act → World → Prop}
def unl (l : Array Bool) : Nat := l.toList.countP (fun b => b == false)
theorem unl_set {l : Array Bool} {i : Nat} (h : l.getD i true = false) : unl (l.setIfInBounds i true) < unl l := by
  have hi : i < l.size := by
    rcases Nat.lt_or_ge i l.size with h' | h'
    · exact h'
    · simp [Array.getElem?_eq_none h'] at h
  have he : l.toList[i]'(by simpa using hi) = false := by simpa [hi] using h
  unfold unl
  rw [Array.toList_setIfInBounds, List.countP_set (by simpa using hi), he]
  have : 0 < l.toList.countP (fun b => b == false) := List.countP_pos_iff.2 ⟨false, by rw [← he]; exact List.getElem_mem _, rfl⟩
  show List.countP (fun b => b == false) l.toList - 1 + 0 < List.countP (fun b => b == false) l.toList
  omega
theorem unl_zero {l : Array Bool} (h : unl l = 0) (i : Nat) : l.getD i true = true := by
  unfold unl at h
  rw [List.countP_eq_zero] at h
  rcases Nat.lt_or_ge i l.size with h' | h'
  · have := h (l.toList[i]'(by simpa using h')) (List.getElem_mem _)
    simpa [h'] using this
  · simp [Array.getElem?_eq_none h']
theorem wpAny_inv (hback : ∀ (i : Nat) (o : Oper), ops[i]? = some o → ∀ e ∈ o.after, e.on < i) (hsz : ∀ l a w, Inv l a w → l.size = ops.size)
    (hstep : ∀ l a w (i : Nat) (o : Oper), Inv l a w → ops[i]? = some o → l.getD i true = false → (∀ e ∈ o.after, Region.binds md e = true → l.getD e.on false = true) → wpOp P ops Q i (Inv (l.setIfInBounds i true)) a w)
    (hdone : ∀ l a w, Inv l a w → (∀ i, i < ops.size → l.getD i false = true) → Q .normal a w) :
    ∀ fuel l a w, unl l ≤ fuel → Inv l a w → wpAny P md ops Q fuel l a w := by
  have fin : ∀ l a w, Inv l a w → Region.ready md ops l = [] → Q .normal a w := by
    intro l a w hI hr
    refine hdone l a w hI ?_
    intro i
    induction i using Nat.strongRecOn with
    | ind i ih =>
      intro hi
      cases hb : l.getD i false with
      | true => rfl
      | false =>
        exfalso
        have hil : i < l.size := by rw [hsz l a w hI]; exact hi
        have ho : ops[i]? = some ops[i] := Array.getElem?_eq_getElem hi
        have : i ∈ Region.ready md ops l := mem_ready.2 ⟨by simpa [hil] using hb, ops[i], ho, fun e he _ => ih e.on (hback i _ ho e he) (Nat.lt_trans (hback i _ ho e he) hi)⟩
        rw [hr] at this
        cases this
  intro fuel
  induction fuel with
  | zero =>
    intro l a w hu hI
    have hr : Region.ready md ops l = [] := by
      cases e : Region.ready md ops l with
      | nil => rfl
      | cons j r =>
        have hj : j ∈ Region.ready md ops l := by rw [e]; exact List.mem_cons_self ..
        have h1 := (mem_ready.1 hj).1
        rw [unl_zero (by omega) j] at h1
        cases h1
    exact ⟨hr, fin l a w hI hr⟩
  | succ fuel ih =>
    intro l a w hu hI
    refine ⟨fin l a w hI, fun i hi => ?_⟩
    obtain ⟨h1, o, ho, hall⟩ := mem_ready.1 hi
    refine wpOp_mono (fun a' w' h => ih _ a' w' ?_ h) (hstep l a w i o hI ho h1 hall)
    have := unl_set h1
    omega
theorem wp_region_inv {id : Nat} {a : Act} {w : World} (hm : P.follows .mixedOrders = true) (hback : ∀ (i : Nat) (o : Oper), ops[i]? = some o → ∀ e ∈ o.after, e.on < i) (hsz : ∀ l a w, Inv l a w → l.size = ops.size)
    (hstep : ∀ l a w (i : Nat) (o : Oper), Inv l a w → ops[i]? = some o → l.getD i true = false → (∀ e ∈ o.after, Region.binds .any e = true → l.getD e.on false = true) → wpOp P ops Q i (Inv (l.setIfInBounds i true)) a w)
    (hdone : ∀ l a w, Inv l a w → (∀ i, i < ops.size → l.getD i false = true) → Q .normal a w)
    (h0 : Inv (Array.replicate ops.size false) a { w with drawn := w.drawn + 1 }) : (Code.region id ops true).wp P Q a w :=
  wp_region_any hm (wpAny_inv hback hsz hstep hdone _ _ _ _ (by
    unfold unl
    exact Nat.le_trans (List.countP_le_length) (by simp)) h0)
end
/-- A frame that differs from another in some slots alone. -/
theorem frame_of {a a0 : Array Value} (ts : List Nat) (hs : a.size = a0.size) (h : ∀ t, t ∉ ts → a[t]? = a0[t]?) : a = ts.foldl (fun tm t => tm.setIfInBounds t (a.getD t undef)) a0 := by
  have key : ∀ (ts : List Nat) (b : Array Value), b.size = a.size → ∀ t, (ts.foldl (fun tm t => tm.setIfInBounds t (a.getD t undef)) b)[t]? = if t ∈ ts then a[t]? else b[t]? := by
    intro ts
    induction ts with
    | nil => intro b _ t; simp
    | cons u ts ih =>
      intro b hb t
      rw [List.foldl_cons, ih _ (by simpa using hb)]
      by_cases e : t ∈ ts
      · simp [e]
      · simp only [e, if_false, List.mem_cons, or_false]
        by_cases hu : t = u
        · subst hu
          rw [if_pos rfl]
          rcases Nat.lt_or_ge t a.size with h' | h'
          · simp [Array.getElem?_setIfInBounds_self_of_lt (hb ▸ h'), h']
          · rw [Array.getElem?_eq_none h', Array.getElem?_eq_none (by simp; omega)]
        · rw [if_neg hu, Array.getElem?_setIfInBounds_ne (fun e' => hu e'.symm)]
  apply Array.ext_getElem?
  intro t
  rw [key ts a0 hs.symm t]
  split
  · rfl
  · exact h t (by assumption)
end Go.Proofs.Ytgeedgljabdllaa
