import Derived.Test.YtgeedgljabdllaaInv
namespace Go.Proofs.Ytgeedgljabdllaa
/-! A region that draws its order, edges that do not bind left out. -/
section
variable {P : Program} {md : Region.Mode} {ops : Array Oper} {Q : Exit → Act → World → Prop} {Inv : Array Bool → Act → World → Prop}
theorem wpAny_invU (hback : ∀ (i : Nat) (o : Oper), ops[i]? = some o → ∀ e ∈ o.after, Region.binds md e = true → e.on < i) (hsz : ∀ l a w, Inv l a w → l.size = ops.size)
    (hstep : ∀ l a w (i : Nat) (o : Oper), Inv l a w → ops[i]? = some o → l.getD i true = false → (∀ e ∈ o.after, Region.binds md e = true → l.getD e.on false = true) → wpOp P ops Q i (Inv (l.setIfInBounds i true)) a w)
    (hdone : ∀ l a w, Inv l a w → (∀ i, i < ops.size → l.getD i false = true) → Q .normal a w) :
    ∀ fuel l a w, unl l ≤ fuel → Inv l a w → wpAny P md ops Q fuel l a w := by
  have fin : ∀ l a w, Inv l a w → Region.ready md ops l = [] → Q .normal a w := by
    intro l a w hI hr
    refine hdone l a w hI ?_
    intro i
    induction i using Nat.strongRecOn with
    | ind i ih =>
      intro hi
      cases hb : l.getD i false with
      | true => rfl
      | false =>
        exfalso
        have hil : i < l.size := by rw [hsz l a w hI]; exact hi
        have ho : ops[i]? = some ops[i] := Array.getElem?_eq_getElem hi
        have : i ∈ Region.ready md ops l := mem_ready.2 ⟨by simpa [hil] using hb, ops[i], ho, fun e he hbd => ih e.on (hback i _ ho e he hbd) (Nat.lt_trans (hback i _ ho e he hbd) hi)⟩
        rw [hr] at this
        cases this
  intro fuel
  induction fuel with
  | zero =>
    intro l a w hu hI
    have hr : Region.ready md ops l = [] := by
      cases e : Region.ready md ops l with
      | nil => rfl
      | cons j r =>
        have hj : j ∈ Region.ready md ops l := by rw [e]; exact List.mem_cons_self ..
        have h1 := (mem_ready.1 hj).1
        rw [unl_zero (by omega) j] at h1
        cases h1
    exact ⟨hr, fin l a w hI hr⟩
  | succ fuel ih =>
    intro l a w hu hI
    refine ⟨fin l a w hI, fun i hi => ?_⟩
    obtain ⟨h1, o, ho, hall⟩ := mem_ready.1 hi
    refine wpOp_mono (fun a' w' h => ih _ a' w' ?_ h) (hstep l a w i o hI ho h1 hall)
    have := unl_set h1
    omega
theorem wp_region_invU {id : Nat} {a : Act} {w : World} (hm : P.follows .mixedOrders = true) (hback : ∀ (i : Nat) (o : Oper), ops[i]? = some o → ∀ e ∈ o.after, Region.binds .any e = true → e.on < i) (hsz : ∀ l a w, Inv l a w → l.size = ops.size)
    (hstep : ∀ l a w (i : Nat) (o : Oper), Inv l a w → ops[i]? = some o → l.getD i true = false → (∀ e ∈ o.after, Region.binds .any e = true → l.getD e.on false = true) → wpOp P ops Q i (Inv (l.setIfInBounds i true)) a w)
    (hdone : ∀ l a w, Inv l a w → (∀ i, i < ops.size → l.getD i false = true) → Q .normal a w)
    (h0 : Inv (Array.replicate ops.size false) a { w with drawn := w.drawn + 1 }) : (Code.region id ops true).wp P Q a w :=
  wp_region_any hm (wpAny_invU hback hsz hstep hdone _ _ _ _ (by
    unfold unl
    exact Nat.le_trans (List.countP_le_length) (by simp)) h0)
end
end Go.Proofs.Ytgeedgljabdllaa
