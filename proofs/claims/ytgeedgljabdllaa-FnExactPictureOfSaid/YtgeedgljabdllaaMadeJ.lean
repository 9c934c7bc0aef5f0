import Derived.Test.YtgeedgljabdllaaInvU
import Derived.Test.YtgeedgljabdllaaPut
namespace Go.Proofs.Ytgeedgljabdllaa
open Go.ChangeShapes Go.WideShapes Go.ChangeAt Go.RowKit
/-! A region that draws its order, none of its operations guarded, by an invariant of one's own: J of what is done, the frame and the world. -/
theorem oper_valJ {P : Program} {o : Oper} {a : Act} {w w' : World} {K : Act → World → Prop} {Q : Exit → Act → World → Prop} {v : Value} (hrun : (execOp a.eval o).run P w = .ok (.value v) w') (h : K (a.put o.dst v) w') : o.wp P a w K Q := by
  unfold Oper.wp
  rw [hrun]
  exact h
theorem oper_skipJ {P : Program} {o : Oper} {a : Act} {w w' : World} {K : Act → World → Prop} {Q : Exit → Act → World → Prop} (hrun : (execOp a.eval o).run P w = .ok .skip w') (hd : o.dst = none) (h : K a w') : o.wp P a w K Q := by
  unfold Oper.wp
  rw [hrun]
  show K (a.put o.dst undef) w'
  rw [hd]
  exact h
theorem oper_callJ {P : Program} {o : Oper} {a : Act} {w : World} {K : Act → World → Prop} {Q : Exit → Act → World → Prop} {f : FuncId} {args : Array Value} {R : Ending → World → Prop} (hrun : (execOp a.eval o).run P w = .ok (.enter f args) w) (hc : Calls P f args w R) (h : ∀ e w', R e w' → ∃ v, e = .returned v ∧ K (a.put o.dst v) w') : o.wp P a w K Q := by
  unfold Oper.wp
  rw [hrun]
  refine hc.mono (fun e w' hr => ?_)
  obtain ⟨v, rfl, hk⟩ := h e w' hr
  exact hk
def chkOpsJ (ops : Array Oper) : Bool := (List.range ops.size).all fun i => match ops[i]? with
  | some o => (o.after.all fun e => !Region.binds .any e || decide (e.on < i)) && o.guard.isNone
  | none => false
theorem wp_region_J {P : Program} {ops : Array Oper} {Q : Exit → Act → World → Prop} {id : Nat} {a0 : Act} {W : World} (J : Act → (Nat → Bool) → Act → World → Prop) (hm : P.follows .mixedOrders = true) (hc : chkOpsJ ops = true)
    (h0 : J a0 (fun _ => false) a0 W.drew)
    (hstep : ∀ (i : Nat) (o : Oper) (D : Nat → Bool) (a : Act) (w : World) (K : Act → World → Prop), i < ops.size → ops[i]? = some o → D i = false → (∀ e ∈ o.after, Region.binds .any e = true → D e.on = true) → J a0 D a w → (∀ a' w', J a0 (fun j => decide (j = i) || D j) a' w' → K a' w') → o.wp P a w K Q)
    (hfin : ∀ (D : Nat → Bool) (a : Act) (w : World), (∀ i, i < ops.size → D i = true) → J a0 D a w → Q .normal a w) :
    (Code.region id ops true).wp P Q a0 W := by
  simp only [chkOpsJ, List.all_eq_true, List.mem_range] at hc
  have hg : ∀ (i : Nat) (o : Oper), ops[i]? = some o → o.guard = none ∧ ∀ e ∈ o.after, Region.binds .any e = true → e.on < i := fun i o ho => by
    have hi : i < ops.size := (Array.getElem?_eq_some_iff.1 ho).1
    have := hc i hi
    rw [ho] at this
    simp only [Bool.and_eq_true, Option.isNone_iff_eq_none, Array.all_eq_true_iff_forall_mem, Bool.or_eq_true, decide_eq_true_eq] at this
    exact ⟨this.2, fun e he hb => by
      rcases this.1 e he with h | h
      · rw [hb] at h; cases h
      · exact h⟩
  refine wp_region_invU (Inv := fun l a w => l.size = ops.size ∧ J a0 (fun j => l.getD j false) a w) hm (fun i o ho => (hg i o ho).2) (fun l a w h => h.1) ?step ?done ?h0
  case done =>
    rintro l a w ⟨_, hJ⟩ hall
    exact hfin _ a w hall hJ
  case h0 =>
    refine ⟨by simp, ?_⟩
    have e : (fun j => (Array.replicate ops.size false).getD j false) = fun _ => false := by
      funext j
      rw [Array.getD_eq_getD_getElem?, Array.getElem?_replicate]
      split <;> rfl
    rw [e]
    exact h0
  case step =>
    rintro l a w i o ⟨hs, hJ⟩ ho hli hall
    have hi : i < ops.size := (Array.getElem?_eq_some_iff.1 ho).1
    have hil : i < l.size := by omega
    refine wpOp_step ho (fun K hK => ?_)
    rw [if_pos (by simp [Region.wanted, (hg i o ho).1])]
    refine hstep i o (fun j => l.getD j false) a w K hi ho (by simp [hil] at hli ⊢; exact hli) hall hJ (fun a' w' h => hK _ _ ⟨by simpa using hs, ?_⟩)
    have e : (fun j => (l.setIfInBounds i true).getD j false) = fun j => decide (j = i) || l.getD j false := by
      funext j
      by_cases e : j = i
      · subst e; simp [hil]
      · simp [e, Array.getElem?_setIfInBounds_ne (fun e' => e (Eq.symm e'))]
    rw [e]
    exact h
def chkDst (ops : Array Oper) (ds : List Nat) : Bool := (List.range ops.size).all fun i => match ops[i]? with
  | some o => (match o.dst with
    | some d => ds.contains d
    | none => true)
  | none => false
/-- the same, J of the slots' values alone. -/
theorem wp_region_E {P : Program} {ops : Array Oper} {Q : Exit → Act → World → Prop} {id : Nat} {a0 : Act} {W : World} (ds : List Nat) (J : (Nat → Bool) → (Nat → Value) → World → Prop) (hm : P.follows .mixedOrders = true) (hc : chkOpsJ ops = true) (hc2 : chkDst ops ds = true) (hlt : ∀ t ∈ ds, t < a0.tmps.size)
    (h0 : J (fun _ => false) (fun t => a0.eval (.tmp t)) W.drew)
    (hstep : ∀ (i : Nat) (o : Oper) (D : Nat → Bool) (a : Act) (w : World) (K : Act → World → Prop), i < ops.size → ops[i]? = some o → D i = false → (∀ e ∈ o.after, Region.binds .any e = true → D e.on = true) → (∀ t, t ∉ ds → a.eval (.tmp t) = a0.eval (.tmp t)) → J D (fun t => a.eval (.tmp t)) w →
      (∀ d v w', o.dst = some d → J (fun j => decide (j = i) || D j) (fun t => if t = d then v else a.eval (.tmp t)) w' → K (a.put o.dst v) w') → (∀ w', o.dst = none → J (fun j => decide (j = i) || D j) (fun t => a.eval (.tmp t)) w' → K (a.put o.dst undef) w') → o.wp P a w K Q)
    (hfin : ∀ (D : Nat → Bool) (a : Act) (w : World), (∀ i, i < ops.size → D i = true) → a.defers = a0.defers → a.tmps = ds.foldl (fun tm t => tm.setIfInBounds t (a.tmps.getD t undef)) a0.tmps → J D (fun t => a.eval (.tmp t)) w → Q .normal a w) :
    (Code.region id ops true).wp P Q a0 W := by
  refine wp_region_J (fun a0 D a w => a.tmps.size = a0.tmps.size ∧ a.defers = a0.defers ∧ (∀ t, t ∉ ds → a.tmps[t]? = a0.tmps[t]?) ∧ J D (fun t => a.eval (.tmp t)) w) hm hc ⟨rfl, rfl, fun _ _ => rfl, h0⟩ ?_ ?_
  · intro i o D a w K hi ho hD hdep hJ hK
    obtain ⟨j1, j2, j3, j4⟩ := hJ
    have hdst : ∀ d, o.dst = some d → d ∈ ds := fun d hd => by
      simp only [chkDst, List.all_eq_true, List.mem_range] at hc2
      have := hc2 i hi
      rw [ho] at this
      simp only [hd] at this
      simpa using this
    refine hstep i o D a w K hi ho hD hdep (fun t ht => ?_) j4 (fun d v w' hd hj => ?_) (fun w' hd hj => ?_)
    · show a.tmps.getD t undef = a0.tmps.getD t undef
      rw [Array.getD_eq_getD_getElem?, Array.getD_eq_getD_getElem?, j3 t ht]
    · have hin := hdst d hd
      refine hK _ _ ⟨by rw [size_put]; exact j1, by rw [hd]; exact j2, fun t ht => ?_, ?_⟩
      · rw [← j3 t ht, hd]
        have : d ≠ t := fun e => ht (by rw [← e]; exact hin)
        simp [Act.put, Array.getElem?_setIfInBounds_ne this]
      · have e : (fun t => (a.put o.dst v).eval (.tmp t)) = fun t => if t = d then v else a.eval (.tmp t) := by
          funext t
          rw [hd]
          by_cases e : t = d
          · subst e
            rw [if_pos rfl, eval_put_same (by rw [j1]; exact hlt t hin)]
          · rw [if_neg e, eval_put_ne (fun e' => e e'.symm)]
        rw [e]
        exact hj
    · rw [hd] at *
      exact hK _ _ ⟨j1, j2, j3, hj⟩
  · intro D a w hall hJ
    obtain ⟨j1, j2, j3, j4⟩ := hJ
    exact hfin D a w hall j2 (frame_of ds j1 j3) j4
end Go.Proofs.Ytgeedgljabdllaa
