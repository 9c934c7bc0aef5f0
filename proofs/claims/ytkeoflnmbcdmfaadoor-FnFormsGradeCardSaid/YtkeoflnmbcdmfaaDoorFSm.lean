import Derived.Test.YtkeoflnmbcdmfaaDoorFMadeR
namespace Go.Proofs.YtkeoflnmbcdmfaaDoor
open Go.ChangeShapes Go.WideShapes Go.ChangeAt Go.RowKit
/-! The same, the last operation an assignment; what holds until an operation is done may end with those that stand ahead of it. -/
/-- the last operation gives a variable its value. -/
def chkOpsA (ops : Array Oper) (ds : List Nat) (r : Nat) : Bool :=
  ops.size == ds.length + 1 && ((List.range ops.size).all fun i => match ops[i]? with
    | some o => o.after.all fun e => decide (e.on < i)
    | none => false) && ((List.range ds.length).all fun i => match ops[i]? with
    | some o => decide (o.dst = some (ds.getD i 0)) && o.guard.isNone
    | none => false) && (match ops[ds.length]? with
    | some o => decide (o.dst = some r) && o.guard.isNone && (List.range ds.length).all fun j => o.after.any fun e => e.on == j && Region.binds .any e
    | none => false) && decide ds.Nodup
theorem wp_region_madeA {P : Program} {ops : Array Oper} {Q : Exit → Act → World → Prop} {id : Nat} {a0 : Act} {W : World} (m r : Nat) (d : Nat → Nat) (G : Nat → Value → World → Prop) (Rel : World → World → Prop) (Eff : Nat → World → World → Prop) (C : Nat → World → Prop) (hC0 : ∀ j, C j W.drew) (hrefl : Rel W W.drew) (htrans : ∀ w w', Rel W w → Rel w w' → Rel W w')
    (hm : P.follows .mixedOrders = true) (hlen : ops.size = m + 1) (hback : ∀ (i : Nat) (o : Oper), ops[i]? = some o → ∀ e ∈ o.after, e.on < i)
    (hd : ∀ i o, i < m → ops[i]? = some o → o.dst = some (d i) ∧ o.guard = none) (hinj : ∀ i j, i < m → j < m → d i = d j → i = j) (hlt : ∀ i, i < m → d i < a0.tmps.size)
    (hl : ∀ o, ops[m]? = some o → o.dst = some r ∧ o.guard = none ∧ ∀ j, j < m → ∃ e ∈ o.after, e.on = j ∧ Region.binds .any e = true)
    (hG : ∀ j i v w w', j ≠ i → Rel W w → Eff i w w' → G j v w → G j v w')
    (hstep : ∀ i o a w (K : Act → World → Prop) (D : Nat → Prop), (∀ e ∈ o.after, Region.binds .any e = true → D e.on) → (∀ i' o', ops[i']? = some o' → D i' → ∀ e ∈ o'.after, Region.binds .any e = true → D e.on) → i < m → ops[i]? = some o → Rel W w → Off d m a a0 → (∀ e ∈ o.after, Region.binds .any e = true → G e.on (a.eval (.tmp (d e.on))) w) → C i w → (∀ v w', Rel w w' → Eff i w w' → (∀ j, j ≠ i → ¬ D j → C j w → C j w') → G i v w' → K (a.put o.dst v) w') → o.wp P a w K Q)
    (hlast : ∀ o a w, ops[m]? = some o → Rel W w → Off d m a a0 → (∀ j, j < m → G j (a.eval (.tmp (d j))) w) → ∃ v w', (execOp a.eval o).run P w = .ok (.value v) w' ∧ Q .normal (a.put (some r) v) w') :
    (Code.region id ops true).wp P Q a0 W := by
  refine wp_region_inv (Inv := fun l a w => (l.size = ops.size ∧ ∀ i' o', ops[i']? = some o' → l.getD i' false = true → ∀ e ∈ o'.after, Region.binds .any e = true → l.getD e.on false = true) ∧ ((l.getD m false = false ∧ Rel W w ∧ Off d m a a0 ∧ (∀ j, l.getD j false = false → C j w) ∧ ∀ j, j < m → l.getD j false = true → G j (a.eval (.tmp (d j))) w) ∨ ((∀ j, j < ops.size → l.getD j false = true) ∧ Q .normal a w))) hm hback (fun l a w h => h.1.1) ?step ?done ?h0
  case done =>
    rintro l a w ⟨⟨hs, _⟩, h⟩ hall
    rcases h with ⟨h1, _⟩ | ⟨_, h⟩
    · rw [hall m (by omega)] at h1; cases h1
    · exact h
  case h0 =>
    refine ⟨⟨by simp, fun i' o' _ hd' => by rw [Array.getD_eq_getD_getElem?, Array.getElem?_replicate] at hd'; split at hd' <;> cases hd'⟩, .inl ⟨by rw [Array.getD_eq_getD_getElem?, Array.getElem?_replicate]; split <;> rfl, hrefl, ⟨rfl, rfl, fun _ _ => rfl⟩, fun j _ => hC0 j, fun j hj hlj => ?_⟩⟩
    simp at hlj
    have : j < ops.size := by omega
    simp [this] at hlj
  case step =>
    rintro l a w i o ⟨⟨hs, hcl⟩, h⟩ ho hli hall
    have hi : i < ops.size := (Array.getElem?_eq_some_iff.1 ho).1
    have hil : i < l.size := by omega
    rcases h with ⟨h1, hb, hoff, hcj, hg⟩ | ⟨h, _⟩
    · refine wpOp_step ho (fun K hK => ?_)
      have hset0 : ∀ j, (l.setIfInBounds i true).getD j false = if j = i then true else l.getD j false := fun j => by
        by_cases e : j = i
        · subst e; simp [hil]
        · rw [if_neg e]; simp [Array.getElem?_setIfInBounds_ne (fun e' => e (Eq.symm e'))]
      have hsz : (l.setIfInBounds i true).size = ops.size ∧ ∀ i' o', ops[i']? = some o' → (l.setIfInBounds i true).getD i' false = true → ∀ e ∈ o'.after, Region.binds .any e = true → (l.setIfInBounds i true).getD e.on false = true := by
        refine ⟨by simpa using hs, fun i' o' ho' hd' e he hbd => ?_⟩
        rw [hset0] at hd' ⊢
        split
        · rfl
        · split at hd'
          · rename_i _ hii
            subst hii
            rw [ho] at ho'
            injection ho' with ho'
            subst ho'
            exact hall e he hbd
          · exact hcl i' o' ho' hd' e he hbd
      by_cases him : i = m
      · subst him
        obtain ⟨q1, q2, q3⟩ := hl o ho
        have hallj : ∀ j, j < i → l.getD j false = true := fun j hj => by
          obtain ⟨e, he, rfl, hbd⟩ := q3 j hj
          exact hall e he hbd
        obtain ⟨v, w', hrun, hq⟩ := hlast o a w ho hb hoff (fun j hj => hg j hj (hallj j hj))
        rw [if_pos (by simp [Region.wanted, q2])]
        unfold Oper.wp
        rw [hrun]
        refine hK _ _ ⟨hsz, .inr ⟨fun j hj => ?_, ?_⟩⟩
        · by_cases e : j = i
          · subst e; simp [hil]
          · have := hallj j (by omega)
            have hjl : j < l.size := by omega
            have hset : (l.setIfInBounds i true).getD j false = l.getD j false := by simp [Array.getElem?_setIfInBounds_ne (fun e' => e (Eq.symm e'))]
            rw [hset]; exact this
        · rw [q1]; exact hq
      · have him' : i < m := by omega
        obtain ⟨q1, q2⟩ := hd i o him' ho
        have hpre : ∀ e ∈ o.after, Region.binds .any e = true → G e.on (a.eval (.tmp (d e.on))) w := fun e he hbd => hg e.on (Nat.lt_trans (hback i o ho e he) him') (hall e he hbd)
        rw [if_pos (by simp [Region.wanted, q2])]
        refine hstep i o a w K (fun j => l.getD j false = true) hall hcl him' ho hb hoff hpre (hcj i (by simp [hil] at hli ⊢; exact hli)) (fun v w' hb' hef hcs hgi => ?_)
        have hdlt : d i < a.tmps.size := by rw [hoff.1]; exact hlt i him'
        have hset : ∀ j, (l.setIfInBounds i true).getD j false = if j = i then true else l.getD j false := fun j => by
          by_cases e : j = i
          · subst e; simp [hil]
          · rw [if_neg e]; simp [Array.getElem?_setIfInBounds_ne (fun e' => e (Eq.symm e'))]
        refine hK _ _ ⟨hsz, .inl ⟨by rw [hset, if_neg (fun e => him e.symm)]; exact h1, htrans _ _ hb hb', ?_, fun j hlj => (by rw [hset] at hlj; split at hlj; (cases hlj); (rename_i hji; exact hcs j hji (fun e2 => by rw [e2] at hlj; cases hlj) (hcj j hlj))), fun j hj hlj => ?_⟩⟩
        · rw [q1]
          refine ⟨by rw [size_put]; exact hoff.1, hoff.2.1, fun t ht => ?_⟩
          rw [← hoff.2.2 t ht]
          simp [Act.put, Array.getElem?_setIfInBounds_ne (ht i him')]
        · rw [q1]
          by_cases e : j = i
          · subst e; rw [eval_put_same hdlt]; exact hgi
          · rw [eval_put_ne (fun e' => e (hinj _ _ hj him' e'.symm))]
            rw [hset, if_neg e] at hlj
            exact hG _ _ _ _ _ e hb hef (hg j hj hlj)
    · have := h i hi
      simp [hil] at hli this
      rw [this] at hli; cases hli
theorem wp_region_dsA {P : Program} {ops : Array Oper} {Q : Exit → Act → World → Prop} {id : Nat} {a0 : Act} {W : World} (ds : List Nat) (r : Nat) (G : Nat → Value → World → Prop) (Rel : World → World → Prop) (Eff : Nat → World → World → Prop) (C : Nat → World → Prop) (hC0 : ∀ j, C j W.drew) (hrefl : Rel W W.drew) (htrans : ∀ w w', Rel W w → Rel w w' → Rel W w')
    (hm : P.follows .mixedOrders = true) (hc : chkOpsA ops ds r = true) (hlt : ∀ t ∈ ds, t < a0.tmps.size)
    (hG : ∀ j i v w w', j ≠ i → Rel W w → Eff i w w' → G j v w → G j v w')
    (hstep : ∀ (i : Nat) (o : Oper) (a : Act) (w : World) (K : Act → World → Prop) (D : Nat → Prop), (∀ e ∈ o.after, Region.binds .any e = true → D e.on) → (∀ i' o', ops[i']? = some o' → D i' → ∀ e ∈ o'.after, Region.binds .any e = true → D e.on) → i < ds.length → ops[i]? = some o → Rel W w → (∀ t, t ∉ ds → a.eval (.tmp t) = a0.eval (.tmp t)) → (∀ e ∈ o.after, Region.binds .any e = true → G e.on (a.eval (.tmp (ds.getD e.on 0))) w) → C i w → (∀ v w', Rel w w' → Eff i w w' → (∀ j, j ≠ i → ¬ D j → C j w → C j w') → G i v w' → K (a.put o.dst v) w') → o.wp P a w K Q)
    (hlast : ∀ (o : Oper) (a : Act) (w : World), ops[ds.length]? = some o → Rel W w → a.defers = a0.defers → a.tmps = ds.foldl (fun tm t => tm.setIfInBounds t (a.tmps.getD t undef)) a0.tmps → (∀ t, t ∉ ds → a.eval (.tmp t) = a0.eval (.tmp t)) → (∀ j, j < ds.length → G j (a.eval (.tmp (ds.getD j 0))) w) → ∃ v w', (execOp a.eval o).run P w = .ok (.value v) w' ∧ Q .normal (a.put (some r) v) w') :
    (Code.region id ops true).wp P Q a0 W := by
  simp only [chkOpsA, Bool.and_eq_true, beq_iff_eq, List.all_eq_true, List.mem_range, decide_eq_true_eq] at hc
  obtain ⟨⟨⟨⟨c1, c2⟩, c3⟩, c4⟩, c5⟩ := hc
  have hout : ∀ t, t ∉ ds → ∀ j, j < ds.length → ds.getD j 0 ≠ t := fun t ht j hj e => ht (by
    rw [← e, List.getD_eq_getElem?_getD, List.getElem?_eq_getElem hj]; exact List.getElem_mem _)
  have hmem : ∀ j, j < ds.length → ds.getD j 0 ∈ ds := fun j hj => by
    rw [List.getD_eq_getElem?_getD, List.getElem?_eq_getElem hj]; exact List.getElem_mem _
  refine wp_region_madeA ds.length r (fun j => ds.getD j 0) G Rel Eff C hC0 hrefl htrans hm c1 ?back ?hd ?inj (fun i hi => hlt _ (hmem i hi)) ?hl hG ?step ?last
  case back =>
    intro i o ho e he
    have hi : i < ops.size := (Array.getElem?_eq_some_iff.1 ho).1
    have := c2 i hi
    rw [ho] at this
    simp only [Array.all_eq_true_iff_forall_mem, decide_eq_true_eq] at this
    exact this e he
  case hd =>
    intro i o hi ho
    have := c3 i hi
    rw [ho] at this
    simp only [Bool.and_eq_true, decide_eq_true_eq, Option.isNone_iff_eq_none] at this
    exact this
  case inj =>
    intro i j hi hj e
    simp only [List.getD_eq_getElem?_getD, List.getElem?_eq_getElem hi, List.getElem?_eq_getElem hj, Option.getD_some] at e
    exact (List.getElem_inj c5).1 e
  case hl =>
    intro o ho
    rw [ho] at c4
    simp only [Bool.and_eq_true, decide_eq_true_eq, Option.isNone_iff_eq_none, List.all_eq_true, List.mem_range] at c4
    refine ⟨c4.1.1, c4.1.2, fun j hj => ?_⟩
    obtain ⟨e, he, h⟩ := Array.any_eq_true'.1 (c4.2 j hj)
    rw [Bool.and_eq_true, beq_iff_eq] at h
    exact ⟨e, he, h.1, h.2⟩
  case step =>
    intro i o a w K D hD hcl hi ho hb hoff hpre hc hK
    exact hstep i o a w K D hD hcl hi ho hb (fun t ht => hoff.eval (hout t ht)) hpre hc hK
  case last =>
    intro o a w ho hb hoff hpre
    refine hlast o a w ho hb hoff.2.1 (frame_of ds hoff.1 (fun t ht => hoff.2.2 t (hout t ht))) (fun t ht => hoff.eval (hout t ht)) hpre
theorem wp_region_madeS {P : Program} {ops : Array Oper} {Q : Exit → Act → World → Prop} {id : Nat} {a0 : Act} {W : World} (m : Nat) (d : Nat → Nat) (G : Nat → Value → World → Prop) (Rel : World → World → Prop) (Eff : Nat → World → World → Prop) (C : Nat → World → Prop) (hC0 : ∀ j, C j W.drew) (hrefl : Rel W W.drew) (htrans : ∀ w w', Rel W w → Rel w w' → Rel W w')
    (hm : P.follows .mixedOrders = true) (hlen : ops.size = m + 1) (hback : ∀ (i : Nat) (o : Oper), ops[i]? = some o → ∀ e ∈ o.after, e.on < i)
    (hd : ∀ i o, i < m → ops[i]? = some o → o.dst = some (d i) ∧ o.guard = none) (hinj : ∀ i j, i < m → j < m → d i = d j → i = j) (hlt : ∀ i, i < m → d i < a0.tmps.size)
    (hl : ∀ o, ops[m]? = some o → o.dst = none ∧ o.guard = none ∧ ∀ j, j < m → ∃ e ∈ o.after, e.on = j ∧ Region.binds .any e = true)
    (hG : ∀ j i v w w', j ≠ i → Rel W w → Eff i w w' → G j v w → G j v w')
    (hstep : ∀ i o a w (K : Act → World → Prop) (D : Nat → Prop), (∀ e ∈ o.after, Region.binds .any e = true → D e.on) → (∀ i' o', ops[i']? = some o' → D i' → ∀ e ∈ o'.after, Region.binds .any e = true → D e.on) → i < m → ops[i]? = some o → Rel W w → Off d m a a0 → (∀ e ∈ o.after, Region.binds .any e = true → G e.on (a.eval (.tmp (d e.on))) w) → C i w → (∀ v w', Rel w w' → Eff i w w' → (∀ j, j ≠ i → ¬ D j → C j w → C j w') → G i v w' → K (a.put o.dst v) w') → o.wp P a w K Q)
    (hlast : ∀ o a w, ops[m]? = some o → Rel W w → Off d m a a0 → (∀ j, j < m → G j (a.eval (.tmp (d j))) w) → ∃ w', (execOp a.eval o).run P w = .ok .skip w' ∧ Q .normal a w') :
    (Code.region id ops true).wp P Q a0 W := by
  refine wp_region_inv (Inv := fun l a w => (l.size = ops.size ∧ ∀ i' o', ops[i']? = some o' → l.getD i' false = true → ∀ e ∈ o'.after, Region.binds .any e = true → l.getD e.on false = true) ∧ ((l.getD m false = false ∧ Rel W w ∧ Off d m a a0 ∧ (∀ j, l.getD j false = false → C j w) ∧ ∀ j, j < m → l.getD j false = true → G j (a.eval (.tmp (d j))) w) ∨ ((∀ j, j < ops.size → l.getD j false = true) ∧ Q .normal a w))) hm hback (fun l a w h => h.1.1) ?step ?done ?h0
  case done =>
    rintro l a w ⟨⟨hs, _⟩, h⟩ hall
    rcases h with ⟨h1, _⟩ | ⟨_, h⟩
    · rw [hall m (by omega)] at h1; cases h1
    · exact h
  case h0 =>
    refine ⟨⟨by simp, fun i' o' _ hd' => by rw [Array.getD_eq_getD_getElem?, Array.getElem?_replicate] at hd'; split at hd' <;> cases hd'⟩, .inl ⟨by rw [Array.getD_eq_getD_getElem?, Array.getElem?_replicate]; split <;> rfl, hrefl, ⟨rfl, rfl, fun _ _ => rfl⟩, fun j _ => hC0 j, fun j hj hlj => ?_⟩⟩
    simp at hlj
    have : j < ops.size := by omega
    simp [this] at hlj
  case step =>
    rintro l a w i o ⟨⟨hs, hcl⟩, h⟩ ho hli hall
    have hi : i < ops.size := (Array.getElem?_eq_some_iff.1 ho).1
    have hil : i < l.size := by omega
    rcases h with ⟨h1, hb, hoff, hcj, hg⟩ | ⟨h, _⟩
    · refine wpOp_step ho (fun K hK => ?_)
      have hset0 : ∀ j, (l.setIfInBounds i true).getD j false = if j = i then true else l.getD j false := fun j => by
        by_cases e : j = i
        · subst e; simp [hil]
        · rw [if_neg e]; simp [Array.getElem?_setIfInBounds_ne (fun e' => e (Eq.symm e'))]
      have hsz : (l.setIfInBounds i true).size = ops.size ∧ ∀ i' o', ops[i']? = some o' → (l.setIfInBounds i true).getD i' false = true → ∀ e ∈ o'.after, Region.binds .any e = true → (l.setIfInBounds i true).getD e.on false = true := by
        refine ⟨by simpa using hs, fun i' o' ho' hd' e he hbd => ?_⟩
        rw [hset0] at hd' ⊢
        split
        · rfl
        · split at hd'
          · rename_i _ hii
            subst hii
            rw [ho] at ho'
            injection ho' with ho'
            subst ho'
            exact hall e he hbd
          · exact hcl i' o' ho' hd' e he hbd
      by_cases him : i = m
      · subst him
        obtain ⟨q1, q2, q3⟩ := hl o ho
        have hallj : ∀ j, j < i → l.getD j false = true := fun j hj => by
          obtain ⟨e, he, rfl, hbd⟩ := q3 j hj
          exact hall e he hbd
        obtain ⟨w', hrun, hq⟩ := hlast o a w ho hb hoff (fun j hj => hg j hj (hallj j hj))
        rw [if_pos (by simp [Region.wanted, q2])]
        unfold Oper.wp
        rw [hrun]
        have hput : a.put o.dst undef = a := by rw [q1]; rfl
        refine hK _ _ ⟨hsz, .inr ⟨fun j hj => ?_, ?_⟩⟩
        · by_cases e : j = i
          · subst e; simp [hil]
          · have := hallj j (by omega)
            have hjl : j < l.size := by omega
            have hset : (l.setIfInBounds i true).getD j false = l.getD j false := by simp [Array.getElem?_setIfInBounds_ne (fun e' => e (Eq.symm e'))]
            rw [hset]; exact this
        · first | exact hq | (rw [hput]; exact hq)
      · have him' : i < m := by omega
        obtain ⟨q1, q2⟩ := hd i o him' ho
        have hpre : ∀ e ∈ o.after, Region.binds .any e = true → G e.on (a.eval (.tmp (d e.on))) w := fun e he hbd => hg e.on (Nat.lt_trans (hback i o ho e he) him') (hall e he hbd)
        rw [if_pos (by simp [Region.wanted, q2])]
        refine hstep i o a w K (fun j => l.getD j false = true) hall hcl him' ho hb hoff hpre (hcj i (by simp [hil] at hli ⊢; exact hli)) (fun v w' hb' hef hcs hgi => ?_)
        have hdlt : d i < a.tmps.size := by rw [hoff.1]; exact hlt i him'
        have hset : ∀ j, (l.setIfInBounds i true).getD j false = if j = i then true else l.getD j false := fun j => by
          by_cases e : j = i
          · subst e; simp [hil]
          · rw [if_neg e]; simp [Array.getElem?_setIfInBounds_ne (fun e' => e (Eq.symm e'))]
        refine hK _ _ ⟨hsz, .inl ⟨by rw [hset, if_neg (fun e => him e.symm)]; exact h1, htrans _ _ hb hb', ?_, fun j hlj => (by rw [hset] at hlj; split at hlj; (cases hlj); (rename_i hji; exact hcs j hji (fun e2 => by rw [e2] at hlj; cases hlj) (hcj j hlj))), fun j hj hlj => ?_⟩⟩
        · rw [q1]
          refine ⟨by rw [size_put]; exact hoff.1, hoff.2.1, fun t ht => ?_⟩
          rw [← hoff.2.2 t ht]
          simp [Act.put, Array.getElem?_setIfInBounds_ne (ht i him')]
        · rw [q1]
          by_cases e : j = i
          · subst e; rw [eval_put_same hdlt]; exact hgi
          · rw [eval_put_ne (fun e' => e (hinj _ _ hj him' e'.symm))]
            rw [hset, if_neg e] at hlj
            exact hG _ _ _ _ _ e hb hef (hg j hj hlj)
    · have := h i hi
      simp [hil] at hli this
      rw [this] at hli; cases hli
theorem wp_region_dsS {P : Program} {ops : Array Oper} {Q : Exit → Act → World → Prop} {id : Nat} {a0 : Act} {W : World} (ds : List Nat) (G : Nat → Value → World → Prop) (Rel : World → World → Prop) (Eff : Nat → World → World → Prop) (C : Nat → World → Prop) (hC0 : ∀ j, C j W.drew) (hrefl : Rel W W.drew) (htrans : ∀ w w', Rel W w → Rel w w' → Rel W w')
    (hm : P.follows .mixedOrders = true) (hc : chkOps ops ds = true) (hlt : ∀ t ∈ ds, t < a0.tmps.size)
    (hG : ∀ j i v w w', j ≠ i → Rel W w → Eff i w w' → G j v w → G j v w')
    (hstep : ∀ (i : Nat) (o : Oper) (a : Act) (w : World) (K : Act → World → Prop) (D : Nat → Prop), (∀ e ∈ o.after, Region.binds .any e = true → D e.on) → (∀ i' o', ops[i']? = some o' → D i' → ∀ e ∈ o'.after, Region.binds .any e = true → D e.on) → i < ds.length → ops[i]? = some o → Rel W w → (∀ t, t ∉ ds → a.eval (.tmp t) = a0.eval (.tmp t)) → (∀ e ∈ o.after, Region.binds .any e = true → G e.on (a.eval (.tmp (ds.getD e.on 0))) w) → C i w → (∀ v w', Rel w w' → Eff i w w' → (∀ j, j ≠ i → ¬ D j → C j w → C j w') → G i v w' → K (a.put o.dst v) w') → o.wp P a w K Q)
    (hlast : ∀ (o : Oper) (a : Act) (w : World), ops[ds.length]? = some o → Rel W w → a.defers = a0.defers → a.tmps = ds.foldl (fun tm t => tm.setIfInBounds t (a.tmps.getD t undef)) a0.tmps → (∀ t, t ∉ ds → a.eval (.tmp t) = a0.eval (.tmp t)) → (∀ j, j < ds.length → G j (a.eval (.tmp (ds.getD j 0))) w) → ∃ w', (execOp a.eval o).run P w = .ok .skip w' ∧ Q .normal a w') :
    (Code.region id ops true).wp P Q a0 W := by
  simp only [chkOps, Bool.and_eq_true, beq_iff_eq, List.all_eq_true, List.mem_range, decide_eq_true_eq] at hc
  obtain ⟨⟨⟨⟨c1, c2⟩, c3⟩, c4⟩, c5⟩ := hc
  have hout : ∀ t, t ∉ ds → ∀ j, j < ds.length → ds.getD j 0 ≠ t := fun t ht j hj e => ht (by
    rw [← e, List.getD_eq_getElem?_getD, List.getElem?_eq_getElem hj]; exact List.getElem_mem _)
  have hmem : ∀ j, j < ds.length → ds.getD j 0 ∈ ds := fun j hj => by
    rw [List.getD_eq_getElem?_getD, List.getElem?_eq_getElem hj]; exact List.getElem_mem _
  refine wp_region_madeS ds.length (fun j => ds.getD j 0) G Rel Eff C hC0 hrefl htrans hm c1 ?back ?hd ?inj (fun i hi => hlt _ (hmem i hi)) ?hl hG ?step ?last
  case back =>
    intro i o ho e he
    have hi : i < ops.size := (Array.getElem?_eq_some_iff.1 ho).1
    have := c2 i hi
    rw [ho] at this
    simp only [Array.all_eq_true_iff_forall_mem, decide_eq_true_eq] at this
    exact this e he
  case hd =>
    intro i o hi ho
    have := c3 i hi
    rw [ho] at this
    simp only [Bool.and_eq_true, decide_eq_true_eq, Option.isNone_iff_eq_none] at this
    exact this
  case inj =>
    intro i j hi hj e
    simp only [List.getD_eq_getElem?_getD, List.getElem?_eq_getElem hi, List.getElem?_eq_getElem hj, Option.getD_some] at e
    exact (List.getElem_inj c5).1 e
  case hl =>
    intro o ho
    rw [ho] at c4
    simp only [Bool.and_eq_true, Option.isNone_iff_eq_none, List.all_eq_true, List.mem_range] at c4
    refine ⟨c4.1.1, c4.1.2, fun j hj => ?_⟩
    obtain ⟨e, he, h⟩ := Array.any_eq_true'.1 (c4.2 j hj)
    rw [Bool.and_eq_true, beq_iff_eq] at h
    exact ⟨e, he, h.1, h.2⟩
  case step =>
    intro i o a w K D hD hcl hi ho hb hoff hpre hc hK
    exact hstep i o a w K D hD hcl hi ho hb (fun t ht => hoff.eval (hout t ht)) hpre hc hK
  case last =>
    intro o a w ho hb hoff hpre
    refine hlast o a w ho hb hoff.2.1 (frame_of ds hoff.1 (fun t ht => hoff.2.2 t (hout t ht))) (fun t ht => hoff.eval (hout t ht)) hpre
end Go.Proofs.YtkeoflnmbcdmfaaDoor
set_option maxRecDepth 8000
namespace Go.Proofs.YtkeoflnmbcdmfaaDoor
open Go.ChangeShapes Go.WideShapes Go.ChangeAt Go.RowKit
theorem opts_info : (Tryd.prog.info? 118).map (fun i => (i.zero, i.size, i.bytes)) = some (some (.slice none 0 0), 1, 24) := by kernel_rfl
theorem rulsl_info : (Tryd.prog.info? 24).map (fun i => (i.zero, i.size, i.bytes)) = some (some (.slice none 0 0), 1, 24) := by kernel_rfl
theorem make_opts {n : Nat} (hn : n ≤ 1099511627776) (w : World) : (Instr.makeSlice 93 (.int .i64 (n : Int)) (.int .i64 (n : Int))).run Tryd.prog w = .ok (.slice (some ⟨w.heap.size, 0, none⟩) n n) (w.alloc (.cells (rowsArr (fun _ => .slice none 0 0) n) 118)) := by
  obtain ⟨i0, hi, hz0, hz1, hz2⟩ := info_parts opts_info
  have hr := run_make (P := Tryd.prog) w 93 118 i0 (.slice none 0 0) Tryd.underlying93 hi hz0 .i64 .i64 (n : Int) (n : Int) (by omega) (Int.le_refl _) (by rw [hz2]; omega) (by omega)
  rw [hz1, Int.toNat_natCast, Nat.mul_one] at hr
  rw [← nils_arr]
  exact hr
theorem make_ruls {n : Nat} (hn : n ≤ 1099511627776) (w : World) : (Instr.makeSlice 94 (.int .i64 (n : Int)) (.int .i64 (n : Int))).run Tryd.prog w = .ok (.slice (some ⟨w.heap.size, 0, none⟩) n n) (w.alloc (.cells (rowsArr (fun _ => .slice none 0 0) n) 24)) := by
  obtain ⟨i0, hi, hz0, hz1, hz2⟩ := info_parts rulsl_info
  have hr := run_make (P := Tryd.prog) w 94 24 i0 (.slice none 0 0) Tryd.underlying94 hi hz0 .i64 .i64 (n : Int) (n : Int) (by omega) (Int.le_refl _) (by rw [hz2]; omega) (by omega)
  rw [hz1, Int.toNat_natCast, Nat.mul_one] at hr
  rw [← nils_arr]
  exact hr
theorem opt_info : (Tryd.prog.info? 117).map (fun i => (i.zero, i.size, i.bytes)) = some (some (.agg #[.int .i64 0, .int .u64 0]), 2, 16) := by kernel_rfl
theorem updR_at (R : Nat → Value) (c : Nat) (v : Value) : updR R c v c = v := by simp [updR]
theorem updR_ne (R : Nat → Value) {c j : Nat} (v : Value) (h : j ≠ c) : updR R c v j = R j := by simp [updR, h]
theorem updR_upd (R : Nat → Value) (c : Nat) (v v' : Value) : updR (updR R c v) c v' = updR R c v' := by
  funext j
  simp only [updR]
  split <;> rfl
theorem updR_self {R : Nat → Value} {c : Nat} {v : Value} (h : R c = v) : updR R c v = R := by
  funext j
  simp only [updR]
  split
  · rename_i e; subst e; exact h.symm
  · rfl
/-- from a world to one in which but block OB, and blocks that came later, may have changed. -/
theorem grown_ownS {w w1 w2 : World} {OB : Nat} {r : Option Nat} (h : w.grownBy w1 (some OB)) (h2 : w1.grownBy w2 r) (hr : ∀ g, r = some g → w.heap.size ≤ g) : w.grownBy w2 (some OB) :=
  ⟨h2.os.trans h.os, h2.tape.trans h.tape, h2.output.trans h.output, Nat.le_trans h.size h2.size, fun k hk hne => (h2.block k (Nat.lt_of_lt_of_le hk h.size) (fun e => by have := hr k e.symm; omega)).trans (h.block k hk hne)⟩
theorem grown_cell {w w' : World} {OB b i : Nat} {v : Value} (h : w.grownBy w' (some OB)) (hc : w.cell? ⟨b, i, none⟩ = some v) (hb : b ≠ OB) : w'.cell? ⟨b, i, none⟩ = some v :=
  (h.cell_far ⟨b, i, none⟩ (cell_lt hc) (fun e => hb (Option.some.inj e))).trans hc
theorem grown_blk {w w' : World} {OB b : Nat} {o : Obj} (h : w.grownBy w' (some OB)) (hc : w.heap[b]? = some o) (hb : b ≠ OB) : w'.heap[b]? = some o :=
  (h.block b (Array.getElem?_eq_some_iff.1 hc).1 (fun e => hb (Option.some.inj e))).trans hc
theorem take_push {xs : List Int} {t : Nat} (h : t < xs.length) : xs.take (t + 1) = xs.take t ++ [nth xs t] := by
  rw [List.take_add_one, List.getElem?_eq_getElem h]
  simp [nth, List.getD_eq_getElem?_getD, h]
theorem grown_sr {w : World} {g : Nat} {cs : Array Value} : w.grownBy (w.setRow g cs) (some g) :=
  ⟨rfl, rfl, rfl, by simp, fun k hk hne => by unfold World.setRow; simp only [Array.getElem?_modify]; rw [if_neg (fun e => hne (by rw [e]))]⟩
def nilR : Nat → Value := fun _ => .slice none 0 0
def SgG (B n : Nat) : Nat → Value → World → Prop
  | 1, v, w => ∃ g, v = .slice (some ⟨g, 0, none⟩) n n ∧ B ≤ g ∧ w.heap[g]? = some (.cells (zeroArr n) 3)
  | 3, v, w => ∃ g, v = .slice (some ⟨g, 0, none⟩) n n ∧ B ≤ g ∧ Arr w g 118 nilR n
  | 5, v, w => ∃ g, v = .slice (some ⟨g, 0, none⟩) n n ∧ B ≤ g ∧ Arr w g 24 nilR n
  | 6, v, w => ∃ g1 g2 g3, v = .agg #[.slice (some ⟨g1, 0, none⟩) n n, .slice (some ⟨g2, 0, none⟩) n n, .slice (some ⟨g3, 0, none⟩) n n] ∧ (B ≤ g1 ∧ w.heap[g1]? = some (.cells (zeroArr n) 3)) ∧ (B ≤ g2 ∧ Arr w g2 118 nilR n) ∧ (B ≤ g3 ∧ Arr w g3 24 nilR n)
  | 7, v, w => ∃ g, v = .pointer (some ⟨g, 0, none⟩) ∧ B ≤ g ∧ w.heap[g]? = some (.cells #[.slice none 0 0, .slice none 0 0, .slice none 0 0] 96)
  | _, v, _ => v = .int .i64 (n : Int)
theorem blk_below {w w' : World} {g : Nat} {o : Obj} (h : w.heap[g]? = some o) (hb : Below w.heap.size w w') : w'.heap[g]? = some o := (hb.block g (Array.getElem?_eq_some_iff.1 h).1).trans h
theorem sgG_below (B n : Nat) : ∀ j v w w', Below w.heap.size w w' → SgG B n j v w → SgG B n j v w' := by
  intro j v w w' hb h
  unfold SgG at h ⊢
  split at h
  · obtain ⟨g, e, h1, h2⟩ := h; exact ⟨g, e, h1, blk_below h2 hb⟩
  · obtain ⟨g, e, h1, h2⟩ := h; exact ⟨g, e, h1, blk_below h2 hb⟩
  · obtain ⟨g, e, h1, h2⟩ := h; exact ⟨g, e, h1, blk_below h2 hb⟩
  · obtain ⟨g1, g2, g3, e, ⟨h1, k1⟩, ⟨h2, k2⟩, h3, k3⟩ := h; exact ⟨g1, g2, g3, e, ⟨h1, blk_below k1 hb⟩, ⟨h2, blk_below k2 hb⟩, h3, blk_below k3 hb⟩
  · obtain ⟨g, e, h1, h2⟩ := h; exact ⟨g, e, h1, blk_below h2 hb⟩
  · exact h
theorem srch_info (v0 v1 v2 : Value) : (Tryd.prog.info? 96).map (·.size) = some (#[v0, v1, v2] : Array Value).size := by
  show _ = some 3
  kernel_rfl
set_option maxHeartbeats 4000000 in
theorem search_any (W0 : World) (B0 s n : Nat) (Ag : Option Addr) (cg : Nat) (gi : List Int) (Ar : Option Addr) (nr cr : Nat) (rs : List RuleM) (w : World) (hb : Below B0 W0 w) (hB0 : B0 ≤ W0.heap.size) (hs : s ∈ [2, 3, 4]) (hn : n = s * s) (hg : Rd W0 B0 Ag n gi) (hr : RdRc W0 B0 Ar nr rs) (hmr : nr ≤ 20) (hv : pvB s gi rs = true) :
    Calls Tryd.prog 90 #[.agg #[.int .i64 s, .slice Ag n cg, .slice Ar nr cr]] w fun e w' => ∃ G OB RB L, e = .returned (sVal G OB RB n) ∧ (w.heap.size ≤ G ∧ w.heap.size ≤ OB ∧ w.heap.size ≤ RB ∧ w.heap.size ≤ L ∧ G < L ∧ OB ≠ G ∧ RB ≠ G ∧ OB < L ∧ RB < L) ∧ L ≤ w'.heap.size ∧ SR W0 B0 s gi rs OB RB L w' ∧ Ow w' w.heap.size (some ⟨G, 0, none⟩) n n (zeros n) ∧ Below w.heap.size w w' := by
  have hn16 : n ≤ 16 := by simp at hs; rcases hs with rfl | rfl | rfl <;> omega
  have hn4 : 4 ≤ n := by simp at hs; rcases hs with rfl | rfl | rfl <;> omega
  have hx0 := pbox_new w s Ag n cg Ar nr cr 26
  obtain ⟨Wa, hWa⟩ : ∃ Wa, w.alloc (.cells #[.int .i64 s, .slice Ag n cg, .slice Ar nr cr] 26) = Wa := ⟨_, rfl⟩
  rw [hWa] at hx0
  have hba : Below w.heap.size w Wa := by rw [← hWa]; exact (Below.refl _ _).alloc (Nat.le_refl _) _
  have hsa : Wa.heap.size = w.heap.size + 1 := by rw [← hWa]; simp
  obtain ⟨Wb, hWb⟩ : ∃ Wb, Wa.alloc (.cells #[.slice none 0 0, .slice none 0 0, .slice none 0 0] 96) = Wb := ⟨_, rfl⟩
  have hbb : Below Wa.heap.size Wa Wb := by rw [← hWb]; exact (Below.refl _ _).alloc (Nat.le_refl _) _
  have hsb : Wb.heap.size = w.heap.size + 1 + 1 := by rw [← hWb]; simp [hsa]
  have hrc : Wb.heap[w.heap.size + 1]? = some (.cells #[.slice none 0 0, .slice none 0 0, .slice none 0 0] 96) := by rw [← hWb, ← hsa]; exact heap_alloc_new Wa _
  have hx1 := hx0.below (by omega) hbb
  obtain ⟨a0, a1, a2⟩ := id hx1
  have HX := Lib.hid (fun w' (hb : Below Wb.heap.size Wb w') => hx1.below (show w.heap.size < Wb.heap.size by omega) hb)
  have HRC := Lib.hid hrc
  have HMI := Lib.hid (fun w' => make_ints (n := n) (by omega) w')
  have HMO := Lib.hid (fun w' => make_opts (n := n) (by omega) w')
  have HMR := Lib.hid (fun w' => make_ruls (n := n) (by omega) w')
  have Hi := Lib.hid srch_info
  have HN := Lib.hid hn
  have Hba := Lib.hid (hba.trans (hbb.mono (by omega)))
  clear hx0 hx1 hrc hba hbb hn
  go_enter Tryd.func90, Tryd.ntmps90
  go_wp2
  refine wp_region_ds [16, 17, 18, 19, 20, 21, 22, 4] (SgG Wb.heap.size n) (by kernel_rfl) (by kernel_rfl) (by simp) (sgG_below _ _) ?step ?last
  case step =>
    intro i o a w' hi hoo hb hfr hpre
    have e3 : a.eval (.tmp 3) = .int .i64 (n : Int) := hfr 3 (by simp)
    have hi8 : i < 8 := hi
    have : i = 0 ∨ i = 1 ∨ i = 2 ∨ i = 3 ∨ i = 4 ∨ i = 5 ∨ i = 6 ∨ i = 7 := by omega
    rcases this with rfl | rfl | rfl | rfl | rfl | rfl | rfl | rfl
    all_goals
      simp only [List.getElem?_toArray, List.getElem?_cons_zero, List.getElem?_cons_succ, Option.some.injEq] at hoo
      subst hoo
    · refine ⟨_, w', ?_, Below.refl _ _, rfl⟩
      unfold execOp
      simp only [e3]
      go_simp
    · have p0 : a.eval (.tmp 16) = .int .i64 (n : Int) := hpre ⟨0, .data⟩ (by simp) rfl
      refine ⟨_, _, ?_, (Below.refl _ _).alloc (Nat.le_refl _) (.cells (zeroArr n) 3), ⟨w'.heap.size, rfl, hb.size, heap_alloc_new _ _⟩⟩
      unfold execOp
      simp only [p0, Sem.run_bind, Sem.run_pure, Result.andThen_ok, HMI.out]
    · refine ⟨_, w', ?_, Below.refl _ _, rfl⟩
      unfold execOp
      simp only [e3]
      go_simp
    · have p0 : a.eval (.tmp 18) = .int .i64 (n : Int) := hpre ⟨2, .data⟩ (by simp) rfl
      refine ⟨_, _, ?_, (Below.refl _ _).alloc (Nat.le_refl _) (.cells (rowsArr (fun _ => .slice none 0 0) n) 118), ⟨w'.heap.size, rfl, hb.size, heap_alloc_new _ _⟩⟩
      unfold execOp
      simp only [p0, Sem.run_bind, Sem.run_pure, Result.andThen_ok, HMO.out]
    · refine ⟨_, w', ?_, Below.refl _ _, rfl⟩
      unfold execOp
      simp only [e3]
      go_simp
    · have p0 : a.eval (.tmp 20) = .int .i64 (n : Int) := hpre ⟨4, .data⟩ (by simp) rfl
      refine ⟨_, _, ?_, (Below.refl _ _).alloc (Nat.le_refl _) (.cells (rowsArr (fun _ => .slice none 0 0) n) 24), ⟨w'.heap.size, rfl, hb.size, heap_alloc_new _ _⟩⟩
      unfold execOp
      simp only [p0, Sem.run_bind, Sem.run_pure, Result.andThen_ok, HMR.out]
    · obtain ⟨g1, p17, q1, q2⟩ : ∃ g, a.eval (.tmp 17) = .slice (some ⟨g, 0, none⟩) n n ∧ Wb.heap.size ≤ g ∧ w'.heap[g]? = some (.cells (zeroArr n) 3) := hpre ⟨1, .data⟩ (by simp) rfl
      obtain ⟨g2, p19, q3, q4⟩ : ∃ g, a.eval (.tmp 19) = .slice (some ⟨g, 0, none⟩) n n ∧ Wb.heap.size ≤ g ∧ Arr w' g 118 nilR n := hpre ⟨3, .data⟩ (by simp) rfl
      obtain ⟨g3, p21, q5, q6⟩ : ∃ g, a.eval (.tmp 21) = .slice (some ⟨g, 0, none⟩) n n ∧ Wb.heap.size ≤ g ∧ Arr w' g 24 nilR n := hpre ⟨5, .data⟩ (by simp) rfl
      refine ⟨.agg #[.slice (some ⟨g1, 0, none⟩) n n, .slice (some ⟨g2, 0, none⟩) n n, .slice (some ⟨g3, 0, none⟩) n n], w', ?_, Below.refl _ _, g1, g2, g3, rfl, ⟨q1, q2⟩, ⟨q3, q4⟩, q5, q6⟩
      unfold execOp
      simp only [List.map_toArray, List.map_cons, List.map_nil, p17, p19, p21]
      go_simp
    · refine ⟨_, _, ?_, (Below.refl _ _).alloc (Nat.le_refl _) (.cells #[.slice none 0 0, .slice none 0 0, .slice none 0 0] 96), ⟨w'.heap.size, rfl, hb.size, heap_alloc_new _ _⟩⟩
      unfold execOp
      go_simp
  case last =>
    intro o a w5 hoo hb5 hdef htm hfr hpre
    simp only [List.length_cons, List.length_nil, Nat.reduceAdd, List.getElem?_toArray, List.getElem?_cons_zero, List.getElem?_cons_succ, Option.some.injEq] at hoo
    subst hoo
    have g16 : a.tmps.getD 16 undef = .int .i64 (n : Int) := hpre 0 (by simp)
    obtain ⟨b17, g17, _⟩ : ∃ g, a.tmps.getD 17 undef = .slice (some ⟨g, 0, none⟩) n n ∧ _ := hpre 1 (by simp)
    have g18 : a.tmps.getD 18 undef = .int .i64 (n : Int) := hpre 2 (by simp)
    obtain ⟨b19, g19, _⟩ : ∃ g, a.tmps.getD 19 undef = .slice (some ⟨g, 0, none⟩) n n ∧ _ := hpre 3 (by simp)
    have g20 : a.tmps.getD 20 undef = .int .i64 (n : Int) := hpre 4 (by simp)
    obtain ⟨b21, g21, _⟩ : ∃ g, a.tmps.getD 21 undef = .slice (some ⟨g, 0, none⟩) n n ∧ _ := hpre 5 (by simp)
    obtain ⟨G, OB, RB, g22, ⟨hG, hGr⟩, ⟨hO, hOr⟩, hR, hRr⟩ : ∃ g1 g2 g3, a.tmps.getD 22 undef = .agg #[.slice (some ⟨g1, 0, none⟩) n n, .slice (some ⟨g2, 0, none⟩) n n, .slice (some ⟨g3, 0, none⟩) n n] ∧ (Wb.heap.size ≤ g1 ∧ w5.heap[g1]? = some (.cells (zeroArr n) 3)) ∧ (Wb.heap.size ≤ g2 ∧ Arr w5 g2 118 nilR n) ∧ (Wb.heap.size ≤ g3 ∧ Arr w5 g3 24 nilR n) := hpre 6 (by simp)
    obtain ⟨SB, g4, hS, hSr⟩ : ∃ g, a.tmps.getD 4 undef = .pointer (some ⟨g, 0, none⟩) ∧ Wb.heap.size ≤ g ∧ w5.heap[g]? = some (.cells #[.slice none 0 0, .slice none 0 0, .slice none 0 0] 96) := hpre 7 (by simp)
    have h4 : a.eval (.tmp 4) = .pointer (some ⟨SB, 0, none⟩) := g4
    have h22 : a.eval (.tmp 22) = .agg #[.slice (some ⟨G, 0, none⟩) n n, .slice (some ⟨OB, 0, none⟩) n n, .slice (some ⟨RB, 0, none⟩) n n] := g22
    refine ⟨w5.setRow SB #[.slice (some ⟨G, 0, none⟩) n n, .slice (some ⟨OB, 0, none⟩) n n, .slice (some ⟨RB, 0, none⟩) n n], ?_, ?_⟩
    · have hst := run_storeVar_row (P := Tryd.prog) w5 SB 96 96 _ #[.slice (some ⟨G, 0, none⟩) n n, .slice (some ⟨OB, 0, none⟩) n n, .slice (some ⟨RB, 0, none⟩) n n] hSr (Hi.out _ _ _) rfl (by simp [Value.oneCell'])
      unfold execOp
      simp only [h4, h22, Instr.storeAt, Instr.sureAddr, Sem.run_bind, Sem.run_pure, Result.andThen_ok, hst]
    · have key := htm
      simp only [List.foldl_cons, List.foldl_nil, g16, g17, g18, g19, g20, g21, g22, g4, List.setIfInBounds_toArray, List.set_cons_succ, List.set_cons_zero] at key
      clear htm hfr hpre g16 g17 g18 g19 g20 g21 g22 g4 h4 h22
      obtain ⟨tm, df⟩ := a
      dsimp only at key hdef
      subst key hdef
      have hne := fun (g g' : Nat) (cs cs' : Array Value) (t t' : TypeId) (h : w5.heap[g]? = some (.cells cs t)) (h' : w5.heap[g']? = some (.cells cs' t')) (ht : t ≠ t') => (fun e => by
        subst e
        rw [h] at h'
        injection h' with h'
        injection h' with _ h'
        exact ht h' : g ≠ g')
      have n1 := hne _ _ _ _ _ _ hGr hSr (by decide)
      have n2 := hne _ _ _ _ _ _ hOr hSr (by decide)
      have n3 := hne _ _ _ _ _ _ hRr hSr (by decide)
      have n4 := hne _ _ _ _ _ _ hOr hGr (by decide)
      have n5 := hne _ _ _ _ _ _ hRr hGr (by decide)
      have n6 := hne _ _ _ _ _ _ hRr hOr (by decide)
      clear hne
      have hr6 := setRow_heap (w := w5) SB _ #[.slice (some ⟨G, 0, none⟩) n n, .slice (some ⟨OB, 0, none⟩) n n, .slice (some ⟨RB, 0, none⟩) n n] 96 _ hSr
      have hoth : ∀ g, g ≠ SB → (w5.setRow SB #[.slice (some ⟨G, 0, none⟩) n n, .slice (some ⟨OB, 0, none⟩) n n, .slice (some ⟨RB, 0, none⟩) n n]).heap[g]? = w5.heap[g]? := fun g hg => by
        unfold World.setRow
        simp only [Array.getElem?_modify]
        rw [if_neg (fun e => hg e.symm)]
      have hB6 : Below Wb.heap.size Wb (w5.setRow SB #[.slice (some ⟨G, 0, none⟩) n n, .slice (some ⟨OB, 0, none⟩) n n, .slice (some ⟨RB, 0, none⟩) n n]) := setRow_below hb5 hS
      have hG6 := (hoth G n1).trans hGr
      have hO6 := (hoth OB n2).trans hOr
      have hR6 := (hoth RB n3).trans hRr
      obtain ⟨w6, hw6⟩ : ∃ w6, w5.setRow SB #[.slice (some ⟨G, 0, none⟩) n n, .slice (some ⟨OB, 0, none⟩) n n, .slice (some ⟨RB, 0, none⟩) n n] = w6 := ⟨_, rfl⟩
      rw [hw6] at hr6 hB6 hG6 hO6 hR6 ⊢
      clear hw6 hoth hb5 hGr hOr hRr hSr
      obtain ⟨x0, x1, x2⟩ := HX.out w6 hB6
      have hb06 : Below w.heap.size w w6 := Hba.out.trans (hB6.mono (by omega))
      have hBs : B0 ≤ w.heap.size := Nat.le_trans hB0 hb.size
      have HC := Lib.hid (implCandidatesOf Ag cg n B0 gi s w6 (hg.below (hb.trans (hb06.mono hBs))) (Nat.le_trans hBs hb06.size) (by omega))
      have Hcl := Lib.hid (show (candL gi s).length = n by
        have hgv := (pv_gv hv).1
        unfold candL; rw [if_pos hgv, mapTo_length]; exact hg.1)
      have Hcn := Lib.hid (show ∀ c, c < n → nth (candL gi s) c = ((candN gi s c : Nat) : Int) from fun c hc => by
        have hgv := (pv_gv hv).1
        have hl : gi.length = n := hg.1
        unfold candL; rw [if_pos hgv, hl, mapTo_nth hc]; rfl)
      go_wp2_with (go_at_call 113; refine HC.out.mono ?_; rintro e w7 ⟨A7, c7, rfl, ho7, hb7⟩; rw [Hcl.out] at ho7 ⊢)
      have hs7 := hb7.size
      have hs6 := hb06.size
      have hrc7 := (hb7.block (w.heap.size + 1) (by have := hB6.size; omega)).trans ((hB6.block (w.heap.size + 1) (by omega)).trans HRC.out)
      have hS7 := blk_below hr6 hb7
      have hG7 := blk_below hG6 hb7
      have hO7 : Arr w7 OB 118 nilR n := blk_below hO6 hb7
      have hR7 : Arr w7 RB 24 nilR n := blk_below hR6 hb7
      have hP7 := HX.out w7 (hB6.trans (hb7.mono hB6.size))
      have hb07 := step hb06 hb7
      have hne7 : ∀ b off, A7 = some ⟨b, off, none⟩ → w6.heap.size ≤ b := fun b off e => by
        obtain ⟨g, e2, h1, _⟩ := ho7.form (by omega)
        rw [e] at e2
        injection e2 with e2
        injection e2 with e2 _ _
        omega
      have hSO : SB < w6.heap.size := (Array.getElem?_eq_some_iff.1 hr6).1
      have hOO : OB < w6.heap.size := (Array.getElem?_eq_some_iff.1 hO6).1
      have hRO : RB < w6.heap.size := (Array.getElem?_eq_some_iff.1 hR6).1
      have hGO : G < w6.heap.size := (Array.getElem?_eq_some_iff.1 hG6).1
      have hSc : w7.cell? ⟨SB, 0, none⟩ = some (.slice (some ⟨G, 0, none⟩) n n) ∧ w7.cell? ⟨SB, 1, none⟩ = some (.slice (some ⟨OB, 0, none⟩) n n) ∧ w7.cell? ⟨SB, 2, none⟩ = some (.slice (some ⟨RB, 0, none⟩) n n) := ⟨cell_of_row _ _ 0 _ _ (0, 0) hS7, cell_of_row _ _ 1 _ _ (0, 0) hS7, cell_of_row _ _ 2 _ _ (0, 0) hS7⟩
      have HS := Lib.hid (And.intro hSc (And.intro hP7 (And.intro hS7 (And.intro hG7 (And.intro hrc7 hR7)))))
      have HN4 := Lib.hid hn4
      obtain ⟨p0, p1, p2⟩ := id hP7
      have hAr0 := Lib.hid hO7
      clear hr6 hG6 hO6 hR6 hS7 hG7 hrc7 hSc hP7 hO7 hR7 x0 x1 x2 hn4
      go_loopw [29] (fun i wr => ∃ (u : Nat) (R : Nat → Value), u ≤ n ∧ i = .int .i64 u ∧ Hid (Arr wr OB 118 R n ∧ (∀ j, j < u → ∃ A cap, R j = .slice A (optL s gi j).length cap ∧ RdO wr w7.heap.size A s j (optL s gi j)) ∧ ∀ j, u ≤ j → R j = .slice none 0 0) ∧ w7.grownBy wr (some OB)) (fun i _ => n - (intOf i).toNat)
      case atStart => exact ⟨0, nilR, Nat.zero_le _, rfl, Lib.hid ⟨hAr0.out, fun j hj => absurd hj (by omega), fun _ _ => rfl⟩, World.grownBy.refl _ _⟩
      case round =>
        obtain ⟨u, R, hu, rfl, hA, hg7⟩ := hrel
        by_cases hlt : u < n
        · have hltI : (u : Int) < (n : Int) := by omega
          obtain ⟨b7, off7, e7, hb7l, hck⟩ := ho7.rd.at_ hlt
          have hb7O : b7 ≠ OB := by have := hne7 _ _ e7; omega
          have hck := grown_cell hg7 hck hb7O
          rw [Hcn.out u hlt] at hck
          subst e7
          have hM32 : candN gi s u < 32 := candN_lt (by simp at hs; omega) (gv_okAll (pv_gv hv).1 hg.1) hlt
          have HV := Lib.hid (fun w' => valuesIn_any (candN gi s u) hM32 w')
          have hopt : optL s gi u = bitsTo (candN gi s u) 4 := rfl
          have hOl := bitsTo_length (candN gi s u) 4
          rw [← hopt] at HV hOl
          obtain ⟨O, hO⟩ : ∃ O, O = optL s gi u := ⟨_, rfl⟩
          have Hin := Lib.hid (fun v (h : v ∈ O) => opt_in (gv_nth (pv_gv hv).1 (show u < gi.length by rw [hg.1]; exact hlt)) (by rw [← hO]; exact h))
          rw [← hO] at HV hOl
          have HO := Lib.hid hO
          have Hlt := Lib.hid hlt
          clear hopt hO
          go_wp2_with (go_at_call 114; refine (HV.out _).mono ?_; rintro e w8 ⟨A8, c8, rfl, ho8, hb8⟩)
          have hg78 : w7.grownBy w8 (some OB) := grown_tr2 hg7 (grown_of_below hb8)
          have h78 := hg78.size
          have hOBl : OB < w8.heap.size := by omega
          have hSBl : SB < w8.heap.size := by omega
          have hR0 := hA.out.2.2 u (Nat.le_refl _)
          have hAr8 := Lib.hid (show Arr w8 OB 118 (updR R u (.slice none 0 0)) n from by
            rw [updR_self hR0]; exact Arr.kept hA.out.1 (hb8.block OB (by have := hg7.size; omega)))
          have Hol8 := Lib.hid ho8.len
          obtain ⟨l, hl⟩ : ∃ l, l = O.length := ⟨_, rfl⟩
          have Hl := Lib.hid hl
          rw [← hl] at hOl
          have Ho8 := Lib.hid ho8.rd
          have Hb8 := Lib.hid (fun b off (e : A8 = some ⟨b, off, none⟩) (h0 : 0 < l) => show b ≠ OB from by
            obtain ⟨g, e2, h1, _⟩ := ho8.form (by omega)
            rw [e] at e2
            injection e2 with e2
            injection e2 with e2 _ _
            have := hg7.size
            omega)
          have Hg78 := Lib.hid hg78
          have HA8 := Lib.hid (show (∀ j, j < u → ∃ A cap, R j = .slice A (optL s gi j).length cap ∧ RdO w8 w7.heap.size A s j (optL s gi j)) ∧ ∀ j, u ≤ j → R j = .slice none 0 0 from ⟨fun j hj => by
            obtain ⟨A, cap, e, h⟩ := hA.out.2.1 j hj
            exact ⟨A, cap, e, h.midx (midx_below (lo := w7.heap.size) (G := OB) hb8) (Nat.le_refl _) (by omega)⟩, hA.out.2.2⟩)
          rw [← hl]
          clear hl hck hb8 ho8 hg78 hR0
          go_loopw [37] (fun i wr => ∃ (t : Nat) (A : Option Addr) (cap : Nat), t ≤ l ∧ i = .int .i64 t ∧ Hid (Arr wr OB 118 (updR R u (.slice A t cap)) n) ∧ wr.ownsRow w8.heap.size 117 2 (.slice A t cap) t (optV s u (O.take t)) ∧ w8.grownBy wr (some OB)) (fun i _ => l - (intOf i).toNat)
          case atStart => exact ⟨0, none, 0, Nat.zero_le _, rfl, hAr8, World.ownsRow_nil _ _ _ _, World.grownBy.refl _ _⟩
          case round =>
            obtain ⟨t, A, cap, ht, rfl, hAr, hown, hg8⟩ := hrel
            by_cases hlt2 : t < l
            · have hlt2I : (t : Int) < (l : Int) := by omega
              have htO : t < O.length := by rw [← Hl.out]; exact hlt2
              obtain ⟨b8, off8, e8, hb8l, hck⟩ := Ho8.out.at_ htO
              have hck := grown_cell hg8 hck (Hb8.out _ _ e8 (by omega))
              subst e8
              obtain ⟨x, hx, x1, x2⟩ := Hin.out _ (nth_mem htO)
              have Hpush := Lib.hid (show optV s u (O.take (t + 1)) = optV s u (O.take t) ++ [.int .i64 x, .int .u64 ((itN s u x : Nat) : Int)] from by
                rw [take_push htO, hx, optV_push, Int.toNat_natCast])
              rw [hx] at hck
              have hs4 : s ≤ 4 := by simp at hs; omega
              have hgx : w7.grownBy wr (some OB) := grown_tr2 Hg78.out hg8
              have hsx := hgx.size
              have s1 := grown_cell hgx HS.out.1.2.1 (show SB ≠ OB from fun e => n2 e.symm)
              have q0 := grown_cell hgx HS.out.2.1.1 (show w.heap.size ≠ OB by omega)
              have HI := Lib.hid (itemsOf_any s u x wr hs (by rw [← HN.out]; exact Hlt.out) x1 x2)
              obtain ⟨it, hit⟩ : ∃ it, it = itN s u x := ⟨_, rfl⟩
              rw [← hit] at HI Hpush
              have Hlt2 := Lib.hid hlt2
              have hAl := hAr.out.lt
              clear hx hit htO
              go_wp2_with (go_at_call 115; refine HI.out.mono ?_; rintro e w9 ⟨rfl, hb9⟩)
              obtain ⟨w10, hw10⟩ : ∃ w10, w9.alloc (.cells #[.int .i64 x, .int .u64 it] 117) = w10 := ⟨_, rfl⟩
              rw [hw10]
              have h9 : Below w9.heap.size w9 w10 := by rw [← hw10]; exact (Below.refl _ _).alloc (Nat.le_refl _) _
              have y0 : w10.cell? ⟨w9.heap.size, 0, none⟩ = some (.int .i64 x) := by rw [← hw10]; exact cell_of_row _ _ 0 _ _ (0, 0) (heap_alloc_new _ _)
              have y1 : w10.cell? ⟨w9.heap.size, 1, none⟩ = some (.int .u64 it) := by rw [← hw10]; exact cell_of_row _ _ 1 _ _ (0, 0) (heap_alloc_new _ _)
              have hb10 : Below wr.heap.size wr w10 := step hb9 h9
              have hs10 := hb10.size
              have hAr10 := hAr.out.kept (hb10.block OB hAl)
              have s1' := (hb10.cell (p := ⟨SB, 1, none⟩) (cell_lt s1)).trans s1
              have c10 := hAr10.cell Hlt.out
              rw [updR_at] at c10
              have HOW := Lib.hid (fun w' (hb : Below w10.heap.size w10 w') => own_below (own_below hown hb10) hb)
              have Hown := Lib.hid (fun (g : Nat) (e : (Value.slice A t cap).ownBlock = some g) => (⟨(World.ownsRow.lt hown g e).1, (World.ownsRow.lt hown g e).2⟩ : w8.heap.size ≤ g ∧ g < wr.heap.size))
              have HNE := Lib.hid (fun (g : Nat) (e : (Value.slice A t cap).ownBlock = some g) => show g < w10.heap.size from by have := Hown.out g e; omega)
              have HNA := Lib.hid (show (Value.slice A t cap).ownBlock ≠ some OB from fun e => by have := Hown.out OB e; omega)
              have hw8 := hg8.size
              have HLO := Lib.hid (Nat.le_trans hw8 hs10)
              have HAR := Lib.hid hAr10
              have HLT := Hlt
              have h9s := hb9.size
              have HF := Lib.hid (fun (w' : World) (hg : w10.grownBy w' (Value.slice A t cap).ownBlock) => (⟨(hg.cell_far ⟨SB, 1, none⟩ (cell_lt s1') (fun e => by have := Hown.out SB e.symm; omega)).trans s1', (hg.cell_far ⟨OB, u, none⟩ (cell_lt c10) (fun e => by have := Hown.out OB e.symm; omega)).trans c10, (hg.cell_far ⟨w9.heap.size, 0, none⟩ (cell_lt y0) (fun e => by have := Hown.out w9.heap.size e.symm; omega)).trans y0, (hg.cell_far ⟨w9.heap.size, 1, none⟩ (cell_lt y1) (fun e => by have := Hown.out w9.heap.size e.symm; omega)).trans y1⟩ : w'.cell? ⟨SB, 1, none⟩ = some (.slice (some ⟨OB, 0, none⟩) n n) ∧ w'.cell? ⟨OB, u, none⟩ = some (.slice A t cap) ∧ w'.cell? ⟨w9.heap.size, 0, none⟩ = some (.int .i64 x) ∧ w'.cell? ⟨w9.heap.size, 1, none⟩ = some (.int .u64 it)))
              obtain ⟨i0, hi0, hz0, hz1, hz2⟩ := info_parts opt_info
              have ht16 : t ≤ 16 := by omega
              clear hAr10 s1 hw10 h9 hck hown c10 s1' y0 y1
              refine wp_region_dsS [48, 49, 50, 51, 52, 53, 54, 55, 56, 57, 58, 59] (PsG SB 1 OB u n A t cap #[.int .i64 x, .int .u64 it] 117 2 w8.heap.size (optV s u (O.take t)) w10.heap.size) (fun w1 w2 => w1.grownBy w2 (Value.slice A t cap).ownBlock) (fun i w1 w2 => (i = 10 → w1.grownBy w2 (Value.slice A t cap).ownBlock) ∧ (i ≠ 10 → Below w1.heap.size w1 w2)) (fun j w' => j = 10 → w'.ownsRow w8.heap.size 117 2 (.slice A t cap) t (optV s u (O.take t))) (fun _ _ => HOW.out _ ((Below.refl _ _).drew)) (grown_drew (World.grownBy.refl w10 _)) (fun _ _ h h' => h.trans h') (by kernel_rfl) (by kernel_rfl) (by simp) (fun j i v w1 w2 hji _ he hg => psG_eff j i v w1 w2 hji he hg) ?step ?last
              case step =>
                intro i o a w' K D hD hcl hi hoo hrel hfr hpre hC hK
                have eS : a.eval (.tmp 4) = .pointer (some ⟨SB, 0, none⟩) := hfr 4 (by simp)
                have eC : a.eval (.tmp 5) = .int .i64 (u : Nat) := hfr 5 (by simp)
                have eX : a.eval (.tmp 9) = .pointer (some ⟨w9.heap.size, 0, none⟩) := hfr 9 (by simp)
                obtain ⟨kS, kA, k0, k1⟩ := HF.out w' hrel
                have hkeep : ∀ (v : Value), i ≠ 10 → PsG SB 1 OB u n A t cap #[.int .i64 x, .int .u64 it] 117 2 w8.heap.size (optV s u (O.take t)) w10.heap.size i v w' → K (a.put o.dst v) w' := fun v h10 hv => hK v w' (World.grownBy.refl _ _) ⟨fun e => absurd e h10, fun _ => Below.refl _ _⟩ (fun j _ _ h => h) hv
                have hi12 : i < 12 := hi
                have : i = 0 ∨ i = 1 ∨ i = 2 ∨ i = 3 ∨ i = 4 ∨ i = 5 ∨ i = 6 ∨ i = 7 ∨ i = 8 ∨ i = 9 ∨ i = 10 ∨ i = 11 := by omega
                rcases this with rfl | rfl | rfl | rfl | rfl | rfl | rfl | rfl | rfl | rfl | rfl | rfl
                all_goals
                  simp only [List.getElem?_toArray, List.getElem?_cons_zero, List.getElem?_cons_succ, Option.some.injEq] at hoo
                  subst hoo
                · skip
                  refine oper_val (v := .pointer (some ⟨SB, 1, none⟩)) (w' := w') ?_ (hkeep _ (by decide) rfl)
                  unfold execOp
                  simp only [eS]
                  go_simp
                · have p0 : a.eval (.tmp 48) = .pointer (some ⟨SB, 1, none⟩) := hpre ⟨0, .data⟩ (by simp) rfl
                  refine oper_val (v := .slice (some ⟨OB, 0, none⟩) n n) (w' := w') ?_ (hkeep _ (by decide) rfl)
                  unfold execOp
                  simp only [p0]
                  go_simp
                · skip
                  refine oper_val (v := .int .i64 (u : Nat)) (w' := w') ?_ (hkeep _ (by decide) rfl)
                  unfold execOp
                  simp only [eC]
                  go_simp
                · skip
                  refine oper_val (v := .pointer (some ⟨SB, 1, none⟩)) (w' := w') ?_ (hkeep _ (by decide) rfl)
                  unfold execOp
                  simp only [eS]
                  go_simp
                · have p0 : a.eval (.tmp 51) = .pointer (some ⟨SB, 1, none⟩) := hpre ⟨3, .data⟩ (by simp) rfl
                  refine oper_val (v := .slice (some ⟨OB, 0, none⟩) n n) (w' := w') ?_ (hkeep _ (by decide) rfl)
                  unfold execOp
                  simp only [p0]
                  go_simp
                · skip
                  refine oper_val (v := .int .i64 (u : Nat)) (w' := w') ?_ (hkeep _ (by decide) rfl)
                  unfold execOp
                  simp only [eC]
                  go_simp
                · have p4 : a.eval (.tmp 52) = .slice (some ⟨OB, 0, none⟩) n n := hpre ⟨4, .data⟩ (by simp) rfl
                  have p5 : a.eval (.tmp 53) = .int .i64 (u : Nat) := hpre ⟨5, .data⟩ (by simp) rfl
                  refine oper_val (v := .pointer (some ⟨OB, u, none⟩)) (w' := w') ?_ (hkeep _ (by decide) rfl)
                  unfold execOp
                  simp only [p4, p5]
                  go_simp
                · have p6 : a.eval (.tmp 54) = .pointer (some ⟨OB, u, none⟩) := hpre ⟨6, .data⟩ (by simp) rfl
                  refine oper_val (v := .slice A t cap) (w' := w') ?_ (hkeep _ (by decide) rfl)
                  unfold execOp
                  simp only [p6]
                  go_simp
                · skip
                  refine oper_val (v := .agg #[.int .i64 x, .int .u64 it]) (w' := w') ?_ (hkeep _ (by decide) rfl)
                  unfold execOp
                  simp only [eX]
                  go_simp
                · have p8 : a.eval (.tmp 56) = .agg #[.int .i64 x, .int .u64 it] := hpre ⟨8, .data⟩ (by simp) rfl
                  have p8' : a.tmps[56]?.getD undef = .agg #[.int .i64 x, .int .u64 it] := by simpa [Act.eval] using p8
                  refine oper_val (v := .slice (some ⟨w'.heap.size, 0, none⟩) 1 1) (w' := w'.alloc (.cells #[.int .i64 x, .int .u64 it] 117)) ?_ (hK _ _ (only_alloc (World.grownBy.refl _ _) _) ⟨fun e => by omega, fun _ => (Below.refl _ _).alloc (Nat.le_refl _) _⟩ (fun j hj hd h e => own_below (h e) ((Below.refl _ _).alloc (Nat.le_refl _) _)) ⟨w'.heap.size, rfl, heap_alloc_new _ _, fun e => by have h1 := HNE.out _ e; have h2 := hrel.size; omega⟩)
                  unfold execOp
                  go_simp
                · have p7 : a.eval (.tmp 55) = .slice A t cap := hpre ⟨7, .data⟩ (by simp) rfl
                  obtain ⟨g9, p9, q9, _⟩ : ∃ g, a.eval (.tmp 57) = .slice (some ⟨g, 0, none⟩) 1 1 ∧ w'.heap[g]? = some (.cells #[.int .i64 x, .int .u64 it] 117) ∧ (Value.slice A t cap).ownBlock ≠ some g := hpre ⟨9, .data⟩ (by simp) rfl
                  obtain ⟨g', cap', wz, hrun, h1, h2, h3, _⟩ := run_append_lies (P := Tryd.prog) w' 118 118 w8.heap.size 117 i0 (.agg #[.int .i64 0, .int .u64 0]) 2 16 Tryd.underlying118 hi0 hz0 hz1 hz2 rfl (by decide) (.slice A t cap) t (optV s u (O.take t)) (hC rfl) ⟨g9, 0, none⟩ 1 1 #[.int .i64 x, .int .u64 it].toList rfl (World.news_of_block (cs := #[.int .i64 x, .int .u64 it]) q9) (by simp [Value.oneCell']) (by decide) (by simp only [maxLen]; omega) (by omega) (Nat.le_trans HLO.out hrel.size) _ rfl
                  refine oper_val (v := .slice (some ⟨g', 0, none⟩) (t + 1) cap') (w' := wz) ?_ (hK _ _ h2 ⟨fun _ => h2, fun e => absurd rfl e⟩ (fun j hj _ _ e => absurd e hj) ⟨g', cap', rfl, h1, h3.imp id (fun e => by rw [e]; exact hrel.size)⟩)
                  unfold execOp
                  simp only [resolve, invoke, builtin, Sem.run_bind, Sem.run_pure, Result.andThen_ok, List.map_toArray, List.map_cons, List.map_nil, p7, p9, hrun]
                · have p1 : a.eval (.tmp 49) = .slice (some ⟨OB, 0, none⟩) n n := hpre ⟨1, .data⟩ (by simp) rfl
                  have p2 : a.eval (.tmp 50) = .int .i64 (u : Nat) := hpre ⟨2, .data⟩ (by simp) rfl
                  refine oper_val (v := .pointer (some ⟨OB, u, none⟩)) (w' := w') ?_ (hkeep _ (by decide) rfl)
                  unfold execOp
                  simp only [p1, p2]
                  go_simp
              case last =>
                intro o a w5 hoo hrel hdef htm hfr hpre
                simp only [List.length_cons, List.length_nil, Nat.reduceAdd, List.getElem?_toArray, List.getElem?_cons_zero, List.getElem?_cons_succ, Option.some.injEq] at hoo
                subst hoo
                have g0 : a.tmps.getD 48 undef = .pointer (some ⟨SB, 1, none⟩) := hpre 0 (by simp)
                have g1 : a.tmps.getD 49 undef = .slice (some ⟨OB, 0, none⟩) n n := hpre 1 (by simp)
                have g2 : a.tmps.getD 50 undef = .int .i64 (u : Nat) := hpre 2 (by simp)
                have g3 : a.tmps.getD 51 undef = .pointer (some ⟨SB, 1, none⟩) := hpre 3 (by simp)
                have g4 : a.tmps.getD 52 undef = .slice (some ⟨OB, 0, none⟩) n n := hpre 4 (by simp)
                have g5 : a.tmps.getD 53 undef = .int .i64 (u : Nat) := hpre 5 (by simp)
                have g6 : a.tmps.getD 54 undef = .pointer (some ⟨OB, u, none⟩) := hpre 6 (by simp)
                have g7 : a.tmps.getD 55 undef = .slice A t cap := hpre 7 (by simp)
                have g8 : a.tmps.getD 56 undef = .agg #[.int .i64 x, .int .u64 it] := hpre 8 (by simp)
                obtain ⟨b9, g9, _⟩ : ∃ g, a.tmps.getD 57 undef = .slice (some ⟨g, 0, none⟩) 1 1 ∧ _ := hpre 9 (by simp)
                obtain ⟨g', cap', g10, h4, h5⟩ : ∃ g' cap', a.tmps.getD 58 undef = .slice (some ⟨g', 0, none⟩) (t + 1) cap' ∧ w5.ownsRow w8.heap.size 117 2 (.slice (some ⟨g', 0, none⟩) (t + 1) cap') (t + 1) ((optV s u (O.take t)) ++ (#[.int .i64 x, .int .u64 it] : Array Value).toList) ∧ ((Value.slice A t cap).ownBlock = some g' ∨ w10.heap.size ≤ g') := hpre 10 (by simp)
                have g11 : a.tmps.getD 59 undef = .pointer (some ⟨OB, u, none⟩) := hpre 11 (by simp)
                have h58 : a.eval (.tmp 58) = .slice (some ⟨g', 0, none⟩) (t + 1) cap' := g10
                have h59 : a.eval (.tmp 59) = .pointer (some ⟨OB, u, none⟩) := g11
                have hA5 : Arr w5 OB 118 (updR R u (.slice A t cap)) n := Arr.kept HAR.out (hrel.block OB HAR.out.lt (fun e => HNA.out e.symm))
                have hc5 := hA5.cell HLT.out
                have hf5 := hA5.free u
                refine ⟨w5.setCell ⟨OB, u, none⟩ (.slice (some ⟨g', 0, none⟩) (t + 1) cap'), ?_, ?_⟩
                · unfold execOp
                  simp only [h58, h59]
                  go_simp
                · have key := htm
                  simp only [List.foldl_cons, List.foldl_nil, g0, g1, g2, g3, g4, g5, g6, g7, g8, g9, g10, g11, List.setIfInBounds_toArray, List.set_cons_succ, List.set_cons_zero] at key
                  clear htm hfr hpre g0 g1 g2 g3 g4 g5 g6 g7 g8 g9 g10 g11 h58 h59 hc5 hf5
                  obtain ⟨tm, df⟩ := a
                  dsimp only at key hdef
                  subst key hdef
                  have hlt4' := (World.ownsRow.lt h4 g' rfl).1
                  have h6 := own_kept h4 (grown_set (G := OB) (i := u) (v := .slice (some ⟨g', 0, none⟩) (t + 1) cap')) (fun g e => by
                    have e1 : g' = g := by simpa [Value.ownBlock] using e
                    intro e2
                    have e3 : OB = g := Option.some.inj e2
                    omega)
                  rw [← Hpush.out] at h6
                  have hA6 := hA5.set u (.slice (some ⟨g', 0, none⟩) (t + 1) cap')
                  rw [updR_upd] at hA6
                  have hg5 : w8.grownBy (w5.setCell ⟨OB, u, none⟩ (.slice (some ⟨g', 0, none⟩) (t + 1) cap')) (some OB) := grown_tr2 (grown_ownS (grown_tr2 hg8 (grown_of_below hb10)) hrel (fun g e => (Hown.out g e).1)) grown_set
                  clear hA5 h4 h5
                  go_wp2
                  go_roundw
                  case rel => exact ⟨t + 1, some ⟨g', 0, none⟩, cap', Hlt2.out, by go_num, Lib.hid hA6, h6, hg5⟩
                  case measure => have := Hlt2.out; simp [intOf]; omega
            · obtain rfl : t = l := by omega
              have hOt : O.take t = O := by rw [Hl.out, List.take_length]
              rw [hOt, Hl.out, HO.out] at hown
              have hAf := Lib.hid (show (∀ j, j < u + 1 → ∃ A' cap', updR R u (.slice A t cap) j = .slice A' (optL s gi j).length cap' ∧ RdO wr w7.heap.size A' s j (optL s gi j)) ∧ ∀ j, u + 1 ≤ j → updR R u (.slice A t cap) j = .slice none 0 0 from ⟨fun j hj => by
                by_cases e : j = u
                · subst e
                  exact ⟨A, cap, by rw [updR_at, Hl.out, HO.out], rdo_own hown h78⟩
                · obtain ⟨A', cap', e1, h1⟩ := HA8.out.1 j (by omega)
                  exact ⟨A', cap', by rw [updR_ne _ _ e]; exact e1, h1.midx (midx_grown (lo := w7.heap.size) hg8) (Nat.le_refl _) (by omega)⟩, fun j hj => by
                rw [updR_ne _ _ (by omega)]; exact HA8.out.2 j (by omega)⟩)
              clear hown hOt
              go_wp2
              go_roundw
              case rel => exact ⟨u + 1, updR R u (.slice A t cap), Hlt.out, by go_num, Lib.hid ⟨hAr.out, hAf.out.1, hAf.out.2⟩, grown_tr2 Hg78.out hg8⟩
              case measure => have := Hlt.out; simp [intOf]; omega
        · obtain rfl : u = n := by omega
          obtain ⟨w11, rfl⟩ : ∃ w11 : World, w11 = wr := ⟨_, rfl⟩
          have h711 := hg7.size
          have hq0 := grown_cell hg7 HS.out.2.1.2.2 (show w.heap.size ≠ OB by omega)
          have hs2 := grown_cell hg7 HS.out.1.2.2 (show SB ≠ OB from fun e => n2 e.symm)
          have hR11 : Arr w11 RB 24 nilR u := grown_blk hg7 HS.out.2.2.2.2.2 n6
          have hS11 := grown_blk hg7 HS.out.2.2.1 (show SB ≠ OB from fun e => n2 e.symm)
          have hG11 := grown_blk hg7 HS.out.2.2.2.1 (show G ≠ OB from fun e => n4 e.symm)
          have hC11 := grown_blk hg7 HS.out.2.2.2.2.1 (show w.heap.size + 1 ≠ OB by omega)
          have hb11 : Below w.heap.size w w11 := hb07.grown hg7 hb07.size (fun k e => by have := Option.some.inj e; omega)
          obtain ⟨br, offr, RA, RC, hRA, hRu⟩ := rdrc_fun hr
          have hrl := hr.1
          have hB11 := hb.trans (hb11.mono hBs)
          have H11 := Lib.hid (And.intro hS11 (And.intro hG11 (And.intro hC11 (And.intro hA.out (And.intro hb11 hR11)))))
          have HRu := Lib.hid hRu
          have HRA := Lib.hid hRA
          have HB11 := Lib.hid hB11
          have Hq := Lib.hid (And.intro hq0 hs2)
          have Hg11 := Lib.hid hg7
          clear hS11 hG11 hC11 hR11 hRu hRA hA hg7 HC hB11
          go_wp2
          go_loopw [65] (fun i wr => ∃ (r : Nat) (R : Nat → Value), r ≤ nr ∧ i = .int .i64 r ∧ Hid (Arr wr RB 24 R u) ∧ Hid (∀ c, c < u → ∃ A cap, R c = .slice A (ixR rs c r).length cap ∧ wr.ownsRow w11.heap.size 63 3 (.slice A (ixR rs c r).length cap) (ixR rs c r).length (rulV RA RC rs (ixR rs c r))) ∧ Hid (∀ c c', c < u → c' < u → c ≠ c' → ∀ g, (R c).ownBlock = some g → (R c').ownBlock ≠ some g) ∧ w11.grownBy wr (some RB)) (fun i _ => nr - (intOf i).toNat)
          case atStart => exact ⟨0, nilR, Nat.zero_le _, rfl, Lib.hid H11.out.2.2.2.2.2, Lib.hid (fun c hc => ⟨none, 0, rfl, World.ownsRow_nil _ _ _ _⟩), Lib.hid (fun c c' _ _ _ g e => by cases e), World.grownBy.refl _ _⟩
          case round =>
            obtain ⟨r, R, hr2, rfl, hA, hown, hdis, hg12⟩ := hrel
            by_cases hlt : r < nr
            · have hltI : (r : Int) < (nr : Int) := by omega
              obtain ⟨hAre, hbr⟩ := HRA.out (by omega)
              obtain ⟨k0, k1, k2, hrd, hrcap⟩ := HRu.out r hlt
              have hrv : rvR s (rat rs r) = true := (pv_gv hv).2.2 r (by omega)
              have hix := Lib.hid (fun c => ixR_succ rs c r)
              have hpu := Lib.hid (fun L => rulV_push RA RC rs L r)
              have hlst : lastR (rat rs r) = lastN (rat rs r).xs (rat rs r).xs.length := rfl
              have hqn : lastR (rat rs r) < u := by rw [HN.out]; exact last_lt hrv
              obtain ⟨hx0, hx16⟩ := rv_cells hrv
              obtain ⟨_, ⟨_, hx4⟩, _, _⟩ := rv_facts rfl hrv
              obtain ⟨q, hq⟩ : ∃ q, q = lastR (rat rs r) := ⟨_, rfl⟩
              obtain ⟨rk, hrk⟩ : ∃ x, x = (rat rs r).k := ⟨_, rfl⟩
              obtain ⟨rx, hrx⟩ : ∃ x, x = (rat rs r).xs := ⟨_, rfl⟩
              obtain ⟨rvv, hrvv⟩ : ∃ x, x = (rat rs r).v := ⟨_, rfl⟩
              obtain ⟨A', hA'⟩ : ∃ x, x = RA r := ⟨_, rfl⟩
              obtain ⟨C', hC'⟩ : ∃ x, x = RC r := ⟨_, rfl⟩
              rw [← hq] at hix hqn hlst
              rw [← hrk] at k0 hpu
              rw [← hrx] at k1 hrd hx0 hx16 hx4 hlst hpu
              rw [← hrvv] at k2 hpu
              rw [← hA'] at k1 hrd hpu
              rw [← hC'] at k1 hpu
              have hwR : w.heap.size ≤ RB := by omega
              have hB12 := HB11.out.trans (Below.of_grown hg12 (Nat.le_trans hBs (Nat.le_trans hb07.size h711)) (Nat.le_trans hBs hwR))
              have k0 := (hB12.cell (p := ⟨br, offr + r * 3, none⟩) hbr).trans k0
              have k1 := (hB12.cell (p := ⟨br, offr + r * 3 + 1, none⟩) hbr).trans k1
              have k2 := (hB12.cell (p := ⟨br, offr + r * 3 + 2, none⟩) hbr).trans k2
              have s2 := grown_cell hg12 Hq.out.2 (show SB ≠ RB from fun e => n3 e.symm)
              obtain ⟨l, hl⟩ : ∃ l, l = rx.length := ⟨_, rfl⟩
              rw [← hl] at k1 hrd hx0 hx4 hlst hpu
              have hx16' : ∀ i, i < l → 0 ≤ nth rx i ∧ nth rx i < 16 := fun i hi => by
                obtain ⟨a, b⟩ := hx16 i (by omega)
                have : s * s ≤ 16 := by simp at hs; rcases hs with rfl | rfl | rfl <;> omega
                omega
              obtain ⟨w12, hw12⟩ : ∃ w12, wr.alloc (.cells #[.int .i64 rk, .slice A' l C', .int .i64 rvv] 63) = w12 := ⟨_, rfl⟩
              have hb12 : Below wr.heap.size wr w12 := by rw [← hw12]; exact (Below.refl _ _).alloc (Nat.le_refl _) _
              have hs12 : w12.heap.size = wr.heap.size + 1 := by rw [← hw12]; simp
              have hr0 : w12.heap[wr.heap.size]? = some (.cells #[.int .i64 rk, .slice A' l C', .int .i64 rvv] 63) := by rw [← hw12]; exact heap_alloc_new wr _
              have y0 : w12.cell? ⟨wr.heap.size, 0, none⟩ = some (.int .i64 rk) := cell_of_row _ _ 0 _ _ (0, 0) hr0
              have y1 : w12.cell? ⟨wr.heap.size, 1, none⟩ = some (.slice A' l C') := cell_of_row _ _ 1 _ _ (0, 0) hr0
              have y2 : w12.cell? ⟨wr.heap.size, 2, none⟩ = some (.int .i64 rvv) := cell_of_row _ _ 2 _ _ (0, 0) hr0
              have HMx := Lib.hid (max_any A' l C' B0 rx w12 (hrd.below (hB12.trans (hb12.mono (by have := hB12.size; omega)))) hx0 (by omega) hx16')
              rw [← hlst] at HMx
              obtain ⟨A, cap, eR, hown0⟩ := hown.out q hqn
              obtain ⟨ln, hln⟩ : ∃ ln, ln = (ixR rs q r).length := ⟨_, rfl⟩
              have hln20 : ln ≤ 20 := by
                rw [hln]
                exact Nat.le_trans (List.length_filter_le _ _) (by rw [List.length_range]; omega)
              obtain ⟨vs, hvs⟩ : ∃ vs, vs = rulV RA RC rs (ixR rs q r) := ⟨_, rfl⟩
              rw [← hln] at eR hown0
              rw [← hvs] at hown0
              have hAl := hA.out.lt
              have hAr12 := hA.out.kept (hb12.block RB hAl)
              have s2' := (hb12.cell (p := ⟨SB, 2, none⟩) (cell_lt s2)).trans s2
              have c12 := hAr12.cell hqn
              rw [eR] at c12
              have HOW := Lib.hid (fun w' (hb : Below w12.heap.size w12 w') => own_below (own_below hown0 hb12) hb)
              have Hown := Lib.hid (fun (g : Nat) (e : (Value.slice A ln cap).ownBlock = some g) => (⟨(World.ownsRow.lt hown0 g e).1, (World.ownsRow.lt hown0 g e).2⟩ : w11.heap.size ≤ g ∧ g < wr.heap.size))
              have HNE := Lib.hid (fun (g : Nat) (e : (Value.slice A ln cap).ownBlock = some g) => show g < w12.heap.size from by have := Hown.out g e; omega)
              have hRB11 : RB < w11.heap.size := by omega
              have hSB11 : SB < w11.heap.size := by omega
              have HNA := Lib.hid (show (Value.slice A ln cap).ownBlock ≠ some RB from fun e => by have := Hown.out RB e; omega)
              have hw11 := hg12.size
              have HLO := Lib.hid (show w11.heap.size ≤ w12.heap.size by omega)
              have HAR := Lib.hid hAr12
              have HLT := Lib.hid hqn
              have HF := Lib.hid (fun (w' : World) (hg : w12.grownBy w' (Value.slice A ln cap).ownBlock) => (⟨(hg.cell_far ⟨SB, 2, none⟩ (cell_lt s2') (fun e => by have := Hown.out SB e.symm; omega)).trans s2', (hg.cell_far ⟨RB, q, none⟩ (cell_lt c12) (fun e => by have := Hown.out RB e.symm; omega)).trans c12, (hg.cell_far ⟨wr.heap.size, 0, none⟩ (cell_lt y0) (fun e => by have := Hown.out wr.heap.size e.symm; omega)).trans y0, (hg.cell_far ⟨wr.heap.size, 1, none⟩ (cell_lt y1) (fun e => by have := Hown.out wr.heap.size e.symm; omega)).trans y1, (hg.cell_far ⟨wr.heap.size, 2, none⟩ (cell_lt y2) (fun e => by have := Hown.out wr.heap.size e.symm; omega)).trans y2⟩ : w'.cell? ⟨SB, 2, none⟩ = some (.slice (some ⟨RB, 0, none⟩) u u) ∧ w'.cell? ⟨RB, q, none⟩ = some (.slice A ln cap) ∧ w'.cell? ⟨wr.heap.size, 0, none⟩ = some (.int .i64 rk) ∧ w'.cell? ⟨wr.heap.size, 1, none⟩ = some (.slice A' l C') ∧ w'.cell? ⟨wr.heap.size, 2, none⟩ = some (.int .i64 rvv)))
              obtain ⟨i0, hi0, hz0, hz1, hz2⟩ := info_parts rule_parts
              have Hqn : (q : Int) < (u : Int) := by omega
              have HlnQ := Lib.hid (And.intro hln (And.intro hvs eR))
              have Hq2 := Lib.hid hq
              have Hb12 := Lib.hid hb12
              have Hlt := Lib.hid hlt
              have Hg12 := Lib.hid hg12
              subst hAre
              clear hln hvs eR hq hb12 hlst hrk hrx hrvv hA' hC' hown0 hAr12 c12 s2' hl hrv hrd hx16 hx16' hB12 hr0
              go_wp2_with (go_at_call 116; refine HMx.out.mono ?_; rintro e wq ⟨rfl, rfl⟩)
              refine wp_region_dsS [72, 73, 74, 75, 76, 77, 78, 79, 80, 81, 82, 83] (PsG SB 2 RB q u A ln cap #[.int .i64 rk, .slice A' l C', .int .i64 rvv] 63 3 w11.heap.size vs w12.heap.size) (fun w1 w2 => w1.grownBy w2 (Value.slice A ln cap).ownBlock) (fun i w1 w2 => (i = 10 → w1.grownBy w2 (Value.slice A ln cap).ownBlock) ∧ (i ≠ 10 → Below w1.heap.size w1 w2)) (fun j w' => j = 10 → w'.ownsRow w11.heap.size 63 3 (.slice A ln cap) ln vs) (fun _ _ => HOW.out _ ((Below.refl _ _).drew)) (grown_drew (World.grownBy.refl w12 _)) (fun _ _ h h' => h.trans h') (by kernel_rfl) (by kernel_rfl) (by simp) (fun j i v w1 w2 hji _ he hg => psG_eff j i v w1 w2 hji he hg) ?step ?last
              case step =>
                intro i o a w' K D hD hcl hi hoo hrel hfr hpre hC hK
                have eS : a.eval (.tmp 4) = .pointer (some ⟨SB, 0, none⟩) := hfr 4 (by simp)
                have eC : a.eval (.tmp 12) = .int .i64 (q : Nat) := hfr 12 (by simp)
                have eX : a.eval (.tmp 11) = .pointer (some ⟨wr.heap.size, 0, none⟩) := hfr 11 (by simp)
                obtain ⟨kS, kA, k0, k1, k2⟩ := HF.out w' hrel
                have hkeep : ∀ (v : Value), i ≠ 10 → PsG SB 2 RB q u A ln cap #[.int .i64 rk, .slice A' l C', .int .i64 rvv] 63 3 w11.heap.size vs w12.heap.size i v w' → K (a.put o.dst v) w' := fun v h10 hv => hK v w' (World.grownBy.refl _ _) ⟨fun e => absurd e h10, fun _ => Below.refl _ _⟩ (fun j _ _ h => h) hv
                have hi12 : i < 12 := hi
                have : i = 0 ∨ i = 1 ∨ i = 2 ∨ i = 3 ∨ i = 4 ∨ i = 5 ∨ i = 6 ∨ i = 7 ∨ i = 8 ∨ i = 9 ∨ i = 10 ∨ i = 11 := by omega
                rcases this with rfl | rfl | rfl | rfl | rfl | rfl | rfl | rfl | rfl | rfl | rfl | rfl
                all_goals
                  simp only [List.getElem?_toArray, List.getElem?_cons_zero, List.getElem?_cons_succ, Option.some.injEq] at hoo
                  subst hoo
                · skip
                  refine oper_val (v := .pointer (some ⟨SB, 2, none⟩)) (w' := w') ?_ (hkeep _ (by decide) rfl)
                  unfold execOp
                  simp only [eS]
                  go_simp
                · have p0 : a.eval (.tmp 72) = .pointer (some ⟨SB, 2, none⟩) := hpre ⟨0, .data⟩ (by simp) rfl
                  refine oper_val (v := .slice (some ⟨RB, 0, none⟩) u u) (w' := w') ?_ (hkeep _ (by decide) rfl)
                  unfold execOp
                  simp only [p0]
                  go_simp
                · skip
                  refine oper_val (v := .int .i64 (q : Nat)) (w' := w') ?_ (hkeep _ (by decide) rfl)
                  unfold execOp
                  simp only [eC]
                  go_simp
                · skip
                  refine oper_val (v := .pointer (some ⟨SB, 2, none⟩)) (w' := w') ?_ (hkeep _ (by decide) rfl)
                  unfold execOp
                  simp only [eS]
                  go_simp
                · have p0 : a.eval (.tmp 75) = .pointer (some ⟨SB, 2, none⟩) := hpre ⟨3, .data⟩ (by simp) rfl
                  refine oper_val (v := .slice (some ⟨RB, 0, none⟩) u u) (w' := w') ?_ (hkeep _ (by decide) rfl)
                  unfold execOp
                  simp only [p0]
                  go_simp
                · skip
                  refine oper_val (v := .int .i64 (q : Nat)) (w' := w') ?_ (hkeep _ (by decide) rfl)
                  unfold execOp
                  simp only [eC]
                  go_simp
                · have p4 : a.eval (.tmp 76) = .slice (some ⟨RB, 0, none⟩) u u := hpre ⟨4, .data⟩ (by simp) rfl
                  have p5 : a.eval (.tmp 77) = .int .i64 (q : Nat) := hpre ⟨5, .data⟩ (by simp) rfl
                  refine oper_val (v := .pointer (some ⟨RB, q, none⟩)) (w' := w') ?_ (hkeep _ (by decide) rfl)
                  unfold execOp
                  simp only [p4, p5]
                  go_simp
                · have p6 : a.eval (.tmp 78) = .pointer (some ⟨RB, q, none⟩) := hpre ⟨6, .data⟩ (by simp) rfl
                  refine oper_val (v := .slice A ln cap) (w' := w') ?_ (hkeep _ (by decide) rfl)
                  unfold execOp
                  simp only [p6]
                  go_simp
                · skip
                  refine oper_val (v := .agg #[.int .i64 rk, .slice A' l C', .int .i64 rvv]) (w' := w') ?_ (hkeep _ (by decide) rfl)
                  unfold execOp
                  simp only [eX]
                  go_simp
                · have p8 : a.eval (.tmp 80) = .agg #[.int .i64 rk, .slice A' l C', .int .i64 rvv] := hpre ⟨8, .data⟩ (by simp) rfl
                  have p8' : a.tmps[80]?.getD undef = .agg #[.int .i64 rk, .slice A' l C', .int .i64 rvv] := by simpa [Act.eval] using p8
                  refine oper_val (v := .slice (some ⟨w'.heap.size, 0, none⟩) 1 1) (w' := w'.alloc (.cells #[.int .i64 rk, .slice A' l C', .int .i64 rvv] 63)) ?_ (hK _ _ (only_alloc (World.grownBy.refl _ _) _) ⟨fun e => by omega, fun _ => (Below.refl _ _).alloc (Nat.le_refl _) _⟩ (fun j hj hd h e => own_below (h e) ((Below.refl _ _).alloc (Nat.le_refl _) _)) ⟨w'.heap.size, rfl, heap_alloc_new _ _, fun e => by have h1 := HNE.out _ e; have h2 := hrel.size; omega⟩)
                  unfold execOp
                  go_simp
                · have p7 : a.eval (.tmp 79) = .slice A ln cap := hpre ⟨7, .data⟩ (by simp) rfl
                  obtain ⟨g9, p9, q9, _⟩ : ∃ g, a.eval (.tmp 81) = .slice (some ⟨g, 0, none⟩) 1 1 ∧ w'.heap[g]? = some (.cells #[.int .i64 rk, .slice A' l C', .int .i64 rvv] 63) ∧ (Value.slice A ln cap).ownBlock ≠ some g := hpre ⟨9, .data⟩ (by simp) rfl
                  obtain ⟨g', cap', wz, hrun, h1, h2, h3, _⟩ := run_append_lies (P := Tryd.prog) w' 24 24 w11.heap.size 63 i0 (.agg #[.int .i64 0, .slice none 0 0, .int .i64 0]) 3 40 Tryd.underlying24 hi0 hz0 hz1 hz2 rfl (by decide) (.slice A ln cap) ln vs (hC rfl) ⟨g9, 0, none⟩ 1 1 #[.int .i64 rk, .slice A' l C', .int .i64 rvv].toList rfl (World.news_of_block (cs := #[.int .i64 rk, .slice A' l C', .int .i64 rvv]) q9) (by simp [Value.oneCell']) (by decide) (by simp only [maxLen]; omega) (by omega) (Nat.le_trans HLO.out hrel.size) _ rfl
                  refine oper_val (v := .slice (some ⟨g', 0, none⟩) (ln + 1) cap') (w' := wz) ?_ (hK _ _ h2 ⟨fun _ => h2, fun e => absurd rfl e⟩ (fun j hj _ _ e => absurd e hj) ⟨g', cap', rfl, h1, h3.imp id (fun e => by rw [e]; exact hrel.size)⟩)
                  unfold execOp
                  simp only [resolve, invoke, builtin, Sem.run_bind, Sem.run_pure, Result.andThen_ok, List.map_toArray, List.map_cons, List.map_nil, p7, p9, hrun]
                · have p1 : a.eval (.tmp 73) = .slice (some ⟨RB, 0, none⟩) u u := hpre ⟨1, .data⟩ (by simp) rfl
                  have p2 : a.eval (.tmp 74) = .int .i64 (q : Nat) := hpre ⟨2, .data⟩ (by simp) rfl
                  refine oper_val (v := .pointer (some ⟨RB, q, none⟩)) (w' := w') ?_ (hkeep _ (by decide) rfl)
                  unfold execOp
                  simp only [p1, p2]
                  go_simp
              case last =>
                intro o a w5 hoo hrel hdef htm hfr hpre
                simp only [List.length_cons, List.length_nil, Nat.reduceAdd, List.getElem?_toArray, List.getElem?_cons_zero, List.getElem?_cons_succ, Option.some.injEq] at hoo
                subst hoo
                have g0 : a.tmps.getD 72 undef = .pointer (some ⟨SB, 2, none⟩) := hpre 0 (by simp)
                have g1 : a.tmps.getD 73 undef = .slice (some ⟨RB, 0, none⟩) u u := hpre 1 (by simp)
                have g2 : a.tmps.getD 74 undef = .int .i64 (q : Nat) := hpre 2 (by simp)
                have g3 : a.tmps.getD 75 undef = .pointer (some ⟨SB, 2, none⟩) := hpre 3 (by simp)
                have g4 : a.tmps.getD 76 undef = .slice (some ⟨RB, 0, none⟩) u u := hpre 4 (by simp)
                have g5 : a.tmps.getD 77 undef = .int .i64 (q : Nat) := hpre 5 (by simp)
                have g6 : a.tmps.getD 78 undef = .pointer (some ⟨RB, q, none⟩) := hpre 6 (by simp)
                have g7 : a.tmps.getD 79 undef = .slice A ln cap := hpre 7 (by simp)
                have g8 : a.tmps.getD 80 undef = .agg #[.int .i64 rk, .slice A' l C', .int .i64 rvv] := hpre 8 (by simp)
                obtain ⟨b9, g9, _⟩ : ∃ g, a.tmps.getD 81 undef = .slice (some ⟨g, 0, none⟩) 1 1 ∧ _ := hpre 9 (by simp)
                obtain ⟨g', cap', g10, h4, h5⟩ : ∃ g' cap', a.tmps.getD 82 undef = .slice (some ⟨g', 0, none⟩) (ln + 1) cap' ∧ w5.ownsRow w11.heap.size 63 3 (.slice (some ⟨g', 0, none⟩) (ln + 1) cap') (ln + 1) (vs ++ (#[.int .i64 rk, .slice A' l C', .int .i64 rvv] : Array Value).toList) ∧ ((Value.slice A ln cap).ownBlock = some g' ∨ w12.heap.size ≤ g') := hpre 10 (by simp)
                have g11 : a.tmps.getD 83 undef = .pointer (some ⟨RB, q, none⟩) := hpre 11 (by simp)
                have h58 : a.eval (.tmp 82) = .slice (some ⟨g', 0, none⟩) (ln + 1) cap' := g10
                have h59 : a.eval (.tmp 83) = .pointer (some ⟨RB, q, none⟩) := g11
                have hA5 : Arr w5 RB 24 R u := Arr.kept HAR.out (hrel.block RB HAR.out.lt (fun e => HNA.out e.symm))
                have hc5 := hA5.cell HLT.out
                have hf5 := hA5.free q
                refine ⟨w5.setCell ⟨RB, q, none⟩ (.slice (some ⟨g', 0, none⟩) (ln + 1) cap'), ?_, ?_⟩
                · unfold execOp
                  simp only [h58, h59]
                  go_simp
                · have key := htm
                  simp only [List.foldl_cons, List.foldl_nil, g0, g1, g2, g3, g4, g5, g6, g7, g8, g9, g10, g11, List.setIfInBounds_toArray, List.set_cons_succ, List.set_cons_zero] at key
                  clear htm hfr hpre g0 g1 g2 g3 g4 g5 g6 g7 g8 g9 g10 g11 h58 h59 hc5 hf5
                  obtain ⟨tm, df⟩ := a
                  dsimp only at key hdef
                  subst key hdef
                  have hlt4' := (World.ownsRow.lt h4 g' rfl)
                  have h6 := own_kept h4 (grown_set (G := RB) (i := q) (v := .slice (some ⟨g', 0, none⟩) (ln + 1) cap')) (fun g e => by
                    have e1 : g' = g := by simpa [Value.ownBlock] using e
                    intro e2
                    have e3 : RB = g := Option.some.inj e2
                    omega)
                  have hA6 := hA5.set q (.slice (some ⟨g', 0, none⟩) (ln + 1) cap')
                  have hg5 : w11.grownBy (w5.setCell ⟨RB, q, none⟩ (.slice (some ⟨g', 0, none⟩) (ln + 1) cap')) (some RB) := grown_tr2 (grown_ownS (grown_tr2 Hg12.out (grown_of_below Hb12.out)) hrel (fun g e => (Hown.out g e).1)) grown_set
                  obtain ⟨eln, evs, eR⟩ := HlnQ.out
                  have eqq : lastR (rat rs r) = q := Hq2.out.symm
                  have HOW6 := Lib.hid (show ∀ c, c < u → ∃ A cap, updR R q (.slice (some ⟨g', 0, none⟩) (ln + 1) cap') c = .slice A (ixR rs c (r + 1)).length cap ∧ (w5.setCell ⟨RB, q, none⟩ (.slice (some ⟨g', 0, none⟩) (ln + 1) cap')).ownsRow w11.heap.size 63 3 (.slice A (ixR rs c (r + 1)).length cap) (ixR rs c (r + 1)).length (rulV RA RC rs (ixR rs c (r + 1))) from fun c hc => by
                    by_cases e : c = q
                    · subst e
                      have e1 : ixR rs c (r + 1) = ixR rs c r ++ [r] := by rw [ixR_succ, if_pos eqq]
                      refine ⟨some ⟨g', 0, none⟩, cap', by rw [updR_at, e1, List.length_append, eln]; rfl, ?_⟩
                      rw [e1, List.length_append, List.length_singleton, ← eln, hpu.out, ← evs]
                      exact h6
                    · have e1 : ixR rs c (r + 1) = ixR rs c r := by rw [ixR_succ, if_neg (fun e2 => e (by rw [← e2]; exact eqq)), List.append_nil]
                      obtain ⟨A2, cap2, e2, h2⟩ := hown.out c hc
                      rw [e1]
                      refine ⟨A2, cap2, by rw [updR_ne _ _ e]; exact e2, own_kept (own_kept (own_below h2 Hb12.out) hrel (fun g e3 e4 => ?_)) (grown_set (G := RB) (i := q) (v := .slice (some ⟨g', 0, none⟩) (ln + 1) cap')) (fun g e3 e4 => ?_)⟩
                      · exact hdis.out c q hc HLT.out e g (by rw [e2]; exact e3) (by rw [eR]; exact e4)
                      · have := (World.ownsRow.lt h2 g e3).1
                        have := Option.some.inj e4
                        omega)
                  have HDI6 := Lib.hid (show ∀ c c', c < u → c' < u → c ≠ c' → ∀ g, (updR R q (.slice (some ⟨g', 0, none⟩) (ln + 1) cap') c).ownBlock = some g → (updR R q (.slice (some ⟨g', 0, none⟩) (ln + 1) cap') c').ownBlock ≠ some g from by
                    have key : ∀ c, c < u → c ≠ q → (R c).ownBlock ≠ some g' := fun c hc hne e => by
                      rcases h5 with h5 | h5
                      · exact hdis.out c q hc HLT.out hne g' e (by rw [eR]; exact h5)
                      · obtain ⟨A2, cap2, e2, h2⟩ := hown.out c hc
                        rw [e2] at e
                        have := (World.ownsRow.lt h2 g' e).2
                        omega
                    intro c c' hc hc' hne g e e'
                    by_cases h1 : c = q
                    · subst h1
                      rw [updR_at] at e
                      have eg : g' = g := by simpa [Value.ownBlock] using e
                      subst eg
                      rw [updR_ne _ _ (fun e2 => hne e2.symm)] at e'
                      exact key c' hc' (fun e2 => hne e2.symm) e'
                    · rw [updR_ne _ _ h1] at e
                      by_cases h2 : c' = q
                      · subst h2
                        rw [updR_at] at e'
                        have eg : g' = g := by simpa [Value.ownBlock] using e'
                        subst eg
                        exact key c hc h1 e
                      · rw [updR_ne _ _ h2] at e'
                        exact hdis.out c c' hc hc' hne g e e')
                  have hA6' := Lib.hid hA6
                  clear hA5 h4 h5 h6 hA6 hlt4' eln evs eR eqq
                  go_wp2
                  go_roundw
                  case rel => exact ⟨r + 1, updR R q (.slice (some ⟨g', 0, none⟩) (ln + 1) cap'), Hlt.out, by go_num, hA6', HOW6, HDI6, hg5⟩
                  case measure => have := Hlt.out; simp [intOf]; omega
            · obtain rfl : r = nr := by omega
              have q1 := grown_blk hg12 H11.out.1 (show SB ≠ RB from fun e => n3 e.symm)
              have q2 := grown_blk hg12 H11.out.2.1 (show G ≠ RB from fun e => n5 e.symm)
              have q3 := grown_blk hg12 H11.out.2.2.1 (show w.heap.size + 1 ≠ RB by omega)
              have hA11 := H11.out.2.2.2.1
              have hAo : Arr wr OB 118 _ u := grown_blk hg12 hA11.1 (show OB ≠ RB from fun e => n6 e.symm)
              have hbw := H11.out.2.2.2.2.1.grown hg12 H11.out.2.2.2.2.1.size (fun k e => by have := Option.some.inj e; omega)
              have hSR : SR W0 B0 s gi rs OB RB w7.heap.size wr := fun c hc => by
                have hcu : c < u := by rw [HN.out]; exact hc
                obtain ⟨A1, cap1, e1, h1⟩ := hA11.2.1 c hcu
                obtain ⟨A2, cap2, e2, h2⟩ := hown.out c hcu
                have hlen : (rulesAt rs c).length = (ixR rs c r).length := by rw [rulesAt_ix, List.length_map, hrl]
                refine ⟨⟨A1, cap1, (hAo.cell hcu).trans (by rw [e1]), h1.midx (midx_grown (lo := w7.heap.size) hg12) (Nat.le_refl _) (by omega)⟩, A2, cap2, by rw [hlen, ← e2]; exact hA.out.cell hcu, ?_⟩
                rw [← hrl] at h2
                exact rdw_own h2 rfl h711 (fun i hi => by
                  obtain ⟨_, _, _, r3, r4⟩ := HRu.out i (by omega)
                  exact ⟨r3, r4⟩)
              have hsw := hg12.size
              have hgs : wr.grownBy (wr.setRow (w.heap.size + 1) #[.slice (some ⟨G, 0, none⟩) u u, .slice (some ⟨OB, 0, none⟩) u u, .slice (some ⟨RB, 0, none⟩) u u]) (some (w.heap.size + 1)) := grown_sr
              have hSR2 := Lib.hid (hSR.midx (midx_grown (lo := w.heap.size) hgs) ⟨by omega, by omega⟩ ⟨by omega, by omega⟩ (by omega) (by omega))
              have hO2 := Lib.hid (ow_row (lo := w.heap.size) (grown_blk hgs q2 (by omega)) (by omega) (by omega))
              have hB2 := Lib.hid (hbw.grown hgs hbw.size (fun k e => by have := Option.some.inj e; omega))
              have hsz2 := Lib.hid (show w7.heap.size ≤ (wr.setRow (w.heap.size + 1) #[.slice (some ⟨G, 0, none⟩) u u, .slice (some ⟨OB, 0, none⟩) u u, .slice (some ⟨RB, 0, none⟩) u u]).heap.size from Nat.le_trans (by omega) hgs.size)
              have hst := Lib.hid (setRow_heap (w := wr) (w.heap.size + 1) _ #[.slice (some ⟨G, 0, none⟩) u u, .slice (some ⟨OB, 0, none⟩) u u, .slice (some ⟨RB, 0, none⟩) u u] 96 _ q3)
              have Q1 := Lib.hid q1
              have Q3 := Lib.hid q3
              clear q1 q2 q3 hAo hA11 hSR hgs hA hown hdis hbw
              go_wp2_with (first
                | (refine wpList_load_row rfl 96 _ rfl SB rfl 96 #[.slice (some ⟨G, 0, none⟩) u u, .slice (some ⟨OB, 0, none⟩) u u, .slice (some ⟨RB, 0, none⟩) u u] (0, 0) _ Q1.out Tryd.underlying96 rfl (Hi.out _ _ _) ?_)
                | (refine wpList_store_row rfl 96 _ _ rfl (w.heap.size + 1) #[.slice (some ⟨G, 0, none⟩) u u, .slice (some ⟨OB, 0, none⟩) u u, .slice (some ⟨RB, 0, none⟩) u u] rfl rfl 96 #[.slice none 0 0, .slice none 0 0, .slice none 0 0] Q3.out (Hi.out _ _ _) rfl (by simp [Value.oneCell']) ?_))
              refine bodyPost_ret (v := sVal G OB RB u) (results_cell_row (by rfl) _ _ (w.heap.size + 1) 96 _ (0, 0) _ rfl hst.out Tryd.underlying96 rfl (Hi.out _ _ _)) rfl ?_
              exact ⟨G, OB, RB, w7.heap.size, rfl, ⟨by omega, by omega, by omega, by omega, by omega, n4, n5, by omega, by omega⟩, hsz2.out, hSR2.out, hO2.out, hB2.out⟩
end Go.Proofs.YtkeoflnmbcdmfaaDoor
