import Derived.Test.YtjdhfknoldginaaFR21
import Derived.Test.YtjdhfknoldginaaFPuzB
import Derived.Test.YtjdhfknoldginaaFNa
import Derived.Deep.RegionWith
import Derived.Deep.CutRange
import Derived.Deep.CutBlock
import Derived.Test.YtjdhfknoldginaaDrawH
import Derived.Test.YtjdhfknoldginaaC1
import Derived.Test.YtjdhfknoldginaaFMin
namespace Go.Proofs.Ytjdhfknoldginaa
open Go.ChangeShapes Go.WideShapes Go.ChangeAt Go.RowKit
/-! The same, the last operation an assignment; what holds until an operation is done may end with those that stand ahead of it. -/
/-- the last operation gives a variable its value. -/
def chkOpsA (ops : Array Oper) (ds : List Nat) (r : Nat) : Bool :=
  ops.size == ds.length + 1 && ((List.range ops.size).all fun i => match ops[i]? with
    | some o => o.after.all fun e => decide (e.on < i)
    | none => false) && ((List.range ds.length).all fun i => match ops[i]? with
    | some o => decide (o.dst = some (ds.getD i 0)) && o.guard.isNone
    | none => false) && (match ops[ds.length]? with
    | some o => decide (o.dst = some r) && o.guard.isNone && (List.range ds.length).all fun j => o.after.any fun e => e.on == j && Region.binds .any e
    | none => false) && decide ds.Nodup
theorem wp_region_madeA {P : Program} {ops : Array Oper} {Q : Exit → Act → World → Prop} {id : Nat} {a0 : Act} {W : World} (m r : Nat) (d : Nat → Nat) (G : Nat → Value → World → Prop) (Rel : World → World → Prop) (Eff : Nat → World → World → Prop) (C : Nat → World → Prop) (hC0 : ∀ j, C j W.drew) (hrefl : Rel W W.drew) (htrans : ∀ w w', Rel W w → Rel w w' → Rel W w')
    (hm : P.follows .mixedOrders = true) (hlen : ops.size = m + 1) (hback : ∀ (i : Nat) (o : Oper), ops[i]? = some o → ∀ e ∈ o.after, e.on < i)
    (hd : ∀ i o, i < m → ops[i]? = some o → o.dst = some (d i) ∧ o.guard = none) (hinj : ∀ i j, i < m → j < m → d i = d j → i = j) (hlt : ∀ i, i < m → d i < a0.tmps.size)
    (hl : ∀ o, ops[m]? = some o → o.dst = some r ∧ o.guard = none ∧ ∀ j, j < m → ∃ e ∈ o.after, e.on = j ∧ Region.binds .any e = true)
    (hG : ∀ j i v w w', j ≠ i → Rel W w → Eff i w w' → G j v w → G j v w')
    (hstep : ∀ i o a w (K : Act → World → Prop) (D : Nat → Prop), (∀ e ∈ o.after, Region.binds .any e = true → D e.on) → (∀ i' o', ops[i']? = some o' → D i' → ∀ e ∈ o'.after, Region.binds .any e = true → D e.on) → i < m → ops[i]? = some o → Rel W w → Off d m a a0 → (∀ e ∈ o.after, Region.binds .any e = true → G e.on (a.eval (.tmp (d e.on))) w) → C i w → (∀ v w', Rel w w' → Eff i w w' → (∀ j, j ≠ i → ¬ D j → C j w → C j w') → G i v w' → K (a.put o.dst v) w') → o.wp P a w K Q)
    (hlast : ∀ o a w, ops[m]? = some o → Rel W w → Off d m a a0 → (∀ j, j < m → G j (a.eval (.tmp (d j))) w) → ∃ v w', (execOp a.eval o).run P w = .ok (.value v) w' ∧ Q .normal (a.put (some r) v) w') :
    (Code.region id ops true).wp P Q a0 W := by
  refine wp_region_inv (Inv := fun l a w => (l.size = ops.size ∧ ∀ i' o', ops[i']? = some o' → l.getD i' false = true → ∀ e ∈ o'.after, Region.binds .any e = true → l.getD e.on false = true) ∧ ((l.getD m false = false ∧ Rel W w ∧ Off d m a a0 ∧ (∀ j, l.getD j false = false → C j w) ∧ ∀ j, j < m → l.getD j false = true → G j (a.eval (.tmp (d j))) w) ∨ ((∀ j, j < ops.size → l.getD j false = true) ∧ Q .normal a w))) hm hback (fun l a w h => h.1.1) ?step ?done ?h0
  case done =>
    rintro l a w ⟨⟨hs, _⟩, h⟩ hall
    rcases h with ⟨h1, _⟩ | ⟨_, h⟩
    · rw [hall m (by omega)] at h1; cases h1
    · exact h
  case h0 =>
    refine ⟨⟨by simp, fun i' o' _ hd' => by rw [Array.getD_eq_getD_getElem?, Array.getElem?_replicate] at hd'; split at hd' <;> cases hd'⟩, .inl ⟨by rw [Array.getD_eq_getD_getElem?, Array.getElem?_replicate]; split <;> rfl, hrefl, ⟨rfl, rfl, fun _ _ => rfl⟩, fun j _ => hC0 j, fun j hj hlj => ?_⟩⟩
    simp at hlj
    have : j < ops.size := by omega
    simp [this] at hlj
  case step =>
    rintro l a w i o ⟨⟨hs, hcl⟩, h⟩ ho hli hall
    have hi : i < ops.size := (Array.getElem?_eq_some_iff.1 ho).1
    have hil : i < l.size := by omega
    rcases h with ⟨h1, hb, hoff, hcj, hg⟩ | ⟨h, _⟩
    · refine wpOp_step ho (fun K hK => ?_)
      have hset0 : ∀ j, (l.setIfInBounds i true).getD j false = if j = i then true else l.getD j false := fun j => by
        by_cases e : j = i
        · subst e; simp [hil]
        · rw [if_neg e]; simp [Array.getElem?_setIfInBounds_ne (fun e' => e (Eq.symm e'))]
      have hsz : (l.setIfInBounds i true).size = ops.size ∧ ∀ i' o', ops[i']? = some o' → (l.setIfInBounds i true).getD i' false = true → ∀ e ∈ o'.after, Region.binds .any e = true → (l.setIfInBounds i true).getD e.on false = true := by
        refine ⟨by simpa using hs, fun i' o' ho' hd' e he hbd => ?_⟩
        rw [hset0] at hd' ⊢
        split
        · rfl
        · split at hd'
          · rename_i _ hii
            subst hii
            rw [ho] at ho'
            injection ho' with ho'
            subst ho'
            exact hall e he hbd
          · exact hcl i' o' ho' hd' e he hbd
      by_cases him : i = m
      · subst him
        obtain ⟨q1, q2, q3⟩ := hl o ho
        have hallj : ∀ j, j < i → l.getD j false = true := fun j hj => by
          obtain ⟨e, he, rfl, hbd⟩ := q3 j hj
          exact hall e he hbd
        obtain ⟨v, w', hrun, hq⟩ := hlast o a w ho hb hoff (fun j hj => hg j hj (hallj j hj))
        rw [if_pos (by simp [Region.wanted, q2])]
        unfold Oper.wp
        rw [hrun]
        refine hK _ _ ⟨hsz, .inr ⟨fun j hj => ?_, ?_⟩⟩
        · by_cases e : j = i
          · subst e; simp [hil]
          · have := hallj j (by omega)
            have hjl : j < l.size := by omega
            have hset : (l.setIfInBounds i true).getD j false = l.getD j false := by simp [Array.getElem?_setIfInBounds_ne (fun e' => e (Eq.symm e'))]
            rw [hset]; exact this
        · rw [q1]; exact hq
      · have him' : i < m := by omega
        obtain ⟨q1, q2⟩ := hd i o him' ho
        have hpre : ∀ e ∈ o.after, Region.binds .any e = true → G e.on (a.eval (.tmp (d e.on))) w := fun e he hbd => hg e.on (Nat.lt_trans (hback i o ho e he) him') (hall e he hbd)
        rw [if_pos (by simp [Region.wanted, q2])]
        refine hstep i o a w K (fun j => l.getD j false = true) hall hcl him' ho hb hoff hpre (hcj i (by simp [hil] at hli ⊢; exact hli)) (fun v w' hb' hef hcs hgi => ?_)
        have hdlt : d i < a.tmps.size := by rw [hoff.1]; exact hlt i him'
        have hset : ∀ j, (l.setIfInBounds i true).getD j false = if j = i then true else l.getD j false := fun j => by
          by_cases e : j = i
          · subst e; simp [hil]
          · rw [if_neg e]; simp [Array.getElem?_setIfInBounds_ne (fun e' => e (Eq.symm e'))]
        refine hK _ _ ⟨hsz, .inl ⟨by rw [hset, if_neg (fun e => him e.symm)]; exact h1, htrans _ _ hb hb', ?_, fun j hlj => (by rw [hset] at hlj; split at hlj; (cases hlj); (rename_i hji; exact hcs j hji (fun e2 => by rw [e2] at hlj; cases hlj) (hcj j hlj))), fun j hj hlj => ?_⟩⟩
        · rw [q1]
          refine ⟨by rw [size_put]; exact hoff.1, hoff.2.1, fun t ht => ?_⟩
          rw [← hoff.2.2 t ht]
          simp [Act.put, Array.getElem?_setIfInBounds_ne (ht i him')]
        · rw [q1]
          by_cases e : j = i
          · subst e; rw [eval_put_same hdlt]; exact hgi
          · rw [eval_put_ne (fun e' => e (hinj _ _ hj him' e'.symm))]
            rw [hset, if_neg e] at hlj
            exact hG _ _ _ _ _ e hb hef (hg j hj hlj)
    · have := h i hi
      simp [hil] at hli this
      rw [this] at hli; cases hli
theorem wp_region_dsA {P : Program} {ops : Array Oper} {Q : Exit → Act → World → Prop} {id : Nat} {a0 : Act} {W : World} (ds : List Nat) (r : Nat) (G : Nat → Value → World → Prop) (Rel : World → World → Prop) (Eff : Nat → World → World → Prop) (C : Nat → World → Prop) (hC0 : ∀ j, C j W.drew) (hrefl : Rel W W.drew) (htrans : ∀ w w', Rel W w → Rel w w' → Rel W w')
    (hm : P.follows .mixedOrders = true) (hc : chkOpsA ops ds r = true) (hlt : ∀ t ∈ ds, t < a0.tmps.size)
    (hG : ∀ j i v w w', j ≠ i → Rel W w → Eff i w w' → G j v w → G j v w')
    (hstep : ∀ (i : Nat) (o : Oper) (a : Act) (w : World) (K : Act → World → Prop) (D : Nat → Prop), (∀ e ∈ o.after, Region.binds .any e = true → D e.on) → (∀ i' o', ops[i']? = some o' → D i' → ∀ e ∈ o'.after, Region.binds .any e = true → D e.on) → i < ds.length → ops[i]? = some o → Rel W w → (∀ t, t ∉ ds → a.eval (.tmp t) = a0.eval (.tmp t)) → (∀ e ∈ o.after, Region.binds .any e = true → G e.on (a.eval (.tmp (ds.getD e.on 0))) w) → C i w → (∀ v w', Rel w w' → Eff i w w' → (∀ j, j ≠ i → ¬ D j → C j w → C j w') → G i v w' → K (a.put o.dst v) w') → o.wp P a w K Q)
    (hlast : ∀ (o : Oper) (a : Act) (w : World), ops[ds.length]? = some o → Rel W w → a.defers = a0.defers → a.tmps = ds.foldl (fun tm t => tm.setIfInBounds t (a.tmps.getD t undef)) a0.tmps → (∀ t, t ∉ ds → a.eval (.tmp t) = a0.eval (.tmp t)) → (∀ j, j < ds.length → G j (a.eval (.tmp (ds.getD j 0))) w) → ∃ v w', (execOp a.eval o).run P w = .ok (.value v) w' ∧ Q .normal (a.put (some r) v) w') :
    (Code.region id ops true).wp P Q a0 W := by
  simp only [chkOpsA, Bool.and_eq_true, beq_iff_eq, List.all_eq_true, List.mem_range, decide_eq_true_eq] at hc
  obtain ⟨⟨⟨⟨c1, c2⟩, c3⟩, c4⟩, c5⟩ := hc
  have hout : ∀ t, t ∉ ds → ∀ j, j < ds.length → ds.getD j 0 ≠ t := fun t ht j hj e => ht (by
    rw [← e, List.getD_eq_getElem?_getD, List.getElem?_eq_getElem hj]; exact List.getElem_mem _)
  have hmem : ∀ j, j < ds.length → ds.getD j 0 ∈ ds := fun j hj => by
    rw [List.getD_eq_getElem?_getD, List.getElem?_eq_getElem hj]; exact List.getElem_mem _
  refine wp_region_madeA ds.length r (fun j => ds.getD j 0) G Rel Eff C hC0 hrefl htrans hm c1 ?back ?hd ?inj (fun i hi => hlt _ (hmem i hi)) ?hl hG ?step ?last
  case back =>
    intro i o ho e he
    have hi : i < ops.size := (Array.getElem?_eq_some_iff.1 ho).1
    have := c2 i hi
    rw [ho] at this
    simp only [Array.all_eq_true_iff_forall_mem, decide_eq_true_eq] at this
    exact this e he
  case hd =>
    intro i o hi ho
    have := c3 i hi
    rw [ho] at this
    simp only [Bool.and_eq_true, decide_eq_true_eq, Option.isNone_iff_eq_none] at this
    exact this
  case inj =>
    intro i j hi hj e
    simp only [List.getD_eq_getElem?_getD, List.getElem?_eq_getElem hi, List.getElem?_eq_getElem hj, Option.getD_some] at e
    exact (List.getElem_inj c5).1 e
  case hl =>
    intro o ho
    rw [ho] at c4
    simp only [Bool.and_eq_true, decide_eq_true_eq, Option.isNone_iff_eq_none, List.all_eq_true, List.mem_range] at c4
    refine ⟨c4.1.1, c4.1.2, fun j hj => ?_⟩
    obtain ⟨e, he, h⟩ := Array.any_eq_true'.1 (c4.2 j hj)
    rw [Bool.and_eq_true, beq_iff_eq] at h
    exact ⟨e, he, h.1, h.2⟩
  case step =>
    intro i o a w K D hD hcl hi ho hb hoff hpre hc hK
    exact hstep i o a w K D hD hcl hi ho hb (fun t ht => hoff.eval (hout t ht)) hpre hc hK
  case last =>
    intro o a w ho hb hoff hpre
    refine hlast o a w ho hb hoff.2.1 (frame_of ds hoff.1 (fun t ht => hoff.2.2 t (hout t ht))) (fun t ht => hoff.eval (hout t ht)) hpre
theorem wp_region_madeS {P : Program} {ops : Array Oper} {Q : Exit → Act → World → Prop} {id : Nat} {a0 : Act} {W : World} (m : Nat) (d : Nat → Nat) (G : Nat → Value → World → Prop) (Rel : World → World → Prop) (Eff : Nat → World → World → Prop) (C : Nat → World → Prop) (hC0 : ∀ j, C j W.drew) (hrefl : Rel W W.drew) (htrans : ∀ w w', Rel W w → Rel w w' → Rel W w')
    (hm : P.follows .mixedOrders = true) (hlen : ops.size = m + 1) (hback : ∀ (i : Nat) (o : Oper), ops[i]? = some o → ∀ e ∈ o.after, e.on < i)
    (hd : ∀ i o, i < m → ops[i]? = some o → o.dst = some (d i) ∧ o.guard = none) (hinj : ∀ i j, i < m → j < m → d i = d j → i = j) (hlt : ∀ i, i < m → d i < a0.tmps.size)
    (hl : ∀ o, ops[m]? = some o → o.dst = none ∧ o.guard = none ∧ ∀ j, j < m → ∃ e ∈ o.after, e.on = j ∧ Region.binds .any e = true)
    (hG : ∀ j i v w w', j ≠ i → Rel W w → Eff i w w' → G j v w → G j v w')
    (hstep : ∀ i o a w (K : Act → World → Prop) (D : Nat → Prop), (∀ e ∈ o.after, Region.binds .any e = true → D e.on) → (∀ i' o', ops[i']? = some o' → D i' → ∀ e ∈ o'.after, Region.binds .any e = true → D e.on) → i < m → ops[i]? = some o → Rel W w → Off d m a a0 → (∀ e ∈ o.after, Region.binds .any e = true → G e.on (a.eval (.tmp (d e.on))) w) → C i w → (∀ v w', Rel w w' → Eff i w w' → (∀ j, j ≠ i → ¬ D j → C j w → C j w') → G i v w' → K (a.put o.dst v) w') → o.wp P a w K Q)
    (hlast : ∀ o a w, ops[m]? = some o → Rel W w → Off d m a a0 → (∀ j, j < m → G j (a.eval (.tmp (d j))) w) → ∃ w', (execOp a.eval o).run P w = .ok .skip w' ∧ Q .normal a w') :
    (Code.region id ops true).wp P Q a0 W := by
  refine wp_region_inv (Inv := fun l a w => (l.size = ops.size ∧ ∀ i' o', ops[i']? = some o' → l.getD i' false = true → ∀ e ∈ o'.after, Region.binds .any e = true → l.getD e.on false = true) ∧ ((l.getD m false = false ∧ Rel W w ∧ Off d m a a0 ∧ (∀ j, l.getD j false = false → C j w) ∧ ∀ j, j < m → l.getD j false = true → G j (a.eval (.tmp (d j))) w) ∨ ((∀ j, j < ops.size → l.getD j false = true) ∧ Q .normal a w))) hm hback (fun l a w h => h.1.1) ?step ?done ?h0
  case done =>
    rintro l a w ⟨⟨hs, _⟩, h⟩ hall
    rcases h with ⟨h1, _⟩ | ⟨_, h⟩
    · rw [hall m (by omega)] at h1; cases h1
    · exact h
  case h0 =>
    refine ⟨⟨by simp, fun i' o' _ hd' => by rw [Array.getD_eq_getD_getElem?, Array.getElem?_replicate] at hd'; split at hd' <;> cases hd'⟩, .inl ⟨by rw [Array.getD_eq_getD_getElem?, Array.getElem?_replicate]; split <;> rfl, hrefl, ⟨rfl, rfl, fun _ _ => rfl⟩, fun j _ => hC0 j, fun j hj hlj => ?_⟩⟩
    simp at hlj
    have : j < ops.size := by omega
    simp [this] at hlj
  case step =>
    rintro l a w i o ⟨⟨hs, hcl⟩, h⟩ ho hli hall
    have hi : i < ops.size := (Array.getElem?_eq_some_iff.1 ho).1
    have hil : i < l.size := by omega
    rcases h with ⟨h1, hb, hoff, hcj, hg⟩ | ⟨h, _⟩
    · refine wpOp_step ho (fun K hK => ?_)
      have hset0 : ∀ j, (l.setIfInBounds i true).getD j false = if j = i then true else l.getD j false := fun j => by
        by_cases e : j = i
        · subst e; simp [hil]
        · rw [if_neg e]; simp [Array.getElem?_setIfInBounds_ne (fun e' => e (Eq.symm e'))]
      have hsz : (l.setIfInBounds i true).size = ops.size ∧ ∀ i' o', ops[i']? = some o' → (l.setIfInBounds i true).getD i' false = true → ∀ e ∈ o'.after, Region.binds .any e = true → (l.setIfInBounds i true).getD e.on false = true := by
        refine ⟨by simpa using hs, fun i' o' ho' hd' e he hbd => ?_⟩
        rw [hset0] at hd' ⊢
        split
        · rfl
        · split at hd'
          · rename_i _ hii
            subst hii
            rw [ho] at ho'
            injection ho' with ho'
            subst ho'
            exact hall e he hbd
          · exact hcl i' o' ho' hd' e he hbd
      by_cases him : i = m
      · subst him
        obtain ⟨q1, q2, q3⟩ := hl o ho
        have hallj : ∀ j, j < i → l.getD j false = true := fun j hj => by
          obtain ⟨e, he, rfl, hbd⟩ := q3 j hj
          exact hall e he hbd
        obtain ⟨w', hrun, hq⟩ := hlast o a w ho hb hoff (fun j hj => hg j hj (hallj j hj))
        rw [if_pos (by simp [Region.wanted, q2])]
        unfold Oper.wp
        rw [hrun]
        have hput : a.put o.dst undef = a := by rw [q1]; rfl
        refine hK _ _ ⟨hsz, .inr ⟨fun j hj => ?_, ?_⟩⟩
        · by_cases e : j = i
          · subst e; simp [hil]
          · have := hallj j (by omega)
            have hjl : j < l.size := by omega
            have hset : (l.setIfInBounds i true).getD j false = l.getD j false := by simp [Array.getElem?_setIfInBounds_ne (fun e' => e (Eq.symm e'))]
            rw [hset]; exact this
        · first | exact hq | (rw [hput]; exact hq)
      · have him' : i < m := by omega
        obtain ⟨q1, q2⟩ := hd i o him' ho
        have hpre : ∀ e ∈ o.after, Region.binds .any e = true → G e.on (a.eval (.tmp (d e.on))) w := fun e he hbd => hg e.on (Nat.lt_trans (hback i o ho e he) him') (hall e he hbd)
        rw [if_pos (by simp [Region.wanted, q2])]
        refine hstep i o a w K (fun j => l.getD j false = true) hall hcl him' ho hb hoff hpre (hcj i (by simp [hil] at hli ⊢; exact hli)) (fun v w' hb' hef hcs hgi => ?_)
        have hdlt : d i < a.tmps.size := by rw [hoff.1]; exact hlt i him'
        have hset : ∀ j, (l.setIfInBounds i true).getD j false = if j = i then true else l.getD j false := fun j => by
          by_cases e : j = i
          · subst e; simp [hil]
          · rw [if_neg e]; simp [Array.getElem?_setIfInBounds_ne (fun e' => e (Eq.symm e'))]
        refine hK _ _ ⟨hsz, .inl ⟨by rw [hset, if_neg (fun e => him e.symm)]; exact h1, htrans _ _ hb hb', ?_, fun j hlj => (by rw [hset] at hlj; split at hlj; (cases hlj); (rename_i hji; exact hcs j hji (fun e2 => by rw [e2] at hlj; cases hlj) (hcj j hlj))), fun j hj hlj => ?_⟩⟩
        · rw [q1]
          refine ⟨by rw [size_put]; exact hoff.1, hoff.2.1, fun t ht => ?_⟩
          rw [← hoff.2.2 t ht]
          simp [Act.put, Array.getElem?_setIfInBounds_ne (ht i him')]
        · rw [q1]
          by_cases e : j = i
          · subst e; rw [eval_put_same hdlt]; exact hgi
          · rw [eval_put_ne (fun e' => e (hinj _ _ hj him' e'.symm))]
            rw [hset, if_neg e] at hlj
            exact hG _ _ _ _ _ e hb hef (hg j hj hlj)
    · have := h i hi
      simp [hil] at hli this
      rw [this] at hli; cases hli
theorem wp_region_dsS {P : Program} {ops : Array Oper} {Q : Exit → Act → World → Prop} {id : Nat} {a0 : Act} {W : World} (ds : List Nat) (G : Nat → Value → World → Prop) (Rel : World → World → Prop) (Eff : Nat → World → World → Prop) (C : Nat → World → Prop) (hC0 : ∀ j, C j W.drew) (hrefl : Rel W W.drew) (htrans : ∀ w w', Rel W w → Rel w w' → Rel W w')
    (hm : P.follows .mixedOrders = true) (hc : chkOps ops ds = true) (hlt : ∀ t ∈ ds, t < a0.tmps.size)
    (hG : ∀ j i v w w', j ≠ i → Rel W w → Eff i w w' → G j v w → G j v w')
    (hstep : ∀ (i : Nat) (o : Oper) (a : Act) (w : World) (K : Act → World → Prop) (D : Nat → Prop), (∀ e ∈ o.after, Region.binds .any e = true → D e.on) → (∀ i' o', ops[i']? = some o' → D i' → ∀ e ∈ o'.after, Region.binds .any e = true → D e.on) → i < ds.length → ops[i]? = some o → Rel W w → (∀ t, t ∉ ds → a.eval (.tmp t) = a0.eval (.tmp t)) → (∀ e ∈ o.after, Region.binds .any e = true → G e.on (a.eval (.tmp (ds.getD e.on 0))) w) → C i w → (∀ v w', Rel w w' → Eff i w w' → (∀ j, j ≠ i → ¬ D j → C j w → C j w') → G i v w' → K (a.put o.dst v) w') → o.wp P a w K Q)
    (hlast : ∀ (o : Oper) (a : Act) (w : World), ops[ds.length]? = some o → Rel W w → a.defers = a0.defers → a.tmps = ds.foldl (fun tm t => tm.setIfInBounds t (a.tmps.getD t undef)) a0.tmps → (∀ t, t ∉ ds → a.eval (.tmp t) = a0.eval (.tmp t)) → (∀ j, j < ds.length → G j (a.eval (.tmp (ds.getD j 0))) w) → ∃ w', (execOp a.eval o).run P w = .ok .skip w' ∧ Q .normal a w') :
    (Code.region id ops true).wp P Q a0 W := by
  simp only [chkOps, Bool.and_eq_true, beq_iff_eq, List.all_eq_true, List.mem_range, decide_eq_true_eq] at hc
  obtain ⟨⟨⟨⟨c1, c2⟩, c3⟩, c4⟩, c5⟩ := hc
  have hout : ∀ t, t ∉ ds → ∀ j, j < ds.length → ds.getD j 0 ≠ t := fun t ht j hj e => ht (by
    rw [← e, List.getD_eq_getElem?_getD, List.getElem?_eq_getElem hj]; exact List.getElem_mem _)
  have hmem : ∀ j, j < ds.length → ds.getD j 0 ∈ ds := fun j hj => by
    rw [List.getD_eq_getElem?_getD, List.getElem?_eq_getElem hj]; exact List.getElem_mem _
  refine wp_region_madeS ds.length (fun j => ds.getD j 0) G Rel Eff C hC0 hrefl htrans hm c1 ?back ?hd ?inj (fun i hi => hlt _ (hmem i hi)) ?hl hG ?step ?last
  case back =>
    intro i o ho e he
    have hi : i < ops.size := (Array.getElem?_eq_some_iff.1 ho).1
    have := c2 i hi
    rw [ho] at this
    simp only [Array.all_eq_true_iff_forall_mem, decide_eq_true_eq] at this
    exact this e he
  case hd =>
    intro i o hi ho
    have := c3 i hi
    rw [ho] at this
    simp only [Bool.and_eq_true, decide_eq_true_eq, Option.isNone_iff_eq_none] at this
    exact this
  case inj =>
    intro i j hi hj e
    simp only [List.getD_eq_getElem?_getD, List.getElem?_eq_getElem hi, List.getElem?_eq_getElem hj, Option.getD_some] at e
    exact (List.getElem_inj c5).1 e
  case hl =>
    intro o ho
    rw [ho] at c4
    simp only [Bool.and_eq_true, Option.isNone_iff_eq_none, List.all_eq_true, List.mem_range] at c4
    refine ⟨c4.1.1, c4.1.2, fun j hj => ?_⟩
    obtain ⟨e, he, h⟩ := Array.any_eq_true'.1 (c4.2 j hj)
    rw [Bool.and_eq_true, beq_iff_eq] at h
    exact ⟨e, he, h.1, h.2⟩
  case step =>
    intro i o a w K D hD hcl hi ho hb hoff hpre hc hK
    exact hstep i o a w K D hD hcl hi ho hb (fun t ht => hoff.eval (hout t ht)) hpre hc hK
  case last =>
    intro o a w ho hb hoff hpre
    refine hlast o a w ho hb hoff.2.1 (frame_of ds hoff.1 (fun t ht => hoff.2.2 t (hout t ht))) (fun t ht => hoff.eval (hout t ht)) hpre
end Go.Proofs.Ytjdhfknoldginaa
set_option maxRecDepth 8000
namespace Go.Proofs.Ytjdhfknoldginaa
open Go.ChangeShapes Go.WideShapes Go.ChangeAt Go.RowKit
/-! the draw of masks. -/
def smallM (xs : List Int) (n : Nat) : Prop := ∀ k, k < n → -4 ≤ nth xs k ∧ nth xs k ≤ 64
theorem smallM_push {xs : List Int} {n : Nat} {x : Int} (h : smallM xs n) (hl : xs.length = n) (hx : 0 ≤ x ∧ x ≤ 64) : smallM (xs ++ [x]) (n + 1) := fun k hk => by
  rw [nth_push hl]
  split
  · exact h k (by assumption)
  · split
    · omega
    · omega
theorem smallM_b64 {xs : List Int} {n : Nat} (h : smallM xs n) (hl : xs.length = n) : B64 xs := b64_of hl fun k hk => by have := h k hk; omega
/-- what the values of a drawn mask's region are, in the order of the text. -/
def MkG (lo G : Nat) (A : Option Addr) (u c : Nat) (xs : List Int) (s q : Int) : Nat → Value → World → Prop
  | 0, v, _ => v = .slice A u c
  | 1, v, _ => v = .pointer (some ⟨G, 0, none⟩)
  | 2, v, _ => v = .int .i64 s
  | 3, v, _ => v = .int .i64 q
  | 4, v, _ => ∃ x, v = .int .i64 x ∧ 0 ≤ x ∧ x < q
  | 5, v, _ => ∃ x, v = .int .i64 x ∧ 0 ≤ x ∧ x ≤ 64
  | 6, v, _ => v = .int .i64 s
  | 7, v, _ => v = .int .i64 (s + 1)
  | 8, v, _ => v = .int .i64 (q + q)
  | 9, v, _ => v = .int .i64 (q + q - 2)
  | 10, v, _ => v = .pointer (some ⟨G, 0, none⟩)
  | 11, v, _ => v = .int .i64 s
  | 12, v, _ => ∃ x, v = .int .i64 x ∧ 0 ≤ x ∧ x < s
  | 13, v, _ => ∃ x, v = .int .i64 x ∧ 1 ≤ x ∧ x ≤ 4
  | 14, v, _ => ∃ x, v = .int .i64 x ∧ 0 ≤ x ∧ x ≤ 64
  | 15, v, w => ∃ b x y z, v = .slice (some ⟨b, 0, none⟩) 3 3 ∧ w.heap[b]? = some (.cells #[.int .i64 x, .int .i64 y, .int .i64 z] 3) ∧ (0 ≤ x ∧ x ≤ 64) ∧ (0 ≤ y ∧ y ≤ 64) ∧ (0 ≤ z ∧ z ≤ 64) ∧ b ≠ G ∧ (Value.slice A u c).ownBlock ≠ some b
  | 16, v, _ => v = .pointer (some ⟨G, 0, none⟩)
  | 17, v, _ => ∃ x, v = .int .i64 x ∧ 0 ≤ x ∧ x < 3
  | 18, v, w => ∃ b i x y z, v = .pointer (some ⟨b, i, none⟩) ∧ i < 3 ∧ w.heap[b]? = some (.cells #[.int .i64 x, .int .i64 y, .int .i64 z] 3) ∧ (0 ≤ x ∧ x ≤ 64) ∧ (0 ≤ y ∧ y ≤ 64) ∧ (0 ≤ z ∧ z ≤ 64) ∧ b ≠ G ∧ (Value.slice A u c).ownBlock ≠ some b
  | 19, v, _ => ∃ x, v = .int .i64 x ∧ 0 ≤ x ∧ x ≤ 64
  | 20, v, w => ∃ b x, v = .slice (some ⟨b, 0, none⟩) 1 1 ∧ w.heap[b]? = some (.cells #[.int .i64 x] 3) ∧ (0 ≤ x ∧ x ≤ 64) ∧ b ≠ G ∧ (Value.slice A u c).ownBlock ≠ some b
  | 21, v, w => ∃ A' c' x, v = .slice A' (u + 1) c' ∧ Ow w lo A' (u + 1) c' (xs ++ [x]) ∧ 0 ≤ x ∧ x ≤ 64
  | _, _, _ => True
def MkEff (G u c : Nat) (A : Option Addr) (i : Nat) (w w' : World) : Prop := if i = 21 then w.grownBy w' (Value.slice A u c).ownBlock else w.grownBy w' (some G)
theorem mkG_eff {lo G u c : Nat} {A : Option Addr} {xs : List Int} {s q : Int} (hG : G < lo) (j i : Nat) (v : Value) (w w' : World) (hji : j ≠ i) (h : MkEff G u c A i w w') (hg : MkG lo G A u c xs s q j v w) : MkG lo G A u c xs s q j v w' := by
  unfold MkEff at h
  have hblk : ∀ (b : Nat) (o : Obj), w.heap[b]? = some o → b ≠ G → (Value.slice A u c).ownBlock ≠ some b → w'.heap[b]? = some o := fun b o hb h1 h2 => by
    by_cases hi : i = 21
    · rw [if_pos hi] at h
      exact (h.block b (Array.getElem?_eq_some_iff.1 hb).1 (fun e => h2 e.symm)).trans hb
    · rw [if_neg hi] at h
      exact (h.block b (Array.getElem?_eq_some_iff.1 hb).1 (fun e => h1 (Option.some.inj e))).trans hb
  match j, hg with
  | 0, hg => exact hg
  | 1, hg => exact hg
  | 2, hg => exact hg
  | 3, hg => exact hg
  | 4, hg => exact hg
  | 5, hg => exact hg
  | 6, hg => exact hg
  | 7, hg => exact hg
  | 8, hg => exact hg
  | 9, hg => exact hg
  | 10, hg => exact hg
  | 11, hg => exact hg
  | 12, hg => exact hg
  | 13, hg => exact hg
  | 14, hg => exact hg
  | 15, ⟨b, x, y, z, e, hb, hx, hy, hz, h1, h2⟩ => exact ⟨b, x, y, z, e, hblk b _ hb h1 h2, hx, hy, hz, h1, h2⟩
  | 16, hg => exact hg
  | 17, hg => exact hg
  | 18, ⟨b, k, x, y, z, e, hk, hb, hx, hy, hz, h1, h2⟩ => exact ⟨b, k, x, y, z, e, hk, hblk b _ hb h1 h2, hx, hy, hz, h1, h2⟩
  | 19, hg => exact hg
  | 20, ⟨b, x, e, hb, hx, h1, h2⟩ => exact ⟨b, x, e, hblk b _ hb h1 h2, hx, h1, h2⟩
  | 21, ⟨A', c', x, e, ho, hx⟩ =>
    rw [if_neg (fun e => hji e.symm)] at h
    exact ⟨A', c', x, e, ho.keptG h hG, hx⟩
  | _ + 22, hg => exact hg
def MkRel (w0 : World) (B G P' : Nat) (w w' : World) : Prop := w.heap.size ≤ w'.heap.size ∧ (w0.grownBy w (some G) → w0.grownBy w' (some G)) ∧ (w0.heap.size ≤ w.heap.size → Rdr w B G P' → Rdr w' B G P')
theorem mkRel_refl {w0 : World} {B G P' : Nat} (w : World) : MkRel w0 B G P' w w := ⟨Nat.le_refl _, fun h => h, fun _ h => h⟩
theorem mkRel_trans {w0 : World} {B G P' : Nat} {w w' w'' : World} (h : MkRel w0 B G P' w w') (h' : MkRel w0 B G P' w' w'') : MkRel w0 B G P' w w'' :=
  ⟨Nat.le_trans h.1 h'.1, fun x => h'.2.1 (h.2.1 x), fun hs x => h'.2.2 (Nat.le_trans hs h.1) (h.2.2 hs x)⟩
theorem mkRel_grown {w0 : World} {B G P' : Nat} {w w' : World} (hg : w.grownBy w' (some G)) (hr : Rdr w B G P' → Rdr w' B G P') : MkRel w0 B G P' w w' := ⟨hg.size, fun x => x.trans hg, fun _ x => hr x⟩
theorem mkRel_own {w0 : World} {B G P' u c lo : Nat} {A : Option Addr} {xs : List Int} {w w' : World} (hG : G < w0.heap.size) (hB : B ≤ w0.heap.size) (hlo : w0.heap.size ≤ lo) (ho : Ow w lo A u c xs) (hg : w.grownBy w' (Value.slice A u c).ownBlock) : MkRel w0 B G P' w w' :=
  ⟨hg.size, fun x => grown_own x ho hlo hg, fun hs x => x.belowN (below_ownR ho hlo hs hg) hG hB⟩
/-- what holds until an operation is done. -/
def MkC (lo B G P u c : Nat) (A : Option Addr) (xs : List Int) (j : Nat) (w : World) : Prop := (j = 4 → Rdr w B G P) ∧ (j = 12 → Rdr w B G (P + 1)) ∧ (j = 17 → Rdr w B G (P + 2)) ∧ (j = 21 → Ow w lo A u c xs)
theorem mkC_grown {lo B G P u c : Nat} {A : Option Addr} {xs : List Int} {j : Nat} {w w' : World} (hG : G < lo) (h : MkC lo B G P u c A xs j w) (hg : w.grownBy w' (some G)) (hr : ∀ p, Rdr w B G p → Rdr w' B G p) : MkC lo B G P u c A xs j w' :=
  ⟨fun e => hr _ (h.1 e), fun e => hr _ (h.2.1 e), fun e => hr _ (h.2.2.1 e), fun e => (h.2.2.2 e).keptG hg hG⟩
theorem lit_get {w : World} {b i : Nat} {x y z : Int} (h : w.heap[b]? = some (.cells #[.int .i64 x, .int .i64 y, .int .i64 z] 3)) (hi : i < 3) (hx : 0 ≤ x ∧ x ≤ 64) (hy : 0 ≤ y ∧ y ≤ 64) (hz : 0 ≤ z ∧ z ≤ 64) : ∃ t, w.cell? ⟨b, i, none⟩ = some (.int .i64 t) ∧ 0 ≤ t ∧ t ≤ 64 := by
  rw [cell_of_row w b i _ _ (0, 0) h]
  have : i = 0 ∨ i = 1 ∨ i = 2 := by omega
  rcases this with rfl | rfl | rfl
  · exact ⟨x, rfl, hx⟩
  · exact ⟨y, rfl, hy⟩
  · exact ⟨z, rfl, hz⟩
theorem ow_cap {w : World} {lo : Nat} {A : Option Addr} {n c : Nat} {xs : List Int} (h : Ow w lo A n c xs) (hn : 0 < n) : n ≤ c ∧ c ≤ maxLen := by
  rcases h.2 with ⟨h', h0⟩ | ⟨g, cap, cur, hv, _, _, hnc, hcm, _⟩
  · omega
  · injection hv with _ _ hc
    subst hc
    exact ⟨hnc, hcm⟩
/-- the word between the parts. -/
def MSt (w : World) (B G P : Nat) (s : Int) (A : Option Addr) (n c : Nat) (xs : List Int) (wr : World) : Prop := 2 ≤ s ∧ s ≤ 4 ∧ (n : Int) = s * s ∧ Ow wr w.heap.size A n c xs ∧ Hid (smallM xs n) ∧ Rdr wr B G P ∧ w.grownBy wr (some G)
/-- nothing of a slice is frozen. -/
def Fz (w : World) (A : Option Addr) (n : Nat) : Prop := ∀ b off, A = some ⟨b, off, none⟩ → ∀ k, k < n → w.frozen? ⟨b, off + k, none⟩ = false
theorem Ow.fz {w : World} {lo g n c : Nat} {xs : List Int} (h : Ow w lo (some ⟨g, 0, none⟩) n c xs) : Hid (Fz w (some ⟨g, 0, none⟩) n) := Lib.hid (fun b off e k hk => by
  injection e with e; injection e with e1 e2 _; subst e1 e2; rw [Nat.zero_add]; exact (h.cell hk).2)
theorem Ow.fz1 {w : World} {lo g n c : Nat} {xs : List Int} (h : Ow w lo (some ⟨g, 0, none⟩) n c xs) : Hid (Fz w (some ⟨g, 1, none⟩) (n - 1)) := Lib.hid (fun b off e k hk => by
  injection e with e; injection e with e1 e2 _; subst e1 e2; exact (h.cell (by omega)).2)
def MFin (w : World) (B G P : Nat) (s : Int) (A : Option Addr) (n c : Nat) (xs : List Int) (wr : World) : Prop := -1 ≤ s ∧ s ≤ 5 ∧ n ≤ 16 ∧ n ≤ c ∧ c ≤ 9223372036854775807 ∧ Rd wr wr.heap.size A n xs ∧ Hid (smallM xs n) ∧ (∀ b off, A = some ⟨b, off, none⟩ → w.heap.size ≤ b) ∧ Rdr wr B G P ∧ w.grownBy wr (some G) ∧ Hid (Fz wr A n)
/-- what the values of the bent mask's region are. -/
def StG (G g n c : Nat) (s : Int) : Nat → Value → World → Prop
  | 0, v, _ => v = .slice (some ⟨g, 0, none⟩) n c
  | 1, v, _ => v = .pointer (some ⟨G, 0, none⟩)
  | 2, v, _ => v = .slice (some ⟨g, 0, none⟩) n c
  | 3, v, _ => v = .int .i64 (n : Int)
  | 4, v, _ => ∃ x : Int, v = .int .i64 x ∧ 0 ≤ x ∧ x < (n : Int)
  | 5, v, _ => v = .int .i64 s
  | 6, v, _ => v = .int .i64 (s + 1)
  | 7, v, _ => ∃ x : Int, v = .int .i64 x ∧ -4 ≤ x ∧ x ≤ 64
  | 8, v, w => ∃ b x, v = .slice (some ⟨b, 0, none⟩) 3 3 ∧ w.heap[b]? = some (.cells #[.int .i64 (-2), .int .i64 1, .int .i64 x] 3) ∧ (-4 ≤ x ∧ x ≤ 64) ∧ b ≠ G
  | 9, v, _ => v = .pointer (some ⟨G, 0, none⟩)
  | 10, v, _ => ∃ x : Int, v = .int .i64 x ∧ 0 ≤ x ∧ x < 3
  | 11, v, w => ∃ b i x, v = .pointer (some ⟨b, i, none⟩) ∧ i < 3 ∧ w.heap[b]? = some (.cells #[.int .i64 (-2), .int .i64 1, .int .i64 x] 3) ∧ (-4 ≤ x ∧ x ≤ 64) ∧ b ≠ G
  | 12, v, _ => ∃ x : Int, v = .int .i64 x ∧ -4 ≤ x ∧ x ≤ 64
  | 13, v, _ => ∃ j : Nat, v = .pointer (some ⟨g, j, none⟩) ∧ j < n
  | _, _, _ => True
theorem stG_eff {G g n c : Nat} {s : Int} (j : Nat) (v : Value) (w w' : World) (h : w.grownBy w' (some G)) (hg : StG G g n c s j v w) : StG G g n c s j v w' := by
  have hblk : ∀ (b : Nat) (o : Obj), w.heap[b]? = some o → b ≠ G → w'.heap[b]? = some o := fun b o hb h1 => (h.block b (Array.getElem?_eq_some_iff.1 hb).1 (fun e => h1 (Option.some.inj e))).trans hb
  match j, hg with
  | 0, hg => exact hg
  | 1, hg => exact hg
  | 2, hg => exact hg
  | 3, hg => exact hg
  | 4, hg => exact hg
  | 5, hg => exact hg
  | 6, hg => exact hg
  | 7, hg => exact hg
  | 8, ⟨b, x, e, hb, hx, h1⟩ => exact ⟨b, x, e, hblk b _ hb h1, hx, h1⟩
  | 9, hg => exact hg
  | 10, hg => exact hg
  | 11, ⟨b, k, x, e, hk, hb, hx, h1⟩ => exact ⟨b, k, x, e, hk, hblk b _ hb h1, hx, h1⟩
  | 12, hg => exact hg
  | 13, hg => exact hg
  | _ + 14, hg => exact hg
def StRel (w0 : World) (B G P' : Nat) (w w' : World) : Prop := MkRel w0 B G P' w w' ∧ ∀ A n c xs, Ow w w0.heap.size A n c xs → Ow w' w0.heap.size A n c xs
theorem stRel_grown {w0 : World} {B G P' : Nat} {w w' : World} (hG : G < w0.heap.size) (hg : w.grownBy w' (some G)) (hr : Rdr w B G P' → Rdr w' B G P') : StRel w0 B G P' w w' := ⟨mkRel_grown hg hr, fun _ _ _ _ h => h.keptG hg hG⟩
theorem bent_get {w : World} {b i : Nat} {x : Int} (h : w.heap[b]? = some (.cells #[.int .i64 (-2), .int .i64 1, .int .i64 x] 3)) (hi : i < 3) (hx : -4 ≤ x ∧ x ≤ 64) : ∃ t, w.cell? ⟨b, i, none⟩ = some (.int .i64 t) ∧ -4 ≤ t ∧ t ≤ 64 := by
  rw [cell_of_row w b i _ _ (0, 0) h]
  have : i = 0 ∨ i = 1 ∨ i = 2 := by omega
  rcases this with rfl | rfl | rfl
  · exact ⟨-2, rfl, by decide, by decide⟩
  · exact ⟨1, rfl, by decide, by decide⟩
  · exact ⟨x, rfl, hx⟩
theorem smallM_set {xs : List Int} {n j : Nat} {x : Int} (h : smallM xs n) (hx : -4 ≤ x ∧ x ≤ 64) : smallM (xs.set j x) n := fun k hk => by
  by_cases hj : j < xs.length
  · rw [nth_set hj]
    split
    · exact hx
    · exact h k hk
  · rw [List.set_eq_of_length_le (by omega)]; exact h k hk
theorem start_mvd {s : Int} {gi : List Int} {rs : List RuleM} {n : Nat} (hl : gi.length = n) (hv : pvB s gi rs = true) : (startL s gi rs n).length = n ∧ mvd (startL s gi rs n) s = true := by
  obtain ⟨t, rfl, hs, hn, _, hok⟩ := pv_grid hv hl
  have e : startL t gi rs n = mapTo (startC gi t) n := by simp [startL, hv]
  rw [e]
  refine ⟨mapTo_length _ _, ?_⟩
  simp only [mvd, Bool.and_eq_true, beq_iff_eq, mapTo_length, Int.toNat_natCast]
  refine ⟨⟨by simp at hs; simp [inr]; omega, hn⟩, allTo_all (n := n) (fun k hk => ?_) (mapTo_length _ _)⟩
  rw [mapTo_nth hk]
  obtain ⟨y0, y1⟩ := hok k hk
  unfold startC
  have hk4 : nth gi k = 0 ∨ nth gi k = 1 ∨ nth gi k = 2 ∨ nth gi k = 3 ∨ nth gi k = 4 := by simp at hs; omega
  simp at hs
  rcases hs with rfl | rfl | rfl <;> rcases hk4 with h | h | h | h | h <;> rw [h] at y1 ⊢ <;> first | (exfalso; revert y1; decide) | decide
end Go.Proofs.Ytjdhfknoldginaa
set_option maxRecDepth 8000
namespace Go.Proofs.Ytjdhfknoldginaa
open Go.ChangeShapes Go.WideShapes Go.ChangeAt Go.RowKit

/-- the code that a law of draws takes. -/
def Code_ (w : World) (A : Option Addr) (n c : Nat) (bs : List Int) : Prop := RdB w w.heap.size A n bs ∧ n ≤ c ∧ c ≤ 9223372036854775807
theorem code_of_row {w : World} {a : Option Addr} {len cap : Nat} {zs : List Int} (h : IsRow .u8 w a len cap zs) : Code_ w a len cap (zs.take len) := by
  refine ⟨rdB_of_row h, ?_⟩
  rcases h with ⟨rfl, rfl, rfl, rfl⟩ | ⟨x, rfl, hl, hm, _⟩
  · omega
  · simp only [maxLen] at hm; omega






theorem alive_any (w : World) : Calls Try.prog 8 #[] w fun e w' => e = .returned (.bool true) ∧ Below w.heap.size w w' := by
  have hrd : Rd (w.alloc (.cells #[.int .i64 1, .int .i64 0, .int .i64 0, .int .i64 2] 3)) (w.heap.size + 1) (some ⟨w.heap.size, 0, none⟩) 4 [1, 0, 0, 2] := by
    refine ⟨rfl, fun _ => ⟨w.heap.size, 0, rfl, by omega, fun k hk => ?_⟩⟩
    rw [cell_of_row _ _ (0 + k) _ _ _ (heap_alloc_new w _)]
    have : k = 0 ∨ k = 1 ∨ k = 2 ∨ k = 3 := by omega
    rcases this with rfl | rfl | rfl | rfl <;> rfl
  have hgf := Lib.hid (show gf [1, 0, 0, 2] 2 = 2 by decide)
  go_enter Try.func8, Try.ntmps8
  go_wp2_with fail
  refine (implGridFilled _ _ _ _ _ _ _ hrd (by simp) (by omega)).mono ?_
  rintro e w1 ⟨rfl, hb⟩
  rw [hgf.out]
  go_wp2
  go_ret
  exact ⟨rfl, box_below hb⟩
end Go.Proofs.Ytjdhfknoldginaa
set_option maxRecDepth 8000
namespace Go.Proofs.Ytjdhfknoldginaa
open Go.ChangeShapes Go.WideShapes Go.ChangeAt Go.RowKit

theorem RdB.alloc_ {w : World} {A : Option Addr} {n : Nat} {bs : List Int} (h : RdB w w.heap.size A n bs) (o : Obj) : RdB (w.alloc o) (w.alloc o).heap.size A n bs := by
  have h' := h.below ((Below.refl w.heap.size w).alloc (Nat.le_refl _) o)
  refine ⟨h'.1, fun hn => ?_, h'.2.2⟩
  obtain ⟨b, off, e, hb, hc⟩ := h'.2.1 hn
  exact ⟨b, off, e, by rw [World.size_alloc]; omega, hc⟩
theorem results_ct {P : Program} {fn : Func} {p q : Tmp} {ty : TypeId} (h : fn.results = #[.cell p ty, .tmp q]) (tmps : Array Value) (w : World) (g : Nat) (t : TypeId) (cs : Array Value) (fr : Nat × Nat) (d : TypeDesc) (b : Value)
    (hp : tmps.getD p undef = .pointer (some ⟨g, 0, none⟩)) (hq : tmps.getD q undef = b) (hg : w.heap[g]? = some (.cells cs t fr))
    (hu : P.underlying ty = some d) (hd : (match d with | .struct _ | .array _ _ => true | _ => false) = true) (hi : (P.info? ty).map (·.size) = some cs.size) :
    (results fn tmps).run P w = .ok (.tuple #[.agg cs, b]) w := by
  have hp' : tmps[p]?.getD undef = .pointer (some ⟨g, 0, none⟩) := by simpa using hp
  have hq' : tmps[q]?.getD undef = b := by simpa using hq
  simp [results, h, hp', hq', asAddr, run_loadVar_row w g t ty cs fr d hg hu hd hi]
def DrawnCase (w : World) (e : Ending) (w' : World) : Prop :=
  ∃ (k : Int) (A : Option Addr) (n c : Nat) (v : Int) (xs : List Int) (Ag : Option Addr) (ng cg : Nat) (g : List Int) (s : Int), e = .returned (.tuple #[.agg #[.int .i64 k, .slice A n c, .int .i64 v], .slice Ag ng cg, .int .i64 s]) ∧ Ow w' w.heap.size A n c xs ∧ n ≤ 5 ∧ Ow w' w.heap.size Ag ng cg g ∧ ng ≤ 16 ∧ 2 ≤ s ∧ s ≤ 4 ∧ Below w.heap.size w w'
end Go.Proofs.Ytjdhfknoldginaa
set_option maxRecDepth 8000
namespace Go.Proofs.Ytjdhfknoldginaa
open Go.ChangeShapes Go.WideShapes Go.ChangeAt Go.RowKit
/-- what a draw of a puzzle hands back. -/
def DrawnP (w : World) (e : Ending) (w' : World) : Prop := ∃ s A1 n c1 gi A2 nr c2 rs, e = .returned (.agg #[.int .i64 s, .slice A1 n c1, .slice A2 nr c2]) ∧ 2 ≤ s ∧ s ≤ 4 ∧ Rd w' w'.heap.size A1 n gi ∧ n ≤ 16 ∧ OwR w' w.heap.size (.slice A2 nr c2) rs nr ∧ rs.length = nr ∧ nr ≤ 100 ∧ Below w.heap.size w w'
theorem rd_keepV {w w' : World} {G B n : Nat} {A : Option Addr} {xs : List Int} (h : Rd w B A n xs) (hB : B ≤ w.heap.size) (hg : w.grownBy w' (some G)) (hne : ∀ b off, A = some ⟨b, off, none⟩ → G < b) : Rd w' B A n xs := by
  refine ⟨h.1, fun hn => ?_⟩
  obtain ⟨b, off, e, hlt, hc⟩ := h.2 hn
  exact ⟨b, off, e, hlt, fun k hk => (grown_at hg _ _ (hne b off e) (by omega)).trans (hc k hk)⟩
/-- without rules a valid puzzle is valid; with a rule of no kind it is not. -/
theorem pv_none {s : Int} {gi : List Int} {rs : List RuleM} (h : pvB s gi rs = true) : pvB s gi [] = true := pv_nil (pv_gv h).1
theorem rv_zero {v s : Int} {xs : List Int} : rv 0 xs v s = false := by
  have : kindOk 0 v xs.length s = false := by unfold kindOk; simp
  unfold rv
  rw [this, Bool.and_false]
theorem pv_zero {s v : Int} {gi xs : List Int} {rs : List RuleM} : pvB s gi (rs ++ [⟨0, xs, v⟩]) = false := by
  cases h : pvB s gi (rs ++ [⟨0, xs, v⟩])
  · rfl
  · have := (pv_gv h).2.2 rs.length (by simp)
    rw [show rs.length = rs.length + 0 from rfl, rat_right rfl] at this
    have e : rat [(⟨0, xs, v⟩ : RuleM)] 0 = ⟨0, xs, v⟩ := rfl
    rw [e, rvR] at this
    rw [rv_zero] at this
    cases this



end Go.Proofs.Ytjdhfknoldginaa
set_option maxRecDepth 8000
namespace Go.Proofs.Ytjdhfknoldginaa
open Go.ChangeShapes Go.WideShapes Go.ChangeAt Go.RowKit
/-- the first of all solutions; none. -/
def sfL (s : Int) (n : Nat) (gi : List Int) (rs : List RuleM) : List Int := (allS s 1 n gi rs).getD 0 []
def sfB (s : Int) (n : Nat) (gi : List Int) (rs : List RuleM) : Bool := !(allS s 1 n gi rs).isEmpty
set_option maxHeartbeats 1000000 in
theorem specSolveFirst (s : Int) (Ag : Option Addr) (n cg Bg : Nat) (gi : List Int) (Ar : Option Addr) (nr cr Br : Nat) (rs : List RuleM) (w : World) (hp : PGs w s Ag n cg Bg gi Ar nr cr Br rs) :
    Calls Try.prog 26 #[.agg #[.int .i64 s, .slice Ag n cg, .slice Ar nr cr]] w fun e w' => ∃ A m c, e = .returned (.tuple #[.slice A m c, .bool (sfB s n gi rs)]) ∧ (sfB s n gi rs = true → m = n) ∧ Ow w' w.heap.size A m c (sfL s n gi rs) ∧ Below w.heap.size w w' := by
  have hx0 := pbox_new w s Ag n cg Ar nr cr 26
  have hb0 : Below w.heap.size w (w.alloc (.cells #[.int .i64 s, .slice Ag n cg, .slice Ar nr cr] 26)) := (Below.refl _ _).alloc (Nat.le_refl _) _
  have hs0 : w.heap.size < (w.alloc (.cells #[.int .i64 s, .slice Ag n cg, .slice Ar nr cr] 26)).heap.size := by simp
  obtain ⟨z0, z1, z2⟩ := id hx0
  go_enter Try.func26, Try.ntmps26
  go_wp2_with fail
  refine (specAll s 1 Ag n cg Bg gi Ar nr cr Br rs _ (hp.below hb0) (by omega) (by omega)).mono ?_
  rintro e w1 ⟨P, v, rfl, ⟨A, c, vs, rfl, hown, _, hin⟩, hb1⟩
  have h01 := step hb0 hb1
  cases hL : allS s 1 n gi rs with
  | nil =>
    have H1 := Lib.hid (show sfL s n gi rs = [] by simp [sfL, hL])
    have H2 := Lib.hid (show sfB s n gi rs = false by simp [sfB, hL])
    simp only [List.length_nil]
    clear hin hown
    go_wp2
    go_ret2
    rw [H1.out, H2.out]
    exact ⟨_, _, _, rfl, fun h => (by cases h), Ow.made0 _ _ h01.size, h01.alloc h01.size _⟩
  | cons y L =>
    have H1 := Lib.hid (show sfL s n gi rs = y by simp [sfL, hL])
    have H2 := Lib.hid (show sfB s n gi rs = true by simp [sfB, hL])
    rw [hL] at hown hin
    simp only [List.length_cons] at hown hin ⊢
    obtain ⟨A', c', hv, ho, _⟩ := hin 0 (by omega)
    obtain ⟨g, cap, he, _, hg⟩ := World.ownsRow.form hown (by omega)
    injection he with hA _ hc
    subst hA
    have hcell : w1.cell? ⟨g, 0, none⟩ = some (.slice A' n c') := by
      have hk := hv
      subst hc
      have := World.ownsRow.cellAt hown 0 (by omega)
      rw [this]
      simpa using hk
    have hl0 : ((L.length + 1 : Nat) : Int) ≠ 0 := by omega
    have hl1 : (0 : Int) < ((L.length + 1 : Nat) : Int) := by omega
    have hl2 : (((L.length + 1 : Nat) : Int) == 0) = false := by simp only [beq_eq_false_iff_ne]; omega
    obtain ⟨l, hl⟩ : ∃ l, L.length + 1 = l := ⟨_, rfl⟩
    rw [hl] at hl0 hl1 hl2 ⊢
    clear hin hown hL hl hv
    go_wp2
    go_ret2
    rw [H1.out, H2.out]
    simp only [List.getD_cons_zero] at ho
    exact ⟨_, _, _, rfl, fun _ => rfl, ho.mono (Nat.le_succ_of_le (Nat.le_of_lt hs0)), h01⟩
end Go.Proofs.Ytjdhfknoldginaa
