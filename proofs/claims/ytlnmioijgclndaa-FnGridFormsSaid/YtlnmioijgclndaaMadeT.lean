import Derived.Test.YtlnmioijgclndaaMadeG
namespace Go.Proofs.Ytlnmioijgclndaa
open Go.ChangeShapes Go.WideShapes Go.ChangeAt Go.RowKit
/-! The same, with guarded operations: a guard's answer is told by what its operation yields; an operation that is not wanted yields nothing. -/
/-! All operations alike: what they yield is told when all are done. -/
def chkOpsT (ops : Array Oper) (ds : List Nat) : Bool :=
  ops.size == ds.length && ((List.range ops.size).all fun i => match ops[i]? with
    | some o => o.after.all fun e => decide (e.on < i)
    | none => false) && ((List.range ds.length).all fun i => match ops[i]? with
    | some o => decide (o.dst = some (ds.getD i 0)) && (match o.guard with
      | none => true
      | some (j, _) => decide (j < i) && o.after.any fun e => e.on == j && Region.binds .any e)
    | none => false) && decide ds.Nodup
theorem wp_region_madeT {P : Program} {ops : Array Oper} {Q : Exit → Act → World → Prop} {id : Nat} {a0 : Act} {W : World} (m : Nat) (d : Nat → Nat) (G : Nat → Value → World → Prop) (Rel : World → World → Prop) (Eff : Nat → World → World → Prop) (C : Nat → World → Prop) (hC0 : ∀ j, C j W.drew) (hrefl : Rel W W.drew) (htrans : ∀ w w', Rel W w → Rel w w' → Rel W w')
    (hm : P.follows .mixedOrders = true) (hlen : ops.size = m) (hback : ∀ (i : Nat) (o : Oper), ops[i]? = some o → ∀ e ∈ o.after, e.on < i)
    (gv : Nat → Option Bool) (hd : ∀ i o, i < m → ops[i]? = some o → o.dst = some (d i))
    (hgd : ∀ i o j b, i < m → ops[i]? = some o → o.guard = some (j, b) → j < i ∧ (∃ e ∈ o.after, e.on = j ∧ Region.binds .any e = true) ∧ ∀ v w, G j v w → yb v = gv j)
    (hskip : ∀ i o w, i < m → ops[i]? = some o → wantG gv o = false → G i undef w) (hinj : ∀ i j, i < m → j < m → d i = d j → i = j) (hlt : ∀ i, i < m → d i < a0.tmps.size)
    (hG : ∀ j i v w w', j ≠ i → Rel W w → Eff i w w' → G j v w → G j v w')
    (hstep : ∀ i o a w (K : Act → World → Prop) (D : Nat → Prop), (∀ e ∈ o.after, Region.binds .any e = true → D e.on) → (∀ i' o', ops[i']? = some o' → D i' → ∀ e ∈ o'.after, Region.binds .any e = true → D e.on) → i < m → ops[i]? = some o → wantG gv o = true → Rel W w → Off d m a a0 → (∀ e ∈ o.after, Region.binds .any e = true → G e.on (a.eval (.tmp (d e.on))) w) → C i w → (∀ v w', Rel w w' → Eff i w w' → (∀ j, j ≠ i → ¬ D j → C j w → C j w') → G i v w' → K (a.put o.dst v) w') → o.wp P a w K Q)
    (hfin : ∀ a w, Rel W w → Off d m a a0 → (∀ j, j < m → G j (a.eval (.tmp (d j))) w) → Q .normal a w) :
    (Code.region id ops true).wp P Q a0 W := by
  refine wp_region_inv (Inv := fun l a w => (l.size = ops.size ∧ ∀ i' o', ops[i']? = some o' → l.getD i' false = true → ∀ e ∈ o'.after, Region.binds .any e = true → l.getD e.on false = true) ∧ (Rel W w ∧ Off d m a a0 ∧ (∀ j, l.getD j false = false → C j w) ∧ ∀ j, j < m → l.getD j false = true → G j (a.eval (.tmp (d j))) w)) hm hback (fun l a w h => h.1.1) ?step ?done ?h0
  case done =>
    rintro l a w ⟨_, hb, hoff, _, hg⟩ hall
    exact hfin a w hb hoff (fun j hj => hg j hj (hall j (by omega)))
  case h0 =>
    refine ⟨⟨by simp, fun i' o' _ hd' => by rw [Array.getD_eq_getD_getElem?, Array.getElem?_replicate] at hd'; split at hd' <;> cases hd'⟩, hrefl, ⟨rfl, rfl, fun _ _ => rfl⟩, fun j _ => hC0 j, fun j hj hlj => ?_⟩
    simp at hlj
    have : j < ops.size := by omega
    simp [this] at hlj
  case step =>
    rintro l a w i o ⟨⟨hs, hcl⟩, hb, hoff, hcj, hg⟩ ho hli hall
    have hi : i < ops.size := (Array.getElem?_eq_some_iff.1 ho).1
    have hil : i < l.size := by omega
    refine wpOp_step ho (fun K hK => ?_)
    have hset : ∀ j, (l.setIfInBounds i true).getD j false = if j = i then true else l.getD j false := fun j => by
      by_cases e : j = i
      · subst e; simp [hil]
      · rw [if_neg e]; simp [Array.getElem?_setIfInBounds_ne (fun e' => e (Eq.symm e'))]
    have hsz : (l.setIfInBounds i true).size = ops.size ∧ ∀ i' o', ops[i']? = some o' → (l.setIfInBounds i true).getD i' false = true → ∀ e ∈ o'.after, Region.binds .any e = true → (l.setIfInBounds i true).getD e.on false = true := by
      refine ⟨by simpa using hs, fun i' o' ho' hd' e he hbd => ?_⟩
      rw [hset] at hd' ⊢
      split
      · rfl
      · split at hd'
        · rename_i _ hii
          subst hii
          rw [ho] at ho'
          injection ho' with ho'
          subst ho'
          exact hall e he hbd
        · exact hcl i' o' ho' hd' e he hbd
    have him' : i < m := by omega
    have q1 := hd i o him' ho
    have hpre : ∀ e ∈ o.after, Region.binds .any e = true → G e.on (a.eval (.tmp (d e.on))) w := fun e he hbd => hg e.on (Nat.lt_trans (hback i o ho e he) him') (hall e he hbd)
    have hwant : Region.wanted o (yielded ops a.tmps) = wantG gv o := by
      unfold Region.wanted wantG
      cases eg : o.guard with
      | none => rfl
      | some jb =>
        obtain ⟨j, b⟩ := jb
        obtain ⟨hji, ⟨e, he, hej, hbd⟩, hyb⟩ := hgd i o j b him' ho eg
        have hlj : l.getD j false = true := by rw [← hej]; exact hall e he hbd
        have hgj := hg j (by omega) hlj
        have := hyb _ _ hgj
        have hjs : j < ops.size := by omega
        have hdj := hd j ops[j] (by omega) (Array.getElem?_eq_getElem hjs)
        simp only
        rw [yielded_at (Array.getElem?_eq_getElem hjs) hdj (by rw [hoff.1]; exact hlt j (by omega)), this]
    rw [hwant]
    have hdlt : d i < a.tmps.size := by rw [hoff.1]; exact hlt i him'
    have hput : ∀ v, Off d m (a.put o.dst v) a0 := fun v => by
      rw [q1]
      refine ⟨by rw [size_put]; exact hoff.1, hoff.2.1, fun t ht => ?_⟩
      rw [← hoff.2.2 t ht]
      simp [Act.put, Array.getElem?_setIfInBounds_ne (ht i him')]
    cases hwv : wantG gv o
    · rw [if_neg (by simp)]
      refine hK _ _ ⟨hsz, hb, hput _, fun j hlj => (by rw [hset] at hlj; split at hlj; (cases hlj); exact hcj j hlj), fun j hj hlj => ?_⟩
      rw [q1]
      by_cases e : j = i
      · subst e; rw [eval_put_same hdlt]; exact hskip j o w him' ho hwv
      · rw [eval_put_ne (fun e' => e (hinj _ _ hj him' e'.symm))]
        rw [hset, if_neg e] at hlj
        exact hg j hj hlj
    · rw [if_pos rfl]
      refine hstep i o a w K (fun j => l.getD j false = true) hall hcl him' ho hwv hb hoff hpre (hcj i (by simp [hil] at hli ⊢; exact hli)) (fun v w' hb' hef hcs hgi => ?_)
      refine hK _ _ ⟨hsz, htrans _ _ hb hb', hput _, fun j hlj => (by rw [hset] at hlj; split at hlj; (cases hlj); (rename_i hji; exact hcs j hji (fun e2 => by rw [e2] at hlj; cases hlj) (hcj j hlj))), fun j hj hlj => ?_⟩
      rw [q1]
      by_cases e : j = i
      · subst e; rw [eval_put_same hdlt]; exact hgi
      · rw [eval_put_ne (fun e' => e (hinj _ _ hj him' e'.symm))]
        rw [hset, if_neg e] at hlj
        exact hG _ _ _ _ _ e hb hef (hg j hj hlj)
theorem wp_region_dsT {P : Program} {ops : Array Oper} {Q : Exit → Act → World → Prop} {id : Nat} {a0 : Act} {W : World} (ds : List Nat) (G : Nat → Value → World → Prop) (Rel : World → World → Prop) (Eff : Nat → World → World → Prop) (C : Nat → World → Prop) (hC0 : ∀ j, C j W.drew) (hrefl : Rel W W.drew) (htrans : ∀ w w', Rel W w → Rel w w' → Rel W w')
    (gv : Nat → Option Bool) (hm : P.follows .mixedOrders = true) (hc : chkOpsT ops ds = true) (hlt : ∀ t ∈ ds, t < a0.tmps.size)
    (hgy : ∀ i o j b, i < ds.length → ops[i]? = some o → o.guard = some (j, b) → ∀ v w, G j v w → yb v = gv j) (hskip : ∀ i o w, i < ds.length → ops[i]? = some o → wantG gv o = false → G i undef w)
    (hG : ∀ j i v w w', j ≠ i → Rel W w → Eff i w w' → G j v w → G j v w')
    (hstep : ∀ (i : Nat) (o : Oper) (a : Act) (w : World) (K : Act → World → Prop) (D : Nat → Prop), (∀ e ∈ o.after, Region.binds .any e = true → D e.on) → (∀ i' o', ops[i']? = some o' → D i' → ∀ e ∈ o'.after, Region.binds .any e = true → D e.on) → i < ds.length → ops[i]? = some o → wantG gv o = true → Rel W w → (∀ t, t ∉ ds → a.eval (.tmp t) = a0.eval (.tmp t)) → (∀ e ∈ o.after, Region.binds .any e = true → G e.on (a.eval (.tmp (ds.getD e.on 0))) w) → C i w → (∀ v w', Rel w w' → Eff i w w' → (∀ j, j ≠ i → ¬ D j → C j w → C j w') → G i v w' → K (a.put o.dst v) w') → o.wp P a w K Q)
    (hfin : ∀ (a : Act) (w : World), Rel W w → a.defers = a0.defers → a.tmps = ds.foldl (fun tm t => tm.setIfInBounds t (a.tmps.getD t undef)) a0.tmps → (∀ j, j < ds.length → G j (a.eval (.tmp (ds.getD j 0))) w) → Q .normal a w) :
    (Code.region id ops true).wp P Q a0 W := by
  simp only [chkOpsT, Bool.and_eq_true, beq_iff_eq, List.all_eq_true, List.mem_range, decide_eq_true_eq] at hc
  obtain ⟨⟨⟨c1, c2⟩, c3⟩, c5⟩ := hc
  have hout : ∀ t, t ∉ ds → ∀ j, j < ds.length → ds.getD j 0 ≠ t := fun t ht j hj e => ht (by
    rw [← e, List.getD_eq_getElem?_getD, List.getElem?_eq_getElem hj]; exact List.getElem_mem _)
  have hmem : ∀ j, j < ds.length → ds.getD j 0 ∈ ds := fun j hj => by
    rw [List.getD_eq_getElem?_getD, List.getElem?_eq_getElem hj]; exact List.getElem_mem _
  refine wp_region_madeT ds.length (fun j => ds.getD j 0) G Rel Eff C hC0 hrefl htrans hm c1 ?back gv ?hd ?hgd hskip ?inj (fun i hi => hlt _ (hmem i hi)) hG ?step ?fin
  case back =>
    intro i o ho e he
    have hi : i < ops.size := (Array.getElem?_eq_some_iff.1 ho).1
    have := c2 i hi
    rw [ho] at this
    simp only [Array.all_eq_true_iff_forall_mem, decide_eq_true_eq] at this
    exact this e he
  case hd =>
    intro i o hi ho
    have := c3 i hi
    rw [ho] at this
    simp only [Bool.and_eq_true, decide_eq_true_eq] at this
    exact this.1
  case hgd =>
    intro i o j b hi ho hg
    have := c3 i hi
    rw [ho] at this
    simp only [Bool.and_eq_true, decide_eq_true_eq, hg] at this
    obtain ⟨_, h1, h2⟩ := this
    obtain ⟨e, he, h⟩ := Array.any_eq_true'.1 h2
    rw [Bool.and_eq_true, beq_iff_eq] at h
    exact ⟨h1, ⟨e, he, h.1, h.2⟩, hgy i o j b hi ho hg⟩
  case inj =>
    intro i j hi hj e
    simp only [List.getD_eq_getElem?_getD, List.getElem?_eq_getElem hi, List.getElem?_eq_getElem hj, Option.getD_some] at e
    exact (List.getElem_inj c5).1 e
  case step =>
    intro i o a w K D hD hcl hi ho hwv hb hoff hpre hc hK
    exact hstep i o a w K D hD hcl hi ho hwv hb (fun t ht => hoff.eval (hout t ht)) hpre hc hK
  case fin =>
    intro a w hb hoff hpre
    exact hfin a w hb hoff.2.1 (frame_of ds hoff.1 (fun t ht => hoff.2.2 t (hout t ht))) hpre
end Go.Proofs.Ytlnmioijgclndaa
