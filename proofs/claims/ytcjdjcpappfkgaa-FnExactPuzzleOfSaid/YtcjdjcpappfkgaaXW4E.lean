import Derived.Test.YtcjdjcpappfkgaaXLast
import Derived.Test.YtcjdjcpappfkgaaBase
import Derived.Test.YtcjdjcpappfkgaaXL43
import Derived.Test.YtcjdjcpappfkgaaOwn
import Derived.Lib.SliceRun
import Derived.Test.YtcjdjcpappfkgaaI5V
import Derived.Test.YtcjdjcpappfkgaaQ4R
import Derived.Test.YtcjdjcpappfkgaaXRInts
namespace Go.Proofs.Ytcjdjcpappfkgaa
open Go.ChangeShapes Go.WideShapes Go.ChangeAt Go.RowKit
/-! A region that draws its order and makes values and new blocks alone, but for its last operation, a store. -/
/-- Two frames agree outside some slots. -/
def Off (d : Nat → Nat) (m : Nat) (a a0 : Act) : Prop := a.tmps.size = a0.tmps.size ∧ a.defers = a0.defers ∧ ∀ t, (∀ j, j < m → d j ≠ t) → a.tmps[t]? = a0.tmps[t]?
theorem Off.eval {d : Nat → Nat} {m : Nat} {a a0 : Act} (h : Off d m a a0) {t : Nat} (ht : ∀ j, j < m → d j ≠ t) : a.eval (.tmp t) = a0.eval (.tmp t) := by
  simp [Act.eval, h.2.2 t ht]
theorem wp_region_made {P : Program} {ops : Array Oper} {Q : Exit → Act → World → Prop} {id : Nat} {a0 : Act} {W : World} (m : Nat) (d : Nat → Nat) (G : Nat → Value → World → Prop)
    (hm : P.follows .mixedOrders = true) (hlen : ops.size = m + 1) (hback : ∀ (i : Nat) (o : Oper), ops[i]? = some o → ∀ e ∈ o.after, e.on < i)
    (hd : ∀ i o, i < m → ops[i]? = some o → o.dst = some (d i) ∧ o.guard = none) (hinj : ∀ i j, i < m → j < m → d i = d j → i = j) (hlt : ∀ i, i < m → d i < a0.tmps.size)
    (hl : ∀ o, ops[m]? = some o → o.dst = none ∧ o.guard = none ∧ ∀ j, j < m → ∃ e ∈ o.after, e.on = j ∧ Region.binds .any e = true)
    (hG : ∀ j v w w', Below w.heap.size w w' → G j v w → G j v w')
    (hstep : ∀ i o a w, i < m → ops[i]? = some o → Below W.heap.size W w → Off d m a a0 → (∀ e ∈ o.after, Region.binds .any e = true → G e.on (a.eval (.tmp (d e.on))) w) → ∃ v w', (execOp a.eval o).run P w = .ok (.value v) w' ∧ Below w.heap.size w w' ∧ G i v w')
    (hlast : ∀ o a w, ops[m]? = some o → Below W.heap.size W w → Off d m a a0 → (∀ j, j < m → G j (a.eval (.tmp (d j))) w) → ∃ w', (execOp a.eval o).run P w = .ok .skip w' ∧ Q .normal a w') :
    (Code.region id ops true).wp P Q a0 W := by
  refine wp_region_inv (Inv := fun l a w => l.size = ops.size ∧ ((l.getD m false = false ∧ Below W.heap.size W w ∧ Off d m a a0 ∧ ∀ j, j < m → l.getD j false = true → G j (a.eval (.tmp (d j))) w) ∨ ((∀ j, j < ops.size → l.getD j false = true) ∧ Q .normal a w))) hm hback (fun l a w h => h.1) ?step ?done ?h0
  case done =>
    rintro l a w ⟨hs, h⟩ hall
    rcases h with ⟨h1, _⟩ | ⟨_, h⟩
    · rw [hall m (by omega)] at h1; cases h1
    · exact h
  case h0 =>
    refine ⟨by simp, .inl ⟨by rw [Array.getD_eq_getD_getElem?, Array.getElem?_replicate]; split <;> rfl, (Below.refl W.heap.size W).drew, ⟨rfl, rfl, fun _ _ => rfl⟩, fun j hj hlj => ?_⟩⟩
    simp at hlj
    have : j < ops.size := by omega
    simp [this] at hlj
  case step =>
    rintro l a w i o ⟨hs, h⟩ ho hli hall
    have hi : i < ops.size := (Array.getElem?_eq_some_iff.1 ho).1
    have hil : i < l.size := by omega
    rcases h with ⟨h1, hb, hoff, hg⟩ | ⟨h, _⟩
    · refine wpOp_step ho (fun K hK => ?_)
      have hsz : (l.setIfInBounds i true).size = ops.size := by simpa using hs
      by_cases him : i = m
      · subst him
        obtain ⟨q1, q2, q3⟩ := hl o ho
        have hallj : ∀ j, j < i → l.getD j false = true := fun j hj => by
          obtain ⟨e, he, rfl, hbd⟩ := q3 j hj
          exact hall e he hbd
        obtain ⟨w', hrun, hq⟩ := hlast o a w ho hb hoff (fun j hj => hg j hj (hallj j hj))
        rw [if_pos (by simp [Region.wanted, q2])]
        unfold Oper.wp
        rw [hrun]
        have hput : a.put o.dst undef = a := by rw [q1]; rfl
        refine hK _ _ ⟨hsz, .inr ⟨fun j hj => ?_, ?_⟩⟩
        · by_cases e : j = i
          · subst e; simp [hil]
          · have := hallj j (by omega)
            have hjl : j < l.size := by omega
            have hset : (l.setIfInBounds i true).getD j false = l.getD j false := by simp [Array.getElem?_setIfInBounds_ne (fun e' => e (Eq.symm e'))]
            rw [hset]; exact this
        · first | exact hq | (rw [hput]; exact hq)
      · have him' : i < m := by omega
        obtain ⟨q1, q2⟩ := hd i o him' ho
        have hpre : ∀ e ∈ o.after, Region.binds .any e = true → G e.on (a.eval (.tmp (d e.on))) w := fun e he hbd => hg e.on (Nat.lt_trans (hback i o ho e he) him') (hall e he hbd)
        obtain ⟨v, w', hrun, hb', hgi⟩ := hstep i o a w him' ho hb hoff hpre
        rw [if_pos (by simp [Region.wanted, q2])]
        unfold Oper.wp
        rw [hrun]
        have hdlt : d i < a.tmps.size := by rw [hoff.1]; exact hlt i him'
        have hset : ∀ j, (l.setIfInBounds i true).getD j false = if j = i then true else l.getD j false := fun j => by
          by_cases e : j = i
          · subst e; simp [hil]
          · rw [if_neg e]; simp [Array.getElem?_setIfInBounds_ne (fun e' => e (Eq.symm e'))]
        refine hK _ _ ⟨hsz, .inl ⟨by rw [hset, if_neg (fun e => him e.symm)]; exact h1, step hb hb', ?_, fun j hj hlj => ?_⟩⟩
        · rw [q1]
          refine ⟨by rw [size_put]; exact hoff.1, hoff.2.1, fun t ht => ?_⟩
          rw [← hoff.2.2 t ht]
          simp [Act.put, Array.getElem?_setIfInBounds_ne (ht i him')]
        · rw [q1]
          by_cases e : j = i
          · subst e; rw [eval_put_same hdlt]; exact hgi
          · rw [eval_put_ne (fun e' => e (hinj _ _ hj him' e'.symm))]
            rw [hset, if_neg e] at hlj
            exact hG _ _ _ _ hb' (hg j hj hlj)
    · have := h i hi
      simp [hil] at hli this
      rw [this] at hli; cases hli
/-- What the kernel reckons of a region whose operations write the slots ds, in order, and whose last one is a store that waits for all. -/
def chkOps (ops : Array Oper) (ds : List Nat) : Bool :=
  ops.size == ds.length + 1 && ((List.range ops.size).all fun i => match ops[i]? with
    | some o => o.after.all fun e => decide (e.on < i)
    | none => false) && ((List.range ds.length).all fun i => match ops[i]? with
    | some o => decide (o.dst = some (ds.getD i 0)) && o.guard.isNone
    | none => false) && (match ops[ds.length]? with
    | some o => o.dst.isNone && o.guard.isNone && (List.range ds.length).all fun j => o.after.any fun e => e.on == j && Region.binds .any e
    | none => false) && decide ds.Nodup
theorem wp_region_ds {P : Program} {ops : Array Oper} {Q : Exit → Act → World → Prop} {id : Nat} {a0 : Act} {W : World} (ds : List Nat) (G : Nat → Value → World → Prop)
    (hm : P.follows .mixedOrders = true) (hc : chkOps ops ds = true) (hlt : ∀ t ∈ ds, t < a0.tmps.size)
    (hG : ∀ j v w w', Below w.heap.size w w' → G j v w → G j v w')
    (hstep : ∀ (i : Nat) (o : Oper) (a : Act) (w : World), i < ds.length → ops[i]? = some o → Below W.heap.size W w → (∀ t, t ∉ ds → a.eval (.tmp t) = a0.eval (.tmp t)) → (∀ e ∈ o.after, Region.binds .any e = true → G e.on (a.eval (.tmp (ds.getD e.on 0))) w) → ∃ v w', (execOp a.eval o).run P w = .ok (.value v) w' ∧ Below w.heap.size w w' ∧ G i v w')
    (hlast : ∀ (o : Oper) (a : Act) (w : World), ops[ds.length]? = some o → Below W.heap.size W w → a.defers = a0.defers → a.tmps = ds.foldl (fun tm t => tm.setIfInBounds t (a.tmps.getD t undef)) a0.tmps → (∀ t, t ∉ ds → a.eval (.tmp t) = a0.eval (.tmp t)) → (∀ j, j < ds.length → G j (a.eval (.tmp (ds.getD j 0))) w) → ∃ w', (execOp a.eval o).run P w = .ok .skip w' ∧ Q .normal a w') :
    (Code.region id ops true).wp P Q a0 W := by
  simp only [chkOps, Bool.and_eq_true, beq_iff_eq, List.all_eq_true, List.mem_range, decide_eq_true_eq] at hc
  obtain ⟨⟨⟨⟨c1, c2⟩, c3⟩, c4⟩, c5⟩ := hc
  have hout : ∀ t, t ∉ ds → ∀ j, j < ds.length → ds.getD j 0 ≠ t := fun t ht j hj e => ht (by
    rw [← e, List.getD_eq_getElem?_getD, List.getElem?_eq_getElem hj]; exact List.getElem_mem _)
  have hmem : ∀ j, j < ds.length → ds.getD j 0 ∈ ds := fun j hj => by
    rw [List.getD_eq_getElem?_getD, List.getElem?_eq_getElem hj]; exact List.getElem_mem _
  refine wp_region_made ds.length (fun j => ds.getD j 0) G hm c1 ?back ?hd ?inj (fun i hi => hlt _ (hmem i hi)) ?hl hG ?step ?last
  case back =>
    intro i o ho e he
    have hi : i < ops.size := (Array.getElem?_eq_some_iff.1 ho).1
    have := c2 i hi
    rw [ho] at this
    simp only [Array.all_eq_true_iff_forall_mem, decide_eq_true_eq] at this
    exact this e he
  case hd =>
    intro i o hi ho
    have := c3 i hi
    rw [ho] at this
    simp only [Bool.and_eq_true, decide_eq_true_eq, Option.isNone_iff_eq_none] at this
    exact this
  case inj =>
    intro i j hi hj e
    simp only [List.getD_eq_getElem?_getD, List.getElem?_eq_getElem hi, List.getElem?_eq_getElem hj, Option.getD_some] at e
    exact (List.getElem_inj c5).1 e
  case hl =>
    intro o ho
    rw [ho] at c4
    simp only [Bool.and_eq_true, Option.isNone_iff_eq_none, List.all_eq_true, List.mem_range] at c4
    refine ⟨c4.1.1, c4.1.2, fun j hj => ?_⟩
    obtain ⟨e, he, h⟩ := Array.any_eq_true'.1 (c4.2 j hj)
    rw [Bool.and_eq_true, beq_iff_eq] at h
    exact ⟨e, he, h.1, h.2⟩
  case step =>
    intro i o a w hi ho hb hoff hpre
    exact hstep i o a w hi ho hb (fun t ht => hoff.eval (hout t ht)) hpre
  case last =>
    intro o a w ho hb hoff hpre
    refine hlast o a w ho hb hoff.2.1 (frame_of ds hoff.1 (fun t ht => hoff.2.2 t (hout t ht))) (fun t ht => hoff.eval (hout t ht)) hpre
end Go.Proofs.Ytcjdjcpappfkgaa
namespace Go.Proofs.Ytcjdjcpappfkgaa
open Go.ChangeShapes Go.WideShapes Go.ChangeAt Go.RowKit
/-! The same with calls: what one operation does to the world is any relation of the author's. -/
/-- an operation that makes a value. -/
theorem oper_val {P : Program} {o : Oper} {a : Act} {w w' : World} {K : Act → World → Prop} {Q : Exit → Act → World → Prop} {v : Value} (hrun : (execOp a.eval o).run P w = .ok (.value v) w') (h : K (a.put o.dst v) w') : o.wp P a w K Q := by
  unfold Oper.wp
  rw [hrun]
  exact h
/-- an operation that calls a function. -/
theorem oper_call {P : Program} {o : Oper} {a : Act} {w : World} {K : Act → World → Prop} {Q : Exit → Act → World → Prop} {f : FuncId} {args : Array Value} {R : Ending → World → Prop} (hrun : (execOp a.eval o).run P w = .ok (.enter f args) w) (hc : Calls P f args w R) (h : ∀ e w', R e w' → ∃ v, e = .returned v ∧ K (a.put o.dst v) w') : o.wp P a w K Q := by
  unfold Oper.wp
  rw [hrun]
  refine hc.mono (fun e w' hr => ?_)
  obtain ⟨v, rfl, hk⟩ := h e w' hr
  exact hk
theorem wp_region_madeR {P : Program} {ops : Array Oper} {Q : Exit → Act → World → Prop} {id : Nat} {a0 : Act} {W : World} (m : Nat) (d : Nat → Nat) (G : Nat → Value → World → Prop) (Rel : World → World → Prop) (Eff : Nat → World → World → Prop) (C : Nat → World → Prop) (hC0 : ∀ j, C j W.drew) (hrefl : Rel W W.drew) (htrans : ∀ w w', Rel W w → Rel w w' → Rel W w')
    (hm : P.follows .mixedOrders = true) (hlen : ops.size = m + 1) (hback : ∀ (i : Nat) (o : Oper), ops[i]? = some o → ∀ e ∈ o.after, e.on < i)
    (hd : ∀ i o, i < m → ops[i]? = some o → o.dst = some (d i) ∧ o.guard = none) (hinj : ∀ i j, i < m → j < m → d i = d j → i = j) (hlt : ∀ i, i < m → d i < a0.tmps.size)
    (hl : ∀ o, ops[m]? = some o → o.dst = none ∧ o.guard = none ∧ ∀ j, j < m → ∃ e ∈ o.after, e.on = j ∧ Region.binds .any e = true)
    (hG : ∀ j i v w w', j ≠ i → Rel W w → Eff i w w' → G j v w → G j v w')
    (hstep : ∀ i o a w (K : Act → World → Prop), i < m → ops[i]? = some o → Rel W w → Off d m a a0 → (∀ e ∈ o.after, Region.binds .any e = true → G e.on (a.eval (.tmp (d e.on))) w) → C i w → (∀ v w', Rel w w' → Eff i w w' → (∀ j, j ≠ i → C j w → C j w') → G i v w' → K (a.put o.dst v) w') → o.wp P a w K Q)
    (hlast : ∀ o a w, ops[m]? = some o → Rel W w → Off d m a a0 → (∀ j, j < m → G j (a.eval (.tmp (d j))) w) → ∃ w', (execOp a.eval o).run P w = .ok .skip w' ∧ Q .normal a w') :
    (Code.region id ops true).wp P Q a0 W := by
  refine wp_region_inv (Inv := fun l a w => l.size = ops.size ∧ ((l.getD m false = false ∧ Rel W w ∧ Off d m a a0 ∧ (∀ j, l.getD j false = false → C j w) ∧ ∀ j, j < m → l.getD j false = true → G j (a.eval (.tmp (d j))) w) ∨ ((∀ j, j < ops.size → l.getD j false = true) ∧ Q .normal a w))) hm hback (fun l a w h => h.1) ?step ?done ?h0
  case done =>
    rintro l a w ⟨hs, h⟩ hall
    rcases h with ⟨h1, _⟩ | ⟨_, h⟩
    · rw [hall m (by omega)] at h1; cases h1
    · exact h
  case h0 =>
    refine ⟨by simp, .inl ⟨by rw [Array.getD_eq_getD_getElem?, Array.getElem?_replicate]; split <;> rfl, hrefl, ⟨rfl, rfl, fun _ _ => rfl⟩, fun j _ => hC0 j, fun j hj hlj => ?_⟩⟩
    simp at hlj
    have : j < ops.size := by omega
    simp [this] at hlj
  case step =>
    rintro l a w i o ⟨hs, h⟩ ho hli hall
    have hi : i < ops.size := (Array.getElem?_eq_some_iff.1 ho).1
    have hil : i < l.size := by omega
    rcases h with ⟨h1, hb, hoff, hcj, hg⟩ | ⟨h, _⟩
    · refine wpOp_step ho (fun K hK => ?_)
      have hsz : (l.setIfInBounds i true).size = ops.size := by simpa using hs
      by_cases him : i = m
      · subst him
        obtain ⟨q1, q2, q3⟩ := hl o ho
        have hallj : ∀ j, j < i → l.getD j false = true := fun j hj => by
          obtain ⟨e, he, rfl, hbd⟩ := q3 j hj
          exact hall e he hbd
        obtain ⟨w', hrun, hq⟩ := hlast o a w ho hb hoff (fun j hj => hg j hj (hallj j hj))
        rw [if_pos (by simp [Region.wanted, q2])]
        unfold Oper.wp
        rw [hrun]
        have hput : a.put o.dst undef = a := by rw [q1]; rfl
        refine hK _ _ ⟨hsz, .inr ⟨fun j hj => ?_, ?_⟩⟩
        · by_cases e : j = i
          · subst e; simp [hil]
          · have := hallj j (by omega)
            have hjl : j < l.size := by omega
            have hset : (l.setIfInBounds i true).getD j false = l.getD j false := by simp [Array.getElem?_setIfInBounds_ne (fun e' => e (Eq.symm e'))]
            rw [hset]; exact this
        · first | exact hq | (rw [hput]; exact hq)
      · have him' : i < m := by omega
        obtain ⟨q1, q2⟩ := hd i o him' ho
        have hpre : ∀ e ∈ o.after, Region.binds .any e = true → G e.on (a.eval (.tmp (d e.on))) w := fun e he hbd => hg e.on (Nat.lt_trans (hback i o ho e he) him') (hall e he hbd)
        rw [if_pos (by simp [Region.wanted, q2])]
        refine hstep i o a w K him' ho hb hoff hpre (hcj i (by simp [hil] at hli ⊢; exact hli)) (fun v w' hb' hef hcs hgi => ?_)
        have hdlt : d i < a.tmps.size := by rw [hoff.1]; exact hlt i him'
        have hset : ∀ j, (l.setIfInBounds i true).getD j false = if j = i then true else l.getD j false := fun j => by
          by_cases e : j = i
          · subst e; simp [hil]
          · rw [if_neg e]; simp [Array.getElem?_setIfInBounds_ne (fun e' => e (Eq.symm e'))]
        refine hK _ _ ⟨hsz, .inl ⟨by rw [hset, if_neg (fun e => him e.symm)]; exact h1, htrans _ _ hb hb', ?_, fun j hlj => (by rw [hset] at hlj; split at hlj; (cases hlj); (rename_i hji; exact hcs j hji (hcj j hlj))), fun j hj hlj => ?_⟩⟩
        · rw [q1]
          refine ⟨by rw [size_put]; exact hoff.1, hoff.2.1, fun t ht => ?_⟩
          rw [← hoff.2.2 t ht]
          simp [Act.put, Array.getElem?_setIfInBounds_ne (ht i him')]
        · rw [q1]
          by_cases e : j = i
          · subst e; rw [eval_put_same hdlt]; exact hgi
          · rw [eval_put_ne (fun e' => e (hinj _ _ hj him' e'.symm))]
            rw [hset, if_neg e] at hlj
            exact hG _ _ _ _ _ e hb hef (hg j hj hlj)
    · have := h i hi
      simp [hil] at hli this
      rw [this] at hli; cases hli
theorem wp_region_dsR {P : Program} {ops : Array Oper} {Q : Exit → Act → World → Prop} {id : Nat} {a0 : Act} {W : World} (ds : List Nat) (G : Nat → Value → World → Prop) (Rel : World → World → Prop) (Eff : Nat → World → World → Prop) (C : Nat → World → Prop) (hC0 : ∀ j, C j W.drew) (hrefl : Rel W W.drew) (htrans : ∀ w w', Rel W w → Rel w w' → Rel W w')
    (hm : P.follows .mixedOrders = true) (hc : chkOps ops ds = true) (hlt : ∀ t ∈ ds, t < a0.tmps.size)
    (hG : ∀ j i v w w', j ≠ i → Rel W w → Eff i w w' → G j v w → G j v w')
    (hstep : ∀ (i : Nat) (o : Oper) (a : Act) (w : World) (K : Act → World → Prop), i < ds.length → ops[i]? = some o → Rel W w → (∀ t, t ∉ ds → a.eval (.tmp t) = a0.eval (.tmp t)) → (∀ e ∈ o.after, Region.binds .any e = true → G e.on (a.eval (.tmp (ds.getD e.on 0))) w) → C i w → (∀ v w', Rel w w' → Eff i w w' → (∀ j, j ≠ i → C j w → C j w') → G i v w' → K (a.put o.dst v) w') → o.wp P a w K Q)
    (hlast : ∀ (o : Oper) (a : Act) (w : World), ops[ds.length]? = some o → Rel W w → a.defers = a0.defers → a.tmps = ds.foldl (fun tm t => tm.setIfInBounds t (a.tmps.getD t undef)) a0.tmps → (∀ t, t ∉ ds → a.eval (.tmp t) = a0.eval (.tmp t)) → (∀ j, j < ds.length → G j (a.eval (.tmp (ds.getD j 0))) w) → ∃ w', (execOp a.eval o).run P w = .ok .skip w' ∧ Q .normal a w') :
    (Code.region id ops true).wp P Q a0 W := by
  simp only [chkOps, Bool.and_eq_true, beq_iff_eq, List.all_eq_true, List.mem_range, decide_eq_true_eq] at hc
  obtain ⟨⟨⟨⟨c1, c2⟩, c3⟩, c4⟩, c5⟩ := hc
  have hout : ∀ t, t ∉ ds → ∀ j, j < ds.length → ds.getD j 0 ≠ t := fun t ht j hj e => ht (by
    rw [← e, List.getD_eq_getElem?_getD, List.getElem?_eq_getElem hj]; exact List.getElem_mem _)
  have hmem : ∀ j, j < ds.length → ds.getD j 0 ∈ ds := fun j hj => by
    rw [List.getD_eq_getElem?_getD, List.getElem?_eq_getElem hj]; exact List.getElem_mem _
  refine wp_region_madeR ds.length (fun j => ds.getD j 0) G Rel Eff C hC0 hrefl htrans hm c1 ?back ?hd ?inj (fun i hi => hlt _ (hmem i hi)) ?hl hG ?step ?last
  case back =>
    intro i o ho e he
    have hi : i < ops.size := (Array.getElem?_eq_some_iff.1 ho).1
    have := c2 i hi
    rw [ho] at this
    simp only [Array.all_eq_true_iff_forall_mem, decide_eq_true_eq] at this
    exact this e he
  case hd =>
    intro i o hi ho
    have := c3 i hi
    rw [ho] at this
    simp only [Bool.and_eq_true, decide_eq_true_eq, Option.isNone_iff_eq_none] at this
    exact this
  case inj =>
    intro i j hi hj e
    simp only [List.getD_eq_getElem?_getD, List.getElem?_eq_getElem hi, List.getElem?_eq_getElem hj, Option.getD_some] at e
    exact (List.getElem_inj c5).1 e
  case hl =>
    intro o ho
    rw [ho] at c4
    simp only [Bool.and_eq_true, Option.isNone_iff_eq_none, List.all_eq_true, List.mem_range] at c4
    refine ⟨c4.1.1, c4.1.2, fun j hj => ?_⟩
    obtain ⟨e, he, h⟩ := Array.any_eq_true'.1 (c4.2 j hj)
    rw [Bool.and_eq_true, beq_iff_eq] at h
    exact ⟨e, he, h.1, h.2⟩
  case step =>
    intro i o a w K hi ho hb hoff hpre hc hK
    exact hstep i o a w K hi ho hb (fun t ht => hoff.eval (hout t ht)) hpre hc hK
  case last =>
    intro o a w ho hb hoff hpre
    refine hlast o a w ho hb hoff.2.1 (frame_of ds hoff.1 (fun t ht => hoff.2.2 t (hout t ht))) (fun t ht => hoff.eval (hout t ht)) hpre
end Go.Proofs.Ytcjdjcpappfkgaa
set_option maxRecDepth 8000
namespace Go.Proofs.Ytcjdjcpappfkgaa
open Go.ChangeShapes Go.WideShapes Go.ChangeAt Go.RowKit
/-! slices.Clone of ints. -/
theorem clone_any (A : Option Addr) (n c B : Nat) (xs : List Int) (w : World) (h : Rd w B A n xs) (hB : B ≤ w.heap.size) (hn : 0 < n) (hm : n ≤ 1099511627776) :
    Calls Try.prog 31 #[.slice A n c] w fun e w' => ∃ A' c', e = .returned (.slice A' n c') ∧ Ow w' w.heap.size A' n c' xs ∧ Below w.heap.size w w' := by
  obtain ⟨b, off, rfl, _, _⟩ := h.at_ hn
  have hb0 : Below w.heap.size w (w.alloc (.cells #[] 3)) := (Below.refl _ _).alloc (Nat.le_refl _) _
  have HO := Lib.hid (Ow.made0 w w.heap.size (Nat.le_refl _))
  have HR := Lib.hid (h.below (hb0.mono hB))
  have hsO : w.heap.size ≤ (w.alloc (.cells #[] 3)).heap.size := by simp
  have hcmp := fun w' => Lib.run_eql_slice_nil (P := Try.prog) w' 22 3 (some ⟨b, off, none⟩) n c 0 0 Try.underlying22
  go_enter Try.func31, Try.ntmps31
  go_wp2_with (at_builtin; (refine push_new rfl (.tmp 5) (.tmp 6) rfl w.heap.size (some ⟨w.heap.size, 0, none⟩) (some ⟨b, off, none⟩) n c B xs rfl rfl HO.out HR.out hm hsO ?_); intro A1 c1 w1 ho1 hg1; have hb1 := hb0.grown hg1 hb0.size (fun k hk => HO.out.own_lo k hk))
  go_ret
  exact ⟨_, _, rfl, ho1, hb1⟩
end Go.Proofs.Ytcjdjcpappfkgaa
set_option maxRecDepth 8000
namespace Go.Proofs.Ytcjdjcpappfkgaa
open Go.ChangeShapes Go.WideShapes Go.ChangeAt Go.RowKit
/-! a puzzle in memory of its own. -/
theorem OwRd.bound {w : World} {lo g n u : Nat} {rs : List RuleM} {Q : Nat → Prop} (h : OwRd w lo g n rs Q u) : OwRd w lo g n rs (fun b => Q b ∧ b < w.heap.size) u := by
  obtain ⟨vs, a, b, c⟩ := h
  refine ⟨vs, a, fun i hi => ?_, c⟩
  obtain ⟨A', c', e0, e1, e2, e3, e4, e5⟩ := b i hi
  exact ⟨A', c', e0, e1, e2, e3, e4, fun x hx => ⟨(e5 x hx).1, (e5 x hx).2, e3.own_hi x hx⟩⟩
theorem OwRd.there {w : World} {lo g n : Nat} {rs : List RuleM} {Q : Nat → Prop} {k u : Nat} (h : OwRd w lo g n rs Q k) (hu : u < n) : w.there g (u * 3) 3 := h.rp.there hu
theorem OwRd.mono {w : World} {lo lo' g n : Nat} {rs : List RuleM} {Q : Nat → Prop} {k : Nat} (h : OwRd w lo g n rs Q k) (hl : lo' ≤ lo) : OwRd w lo' g n rs Q k := by
  obtain ⟨vs, a, b, c⟩ := h
  refine ⟨vs, World.ownsRow.mono a hl, fun i hi => ?_, c⟩
  obtain ⟨A', c', e0, e1, e2, e3, e4, e5⟩ := b i hi
  exact ⟨A', c', e0, e1, e2, e3.mono hl, e4, e5⟩
theorem OwRd.imp {w : World} {lo g n : Nat} {rs : List RuleM} {Q Q' : Nat → Prop} {k : Nat} (h : OwRd w lo g n rs Q k) (hq : ∀ b, Q b → Q' b) : OwRd w lo g n rs Q' k := by
  obtain ⟨vs, a, b, c⟩ := h
  refine ⟨vs, a, fun i hi => ?_, c⟩
  obtain ⟨A', c', e0, e1, e2, e3, e4, e5⟩ := b i hi
  exact ⟨A', c', e0, e1, e2, e3, e4, fun x hx => ⟨(e5 x hx).1, hq x (e5 x hx).2⟩⟩
theorem OwRd.far {w w' : World} {lo g n X : Nat} {rs : List RuleM} {Q : Nat → Prop} {k : Nat} (h : OwRd w lo g n rs Q k) (hg : w.grownBy w' (some X)) (hX : X < lo) : OwRd w' lo g n rs Q k := by
  obtain ⟨vs, a, b, c⟩ := h
  refine ⟨vs, World.ownsRow.kept a hg (.inr (fun e => by have := (World.ownsRow.lt a g (by simp [Value.ownBlock])).1; simp [Value.ownBlock] at e; omega)), fun i hi => ?_, c⟩
  obtain ⟨A', c', e0, e1, e2, e3, e4, e5⟩ := b i hi
  exact ⟨A', c', e0, e1, e2, Ow.far e3 hg (fun b hb e => by have := e3.own_lo b hb; have := Option.some.inj e; omega), e4, e5⟩
/-- the values of 'Rule{rule.Kind, slices.Clone(rule.Cells), rule.Value}' and of where it goes. -/
def CrG (X g n u lo l C' : Nat) (k v : Int) (A' : Option Addr) (xs : List Int) : Nat → Value → World → Prop
  | 0, x, _ => x = .slice (some ⟨g, 0, none⟩) n n
  | 1, x, _ => x = .int .i64 (u : Nat)
  | 2, x, _ => x = .pointer (some ⟨X, 0, none⟩)
  | 3, x, _ => x = .int .i64 k
  | 4, x, _ => x = .pointer (some ⟨X, 1, none⟩)
  | 5, x, _ => x = .slice A' l C'
  | 6, x, w => ∃ A3 c3, x = .slice A3 l c3 ∧ Ow w lo A3 l c3 xs
  | 7, x, _ => x = .pointer (some ⟨X, 2, none⟩)
  | 8, x, _ => x = .int .i64 v
  | 9, x, w => ∃ A3 c3, x = .agg #[.int .i64 k, .slice A3 l c3, .int .i64 v] ∧ Ow w lo A3 l c3 xs
  | 10, x, _ => x = .pointer (some ⟨g, u * 3, none⟩)
  | _, _, _ => True
theorem crG_below {X g n u lo l C' : Nat} {k v : Int} {A' : Option Addr} {xs : List Int} (j : Nat) (x : Value) (w w' : World) (hb : Below w.heap.size w w') (h : CrG X g n u lo l C' k v A' xs j x w) : CrG X g n u lo l C' k v A' xs j x w' := by
  match j, h with
  | 0, h => exact h
  | 1, h => exact h
  | 2, h => exact h
  | 3, h => exact h
  | 4, h => exact h
  | 5, h => exact h
  | 6, ⟨A3, c3, e, h⟩ => exact ⟨A3, c3, e, h.below hb⟩
  | 7, h => exact h
  | 8, h => exact h
  | 9, ⟨A3, c3, e, h⟩ => exact ⟨A3, c3, e, h.below hb⟩
  | 10, h => exact h
  | _ + 11, h => exact h
set_option maxHeartbeats 2000000 in
theorem copiedRules_any (A : Option Addr) (c n B : Nat) (rs : List RuleM) (w : World) (h : RdRs w B A n rs) (hB : B ≤ w.heap.size) (hm : n ≤ 1048576) (hL : ∀ i, i < n → 0 < (rat rs i).xs.length) :
    Calls Try.prog 32 #[.slice A n c] w fun e w' => ∃ g, e = .returned (.slice (some ⟨g, 0, none⟩) n n) ∧ OwRd w' w.heap.size g n rs (fun b => w.heap.size ≤ b ∧ b < w'.heap.size) n ∧ Below w.heap.size w w' := by
  obtain ⟨i0, hi, hz0, hz1, hz2⟩ := info_parts rule_parts
  have HR := Lib.hid (fun (w' : World) (hb : Below w.heap.size w w') => h.below (hb.mono hB))
  have Hi : Hid (∀ k A m c v, (Try.prog.info? 44).map (·.size) = some (#[Value.int .i64 k, .slice A m c, .int .i64 v] : Array Value).size) := Lib.hid (fun _ _ _ _ _ => by rw [hi]; simpa using hz1)
  have Hone : Hid (∀ k A m c v, ((#[Value.int .i64 k, .slice A m c, .int .i64 v] : Array Value).all (·.oneCell')) = true) := Lib.hid (fun _ _ _ _ _ => by simp [Value.oneCell'])
  have HLen := Lib.hid hL
  clear hL
  go_enter Try.func32, Try.ntmps32
  go_wp2_with (refine wpList_make_full _ rfl (.tmp 7) (.tmp 7) 25 rfl w.heap.size 44 i0 (.agg #[.int .i64 0, .slice none 0 0, .int .i64 0]) 3 Try.underlying25 hi hz0 hz1 .i64 .i64 n n n rfl rfl rfl rfl (by rw [hz2]; omega) (by simp only [maxLen]; omega) (Nat.le_refl _) ?_; intro w3 hown hgr; have hb3 := made_below hgr (Nat.le_refl _); have ho3 := OwRd.zero_ (rs := rs) (Q := fun b => w.heap.size ≤ b) hown)
  go_loopw [11] (fun i wr => ∃ u : Nat, u ≤ n ∧ i = .int .i64 u ∧ OwRd wr w.heap.size w.heap.size n rs (fun b => w.heap.size ≤ b) u ∧ Below w.heap.size w wr) (fun i _ => n - (intOf i).toNat)
  case atStart => exact ⟨0, Nat.zero_le _, rfl, ho3, hb3⟩
  case round =>
    obtain ⟨u, hu, rfl, ho, hb⟩ := hrel
    by_cases hlt : u < n
    · obtain ⟨b, off, rfl, hbB, hcc⟩ := (HR.out _ hb).2 (by omega)
      obtain ⟨A', c', r0, r1, r2, r3, r4⟩ := hcc u hlt
      have hL := HLen.out u hlt
      obtain ⟨rk, hrk⟩ : ∃ x, x = (rat rs u).k := ⟨_, rfl⟩
      obtain ⟨rx, hrx⟩ : ∃ x, x = (rat rs u).xs := ⟨_, rfl⟩
      obtain ⟨rvv, hrv⟩ : ∃ x, x = (rat rs u).v := ⟨_, rfl⟩
      have hb1 : Below wr.heap.size wr (wr.alloc (.cells #[.int .i64 rk, .slice A' rx.length c', .int .i64 rvv] 44)) := (Below.refl _ _).alloc (Nat.le_refl _) _
      have hs1 : (wr.alloc (.cells #[.int .i64 rk, .slice A' rx.length c', .int .i64 rvv] 44)).heap.size = wr.heap.size + 1 := by simp
      have hy := rbox_new wr rk A' rx.length c' rvv 44
      obtain ⟨W, hW⟩ : ∃ W, wr.alloc (.cells #[.int .i64 rk, .slice A' rx.length c', .int .i64 rvv] 44) = W := ⟨_, rfl⟩
      rw [hW] at hb1 hs1 hy
      have hbW : wr.heap.size ≤ W.heap.size := hb1.size
      have Hput := Lib.hid (fun (w3 : World) (A3 : Option Addr) (c3 : Nat) (hb' : Below wr.heap.size wr w3) (ho3 : Ow w3 wr.heap.size A3 (rat rs u).xs.length c3 (rat rs u).xs) => ho.put (Nat.le_trans (Nat.le_refl _) hb.size) hlt hb' ho3 r4 (fun b hb'' => Nat.le_trans hb.size hb''))
      have Hth := Lib.hid (fun (w3 : World) (hb' : Below wr.heap.size wr w3) => (ho.below hb').there hlt)
      rw [← hrk] at r0 Hput
      rw [← hrx] at r1 r3 r4 Hput hL
      rw [← hrv] at r2 Hput
      have HC := Lib.hid (fun (w' : World) (hb' : Below W.heap.size W w') => clone_any A' rx.length c' B rx w' (r3.below ((hb1.trans (hb'.mono hbW)).mono (Nat.le_trans hB hb.size))) (Nat.le_trans (Nat.le_trans hB hb.size) (Nat.le_trans hbW hb'.size)) hL r4)
      have HY := Lib.hid (fun (w' : World) (hb' : Below W.heap.size W w') => hy.below (by omega : wr.heap.size < W.heap.size) hb')
      have hin : (u : Int) < (n : Int) := by omega
      have HW := Lib.hid hW
      have Hbb := Lib.hid hb
      have Hb1 := Lib.hid hb1
      obtain ⟨l, hl⟩ : ∃ l, l = rx.length := ⟨_, rfl⟩
      rw [← hl] at r1 HC HY Hput hL HW
      clear hrk hrx hrv hcc hW ho hb r3 hb1 hy hl h
      go_wp2
      rw [HW.out]
      refine wp_region_dsR [16, 17, 18, 19, 20, 21, 22, 23, 24, 25, 26] (CrG wr.heap.size w.heap.size n u wr.heap.size l c' rk rvv A' rx) (fun w1 w2 => Below w1.heap.size w1 w2) (fun _ w1 w2 => Below w1.heap.size w1 w2) (fun _ _ => True) (fun _ => trivial) ((Below.refl _ _).drew) (fun _ _ h h' => step h h') (by kernel_rfl) (by kernel_rfl) (by simp) (fun j i v w w' _ _ he hg => crG_below j v w w' he hg) ?step ?last
      case step =>
        intro i o a w' K hi hoo hrel hfr hpre hC hK
        have e3 : a.eval (.tmp 3) = .slice (some ⟨w.heap.size, 0, none⟩) n n := hfr 3 (by simp)
        have e4 : a.eval (.tmp 4) = .int .i64 (u : Nat) := hfr 4 (by simp)
        have e5 : a.eval (.tmp 5) = .pointer (some ⟨wr.heap.size, 0, none⟩) := hfr 5 (by simp)
        obtain ⟨y0, y1, y2⟩ := HY.out _ hrel
        have hkeep : ∀ (v : Value), CrG wr.heap.size w.heap.size n u wr.heap.size l c' rk rvv A' rx i v w' → K (a.put o.dst v) w' := fun v hv => hK v w' (Below.refl _ _) (Below.refl _ _) (fun _ _ h => h) hv
        have hi12 : i < 11 := hi
        have : i = 0 ∨ i = 1 ∨ i = 2 ∨ i = 3 ∨ i = 4 ∨ i = 5 ∨ i = 6 ∨ i = 7 ∨ i = 8 ∨ i = 9 ∨ i = 10 := by omega
        rcases this with rfl | rfl | rfl | rfl | rfl | rfl | rfl | rfl | rfl | rfl | rfl
        all_goals
          simp only [List.getElem?_toArray, List.getElem?_cons_zero, List.getElem?_cons_succ, Option.some.injEq] at hoo
          subst hoo
        · refine oper_val (v := .slice (some ⟨w.heap.size, 0, none⟩) n n) (w' := w') ?_ (hkeep _ rfl)
          unfold execOp
          simp only [e3]
          go_simp
        · refine oper_val (v := .int .i64 (u : Nat)) (w' := w') ?_ (hkeep _ rfl)
          unfold execOp
          simp only [e4]
          go_simp
        · refine oper_val (v := .pointer (some ⟨wr.heap.size, 0, none⟩)) (w' := w') ?_ (hkeep _ rfl)
          unfold execOp
          simp only [e5]
          go_simp
        · have p0 : a.eval (.tmp 18) = .pointer (some ⟨wr.heap.size, 0, none⟩) := hpre ⟨2, .data⟩ (by simp) rfl
          refine oper_val (v := .int .i64 rk) (w' := w') ?_ (hkeep _ rfl)
          unfold execOp
          simp only [p0]
          go_simp
        · refine oper_val (v := .pointer (some ⟨wr.heap.size, 1, none⟩)) (w' := w') ?_ (hkeep _ rfl)
          unfold execOp
          simp only [e5]
          go_simp
        · have p0 : a.eval (.tmp 20) = .pointer (some ⟨wr.heap.size, 1, none⟩) := hpre ⟨4, .data⟩ (by simp) rfl
          refine oper_val (v := .slice A' l c') (w' := w') ?_ (hkeep _ rfl)
          unfold execOp
          simp only [p0]
          go_simp
        · have p0 : a.eval (.tmp 21) = .slice A' l c' := hpre ⟨5, .data⟩ (by simp) rfl
          refine oper_call (f := 31) (args := #[.slice A' l c']) ?_ (HC.out w' hrel) ?_
          · unfold execOp
            go_simp
            first | exact (by simpa [Act.eval] using p0) | (simpa [Act.eval] using p0)
          · rintro e w5 ⟨A3, c3, rfl, ho3, hb3⟩
            exact ⟨_, rfl, hK _ _ hb3 hb3 (fun _ _ h => h) ⟨A3, c3, rfl, ho3.mono (Nat.le_trans hbW hrel.size)⟩⟩
        · refine oper_val (v := .pointer (some ⟨wr.heap.size, 2, none⟩)) (w' := w') ?_ (hkeep _ rfl)
          unfold execOp
          simp only [e5]
          go_simp
        · have p0 : a.eval (.tmp 23) = .pointer (some ⟨wr.heap.size, 2, none⟩) := hpre ⟨7, .data⟩ (by simp) rfl
          refine oper_val (v := .int .i64 rvv) (w' := w') ?_ (hkeep _ rfl)
          unfold execOp
          simp only [p0]
          go_simp
        · have p0 : a.eval (.tmp 19) = .int .i64 rk := hpre ⟨3, .data⟩ (by simp) rfl
          obtain ⟨A3, c3, p1, q1⟩ : ∃ A3 c3, a.eval (.tmp 22) = .slice A3 l c3 ∧ Ow w' wr.heap.size A3 l c3 rx := hpre ⟨6, .data⟩ (by simp) rfl
          have p2 : a.eval (.tmp 24) = .int .i64 rvv := hpre ⟨8, .data⟩ (by simp) rfl
          refine oper_val (v := .agg #[.int .i64 rk, .slice A3 l c3, .int .i64 rvv]) (w' := w') ?_ (hkeep _ ⟨A3, c3, rfl, q1⟩)
          unfold execOp
          simp only [List.map_toArray, List.map_cons, List.map_nil, p0, p1, p2]
          go_simp
        · have p0 : a.eval (.tmp 16) = .slice (some ⟨w.heap.size, 0, none⟩) n n := hpre ⟨0, .data⟩ (by simp) rfl
          have p1 : a.eval (.tmp 17) = .int .i64 (u : Nat) := hpre ⟨1, .data⟩ (by simp) rfl
          refine oper_val (v := .pointer (some ⟨w.heap.size, u * 3, none⟩)) (w' := w') ?_ (hkeep _ rfl)
          unfold execOp
          simp only [p0, p1]
          go_simp
      case last =>
        intro o a w5 hoo hb5 hdef htm hfr hpre
        simp only [List.length_cons, List.length_nil, Nat.reduceAdd, List.getElem?_toArray, List.getElem?_cons_zero, List.getElem?_cons_succ, Option.some.injEq] at hoo
        subst hoo
        have g0 : a.tmps.getD 16 undef = .slice (some ⟨w.heap.size, 0, none⟩) n n := hpre 0 (by simp)
        have g1 : a.tmps.getD 17 undef = .int .i64 (u : Nat) := hpre 1 (by simp)
        have g2 : a.tmps.getD 18 undef = .pointer (some ⟨wr.heap.size, 0, none⟩) := hpre 2 (by simp)
        have g3 : a.tmps.getD 19 undef = .int .i64 rk := hpre 3 (by simp)
        have g4 : a.tmps.getD 20 undef = .pointer (some ⟨wr.heap.size, 1, none⟩) := hpre 4 (by simp)
        have g5 : a.tmps.getD 21 undef = .slice A' l c' := hpre 5 (by simp)
        obtain ⟨A6, c6, g6, _⟩ : ∃ A3 c3, a.tmps.getD 22 undef = .slice A3 l c3 ∧ _ := hpre 6 (by simp)
        have g7 : a.tmps.getD 23 undef = .pointer (some ⟨wr.heap.size, 2, none⟩) := hpre 7 (by simp)
        have g8 : a.tmps.getD 24 undef = .int .i64 rvv := hpre 8 (by simp)
        obtain ⟨A3, c3, g9, ho9⟩ : ∃ A3 c3, a.tmps.getD 25 undef = .agg #[.int .i64 rk, .slice A3 l c3, .int .i64 rvv] ∧ Ow w5 wr.heap.size A3 l c3 rx := hpre 9 (by simp)
        have g10 : a.tmps.getD 26 undef = .pointer (some ⟨w.heap.size, u * 3, none⟩) := hpre 10 (by simp)
        have h25 : a.eval (.tmp 25) = .agg #[.int .i64 rk, .slice A3 l c3, .int .i64 rvv] := g9
        have h26 : a.eval (.tmp 26) = .pointer (some ⟨w.heap.size, u * 3, none⟩) := g10
        have hb15 : Below wr.heap.size wr w5 := Hb1.out.trans (hb5.mono hbW)
        refine ⟨w5.setCells w.heap.size (u * 3) [.int .i64 rk, .slice A3 l c3, .int .i64 rvv], ?_, ?_⟩
        · have hst := run_storeVar_mid (P := Try.prog) w5 w.heap.size (u * 3) 44 #[.int .i64 rk, .slice A3 l c3, .int .i64 rvv] (Hth.out _ hb15) (Hi.out _ _ _ _ _) (Hone.out _ _ _ _ _)
          unfold execOp
          simp only [h25, h26, Instr.storeAt, Instr.sureAddr, Sem.run_bind, Sem.run_pure, Result.andThen_ok, hst]
        · have key := htm
          simp only [List.foldl_cons, List.foldl_nil, g0, g1, g2, g3, g4, g5, g6, g7, g8, g9, g10, List.setIfInBounds_toArray, List.set_cons_succ, List.set_cons_zero] at key
          clear htm hfr hpre g0 g1 g2 g3 g4 g5 g6 g7 g8 g9 g10 h25 h26
          obtain ⟨tm, df⟩ := a
          dsimp only at key hdef
          subst key hdef
          have hP := Hput.out _ _ _ hb15 ho9
          go_wp2
          go_roundw
          case rel => exact ⟨u + 1, by omega, by go_num, hP, below_setCells3 (Hbb.out.trans (hb15.mono Hbb.out.size)) (Nat.le_refl _)⟩
          case measure => simp [intOf]; omega
    · obtain rfl : u = n := by omega
      go_wp2
      go_ret
      exact ⟨_, rfl, ho.bound, hb⟩
end Go.Proofs.Ytcjdjcpappfkgaa
set_option maxRecDepth 8000
namespace Go.Proofs.Ytcjdjcpappfkgaa
open Go.ChangeShapes Go.WideShapes Go.ChangeAt Go.RowKit

theorem row_max {k : IntKind} {w : World} {a : Option Addr} {len cap : Nat} {zs : List Int} (h : IsRow k w a len cap zs) : len ≤ 9223372036854775807 := by
  rcases h with ⟨rfl, rfl, rfl, rfl⟩ | ⟨x, rfl, hl, hm, _⟩
  · omega
  · simp only [maxLen] at hm; omega
theorem below_undrew {w w2 : World} (h : Below w.drew.heap.size w.drew w2) : Below w.heap.size w w2 := ⟨h.os, h.tape, h.output, h.size, h.block⟩
theorem szRule_big (A : Option Addr) (c n : Nat) (k v : Int) (w : World) (hn : ¬ n ≤ 1048576) (hm : n ≤ 9223372036854775807) :
    Calls Try.prog 16 #[.agg #[.int .i64 k, .slice A n c, .int .i64 v], .int .i64 1048576] w fun e w' => e = .returned (.int .i64 (-1)) ∧ Below w.heap.size w w' := by
  refine (szRule_any A c n k v 1048576 w hm (by omega) (by omega)).mono ?_
  rintro e w' ⟨rfl, hb⟩
  exact ⟨by rw [if_neg (by omega)], hb⟩
end Go.Proofs.Ytcjdjcpappfkgaa
