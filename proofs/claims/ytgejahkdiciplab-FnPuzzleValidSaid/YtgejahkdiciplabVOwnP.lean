import Derived.RegionTactic
import Derived.Test.YtgejahkdiciplabBase
import Derived.Test.YtgejahkdiciplabL43
import Derived.Test.YtgejahkdiciplabVFresh
namespace Go.Proofs.Ytgejahkdiciplab
/-! A region that draws its order, by an invariant: one step a row of the region, whatever the order. -/
section
variable {P : Program} {md : Region.Mode} {ops : Array Oper} {Q : Exit → Act → World → Prop} {Inv : Array Bool → Act → World → Prop}
def unl (l : Array Bool) : Nat := l.toList.countP (fun b => b == false)
theorem unl_set {l : Array Bool} {i : Nat} (h : l.getD i true = false) : unl (l.setIfInBounds i true) < unl l := by
  have hi : i < l.size := by
    rcases Nat.lt_or_ge i l.size with h' | h'
    · exact h'
    · simp [Array.getElem?_eq_none h'] at h
  have he : l.toList[i]'(by simpa using hi) = false := by simpa [hi] using h
  unfold unl
  rw [Array.toList_setIfInBounds, List.countP_set (by simpa using hi), he]
  have : 0 < l.toList.countP (fun b => b == false) := List.countP_pos_iff.2 ⟨false, by rw [← he]; exact List.getElem_mem _, rfl⟩
  show List.countP (fun b => b == false) l.toList - 1 + 0 < List.countP (fun b => b == false) l.toList
  omega
theorem unl_zero {l : Array Bool} (h : unl l = 0) (i : Nat) : l.getD i true = true := by
  unfold unl at h
  rw [List.countP_eq_zero] at h
  rcases Nat.lt_or_ge i l.size with h' | h'
  · have := h (l.toList[i]'(by simpa using h')) (List.getElem_mem _)
    simpa [h'] using this
  · simp [Array.getElem?_eq_none h']
theorem wpAny_inv (hback : ∀ (i : Nat) (o : Oper), ops[i]? = some o → ∀ e ∈ o.after, e.on < i) (hsz : ∀ l a w, Inv l a w → l.size = ops.size)
    (hstep : ∀ l a w (i : Nat) (o : Oper), Inv l a w → ops[i]? = some o → l.getD i true = false → (∀ e ∈ o.after, Region.binds md e = true → l.getD e.on false = true) → wpOp P ops Q i (Inv (l.setIfInBounds i true)) a w)
    (hdone : ∀ l a w, Inv l a w → (∀ i, i < ops.size → l.getD i false = true) → Q .normal a w) :
    ∀ fuel l a w, unl l ≤ fuel → Inv l a w → wpAny P md ops Q fuel l a w := by
  have fin : ∀ l a w, Inv l a w → Region.ready md ops l = [] → Q .normal a w := by
    intro l a w hI hr
    refine hdone l a w hI ?_
    intro i
    induction i using Nat.strongRecOn with
    | ind i ih =>
      intro hi
      cases hb : l.getD i false with
      | true => rfl
      | false =>
        exfalso
        have hil : i < l.size := by rw [hsz l a w hI]; exact hi
        have ho : ops[i]? = some ops[i] := Array.getElem?_eq_getElem hi
        have : i ∈ Region.ready md ops l := mem_ready.2 ⟨by simpa [hil] using hb, ops[i], ho, fun e he _ => ih e.on (hback i _ ho e he) (Nat.lt_trans (hback i _ ho e he) hi)⟩
        rw [hr] at this
        cases this
  intro fuel
  induction fuel with
  | zero =>
    intro l a w hu hI
    have hr : Region.ready md ops l = [] := by
      cases e : Region.ready md ops l with
      | nil => rfl
      | cons j r =>
        have hj : j ∈ Region.ready md ops l := by rw [e]; exact List.mem_cons_self ..
        have h1 := (mem_ready.1 hj).1
        rw [unl_zero (by omega) j] at h1
        cases h1
    exact ⟨hr, fin l a w hI hr⟩
  | succ fuel ih =>
    intro l a w hu hI
    refine ⟨fin l a w hI, fun i hi => ?_⟩
    obtain ⟨h1, o, ho, hall⟩ := mem_ready.1 hi
    refine wpOp_mono (fun a' w' h => ih _ a' w' ?_ h) (hstep l a w i o hI ho h1 hall)
    have := unl_set h1
    omega
theorem wp_region_inv {id : Nat} {a : Act} {w : World} (hm : P.follows .mixedOrders = true) (hback : ∀ (i : Nat) (o : Oper), ops[i]? = some o → ∀ e ∈ o.after, e.on < i) (hsz : ∀ l a w, Inv l a w → l.size = ops.size)
    (hstep : ∀ l a w (i : Nat) (o : Oper), Inv l a w → ops[i]? = some o → l.getD i true = false → (∀ e ∈ o.after, Region.binds .any e = true → l.getD e.on false = true) → wpOp P ops Q i (Inv (l.setIfInBounds i true)) a w)
    (hdone : ∀ l a w, Inv l a w → (∀ i, i < ops.size → l.getD i false = true) → Q .normal a w)
    (h0 : Inv (Array.replicate ops.size false) a { w with drawn := w.drawn + 1 }) : (Code.region id ops true).wp P Q a w :=
  wp_region_any hm (wpAny_inv hback hsz hstep hdone _ _ _ _ (by
    unfold unl
    exact Nat.le_trans (List.countP_le_length) (by simp)) h0)
end
/-- A frame that differs from another in some slots alone. -/
theorem frame_of {a a0 : Array Value} (ts : List Nat) (hs : a.size = a0.size) (h : ∀ t, t ∉ ts → a[t]? = a0[t]?) : a = ts.foldl (fun tm t => tm.setIfInBounds t (a.getD t undef)) a0 := by
  have key : ∀ (ts : List Nat) (b : Array Value), b.size = a.size → ∀ t, (ts.foldl (fun tm t => tm.setIfInBounds t (a.getD t undef)) b)[t]? = if t ∈ ts then a[t]? else b[t]? := by
    intro ts
    induction ts with
    | nil => intro b _ t; simp
    | cons u ts ih =>
      intro b hb t
      rw [List.foldl_cons, ih _ (by simpa using hb)]
      by_cases e : t ∈ ts
      · simp [e]
      · simp only [e, if_false, List.mem_cons, or_false]
        by_cases hu : t = u
        · subst hu
          rw [if_pos rfl]
          rcases Nat.lt_or_ge t a.size with h' | h'
          · simp [Array.getElem?_setIfInBounds_self_of_lt (hb ▸ h'), h']
          · rw [Array.getElem?_eq_none h', Array.getElem?_eq_none (by simp; omega)]
        · rw [if_neg hu, Array.getElem?_setIfInBounds_ne (fun e' => hu e'.symm)]
  apply Array.ext_getElem?
  intro t
  rw [key ts a0 hs.symm t]
  split
  · rfl
  · exact h t (by assumption)
end Go.Proofs.Ytgejahkdiciplab
namespace Go.Proofs.Ytgejahkdiciplab
open Go.ChangeShapes Go.WideShapes Go.ChangeAt Go.RowKit
/-! A region that draws its order and makes values and new blocks alone, but for its last operation, a store. -/
/-- Two frames agree outside some slots. -/
def Off (d : Nat → Nat) (m : Nat) (a a0 : Act) : Prop := a.tmps.size = a0.tmps.size ∧ a.defers = a0.defers ∧ ∀ t, (∀ j, j < m → d j ≠ t) → a.tmps[t]? = a0.tmps[t]?
theorem Off.eval {d : Nat → Nat} {m : Nat} {a a0 : Act} (h : Off d m a a0) {t : Nat} (ht : ∀ j, j < m → d j ≠ t) : a.eval (.tmp t) = a0.eval (.tmp t) := by
  simp [Act.eval, h.2.2 t ht]
theorem wp_region_made {P : Program} {ops : Array Oper} {Q : Exit → Act → World → Prop} {id : Nat} {a0 : Act} {W : World} (m : Nat) (d : Nat → Nat) (G : Nat → Value → World → Prop)
    (hm : P.follows .mixedOrders = true) (hlen : ops.size = m + 1) (hback : ∀ (i : Nat) (o : Oper), ops[i]? = some o → ∀ e ∈ o.after, e.on < i)
    (hd : ∀ i o, i < m → ops[i]? = some o → o.dst = some (d i) ∧ o.guard = none) (hinj : ∀ i j, i < m → j < m → d i = d j → i = j) (hlt : ∀ i, i < m → d i < a0.tmps.size)
    (hl : ∀ o, ops[m]? = some o → o.dst = none ∧ o.guard = none ∧ ∀ j, j < m → ∃ e ∈ o.after, e.on = j ∧ Region.binds .any e = true)
    (hG : ∀ j v w w', Below w.heap.size w w' → G j v w → G j v w')
    (hstep : ∀ i o a w, i < m → ops[i]? = some o → Below W.heap.size W w → Off d m a a0 → (∀ e ∈ o.after, Region.binds .any e = true → G e.on (a.eval (.tmp (d e.on))) w) → ∃ v w', (execOp a.eval o).run P w = .ok (.value v) w' ∧ Below w.heap.size w w' ∧ G i v w')
    (hlast : ∀ o a w, ops[m]? = some o → Below W.heap.size W w → Off d m a a0 → (∀ j, j < m → G j (a.eval (.tmp (d j))) w) → ∃ w', (execOp a.eval o).run P w = .ok .skip w' ∧ Q .normal a w') :
    (Code.region id ops true).wp P Q a0 W := by
  refine wp_region_inv (Inv := fun l a w => l.size = ops.size ∧ ((l.getD m false = false ∧ Below W.heap.size W w ∧ Off d m a a0 ∧ ∀ j, j < m → l.getD j false = true → G j (a.eval (.tmp (d j))) w) ∨ ((∀ j, j < ops.size → l.getD j false = true) ∧ Q .normal a w))) hm hback (fun l a w h => h.1) ?step ?done ?h0
  case done =>
    rintro l a w ⟨hs, h⟩ hall
    rcases h with ⟨h1, _⟩ | ⟨_, h⟩
    · rw [hall m (by omega)] at h1; cases h1
    · exact h
  case h0 =>
    refine ⟨by simp, .inl ⟨by rw [Array.getD_eq_getD_getElem?, Array.getElem?_replicate]; split <;> rfl, (Below.refl W.heap.size W).drew, ⟨rfl, rfl, fun _ _ => rfl⟩, fun j hj hlj => ?_⟩⟩
    simp at hlj
    have : j < ops.size := by omega
    simp [this] at hlj
  case step =>
    rintro l a w i o ⟨hs, h⟩ ho hli hall
    have hi : i < ops.size := (Array.getElem?_eq_some_iff.1 ho).1
    have hil : i < l.size := by omega
    rcases h with ⟨h1, hb, hoff, hg⟩ | ⟨h, _⟩
    · refine wpOp_step ho (fun K hK => ?_)
      have hsz : (l.setIfInBounds i true).size = ops.size := by simpa using hs
      by_cases him : i = m
      · subst him
        obtain ⟨q1, q2, q3⟩ := hl o ho
        have hallj : ∀ j, j < i → l.getD j false = true := fun j hj => by
          obtain ⟨e, he, rfl, hbd⟩ := q3 j hj
          exact hall e he hbd
        obtain ⟨w', hrun, hq⟩ := hlast o a w ho hb hoff (fun j hj => hg j hj (hallj j hj))
        rw [if_pos (by simp [Region.wanted, q2])]
        unfold Oper.wp
        rw [hrun]
        have hput : a.put o.dst undef = a := by rw [q1]; rfl
        refine hK _ _ ⟨hsz, .inr ⟨fun j hj => ?_, ?_⟩⟩
        · by_cases e : j = i
          · subst e; simp [hil]
          · have := hallj j (by omega)
            have hjl : j < l.size := by omega
            have hset : (l.setIfInBounds i true).getD j false = l.getD j false := by simp [Array.getElem?_setIfInBounds_ne (fun e' => e (Eq.symm e'))]
            rw [hset]; exact this
        · first | exact hq | (rw [hput]; exact hq)
      · have him' : i < m := by omega
        obtain ⟨q1, q2⟩ := hd i o him' ho
        have hpre : ∀ e ∈ o.after, Region.binds .any e = true → G e.on (a.eval (.tmp (d e.on))) w := fun e he hbd => hg e.on (Nat.lt_trans (hback i o ho e he) him') (hall e he hbd)
        obtain ⟨v, w', hrun, hb', hgi⟩ := hstep i o a w him' ho hb hoff hpre
        rw [if_pos (by simp [Region.wanted, q2])]
        unfold Oper.wp
        rw [hrun]
        have hdlt : d i < a.tmps.size := by rw [hoff.1]; exact hlt i him'
        have hset : ∀ j, (l.setIfInBounds i true).getD j false = if j = i then true else l.getD j false := fun j => by
          by_cases e : j = i
          · subst e; simp [hil]
          · rw [if_neg e]; simp [Array.getElem?_setIfInBounds_ne (fun e' => e (Eq.symm e'))]
        refine hK _ _ ⟨hsz, .inl ⟨by rw [hset, if_neg (fun e => him e.symm)]; exact h1, step hb hb', ?_, fun j hj hlj => ?_⟩⟩
        · rw [q1]
          refine ⟨by rw [size_put]; exact hoff.1, hoff.2.1, fun t ht => ?_⟩
          rw [← hoff.2.2 t ht]
          simp [Act.put, Array.getElem?_setIfInBounds_ne (ht i him')]
        · rw [q1]
          by_cases e : j = i
          · subst e; rw [eval_put_same hdlt]; exact hgi
          · rw [eval_put_ne (fun e' => e (hinj _ _ hj him' e'.symm))]
            rw [hset, if_neg e] at hlj
            exact hG _ _ _ _ hb' (hg j hj hlj)
    · have := h i hi
      simp [hil] at hli this
      rw [this] at hli; cases hli
/-- What the kernel reckons of a region whose operations write the slots ds, in order, and whose last one is a store that waits for all. -/
def chkOps (ops : Array Oper) (ds : List Nat) : Bool :=
  ops.size == ds.length + 1 && ((List.range ops.size).all fun i => match ops[i]? with
    | some o => o.after.all fun e => decide (e.on < i)
    | none => false) && ((List.range ds.length).all fun i => match ops[i]? with
    | some o => decide (o.dst = some (ds.getD i 0)) && o.guard.isNone
    | none => false) && (match ops[ds.length]? with
    | some o => o.dst.isNone && o.guard.isNone && (List.range ds.length).all fun j => o.after.any fun e => e.on == j && Region.binds .any e
    | none => false) && decide ds.Nodup
theorem wp_region_ds {P : Program} {ops : Array Oper} {Q : Exit → Act → World → Prop} {id : Nat} {a0 : Act} {W : World} (ds : List Nat) (G : Nat → Value → World → Prop)
    (hm : P.follows .mixedOrders = true) (hc : chkOps ops ds = true) (hlt : ∀ t ∈ ds, t < a0.tmps.size)
    (hG : ∀ j v w w', Below w.heap.size w w' → G j v w → G j v w')
    (hstep : ∀ (i : Nat) (o : Oper) (a : Act) (w : World), i < ds.length → ops[i]? = some o → Below W.heap.size W w → (∀ t, t ∉ ds → a.eval (.tmp t) = a0.eval (.tmp t)) → (∀ e ∈ o.after, Region.binds .any e = true → G e.on (a.eval (.tmp (ds.getD e.on 0))) w) → ∃ v w', (execOp a.eval o).run P w = .ok (.value v) w' ∧ Below w.heap.size w w' ∧ G i v w')
    (hlast : ∀ (o : Oper) (a : Act) (w : World), ops[ds.length]? = some o → Below W.heap.size W w → a.defers = a0.defers → a.tmps = ds.foldl (fun tm t => tm.setIfInBounds t (a.tmps.getD t undef)) a0.tmps → (∀ t, t ∉ ds → a.eval (.tmp t) = a0.eval (.tmp t)) → (∀ j, j < ds.length → G j (a.eval (.tmp (ds.getD j 0))) w) → ∃ w', (execOp a.eval o).run P w = .ok .skip w' ∧ Q .normal a w') :
    (Code.region id ops true).wp P Q a0 W := by
  simp only [chkOps, Bool.and_eq_true, beq_iff_eq, List.all_eq_true, List.mem_range, decide_eq_true_eq] at hc
  obtain ⟨⟨⟨⟨c1, c2⟩, c3⟩, c4⟩, c5⟩ := hc
  have hout : ∀ t, t ∉ ds → ∀ j, j < ds.length → ds.getD j 0 ≠ t := fun t ht j hj e => ht (by
    rw [← e, List.getD_eq_getElem?_getD, List.getElem?_eq_getElem hj]; exact List.getElem_mem _)
  have hmem : ∀ j, j < ds.length → ds.getD j 0 ∈ ds := fun j hj => by
    rw [List.getD_eq_getElem?_getD, List.getElem?_eq_getElem hj]; exact List.getElem_mem _
  refine wp_region_made ds.length (fun j => ds.getD j 0) G hm c1 ?back ?hd ?inj (fun i hi => hlt _ (hmem i hi)) ?hl hG ?step ?last
  case back =>
    intro i o ho e he
    have hi : i < ops.size := (Array.getElem?_eq_some_iff.1 ho).1
    have := c2 i hi
    rw [ho] at this
    simp only [Array.all_eq_true_iff_forall_mem, decide_eq_true_eq] at this
    exact this e he
  case hd =>
    intro i o hi ho
    have := c3 i hi
    rw [ho] at this
    simp only [Bool.and_eq_true, decide_eq_true_eq, Option.isNone_iff_eq_none] at this
    exact this
  case inj =>
    intro i j hi hj e
    simp only [List.getD_eq_getElem?_getD, List.getElem?_eq_getElem hi, List.getElem?_eq_getElem hj, Option.getD_some] at e
    exact (List.getElem_inj c5).1 e
  case hl =>
    intro o ho
    rw [ho] at c4
    simp only [Bool.and_eq_true, Option.isNone_iff_eq_none, List.all_eq_true, List.mem_range] at c4
    refine ⟨c4.1.1, c4.1.2, fun j hj => ?_⟩
    obtain ⟨e, he, h⟩ := Array.any_eq_true'.1 (c4.2 j hj)
    rw [Bool.and_eq_true, beq_iff_eq] at h
    exact ⟨e, he, h.1, h.2⟩
  case step =>
    intro i o a w hi ho hb hoff hpre
    exact hstep i o a w hi ho hb (fun t ht => hoff.eval (hout t ht)) hpre
  case last =>
    intro o a w ho hb hoff hpre
    refine hlast o a w ho hb hoff.2.1 (frame_of ds hoff.1 (fun t ht => hoff.2.2 t (hout t ht))) (fun t ht => hoff.eval (hout t ht)) hpre
end Go.Proofs.Ytgejahkdiciplab
set_option maxRecDepth 8000
namespace Go.Proofs.Ytgejahkdiciplab
open Go.ChangeShapes Go.WideShapes Go.ChangeAt Go.RowKit

theorem OwR.far {w w' : World} {lo n c : Nat} {A : Option Addr} {rs : List RuleM} {row : Option Nat} (h : OwR w lo (.slice A n c) rs n) (hg : w.grownBy w' row) (hr : ∀ g, row = some g → g < lo) : OwR w' lo (.slice A n c) rs n := by
  obtain ⟨vs, hown, hin⟩ := h
  refine ⟨vs, World.ownsRow.kept hown hg (by
    cases e : (Value.slice A n c).ownBlock with
    | none => exact .inl rfl
    | some g => exact .inr (fun he => by have h1 := (World.ownsRow.lt hown g e).1; have h2 := hr g he.symm; omega)), fun i hi => ?_⟩
  obtain ⟨A', c', e0, e1, e2, e3, e4, e5⟩ := hin i hi
  exact ⟨A', c', e0, e1, e2, e3.far hg (fun g hgg e => by have h1 := e3.own_lo g hgg; have h2 := hr g e; omega), e4, e5⟩
theorem lt_set5 {a : Nat} {w : World} {p : Addr} {v : Value} (h : a < w.heap.size) : a < (w.setCell p v).heap.size := by rw [World.size_setCell]; exact h
theorem grown_row {w : World} {g : Nat} {cs : Array Value} : w.grownBy (w.setRow g cs) (some g) :=
  ⟨rfl, rfl, rfl, by simp, fun k hk hne => by unfold World.setRow; simp only [Array.getElem?_modify]; rw [if_neg (fun e => hne (by rw [e]))]⟩
theorem OwR.mono {w : World} {lo lo' n : Nat} {v : Value} {rs : List RuleM} (h : OwR w lo v rs n) (hl : lo' ≤ lo) : OwR w lo' v rs n := by
  obtain ⟨vs, hown, hin⟩ := h
  refine ⟨vs, World.ownsRow.mono hown hl, fun i hi => ?_⟩
  obtain ⟨A', c', e0, e1, e2, e3, e4, e5⟩ := hin i hi
  exact ⟨A', c', e0, e1, e2, e3.mono hl, e4, e5⟩
set_option maxHeartbeats 1000000 in
theorem specOwnPuzzle (s : Int) (Ag : Option Addr) (n cg Bg : Nat) (gi : List Int) (Ar : Option Addr) (nr cr Br : Nat) (rs : List RuleM) (w : World) (hg : Rd w Bg Ag n gi) (hBg : Bg ≤ w.heap.size) (hm : n ≤ 1099511627776) (hr : RdRs w Br Ar nr rs) (hBr : Br ≤ w.heap.size) (hmr : nr ≤ 1099511627775) :
    Calls Try.prog 99 #[.agg #[.int .i64 s, .slice Ag n cg, .slice Ar nr cr]] w fun e w' => ∃ A1 c1 A2 c2, e = .returned (.agg #[.int .i64 s, .slice A1 n c1, .slice A2 nr c2]) ∧ Ow w' w.heap.size A1 n c1 gi ∧ OwR w' w.heap.size (.slice A2 nr c2) rs nr ∧ Below w.heap.size w w' := by
  have Hone := Lib.hid puz_one
  have Hi := Lib.hid puz_info
  have hx0 := pbox_new w s Ag n cg Ar nr cr 26
  have hb0 : Below w.heap.size w (w.alloc (.cells #[.int .i64 s, .slice Ag n cg, .slice Ar nr cr] 26)) := (Below.refl _ _).alloc (Nat.le_refl _) _
  have hs0 : w.heap.size < (w.alloc (.cells #[.int .i64 s, .slice Ag n cg, .slice Ar nr cr] 26)).heap.size := by simp
  obtain ⟨V, hV⟩ : ∃ V, V = ((w.alloc (.cells #[.int .i64 s, .slice Ag n cg, .slice Ar nr cr] 26)).alloc (.cells #[.int .i64 0, .slice none 0 0, .slice none 0 0] 26)).alloc (.cells #[.int .i64 s, .slice Ag n cg, .slice Ar nr cr] 26) := ⟨_, rfl⟩
  have hbV : Below w.heap.size w V := by rw [hV]; exact (hb0.alloc hb0.size _).alloc (by simp; omega) _
  have hsV : V.heap.size = w.heap.size + 1 + 1 + 1 := by rw [hV]; simp
  have hv2 : V.heap[w.heap.size + 1 + 1]? = some (.cells #[.int .i64 s, .slice Ag n cg, .slice Ar nr cr] 26) := by
    have := heap_alloc2_new (w.alloc (.cells #[.int .i64 s, .slice Ag n cg, .slice Ar nr cr] 26)) (.cells #[.int .i64 0, .slice none 0 0, .slice none 0 0] 26) (.cells #[.int .i64 s, .slice Ag n cg, .slice Ar nr cr] 26)
    rw [World.size_alloc] at this
    rw [hV]
    exact this
  have hv1 : V.heap[w.heap.size + 1]? = some (.cells #[.int .i64 0, .slice none 0 0, .slice none 0 0] 26) := by
    have := heap_alloc2_old (w.alloc (.cells #[.int .i64 s, .slice Ag n cg, .slice Ar nr cr] 26)) (.cells #[.int .i64 0, .slice none 0 0, .slice none 0 0] 26) (.cells #[.int .i64 s, .slice Ag n cg, .slice Ar nr cr] 26)
    rw [World.size_alloc] at this
    rw [hV]
    exact this
  have hv0 : V.cell? ⟨w.heap.size, 2, none⟩ = some (.slice Ar nr cr) := by
    rw [hV]
    exact (hx0.below hs0 (((Below.refl _ _).alloc (Nat.le_refl _) _).alloc (by simp) _)).2.2
  have HO : Hid (Ow (V.alloc (.cells #[] 3)) (w.heap.size + 1 + 1 + 1) (some ⟨w.heap.size + 1 + 1 + 1, 0, none⟩) 0 0 []) := Lib.hid (by
    have := Ow.made0 V (w.heap.size + 1 + 1 + 1) (by omega)
    rw [hsV] at this
    exact this)
  have hbO : Below V.heap.size V (V.alloc (.cells #[] 3)) := (Below.refl _ _).alloc (Nat.le_refl _) _
  have hwV : w.heap.size ≤ V.heap.size := by omega
  have HR := Lib.hid ((hg.below (hbV.mono hBg)).below (hbO.mono (Nat.le_trans hBg hwV)))
  have hsO : w.heap.size + 1 + 1 + 1 ≤ (V.alloc (.cells #[] 3)).heap.size := by simp; omega
  have hwV0 : w.heap.size < V.heap.size := by omega
  have hwV1 : w.heap.size + 1 < V.heap.size := by omega
  have hwV2 : w.heap.size + 1 + 1 < V.heap.size := by omega
  have hne12 : w.heap.size + 1 ≠ w.heap.size + 1 + 1 := by omega
  have hne02 : w.heap.size ≠ w.heap.size + 1 + 1 := by omega
  have hle2 : w.heap.size ≤ w.heap.size + 1 + 1 := by omega
  have HS := Lib.hid (fun w' (hb : Below w.heap.size w w') => specOwnRules Ar nr cr Br rs w' (hr.below (hb.mono hBr)) (Nat.le_trans hBr hb.size) hmr)
  have HV := Lib.hid hV
  clear hV
  go_enter Try.func99, Try.ntmps99
  go_wp2_with (first
    | (at_builtin; (rw [← HV.out]); (refine push_new rfl (.tmp 5) (.tmp 7) rfl (w.heap.size + 1 + 1 + 1) (some ⟨w.heap.size + 1 + 1 + 1, 0, none⟩) Ag n cg Bg gi rfl rfl HO.out HR.out hm hsO ?_); intro A1 c1 w1 ho1 hg1; have hbw1 : Below V.heap.size V w1 := hbO.grown hg1 hbO.size (fun k hk => Nat.le_trans (Nat.le_of_eq hsV) (HO.out.own_lo k hk)); have hs1 := Nat.le_trans (Nat.le_of_lt hwV2) hbw1.size; have f1 := (hbw1.block (w.heap.size + 1) hwV1).trans hv1; have f2 := (hbw1.block (w.heap.size + 1 + 1) hwV2).trans hv2; have f0 := (hbw1.cell (p := ⟨w.heap.size, 2, none⟩) hwV0).trans hv0; have g1 := (heap_setCell_other w1 ⟨w.heap.size + 1 + 1, 1, none⟩ (w.heap.size + 1) (.slice A1 n c1) hne12).trans f1; have g2 : (w1.setCell ⟨w.heap.size + 1 + 1, 1, none⟩ (.slice A1 n c1)).heap[w.heap.size + 1 + 1]? = some (.cells #[.int .i64 s, .slice A1 n c1, .slice Ar nr cr] 26) := heap_setCell_same w1 (w.heap.size + 1 + 1) 1 _ _ (.slice A1 n c1) f2; (have fz := frozen_of_row w1 (w.heap.size + 1 + 1) 1 _ _ f2); have m1 : w1.cell? ⟨w.heap.size + 1 + 1, 1, none⟩ = some (.slice Ag n cg) := cell_of_row _ _ 1 _ _ (0, 0) f2; have g0 := (cell_other5 (k := 1) (v := .slice A1 n c1) hne02).trans f0; have l1 : w.heap.size + 1 < (w1.setCell ⟨w.heap.size + 1 + 1, 1, none⟩ (.slice A1 n c1)).heap.size := lt_set5 (Nat.lt_of_lt_of_le hwV1 hbw1.size); have l2 : w.heap.size + 1 + 1 < (w1.setCell ⟨w.heap.size + 1 + 1, 1, none⟩ (.slice A1 n c1)).heap.size := lt_set5 (Nat.lt_of_lt_of_le hwV2 hbw1.size); have hB2 := (hbV.trans (hbw1.mono hwV)).setCell hle2 (.slice A1 n c1) (p := ⟨w.heap.size + 1 + 1, 1, none⟩))
    | (go_at_call 111; (refine (HS.out _ hB2).mono ?_); rintro e w3 ⟨A2, c2, rfl, ho2, hb3⟩; have h1 := (hb3.block (w.heap.size + 1) l1).trans g1; have h2 := (hb3.block (w.heap.size + 1 + 1) l2).trans g2; have fz3 := frozen_of_row w3 (w.heap.size + 1 + 1) 2 _ _ h2; have m5 : w3.cell? ⟨w.heap.size + 1 + 1, 0, none⟩ = some (.int .i64 s) := cell_of_row _ _ 0 _ _ (0, 0) h2; have m6 : w3.cell? ⟨w.heap.size + 1 + 1, 1, none⟩ = some (.slice A1 n c1) := cell_of_row _ _ 1 _ _ (0, 0) h2; have m7 : w3.cell? ⟨w.heap.size + 1 + 1, 2, none⟩ = some (.slice Ar nr cr) := cell_of_row _ _ 2 _ _ (0, 0) h2; have i1 := (heap_setCell_other w3 ⟨w.heap.size + 1 + 1, 2, none⟩ (w.heap.size + 1) (.slice A2 nr c2) hne12).trans h1; have i2 : (w3.setCell ⟨w.heap.size + 1 + 1, 2, none⟩ (.slice A2 nr c2)).heap[w.heap.size + 1 + 1]? = some (.cells #[.int .i64 s, .slice A1 n c1, .slice A2 nr c2] 26) := heap_setCell_same w3 (w.heap.size + 1 + 1) 2 _ _ (.slice A2 nr c2) h2; have k5 : (w3.setCell ⟨w.heap.size + 1 + 1, 2, none⟩ (.slice A2 nr c2)).cell? ⟨w.heap.size + 1 + 1, 0, none⟩ = some (.int .i64 s) := cell_of_row _ _ 0 _ _ (0, 0) i2; have k6 : (w3.setCell ⟨w.heap.size + 1 + 1, 2, none⟩ (.slice A2 nr c2)).cell? ⟨w.heap.size + 1 + 1, 1, none⟩ = some (.slice A1 n c1) := cell_of_row _ _ 1 _ _ (0, 0) i2; have k7 : (w3.setCell ⟨w.heap.size + 1 + 1, 2, none⟩ (.slice A2 nr c2)).cell? ⟨w.heap.size + 1 + 1, 2, none⟩ = some (.slice A2 nr c2) := cell_of_row _ _ 2 _ _ (0, 0) i2)
    | (refine wpList_store_row rfl 26 _ _ rfl (w.heap.size + 1) #[.int .i64 s, .slice A1 n c1, .slice A2 nr c2] rfl rfl 26 #[.int .i64 0, .slice none 0 0, .slice none 0 0] i1 (Hi.out _ _ _ _ _ _ _) rfl (Hone.out _ _ _ _ _ _ _) ?_))
  have hs1' := hbw1.size
  have hs3 := hb3.size
  rw [World.size_setCell] at hs3
  have hBe : Below w.heap.size w ((w3.setCell ⟨w.heap.size + 1 + 1, 2, none⟩ (.slice A2 nr c2)).setRow (w.heap.size + 1) #[.int .i64 s, .slice A1 n c1, .slice A2 nr c2]) := setRow_below5 ((step hB2 hb3).setCell (show w.heap.size ≤ w.heap.size + 1 + 1 by omega) _) (by omega)
  have ho1' : Ow (w1.setCell ⟨w.heap.size + 1 + 1, 1, none⟩ (.slice A1 n c1)) (w.heap.size + 1 + 1 + 1) A1 n c1 gi := ho1.far (row := some (w.heap.size + 1 + 1)) grown_set (fun b hb e => by have := ho1.own_lo b hb; injection e with e; omega)
  have ho3 := ho1'.below hb3
  have ho4 : Ow (w3.setCell ⟨w.heap.size + 1 + 1, 2, none⟩ (.slice A2 nr c2)) (w.heap.size + 1 + 1 + 1) A1 n c1 gi := ho3.far (row := some (w.heap.size + 1 + 1)) grown_set (fun b hb e => by have := ho1.own_lo b hb; injection e with e; omega)
  have ho5 : OwR (w3.setCell ⟨w.heap.size + 1 + 1, 2, none⟩ (.slice A2 nr c2)) (w1.setCell ⟨w.heap.size + 1 + 1, 1, none⟩ (.slice A1 n c1)).heap.size (.slice A2 nr c2) rs nr := ho2.far (row := some (w.heap.size + 1 + 1)) grown_set (fun b e => by injection e with e; omega)
  refine bodyPost_ret (v := .agg #[.int .i64 s, .slice A1 n c1, .slice A2 nr c2]) (results_cell_row (by rfl) _ _ (w.heap.size + 1) 26 _ (0, 0) _ rfl (setRow_heap _ _ _ _ _ _ i1) Try.underlying26 rfl (Hi.out _ _ _ _ _ _ _)) rfl ⟨_, _, _, _, rfl, (ho4.row5 (fun b hb => ?_)).mono (by omega), (ho5.far (row := some (w.heap.size + 1)) grown_row (fun b e => ?_)).mono (by rw [World.size_setCell]; omega), hBe⟩
  · have := ho4.own_lo b hb
    omega
  · injection e with e
    omega
end Go.Proofs.Ytgejahkdiciplab
