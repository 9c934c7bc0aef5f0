import Derived.Test.YtkeoflnmbcdmfaaDoorMSa
import Derived.RegionTactic
import Derived.Test.YtkeoflnmbcdmfaaDoorBase
import Derived.Test.YtkeoflnmbcdmfaaDoorPut
import Derived.Test.YtkeoflnmbcdmfaaDoorMW1F
import Derived.Deep.RegionLaw
import Derived.Maps.AppendAt
import Derived.Test.YtkeoflnmbcdmfaaDoorMKp
import Derived.Deep.RegionHeld3
set_option maxRecDepth 8000
namespace Go.Proofs.YtkeoflnmbcdmfaaDoor
open Go.ChangeShapes Go.WideShapes Go.ChangeAt Go.RowKit
/-! One cell of the search: its options, its rules. -/
theorem opt_in {s : Nat} {gi : List Int} {c : Nat} (hok : 0 ≤ nth gi c ∧ nth gi c ≤ (s : Int)) {v : Int} (h : v ∈ optL s gi c) : ∃ u : Nat, v = (u : Int) ∧ 1 ≤ u ∧ u ≤ s := by
  obtain ⟨t, e, t1, t4, hb⟩ := bits_iff.1 h
  refine ⟨t, e, t1, ?_⟩
  unfold candN at hb
  split at hb
  · next h0 =>
    rw [Nat.testBit_two_pow, decide_eq_true_eq] at hb
    omega
  · rw [Int.toNat_natCast] at hb
    exact ((candTo_test gi s c t s).1 hb).2.1
theorem nth_mem {xs : List Int} {k : Nat} (h : k < xs.length) : nth xs k ∈ xs := by
  have : nth xs k = xs[k] := by simp [nth, List.getD_eq_getElem?_getD, h]
  rw [this]; exact List.getElem_mem h
theorem holdsQ_is {rs : List RuleM} {us : List Int} {p : Nat} : holdsQ us (rulesAt rs p) = rlOk rs us p := by
  unfold holdsQ rlOk
  rw [Bool.eq_iff_iff, List.all_eq_true, List.all_eq_true]
  constructor
  · intro h r hr
    obtain ⟨i, hi, rfl⟩ := rat_mem hr
    exact h i (List.mem_range.2 hi)
  · intro h i hi
    rw [List.mem_range] at hi
    refine h _ ?_
    have : rat (rulesAt rs p) i = (rulesAt rs p)[i] := by simp [rat, List.getD_eq_getElem?_getD, hi]
    rw [this]; exact List.getElem_mem hi
/-- the rules that end at cell p: valid, and none of their cells lies behind it. -/
theorem at_ok {s : Nat} {rs : List RuleM} {p : Nat} (hr : ∀ i, i < rs.length → rvR s (rat rs i) = true) {i : Nat} (hi : i < (rulesAt rs p).length) : rvR s (rat (rulesAt rs p) i) = true ∧ ∀ j, j < (rat (rulesAt rs p) i).xs.length → 0 ≤ nth (rat (rulesAt rs p) i).xs j ∧ (nth (rat (rulesAt rs p) i).xs j).toNat ≤ p := by
  have hm : rat (rulesAt rs p) i ∈ rulesAt rs p := by
    have : rat (rulesAt rs p) i = (rulesAt rs p)[i] := by simp [rat, List.getD_eq_getElem?_getD, hi]
    rw [this]; exact List.getElem_mem hi
  obtain ⟨h1, h2⟩ := List.mem_filter.1 hm
  rw [beq_iff_eq] at h2
  obtain ⟨k, hk, e⟩ := rat_mem h1
  have hv := hr k hk
  rw [e] at hv
  refine ⟨hv, fun j hj => ⟨((rv_cells hv).2 j hj).1, ?_⟩⟩
  have := lastN_ge (xs := (rat (rulesAt rs p) i).xs) hj
  unfold lastR at h2
  omega
theorem holdsQ_congr {q : List RuleM} {us ys : List Int} {p : Nat} (h : ∀ i, i ≤ p → nth us i = nth ys i) (hq : ∀ i, i < q.length → ∀ j, j < (rat q i).xs.length → (nth (rat q i).xs j).toNat ≤ p) : holdsQ us q = holdsQ ys q := by
  unfold holdsQ
  rw [Bool.eq_iff_iff, List.all_eq_true, List.all_eq_true]
  have key : ∀ i, i < q.length → holdsR us (rat q i) = holdsR ys (rat q i) := fun i hi => by
    unfold holdsR
    have : pks us (rat q i).xs (rat q i).xs.length = pks ys (rat q i).xs (rat q i).xs.length := by
      apply ext_nth (by rw [pks_length, pks_length])
      intro k hk
      rw [pks_length] at hk
      rw [pks_nth hk, pks_nth hk]
      exact h _ (hq i hi k hk)
    rw [this]
  constructor
  · intro H i hi; rw [← key i (List.mem_range.1 hi)]; exact H i hi
  · intro H i hi; rw [key i (List.mem_range.1 hi)]; exact H i hi
theorem take_flat {L : List Int} {F : Int → List (List Int)} {u : Nat} (h : u < L.length) : (L.take (u + 1)).flatMap F = (L.take u).flatMap F ++ F (nth L u) := by
  rw [List.take_add_one, List.getElem?_eq_getElem h, List.flatMap_append]
  simp [nth, List.getD_eq_getElem?_getD, h]
/-- what cover leaves: all solutions told, or the one who is told said no. -/
def CovPost (J : List (List Int) → World → Prop) (Jx : World → Prop) (M lo G n : Nat) (vs : List Int) (X : World) (ways : List (List Int)) (e : Ending) (Y : World) : Prop :=
  (e = .returned (.bool true) ∧ J ways Y ∧ MidX M G X Y ∧ ∃ ys, Ow Y lo (some ⟨G, 0, none⟩) n n ys ∧ ∀ i, i < vs.length → nth ys i = nth vs i) ∨ (e = .returned (.bool false) ∧ Jx Y)
theorem SBox.midx {w w' : World} {M g G0 G OB RB n : Nat} (h : SBox w g G OB RB n) (hm : MidX M G0 w w') (h1 : M ≤ g) (h2 : g ≠ G0) : SBox w' g G OB RB n :=
  ⟨hm.cell h.1 h1 h2, hm.cell h.2.1 h1 h2, hm.cell h.2.2 h1 h2⟩
end Go.Proofs.YtkeoflnmbcdmfaaDoor
namespace Go.Proofs.YtkeoflnmbcdmfaaDoor
/-! A region that draws its order, by an invariant: one step a row of the region, whatever the order. -/
section
variable {P : Program} {md : Region.Mode} {ops : Array Oper} {Q : Exit → Act → World → Prop} {Inv : Array Bool → Act → World → Prop}
def unl (l : Array Bool) : Nat := l.toList.countP (fun b => b == false)
theorem unl_set {l : Array Bool} {i : Nat} (h : l.getD i true = false) : unl (l.setIfInBounds i true) < unl l := by
  have hi : i < l.size := by
    rcases Nat.lt_or_ge i l.size with h' | h'
    · exact h'
    · simp [Array.getElem?_eq_none h'] at h
  have he : l.toList[i]'(by simpa using hi) = false := by simpa [hi] using h
  unfold unl
  rw [Array.toList_setIfInBounds, List.countP_set (by simpa using hi), he]
  have : 0 < l.toList.countP (fun b => b == false) := List.countP_pos_iff.2 ⟨false, by rw [← he]; exact List.getElem_mem _, rfl⟩
  show List.countP (fun b => b == false) l.toList - 1 + 0 < List.countP (fun b => b == false) l.toList
  omega
theorem unl_zero {l : Array Bool} (h : unl l = 0) (i : Nat) : l.getD i true = true := by
  unfold unl at h
  rw [List.countP_eq_zero] at h
  rcases Nat.lt_or_ge i l.size with h' | h'
  · have := h (l.toList[i]'(by simpa using h')) (List.getElem_mem _)
    simpa [h'] using this
  · simp [Array.getElem?_eq_none h']
theorem wpAny_inv (hback : ∀ (i : Nat) (o : Oper), ops[i]? = some o → ∀ e ∈ o.after, e.on < i) (hsz : ∀ l a w, Inv l a w → l.size = ops.size)
    (hstep : ∀ l a w (i : Nat) (o : Oper), Inv l a w → ops[i]? = some o → l.getD i true = false → (∀ e ∈ o.after, Region.binds md e = true → l.getD e.on false = true) → wpOp P ops Q i (Inv (l.setIfInBounds i true)) a w)
    (hdone : ∀ l a w, Inv l a w → (∀ i, i < ops.size → l.getD i false = true) → Q .normal a w) :
    ∀ fuel l a w, unl l ≤ fuel → Inv l a w → wpAny P md ops Q fuel l a w := by
  have fin : ∀ l a w, Inv l a w → Region.ready md ops l = [] → Q .normal a w := by
    intro l a w hI hr
    refine hdone l a w hI ?_
    intro i
    induction i using Nat.strongRecOn with
    | ind i ih =>
      intro hi
      cases hb : l.getD i false with
      | true => rfl
      | false =>
        exfalso
        have hil : i < l.size := by rw [hsz l a w hI]; exact hi
        have ho : ops[i]? = some ops[i] := Array.getElem?_eq_getElem hi
        have : i ∈ Region.ready md ops l := mem_ready.2 ⟨by simpa [hil] using hb, ops[i], ho, fun e he _ => ih e.on (hback i _ ho e he) (Nat.lt_trans (hback i _ ho e he) hi)⟩
        rw [hr] at this
        cases this
  intro fuel
  induction fuel with
  | zero =>
    intro l a w hu hI
    have hr : Region.ready md ops l = [] := by
      cases e : Region.ready md ops l with
      | nil => rfl
      | cons j r =>
        have hj : j ∈ Region.ready md ops l := by rw [e]; exact List.mem_cons_self ..
        have h1 := (mem_ready.1 hj).1
        rw [unl_zero (by omega) j] at h1
        cases h1
    exact ⟨hr, fin l a w hI hr⟩
  | succ fuel ih =>
    intro l a w hu hI
    refine ⟨fin l a w hI, fun i hi => ?_⟩
    obtain ⟨h1, o, ho, hall⟩ := mem_ready.1 hi
    refine wpOp_mono (fun a' w' h => ih _ a' w' ?_ h) (hstep l a w i o hI ho h1 hall)
    have := unl_set h1
    omega
theorem wp_region_inv {id : Nat} {a : Act} {w : World} (hm : P.follows .mixedOrders = true) (hback : ∀ (i : Nat) (o : Oper), ops[i]? = some o → ∀ e ∈ o.after, e.on < i) (hsz : ∀ l a w, Inv l a w → l.size = ops.size)
    (hstep : ∀ l a w (i : Nat) (o : Oper), Inv l a w → ops[i]? = some o → l.getD i true = false → (∀ e ∈ o.after, Region.binds .any e = true → l.getD e.on false = true) → wpOp P ops Q i (Inv (l.setIfInBounds i true)) a w)
    (hdone : ∀ l a w, Inv l a w → (∀ i, i < ops.size → l.getD i false = true) → Q .normal a w)
    (h0 : Inv (Array.replicate ops.size false) a { w with drawn := w.drawn + 1 }) : (Code.region id ops true).wp P Q a w :=
  wp_region_any hm (wpAny_inv hback hsz hstep hdone _ _ _ _ (by
    unfold unl
    exact Nat.le_trans (List.countP_le_length) (by simp)) h0)
end
/-- A frame that differs from another in some slots alone. -/
theorem frame_of {a a0 : Array Value} (ts : List Nat) (hs : a.size = a0.size) (h : ∀ t, t ∉ ts → a[t]? = a0[t]?) : a = ts.foldl (fun tm t => tm.setIfInBounds t (a.getD t undef)) a0 := by
  have key : ∀ (ts : List Nat) (b : Array Value), b.size = a.size → ∀ t, (ts.foldl (fun tm t => tm.setIfInBounds t (a.getD t undef)) b)[t]? = if t ∈ ts then a[t]? else b[t]? := by
    intro ts
    induction ts with
    | nil => intro b _ t; simp
    | cons u ts ih =>
      intro b hb t
      rw [List.foldl_cons, ih _ (by simpa using hb)]
      by_cases e : t ∈ ts
      · simp [e]
      · simp only [e, if_false, List.mem_cons, or_false]
        by_cases hu : t = u
        · subst hu
          rw [if_pos rfl]
          rcases Nat.lt_or_ge t a.size with h' | h'
          · simp [Array.getElem?_setIfInBounds_self_of_lt (hb ▸ h'), h']
          · rw [Array.getElem?_eq_none h', Array.getElem?_eq_none (by simp; omega)]
        · rw [if_neg hu, Array.getElem?_setIfInBounds_ne (fun e' => hu e'.symm)]
  apply Array.ext_getElem?
  intro t
  rw [key ts a0 hs.symm t]
  split
  · rfl
  · exact h t (by assumption)
end Go.Proofs.YtkeoflnmbcdmfaaDoor
namespace Go.Proofs.YtkeoflnmbcdmfaaDoor
open Go.ChangeShapes Go.WideShapes Go.ChangeAt Go.RowKit
/-! A region that draws its order and makes values and new blocks alone, but for its last operation, a store. -/
/-- Two frames agree outside some slots. -/
def Off (d : Nat → Nat) (m : Nat) (a a0 : Act) : Prop := a.tmps.size = a0.tmps.size ∧ a.defers = a0.defers ∧ ∀ t, (∀ j, j < m → d j ≠ t) → a.tmps[t]? = a0.tmps[t]?
theorem Off.eval {d : Nat → Nat} {m : Nat} {a a0 : Act} (h : Off d m a a0) {t : Nat} (ht : ∀ j, j < m → d j ≠ t) : a.eval (.tmp t) = a0.eval (.tmp t) := by
  simp [Act.eval, h.2.2 t ht]
theorem wp_region_made {P : Program} {ops : Array Oper} {Q : Exit → Act → World → Prop} {id : Nat} {a0 : Act} {W : World} (m : Nat) (d : Nat → Nat) (G : Nat → Value → World → Prop)
    (hm : P.follows .mixedOrders = true) (hlen : ops.size = m + 1) (hback : ∀ (i : Nat) (o : Oper), ops[i]? = some o → ∀ e ∈ o.after, e.on < i)
    (hd : ∀ i o, i < m → ops[i]? = some o → o.dst = some (d i) ∧ o.guard = none) (hinj : ∀ i j, i < m → j < m → d i = d j → i = j) (hlt : ∀ i, i < m → d i < a0.tmps.size)
    (hl : ∀ o, ops[m]? = some o → o.dst = none ∧ o.guard = none ∧ ∀ j, j < m → ∃ e ∈ o.after, e.on = j ∧ Region.binds .any e = true)
    (hG : ∀ j v w w', Below w.heap.size w w' → G j v w → G j v w')
    (hstep : ∀ i o a w, i < m → ops[i]? = some o → Below W.heap.size W w → Off d m a a0 → (∀ e ∈ o.after, Region.binds .any e = true → G e.on (a.eval (.tmp (d e.on))) w) → ∃ v w', (execOp a.eval o).run P w = .ok (.value v) w' ∧ Below w.heap.size w w' ∧ G i v w')
    (hlast : ∀ o a w, ops[m]? = some o → Below W.heap.size W w → Off d m a a0 → (∀ j, j < m → G j (a.eval (.tmp (d j))) w) → ∃ w', (execOp a.eval o).run P w = .ok .skip w' ∧ Q .normal a w') :
    (Code.region id ops true).wp P Q a0 W := by
  refine wp_region_inv (Inv := fun l a w => l.size = ops.size ∧ ((l.getD m false = false ∧ Below W.heap.size W w ∧ Off d m a a0 ∧ ∀ j, j < m → l.getD j false = true → G j (a.eval (.tmp (d j))) w) ∨ ((∀ j, j < ops.size → l.getD j false = true) ∧ Q .normal a w))) hm hback (fun l a w h => h.1) ?step ?done ?h0
  case done =>
    rintro l a w ⟨hs, h⟩ hall
    rcases h with ⟨h1, _⟩ | ⟨_, h⟩
    · rw [hall m (by omega)] at h1; cases h1
    · exact h
  case h0 =>
    refine ⟨by simp, .inl ⟨by rw [Array.getD_eq_getD_getElem?, Array.getElem?_replicate]; split <;> rfl, (Below.refl W.heap.size W).drew, ⟨rfl, rfl, fun _ _ => rfl⟩, fun j hj hlj => ?_⟩⟩
    simp at hlj
    have : j < ops.size := by omega
    simp [this] at hlj
  case step =>
    rintro l a w i o ⟨hs, h⟩ ho hli hall
    have hi : i < ops.size := (Array.getElem?_eq_some_iff.1 ho).1
    have hil : i < l.size := by omega
    rcases h with ⟨h1, hb, hoff, hg⟩ | ⟨h, _⟩
    · refine wpOp_step ho (fun K hK => ?_)
      have hsz : (l.setIfInBounds i true).size = ops.size := by simpa using hs
      by_cases him : i = m
      · subst him
        obtain ⟨q1, q2, q3⟩ := hl o ho
        have hallj : ∀ j, j < i → l.getD j false = true := fun j hj => by
          obtain ⟨e, he, rfl, hbd⟩ := q3 j hj
          exact hall e he hbd
        obtain ⟨w', hrun, hq⟩ := hlast o a w ho hb hoff (fun j hj => hg j hj (hallj j hj))
        rw [if_pos (by simp [Region.wanted, q2])]
        unfold Oper.wp
        rw [hrun]
        have hput : a.put o.dst undef = a := by rw [q1]; rfl
        refine hK _ _ ⟨hsz, .inr ⟨fun j hj => ?_, ?_⟩⟩
        · by_cases e : j = i
          · subst e; simp [hil]
          · have := hallj j (by omega)
            have hjl : j < l.size := by omega
            have hset : (l.setIfInBounds i true).getD j false = l.getD j false := by simp [Array.getElem?_setIfInBounds_ne (fun e' => e (Eq.symm e'))]
            rw [hset]; exact this
        · first | exact hq | (rw [hput]; exact hq)
      · have him' : i < m := by omega
        obtain ⟨q1, q2⟩ := hd i o him' ho
        have hpre : ∀ e ∈ o.after, Region.binds .any e = true → G e.on (a.eval (.tmp (d e.on))) w := fun e he hbd => hg e.on (Nat.lt_trans (hback i o ho e he) him') (hall e he hbd)
        obtain ⟨v, w', hrun, hb', hgi⟩ := hstep i o a w him' ho hb hoff hpre
        rw [if_pos (by simp [Region.wanted, q2])]
        unfold Oper.wp
        rw [hrun]
        have hdlt : d i < a.tmps.size := by rw [hoff.1]; exact hlt i him'
        have hset : ∀ j, (l.setIfInBounds i true).getD j false = if j = i then true else l.getD j false := fun j => by
          by_cases e : j = i
          · subst e; simp [hil]
          · rw [if_neg e]; simp [Array.getElem?_setIfInBounds_ne (fun e' => e (Eq.symm e'))]
        refine hK _ _ ⟨hsz, .inl ⟨by rw [hset, if_neg (fun e => him e.symm)]; exact h1, step hb hb', ?_, fun j hj hlj => ?_⟩⟩
        · rw [q1]
          refine ⟨by rw [size_put]; exact hoff.1, hoff.2.1, fun t ht => ?_⟩
          rw [← hoff.2.2 t ht]
          simp [Act.put, Array.getElem?_setIfInBounds_ne (ht i him')]
        · rw [q1]
          by_cases e : j = i
          · subst e; rw [eval_put_same hdlt]; exact hgi
          · rw [eval_put_ne (fun e' => e (hinj _ _ hj him' e'.symm))]
            rw [hset, if_neg e] at hlj
            exact hG _ _ _ _ hb' (hg j hj hlj)
    · have := h i hi
      simp [hil] at hli this
      rw [this] at hli; cases hli
/-- What the kernel reckons of a region whose operations write the slots ds, in order, and whose last one is a store that waits for all. -/
def chkOps (ops : Array Oper) (ds : List Nat) : Bool :=
  ops.size == ds.length + 1 && ((List.range ops.size).all fun i => match ops[i]? with
    | some o => o.after.all fun e => decide (e.on < i)
    | none => false) && ((List.range ds.length).all fun i => match ops[i]? with
    | some o => decide (o.dst = some (ds.getD i 0)) && o.guard.isNone
    | none => false) && (match ops[ds.length]? with
    | some o => o.dst.isNone && o.guard.isNone && (List.range ds.length).all fun j => o.after.any fun e => e.on == j && Region.binds .any e
    | none => false) && decide ds.Nodup
theorem wp_region_ds {P : Program} {ops : Array Oper} {Q : Exit → Act → World → Prop} {id : Nat} {a0 : Act} {W : World} (ds : List Nat) (G : Nat → Value → World → Prop)
    (hm : P.follows .mixedOrders = true) (hc : chkOps ops ds = true) (hlt : ∀ t ∈ ds, t < a0.tmps.size)
    (hG : ∀ j v w w', Below w.heap.size w w' → G j v w → G j v w')
    (hstep : ∀ (i : Nat) (o : Oper) (a : Act) (w : World), i < ds.length → ops[i]? = some o → Below W.heap.size W w → (∀ t, t ∉ ds → a.eval (.tmp t) = a0.eval (.tmp t)) → (∀ e ∈ o.after, Region.binds .any e = true → G e.on (a.eval (.tmp (ds.getD e.on 0))) w) → ∃ v w', (execOp a.eval o).run P w = .ok (.value v) w' ∧ Below w.heap.size w w' ∧ G i v w')
    (hlast : ∀ (o : Oper) (a : Act) (w : World), ops[ds.length]? = some o → Below W.heap.size W w → a.defers = a0.defers → a.tmps = ds.foldl (fun tm t => tm.setIfInBounds t (a.tmps.getD t undef)) a0.tmps → (∀ t, t ∉ ds → a.eval (.tmp t) = a0.eval (.tmp t)) → (∀ j, j < ds.length → G j (a.eval (.tmp (ds.getD j 0))) w) → ∃ w', (execOp a.eval o).run P w = .ok .skip w' ∧ Q .normal a w') :
    (Code.region id ops true).wp P Q a0 W := by
  simp only [chkOps, Bool.and_eq_true, beq_iff_eq, List.all_eq_true, List.mem_range, decide_eq_true_eq] at hc
  obtain ⟨⟨⟨⟨c1, c2⟩, c3⟩, c4⟩, c5⟩ := hc
  have hout : ∀ t, t ∉ ds → ∀ j, j < ds.length → ds.getD j 0 ≠ t := fun t ht j hj e => ht (by
    rw [← e, List.getD_eq_getElem?_getD, List.getElem?_eq_getElem hj]; exact List.getElem_mem _)
  have hmem : ∀ j, j < ds.length → ds.getD j 0 ∈ ds := fun j hj => by
    rw [List.getD_eq_getElem?_getD, List.getElem?_eq_getElem hj]; exact List.getElem_mem _
  refine wp_region_made ds.length (fun j => ds.getD j 0) G hm c1 ?back ?hd ?inj (fun i hi => hlt _ (hmem i hi)) ?hl hG ?step ?last
  case back =>
    intro i o ho e he
    have hi : i < ops.size := (Array.getElem?_eq_some_iff.1 ho).1
    have := c2 i hi
    rw [ho] at this
    simp only [Array.all_eq_true_iff_forall_mem, decide_eq_true_eq] at this
    exact this e he
  case hd =>
    intro i o hi ho
    have := c3 i hi
    rw [ho] at this
    simp only [Bool.and_eq_true, decide_eq_true_eq, Option.isNone_iff_eq_none] at this
    exact this
  case inj =>
    intro i j hi hj e
    simp only [List.getD_eq_getElem?_getD, List.getElem?_eq_getElem hi, List.getElem?_eq_getElem hj, Option.getD_some] at e
    exact (List.getElem_inj c5).1 e
  case hl =>
    intro o ho
    rw [ho] at c4
    simp only [Bool.and_eq_true, Option.isNone_iff_eq_none, List.all_eq_true, List.mem_range] at c4
    refine ⟨c4.1.1, c4.1.2, fun j hj => ?_⟩
    obtain ⟨e, he, h⟩ := Array.any_eq_true'.1 (c4.2 j hj)
    rw [Bool.and_eq_true, beq_iff_eq] at h
    exact ⟨e, he, h.1, h.2⟩
  case step =>
    intro i o a w hi ho hb hoff hpre
    exact hstep i o a w hi ho hb (fun t ht => hoff.eval (hout t ht)) hpre
  case last =>
    intro o a w ho hb hoff hpre
    refine hlast o a w ho hb hoff.2.1 (frame_of ds hoff.1 (fun t ht => hoff.2.2 t (hout t ht))) (fun t ht => hoff.eval (hout t ht)) hpre
end Go.Proofs.YtkeoflnmbcdmfaaDoor
set_option maxRecDepth 8000
namespace Go.Proofs.YtkeoflnmbcdmfaaDoor
open Go.ChangeShapes Go.WideShapes Go.ChangeAt Go.RowKit
/-! What the search is built of: rows of options, rows of rules. -/
theorem own_cells {w : World} {lo sz k cap : Nat} {t : TypeId} {A : Option Addr} {vs : List Value} (h : w.ownsRow lo t sz (.slice A k cap) k vs) (hk : 0 < k) : ∃ g, A = some ⟨g, 0, none⟩ ∧ lo ≤ g ∧ g < w.heap.size ∧ ∀ j u, vs[j]? = some u → w.cell? ⟨g, j, none⟩ = some u := by
  obtain ⟨hvl, hcase⟩ := id h
  rcases hcase with ⟨_, h0⟩ | ⟨g, cap', cur, hv, hlog, hrow, h1, h2, h3, h4⟩
  · omega
  · injection hv with hA _ _
    subst hA
    refine ⟨g, rfl, hlog, (Array.getElem?_eq_some_iff.1 hrow).1, fun j u hj => ?_⟩
    rw [cell_of_row w g j cur _ _ hrow]
    rw [← h4, List.getElem?_take] at hj
    split at hj
    · simpa using hj
    · cases hj
theorem own_kept {w w' : World} {lo sz k : Nat} {t : TypeId} {v : Value} {vs : List Value} {row : Option Nat} (h : w.ownsRow lo t sz v k vs) (hg : w.grownBy w' row) (hne : ∀ g, v.ownBlock = some g → row ≠ some g) : w'.ownsRow lo t sz v k vs := by
  refine World.ownsRow.kept h hg ?_
  cases e : v.ownBlock with
  | none => exact .inl rfl
  | some g => exact .inr (fun he => hne g e he.symm)
theorem own_below {w w' : World} {lo sz k : Nat} {t : TypeId} {v : Value} {vs : List Value} (h : w.ownsRow lo t sz v k vs) (hb : Below w.heap.size w w') : w'.ownsRow lo t sz v k vs :=
  own_kept (row := none) h ⟨hb.os, hb.tape, hb.output, hb.size, fun k hk _ => hb.block k hk⟩ (fun g _ e => by cases e)
/-- what the operations of 'rows[c] = append(rows[c], x)' yield. -/
def PsG (SB f OB c n : Nat) (A : Option Addr) (t cap : Nat) (cells : Array Value) (elT : TypeId) (sz lo : Nat) (vs : List Value) (B : Nat) : Nat → Value → World → Prop
  | 0, v, _ => v = .pointer (some ⟨SB, f, none⟩)
  | 1, v, _ => v = .slice (some ⟨OB, 0, none⟩) n n
  | 2, v, _ => v = .int .i64 (c : Nat)
  | 3, v, _ => v = .pointer (some ⟨SB, f, none⟩)
  | 4, v, _ => v = .slice (some ⟨OB, 0, none⟩) n n
  | 5, v, _ => v = .int .i64 (c : Nat)
  | 6, v, _ => v = .pointer (some ⟨OB, c, none⟩)
  | 7, v, _ => v = .slice A t cap
  | 8, v, _ => v = .agg cells
  | 9, v, w => ∃ g, v = .slice (some ⟨g, 0, none⟩) 1 1 ∧ w.heap[g]? = some (.cells cells elT) ∧ (Value.slice A t cap).ownBlock ≠ some g
  | 10, v, w => ∃ g' cap', v = .slice (some ⟨g', 0, none⟩) (t + 1) cap' ∧ w.ownsRow lo elT sz (.slice (some ⟨g', 0, none⟩) (t + 1) cap') (t + 1) (vs ++ cells.toList) ∧ ((Value.slice A t cap).ownBlock = some g' ∨ B ≤ g')
  | 11, v, _ => v = .pointer (some ⟨OB, c, none⟩)
  | _, _, _ => True
theorem psG_eff {SB f OB c n : Nat} {A : Option Addr} {t cap : Nat} {cells : Array Value} {elT : TypeId} {sz lo : Nat} {vs : List Value} {B : Nat} (j i : Nat) (v : Value) (w1 w2 : World) (hji : j ≠ i) (he : (i = 10 → w1.grownBy w2 (Value.slice A t cap).ownBlock) ∧ (i ≠ 10 → Below w1.heap.size w1 w2)) (h : PsG SB f OB c n A t cap cells elT sz lo vs B j v w1) : PsG SB f OB c n A t cap cells elT sz lo vs B j v w2 := by
  unfold PsG at h ⊢
  split at h
  all_goals first
    | exact h
    | (obtain ⟨g, e, h1, h2⟩ := h
       refine ⟨g, e, ?_, h2⟩
       by_cases hi : i = 10
       · exact ((he.1 hi).block g (Array.getElem?_eq_some_iff.1 h1).1 (fun e2 => h2 e2.symm)).trans h1
       · exact ((he.2 hi).block g (Array.getElem?_eq_some_iff.1 h1).1).trans h1)
    | (obtain ⟨g', cap', e, h1, h2⟩ := h
       exact ⟨g', cap', e, own_below h1 (he.2 (fun e2 => hji e2.symm)), h2⟩)
theorem flat2_get {α β : Type} (f : α → β × β) : ∀ (L : List α) (i : Nat) (hi : i < L.length), (L.flatMap fun x => [(f x).1, (f x).2])[i * 2]? = some (f L[i]).1 ∧ (L.flatMap fun x => [(f x).1, (f x).2])[i * 2 + 1]? = some (f L[i]).2 := by
  intro L
  induction L with
  | nil => intro i hi; cases hi
  | cons a L ih =>
    intro i hi
    match i, hi with
    | 0, _ => simp
    | i + 1, hi =>
      have := ih i (by simpa using hi)
      simp only [List.flatMap_cons, List.cons_append, List.nil_append, show (i + 1) * 2 = i * 2 + 2 by omega, show i * 2 + 2 + 1 = (i * 2 + 1) + 2 by omega, List.getElem?_cons_succ, List.getElem_cons_succ]
      exact this
theorem flat3_get {α β : Type} (f : α → β × β × β) : ∀ (L : List α) (i : Nat) (hi : i < L.length), (L.flatMap fun x => [(f x).1, (f x).2.1, (f x).2.2])[i * 3]? = some (f L[i]).1 ∧ (L.flatMap fun x => [(f x).1, (f x).2.1, (f x).2.2])[i * 3 + 1]? = some (f L[i]).2.1 ∧ (L.flatMap fun x => [(f x).1, (f x).2.1, (f x).2.2])[i * 3 + 2]? = some (f L[i]).2.2 := by
  intro L
  induction L with
  | nil => intro i hi; cases hi
  | cons a L ih =>
    intro i hi
    match i, hi with
    | 0, _ => simp
    | i + 1, hi =>
      have := ih i (by simpa using hi)
      simp only [List.flatMap_cons, List.cons_append, List.nil_append, show (i + 1) * 3 = i * 3 + 3 by omega, show i * 3 + 3 + 1 = (i * 3 + 1) + 3 by omega, show i * 3 + 3 + 2 = (i * 3 + 2) + 3 by omega, List.getElem?_cons_succ, List.getElem_cons_succ]
      exact this
/-- the cells of options. -/
def optP (s c : Nat) (x : Int) : Value × Value := (.int .i64 x, .int .u64 ((itN s c x.toNat : Nat) : Int))
def optV (s c : Nat) (vs : List Int) : List Value := vs.flatMap fun x => [(optP s c x).1, (optP s c x).2]
theorem optV_push (s c : Nat) (vs : List Int) (x : Int) : optV s c (vs ++ [x]) = optV s c vs ++ [.int .i64 x, .int .u64 ((itN s c x.toNat : Nat) : Int)] := by
  simp [optV, optP]
/-- the rules' cells, those of their own slices lying at RA with the capacities RC. -/
def rulP (RA : Nat → Option Addr) (RC : Nat → Nat) (rs : List RuleM) (i : Nat) : Value × Value × Value := (.int .i64 (rat rs i).k, .slice (RA i) (rat rs i).xs.length (RC i), .int .i64 (rat rs i).v)
def rulV (RA : Nat → Option Addr) (RC : Nat → Nat) (rs : List RuleM) (L : List Nat) : List Value := L.flatMap fun i => [(rulP RA RC rs i).1, (rulP RA RC rs i).2.1, (rulP RA RC rs i).2.2]
theorem rulV_push (RA : Nat → Option Addr) (RC : Nat → Nat) (rs : List RuleM) (L : List Nat) (i : Nat) : rulV RA RC rs (L ++ [i]) = rulV RA RC rs L ++ [.int .i64 (rat rs i).k, .slice (RA i) (rat rs i).xs.length (RC i), .int .i64 (rat rs i).v] := by
  simp [rulV, rulP]
/-- the rules below r whose last cell is c. -/
def ixR (rs : List RuleM) (c r : Nat) : List Nat := (List.range r).filter fun i => lastR (rat rs i) == c
theorem ixR_succ (rs : List RuleM) (c r : Nat) : ixR rs c (r + 1) = ixR rs c r ++ (if lastR (rat rs r) = c then [r] else []) := by
  unfold ixR
  rw [List.range_succ, List.filter_append]
  congr 1
  by_cases h : lastR (rat rs r) = c
  · rw [if_pos h]; simp [h]
  · rw [if_neg h]; simp [h]
theorem rulesAt_ix (rs : List RuleM) (c : Nat) : rulesAt rs c = (ixR rs c rs.length).map (rat rs) := by
  unfold rulesAt ixR
  have key : rs = (List.range rs.length).map (rat rs) := by
    apply List.ext_getElem
    · simp
    · intro i h1 h2
      simp [rat, List.getD_eq_getElem?_getD, h1]
  conv => lhs; rw [key]
  rw [List.filter_map]
  rfl
/-- an array of slices. -/
def rowsArr (R : Nat → Value) (n : Nat) : Array Value := ((List.range n).map R).toArray
theorem rowsArr_size (R : Nat → Value) (n : Nat) : (rowsArr R n).size = n := by simp [rowsArr]
theorem rowsArr_get {R : Nat → Value} {n c : Nat} (h : c < n) : (rowsArr R n)[c]? = some (R c) := by simp [rowsArr, h]
def updR (R : Nat → Value) (c : Nat) (v : Value) : Nat → Value := fun j => if j = c then v else R j
theorem rowsArr_set (R : Nat → Value) (n c : Nat) (v : Value) : (rowsArr R n).setIfInBounds c v = rowsArr (updR R c v) n := by
  apply Array.ext_getElem?
  intro i
  rw [Array.getElem?_setIfInBounds]
  by_cases hi : i < n
  · rw [rowsArr_get hi, rowsArr_get hi, rowsArr_size]
    unfold updR
    by_cases e : c = i
    · subst e; rw [if_pos rfl, if_pos hi, if_pos rfl]
    · rw [if_neg e, if_neg (fun e' => e e'.symm)]
  · rw [Array.getElem?_eq_none (by rw [rowsArr_size]; omega), Array.getElem?_eq_none (by rw [rowsArr_size]; omega)]
    split
    · rename_i e; rw [rowsArr_size, if_neg (by omega)]
    · rfl
def Arr (w : World) (g : Nat) (t : TypeId) (R : Nat → Value) (n : Nat) : Prop := w.heap[g]? = some (.cells (rowsArr R n) t)
theorem Arr.lt {w : World} {g n : Nat} {t : TypeId} {R : Nat → Value} (h : Arr w g t R n) : g < w.heap.size := (Array.getElem?_eq_some_iff.1 h).1
theorem Arr.cell {w : World} {g n c : Nat} {t : TypeId} {R : Nat → Value} (h : Arr w g t R n) (hc : c < n) : w.cell? ⟨g, c, none⟩ = some (R c) := (cell_of_row w g c _ _ _ h).trans (rowsArr_get hc)
theorem Arr.free {w : World} {g n : Nat} {t : TypeId} {R : Nat → Value} (h : Arr w g t R n) (c : Nat) : w.frozen? ⟨g, c, none⟩ = false := frozen_of_row w g c _ _ h
theorem Arr.set {w : World} {g n : Nat} {t : TypeId} {R : Nat → Value} (h : Arr w g t R n) (c : Nat) (v : Value) : Arr (w.setCell ⟨g, c, none⟩ v) g t (updR R c v) n := by
  unfold Arr
  rw [heap_setCell_same w g c _ _ _ h, rowsArr_set]
theorem Arr.kept {w w' : World} {g n : Nat} {t : TypeId} {R : Nat → Value} (h : Arr w g t R n) (e : w'.heap[g]? = w.heap[g]?) : Arr w' g t R n := e.trans h
theorem nils_arr (n : Nat) : madeCells #[Value.slice none 0 0] n = rowsArr (fun _ => .slice none 0 0) n := by
  apply Array.toList_inj.1
  rw [toList_madeCells_one]
  simp [rowsArr]
  apply List.ext_getElem <;> simp
theorem rdo_own {w : World} {lo L s c cap : Nat} {A : Option Addr} {vs : List Int} (h : w.ownsRow lo 117 2 (.slice A vs.length cap) vs.length (optV s c vs)) (hL : L ≤ lo) : RdO w L A s c vs := fun hn => by
  obtain ⟨g, rfl, hg, _, hc⟩ := own_cells h hn
  refine ⟨g, rfl, by omega, fun i hi => ?_⟩
  obtain ⟨f1, f2⟩ := flat2_get (optP s c) vs i hi
  have e : nth vs i = vs[i] := by simp [nth, List.getD_eq_getElem?_getD, hi]
  rw [e]
  exact ⟨hc _ _ f1, hc _ _ f2⟩
theorem rdw_own {W0 w : World} {B0 lo L k cap c : Nat} {A : Option Addr} {RA : Nat → Option Addr} {RC : Nat → Nat} {rs : List RuleM} (h : w.ownsRow lo 63 3 (.slice A k cap) k (rulV RA RC rs (ixR rs c rs.length))) (hk : k = (ixR rs c rs.length).length) (hL : L ≤ lo)
    (hR : ∀ i, i < rs.length → Rd W0 B0 (RA i) (rat rs i).xs.length (rat rs i).xs ∧ (rat rs i).xs.length ≤ RC i) : RdW W0 B0 w L A (rulesAt rs c) := fun hn => by
  have hlen : (rulesAt rs c).length = (ixR rs c rs.length).length := by rw [rulesAt_ix, List.length_map]
  obtain ⟨g, rfl, hg, _, hc⟩ := own_cells h (by omega)
  refine ⟨g, rfl, by omega, fun i hi => ?_⟩
  have hi' : i < (ixR rs c rs.length).length := by omega
  obtain ⟨f1, f2, f3⟩ := flat3_get (rulP RA RC rs) (ixR rs c rs.length) i hi'
  have e : rat (rulesAt rs c) i = rat rs (ixR rs c rs.length)[i] := by
    rw [rulesAt_ix]
    show ((ixR rs c rs.length).map (rat rs)).getD i rnone = _
    rw [List.getD_eq_getElem?_getD, List.getElem?_map, List.getElem?_eq_getElem hi']
    rfl
  have hm : (ixR rs c rs.length)[i] < rs.length := by
    have := List.getElem_mem hi'
    exact List.mem_range.1 (List.mem_filter.1 this).1
  rw [e]
  obtain ⟨r1, r2⟩ := hR _ hm
  exact ⟨_, _, hc _ _ f1, hc _ _ f2, hc _ _ f3, r1, r2⟩
theorem ow_row {w : World} {lo g n : Nat} (h : w.heap[g]? = some (.cells (zeroArr n) 3)) (hlo : lo ≤ g) (hn : n ≤ 1099511627776) : Ow w lo (some ⟨g, 0, none⟩) n n (zeros n) := by
  have hz : (zeroArr n).toList = vals (zeros n) := by
    rw [zeroArr, toList_madeCells_one]
    simp [vals, zeros]
  have hsz : (zeroArr n).size = n := by simp [zeroArr, madeCells]
  refine ⟨by simp [vals, zeros], .inr ⟨g, n, zeroArr n, rfl, hlo, h, ?_, ?_, ?_, ?_⟩⟩
  all_goals first | (simp only [maxLen]; omega) | (rw [hsz]; omega) | (rw [hz, Nat.mul_one, List.take_of_length_le (by simp [vals, zeros])]) | omega
theorem rdrc_fun {W : World} {B n : Nat} {A : Option Addr} {rs : List RuleM} (h : RdRc W B A n rs) : ∃ (b off : Nat) (RA : Nat → Option Addr) (RC : Nat → Nat), (0 < n → A = some ⟨b, off, none⟩ ∧ b < B) ∧ ∀ i, i < n → W.cell? ⟨b, off + i * 3, none⟩ = some (.int .i64 (rat rs i).k) ∧ W.cell? ⟨b, off + i * 3 + 1, none⟩ = some (.slice (RA i) (rat rs i).xs.length (RC i)) ∧ W.cell? ⟨b, off + i * 3 + 2, none⟩ = some (.int .i64 (rat rs i).v) ∧ Rd W B (RA i) (rat rs i).xs.length (rat rs i).xs ∧ (rat rs i).xs.length ≤ RC i := by
  by_cases h0 : 0 < n
  · obtain ⟨b, off, e, hlt, hc⟩ := h.2 h0
    have key : ∀ i, ∃ q : Option Addr × Nat, i < n → W.cell? ⟨b, off + i * 3, none⟩ = some (.int .i64 (rat rs i).k) ∧ W.cell? ⟨b, off + i * 3 + 1, none⟩ = some (.slice q.1 (rat rs i).xs.length q.2) ∧ W.cell? ⟨b, off + i * 3 + 2, none⟩ = some (.int .i64 (rat rs i).v) ∧ Rd W B q.1 (rat rs i).xs.length (rat rs i).xs ∧ (rat rs i).xs.length ≤ q.2 := fun i => by
      by_cases hi : i < n
      · obtain ⟨A', c', a0, a1, a2, a3, _, a5⟩ := hc i hi
        exact ⟨(A', c'), fun _ => ⟨a0, a1, a2, a3, a5⟩⟩
      · exact ⟨(none, 0), fun h => absurd h hi⟩
    obtain ⟨f, hf⟩ := Classical.axiomOfChoice key
    exact ⟨b, off, fun i => (f i).1, fun i => (f i).2, fun _ => ⟨e, hlt⟩, hf⟩
  · exact ⟨0, 0, fun _ => none, fun _ => 0, fun h => absurd h h0, fun i hi => absurd hi (by omega)⟩
end Go.Proofs.YtkeoflnmbcdmfaaDoor
namespace Go.Proofs.YtkeoflnmbcdmfaaDoor
open Go.ChangeShapes Go.WideShapes Go.ChangeAt Go.RowKit

/-- push_int, and where the new slice lies: where the old one lay, or in a block of its own. -/
theorem push_int_at {w : World} {ops : Array Oper} {rest : List Oper} {o : Oper} {a : Act} {Q : Exit → Act → World → Prop} (hgd : o.guard = none) (s x : Operand)
    (ho : o.op = .call { callee := .builtin .append, args := #[s, x], argTypes := #[23, 23] })
    (lo : Nat) (A : Option Addr) (n c : Nat) (xs : List Int) (v : Int) (hs : a.eval s = .slice A n c) (hx : a.eval x = .slice (some ⟨w.heap.size, 0, none⟩) 1 1) (hown : Ow w lo A n c xs) (hn : n ≤ 1099511627776) (hlo : lo ≤ w.heap.size)
    (h : ∀ A' c' w', Ow w' lo A' (n + 1) c' (xs ++ [v]) → (w.alloc (.cells #[.int .i64 v] 3)).grownBy w' (Value.slice A n c).ownBlock → (∀ g, (Value.slice A' (n + 1) c').ownBlock = some g → (Value.slice A n c).ownBlock = some g ∨ w.heap.size < g) → wpList Tryd.prog ops Q rest (a.put o.dst (.slice A' (n + 1) c')) w') :
    wpList Tryd.prog ops Q (o :: rest) a (w.alloc (.cells #[.int .i64 v] 3)) := by
  obtain ⟨i0, hi, hz0, hz1, hz2⟩ := info_parts int_info
  refine Go.wpList_append_own_at (P := Tryd.prog) _ hgd s x 23 ho lo 3 i0 (.int .i64 0) 1 8 Tryd.underlying23 hi hz0 hz1 hz2 rfl (by decide) _ n (vals xs) hs (World.ownsRow.alloc hown _) ⟨w.heap.size, 0, none⟩ 1 1 [.int .i64 v] hx rfl ?_ ?_ (by simp only [maxLen]; omega) (by omega) (by simp; omega) ?_
  · intro j u hj
    match j, hj with
    | 0, hj =>
      simp at hj
      subst hj
      simp [Addr.add]
  · intro u hu
    simp at hu
    subst hu
    rfl
  · intro v' w' h2 h3 _ h5
    obtain ⟨g, cap, hv, _, _⟩ := World.ownsRow.form h2 (by omega)
    subst hv
    refine h _ _ _ (by unfold Ow; rw [vals_append]; exact h2) h3 (fun g' hg' => ?_)
    rcases h5 with h5 | h5
    · left; rw [← h5]; exact hg'
    · right
      rw [h5] at hg'
      simp at hg'
      omega
theorem Ow.kept_ne {w w' : World} {lo : Nat} {A A' : Option Addr} {n c n' c' : Nat} {xs : List Int} (h : Ow w lo A n c xs) (hg : w.grownBy w' (Value.slice A' n' c').ownBlock) (hne : ∀ g, (Value.slice A n c).ownBlock = some g → (Value.slice A' n' c').ownBlock ≠ some g) : Ow w' lo A n c xs := by
  refine World.ownsRow.kept h hg ?_
  cases e : (Value.slice A n c).ownBlock with
  | none => exact .inl rfl
  | some g => exact .inr (fun he => hne g e he.symm)
end Go.Proofs.YtkeoflnmbcdmfaaDoor
namespace Go.Proofs.YtkeoflnmbcdmfaaDoor
open Go.ChangeShapes Go.WideShapes Go.ChangeAt Go.RowKit

theorem gv_okAll {xs : List Int} {size : Int} {n : Nat} (hg : gv xs size = true) (hl : xs.length = n) : okAll xs size n := fun k hk => gv_nth hg (by rw [hl]; exact hk)

def sqOfG (size : Int) (k : Nat) : Int := ((k : Int) / size + (k : Int)) % size + 1
def sqOfL (size : Int) : List Int := if inr size 2 4 = true then mapTo (sqOfG size) (size * size).toNat else []

def missTo (has : Int → Bool) : Nat → List Int
  | 0 => []
  | v + 1 => missTo has v ++ (if has ((v : Int) + 1) = true then [] else [(v : Int) + 1])
def missL (xs : List Int) (size line : Int) : List Int := if (gv xs size && lineOk size line) = true then missTo (hasTo (lineV xs size line) size.toNat) size.toNat else []
theorem missTo_length (has : Int → Bool) (v : Nat) : (missTo has v).length ≤ v := by
  induction v with
  | zero => simp [missTo]
  | succ v ih => simp only [missTo, List.length_append]; split <;> simp <;> omega
theorem missL_length (xs : List Int) (size line : Int) : (missL xs size line).length ≤ 4 := by
  unfold missL
  split
  · next h =>
    simp only [Bool.and_eq_true] at h
    have := gv_size h.1
    have := missTo_length (hasTo (lineV xs size line) size.toNat) size.toNat
    omega
  · simp
end Go.Proofs.YtkeoflnmbcdmfaaDoor
namespace Go.Proofs.YtkeoflnmbcdmfaaDoor
open Go.ChangeShapes Go.WideShapes Go.ChangeAt Go.RowKit

/-- the program's masks behind the first k cells. -/
def lmask (xs : List Int) (s : Nat) : Nat → (Nat → Nat)
  | 0 => fun _ => 0
  | k + 1 => if nth xs k = 0 then lmask xs s k else mput (mput (lmask xs s k) (k / s) (nth xs k).toNat) (s + k % s) (nth xs k).toNat
def twice (xs : List Int) (s : Nat) : Nat → Bool
  | 0 => false
  | k + 1 => if nth xs k = 0 then twice xs s k else twice xs s k || ((lmask xs s k (k / s)).testBit (nth xs k).toNat || (lmask xs s k (s + k % s)).testBit (nth xs k).toNat)
/-- a cell lies in a line. -/
def onL (s l i : Nat) : Bool := i / s == l || s + i % s == l
theorem lmask_lt {xs : List Int} {s n : Nat} (hs : (s : Int) ≤ 4) (hok : okAll xs s n) : ∀ k, k ≤ n → ∀ l, l < 8 → lmask xs s k l < 32 := by
  intro k
  induction k with
  | zero => intro _ l _; simp [lmask]
  | succ k ih =>
    intro hk l hl
    have hv := hok k (by omega)
    simp only [lmask]
    split
    · exact ih (by omega) l hl
    · exact mput_lt (mput_lt (ih (by omega)) (by omega)) (by omega) l hl
theorem mput_test (M : Nat → Nat) (l u j v : Nat) : (mput M l u j).testBit v = ((M j).testBit v || (j == l && u == v)) := by
  unfold mput
  by_cases h : j = l
  · rw [if_pos h, Nat.testBit_or, Nat.testBit_two_pow]
    subst h
    rw [Bool.eq_iff_iff]
    simp
  · rw [if_neg h]
    simp [h]
theorem lmask_test {xs : List Int} {s n : Nat} (hok : okAll xs s n) (l v : Nat) : ∀ k, k ≤ n → ((lmask xs s k l).testBit v = true ↔ 0 < v ∧ ∃ i, i < k ∧ onL s l i = true ∧ nth xs i = (v : Int)) := by
  intro k
  induction k with
  | zero => intro _; simp [lmask]
  | succ k ih =>
    intro hk
    have hv := hok k (by omega)
    have ih := ih (by omega)
    simp only [lmask]
    by_cases hz : nth xs k = 0
    · rw [if_pos hz, ih]
      constructor
      · rintro ⟨h0, i, hi, h1, h2⟩; exact ⟨h0, i, by omega, h1, h2⟩
      · rintro ⟨h0, i, hi, h1, h2⟩
        have : i ≠ k := by rintro rfl; omega
        exact ⟨h0, i, by omega, h1, h2⟩
    · rw [if_neg hz, mput_test, mput_test, Bool.or_eq_true, Bool.or_eq_true, ih]
      simp only [Bool.and_eq_true, beq_iff_eq]
      constructor
      · rintro ((⟨h0, i, hi, h1, h2⟩ | ⟨h1, h2⟩) | ⟨h1, h2⟩)
        · exact ⟨h0, i, by omega, h1, h2⟩
        · exact ⟨by omega, k, by omega, by simp [onL, h1], by omega⟩
        · exact ⟨by omega, k, by omega, by simp [onL, h1], by omega⟩
      · rintro ⟨h0, i, hi, h1, h2⟩
        by_cases e : i = k
        · subst e
          simp only [onL, Bool.or_eq_true, beq_iff_eq] at h1
          rcases h1 with h1 | h1
          · exact .inl (.inr ⟨h1.symm, by omega⟩)
          · exact .inr ⟨h1.symm, by omega⟩
        · exact .inl (.inl ⟨h0, i, by omega, h1, h2⟩)
theorem onL_adj : ∀ s ∈ [2, 3, 4], ∀ i, i < s * s → ∀ j, j < s * s → adj s i j = (i != j && (onL s (j / s) i || onL s (s + j % s) i)) := by decide +kernel
theorem twice_iff {xs : List Int} {s n : Nat} (hs : s ∈ [2, 3, 4]) (hn : n = s * s) (hok : okAll xs s n) : ∀ k, k ≤ n → (twice xs s k = true ↔ ∃ i j, i < j ∧ j < k ∧ adj s i j = true ∧ nth xs i = nth xs j ∧ 0 < nth xs j) := by
  intro k
  induction k with
  | zero => intro _; simp [twice]
  | succ k ih =>
    intro hk
    have hv := hok k (by omega)
    have ih := ih (by omega)
    simp only [twice]
    by_cases hz : nth xs k = 0
    · rw [if_pos hz, ih]
      constructor
      · rintro ⟨i, j, h1, h2, h3, h4, h5⟩; exact ⟨i, j, h1, by omega, h3, h4, h5⟩
      · rintro ⟨i, j, h1, h2, h3, h4, h5⟩
        have : j ≠ k := by rintro rfl; omega
        exact ⟨i, j, h1, by omega, h3, h4, h5⟩
    · rw [if_neg hz, Bool.or_eq_true, Bool.or_eq_true, ih, lmask_test hok _ _ k (by omega), lmask_test hok _ _ k (by omega)]
      constructor
      · rintro (⟨i, j, h1, h2, h3⟩ | (⟨h0, i, hi, h1, h2⟩ | ⟨h0, i, hi, h1, h2⟩))
        · exact ⟨i, j, h1, by omega, h3⟩
        · refine ⟨i, k, hi, by omega, ?_, by omega, by omega⟩
          rw [onL_adj s hs i (by omega) k (by omega), h1]
          simp; omega
        · refine ⟨i, k, hi, by omega, ?_, by omega, by omega⟩
          rw [onL_adj s hs i (by omega) k (by omega), h1]
          simp; omega
      · rintro ⟨i, j, h1, h2, h3, h4, h5⟩
        by_cases e : j = k
        · subst e
          rw [onL_adj s hs i (by omega) j (by omega)] at h3
          simp only [Bool.and_eq_true, Bool.or_eq_true] at h3
          rcases h3.2 with h | h
          · exact .inr (.inl ⟨by omega, i, h1, h, by omega⟩)
          · exact .inr (.inr ⟨by omega, i, h1, h, by omega⟩)
        · exact .inl ⟨i, j, h1, by omega, h3, h4, h5⟩
theorem adj_symm : ∀ s ∈ [2, 3, 4], ∀ i, i < s * s → ∀ j, j < s * s → adj s i j = adj s j i ∧ (adj s i j = true → i ≠ j) := by decide +kernel
theorem twice_clash {xs : List Int} {s n : Nat} (hs : s ∈ [2, 3, 4]) (hn : n = s * s) (hok : okAll xs s n) : twice xs s n = clash xs s := by
  rw [Bool.eq_iff_iff, clash_iff hs, twice_iff hs hn hok n (Nat.le_refl _)]
  constructor
  · rintro ⟨i, j, h1, h2, h3, h4, h5⟩; exact ⟨i, j, by omega, by omega, h3, h4, h5⟩
  · rintro ⟨i, j, h1, h2, h3, h4, h5⟩
    have hne := (adj_symm s hs i h1 j h2).2 h3
    rcases Nat.lt_or_ge i j with h | h
    · exact ⟨i, j, h, by omega, h3, h4, h5⟩
    · exact ⟨j, i, by omega, by omega, by rw [← (adj_symm s hs i h1 j h2).1]; exact h3, h4.symm, by omega⟩
def onLine (s l i : Nat) : Bool := (List.range s).any fun a => (lineAt (s : Nat) (l : Nat) a).toNat == i
theorem onL_line : ∀ s ∈ [2, 3, 4], ∀ l, l < 2 * s → ∀ i, i < s * s → onL s l i = onLine s l i := by decide +kernel
theorem line_lt : ∀ s ∈ [2, 3, 4], ∀ l, l < 2 * s → ∀ a, a < s → (lineAt (s : Nat) (l : Nat) a).toNat < s * s := by decide +kernel
theorem lmask_has {xs : List Int} {s n : Nat} (hs : s ∈ [2, 3, 4]) (hn : n = s * s) (hok : okAll xs s n) {l v : Nat} (hl : l < 2 * s) (hv : 0 < v) : (lmask xs s n l).testBit v = hasTo (lineV xs s l) s (v : Int) := by
  rw [Bool.eq_iff_iff, lmask_test hok l v n (Nat.le_refl _), hasTo_iff]
  constructor
  · rintro ⟨_, i, hi, h1, h2⟩
    rw [onL_line s hs l hl i (by omega)] at h1
    simp only [onLine, List.any_eq_true, List.mem_range, beq_iff_eq] at h1
    obtain ⟨a, ha, e⟩ := h1
    exact ⟨a, ha, by unfold lineV; rw [e]; exact h2⟩
  · rintro ⟨a, ha, h⟩
    have hlt := line_lt s hs l hl a ha
    refine ⟨hv, _, by omega, ?_, h⟩
    rw [onL_line s hs l hl _ hlt]
    simp only [onLine, List.any_eq_true, List.mem_range, beq_iff_eq]
    exact ⟨a, ha, rfl⟩
theorem full_bits : ∀ M, M < 32 → ∀ s ∈ [2, 3, 4], (M = 2 ^ (s + 1) - 2 ↔ ∀ v, v < 5 → M.testBit v = (Nat.blt 0 v && Nat.ble v s)) := by decide +kernel
theorem lmask_zero {xs : List Int} {s n : Nat} (hok : okAll xs s n) (l : Nat) {v : Nat} (hv : v = 0 ∨ s < v) : (lmask xs s n l).testBit v = false := by
  cases h : (lmask xs s n l).testBit v
  · rfl
  · rw [lmask_test hok l v n (Nat.le_refl _)] at h
    obtain ⟨h0, i, hi, _, h2⟩ := h
    have := hok i hi
    omega
theorem lmask_full {xs : List Int} {s n : Nat} (hs : s ∈ [2, 3, 4]) (hn : n = s * s) (hok : okAll xs s n) {l : Nat} (hl : l < 2 * s) : lmask xs s n l = 2 ^ (s + 1) - 2 ↔ ∀ v, 1 ≤ v → v ≤ s → hasTo (lineV xs s l) s (v : Int) = true := by
  have hs4 : s ≤ 4 := by simp at hs; omega
  rw [full_bits _ (lmask_lt (by omega) hok n (Nat.le_refl _) l (by omega)) s hs]
  constructor
  · intro h v h1 h2
    rw [← lmask_has hs hn hok hl (by omega), h v (by omega)]
    simp [Nat.blt_eq]; omega
  · intro h v h5
    by_cases hv : v = 0 ∨ s < v
    · rw [lmask_zero hok l hv]
      rcases hv with rfl | hv
      · rfl
      · have : Nat.ble v s = false := by
          cases e : Nat.ble v s
          · rfl
          · have := Nat.le_of_ble_eq_true e; omega
        rw [this, Bool.and_false]
    · rw [lmask_has hs hn hok hl (by omega), h v (by omega) (by omega)]
      have h1 : Nat.blt 0 v = true := by rw [Nat.blt_eq]; omega
      have h2 : Nat.ble v s = true := Nat.ble_eq_true_of_le (by omega)
      rw [h1, h2]; rfl
/-- where every value of 1..s stands among s values of 0..s, none is 0 and no two are equal. -/
def hasN (L : List Nat) (v : Nat) : Bool := L.contains v
def revB (L : List Nat) (s : Nat) : Bool := (List.range s).any (fun v => !L.contains (v + 1)) || (L.all (fun a => a != 0) && decide L.Nodup)
theorem rev2 : ∀ a, a < 3 → ∀ b, b < 3 → revB [a, b] 2 = true := by decide +kernel
theorem rev3 : ∀ a, a < 4 → ∀ b, b < 4 → ∀ c, c < 4 → revB [a, b, c] 3 = true := by decide +kernel
theorem rev4 : ∀ a, a < 5 → ∀ b, b < 5 → ∀ c, c < 5 → ∀ d, d < 5 → revB [a, b, c, d] 4 = true := by decide +kernel
theorem rev_all {f : Nat → Int} {s : Nat} (hs : s ∈ [2, 3, 4]) (hf : ∀ i, i < s → 0 ≤ f i ∧ f i ≤ s) : revB ((List.range s).map fun i => (f i).toNat) s = true := by
  simp at hs
  rcases hs with rfl | rfl | rfl
  · exact rev2 _ (by have := hf 0 (by omega); show (f 0).toNat < 3; omega) _ (by have := hf 1 (by omega); show (f 1).toNat < 3; omega)
  · exact rev3 _ (by have := hf 0 (by omega); show (f 0).toNat < 4; omega) _ (by have := hf 1 (by omega); show (f 1).toNat < 4; omega) _ (by have := hf 2 (by omega); show (f 2).toNat < 4; omega)
  · exact rev4 _ (by have := hf 0 (by omega); show (f 0).toNat < 5; omega) _ (by have := hf 1 (by omega); show (f 1).toNat < 5; omega) _ (by have := hf 2 (by omega); show (f 2).toNat < 5; omega) _ (by have := hf 3 (by omega); show (f 3).toNat < 5; omega)
theorem rev {f : Nat → Int} {s : Nat} (hs : s ∈ [2, 3, 4]) (hf : ∀ i, i < s → 0 ≤ f i ∧ f i ≤ s) (hall : ∀ v : Nat, 1 ≤ v → v ≤ s → hasTo f s (v : Int) = true) : dupTo f s = false ∧ ∀ i, i < s → f i ≠ 0 := by
  have h := rev_all hs hf
  simp only [revB, Bool.or_eq_true, Bool.and_eq_true, List.any_eq_true, List.mem_range, List.all_eq_true, decide_eq_true_eq] at h
  rcases h with ⟨v, hv, h⟩ | ⟨h0, hd⟩
  · exfalso
    have := hall (v + 1) (by omega) (by omega)
    rw [hasTo_iff] at this
    obtain ⟨i, hi, e⟩ := this
    have hm : (v + 1) ∈ (List.range s).map fun i => (f i).toNat := List.mem_map.2 ⟨i, List.mem_range.2 hi, by omega⟩
    have := List.contains_iff_mem.2 hm
    rw [this] at h
    simp at h
  · refine ⟨?_, fun i hi e => ?_⟩
    · cases hc : dupTo f s
      · rfl
      · rw [dupTo_iff] at hc
        obtain ⟨i, j, hij, hj, he, _⟩ := hc
        have := List.pairwise_map.1 hd
        rw [List.pairwise_iff_getElem] at this
        have h9 := this i j (by simp; omega) (by simp; omega) hij
        simp only [List.getElem_range] at h9
        omega
    · have := h0 (f i).toNat (List.mem_map.2 ⟨i, List.mem_range.2 hi, rfl⟩)
      rw [e] at this
      simp at this
theorem row_of : ∀ s ∈ [2, 3, 4], ∀ k, k < s * s → k / s < 2 * s ∧ k % s < s ∧ (lineAt (s : Nat) ((k / s : Nat) : Int) (k % s)).toNat = k := by decide +kernel
theorem solved_masks {xs : List Int} {s n : Nat} (hs : s ∈ [2, 3, 4]) (hn : n = s * s) (hl : xs.length = n) (hg : gv xs s = true) (hok : okAll xs s n) : sqSolved xs s = true ↔ ∀ l, l < 2 * s → lmask xs s n l = 2 ^ (s + 1) - 2 := by
  have hf : ∀ l, l < 2 * s → ∀ i, i < s → 0 ≤ lineV xs s l i ∧ lineV xs s l i ≤ s := fun l hl' i hi => hok _ (by rw [hn]; exact line_lt s hs l hl' i hi)
  rw [solved_iff hl]
  constructor
  · rintro ⟨_, hc, hz⟩ l hl'
    rw [lmask_full hs hn hok hl']
    intro v v1 v2
    refine pig hs (fun i hi => ?_) ?_ (by omega) (by omega)
    · have h1 := hf l hl' i hi
      have h2 := hz (lineAt (s : Nat) (l : Nat) i).toNat (by rw [hn]; exact line_lt s hs l hl' i hi)
      unfold lineV at *
      omega
    · cases hd : dupTo (lineV xs s l) s
      · rfl
      · have : clash xs s = true := clash_at (l := l) (by omega) (by rw [Int.toNat_natCast]; exact hd)
        rw [hc] at this; cases this
  · intro h
    have key : ∀ l, l < 2 * s → dupTo (lineV xs s l) s = false ∧ ∀ i, i < s → lineV xs s l i ≠ 0 := fun l hl' => rev hs (hf l hl') (fun v v1 v2 => (lmask_full hs hn hok hl').1 (h l hl') v v1 v2)
    refine ⟨hg, ?_, fun k hk => ?_⟩
    · cases hc : clash xs s
      · rfl
      · rw [clash, clashTo_iff] at hc
        obtain ⟨l, hl', hd⟩ := hc
        rw [Int.toNat_natCast, (key l (by omega)).1] at hd
        cases hd
    · obtain ⟨h1, h2, h3⟩ := row_of s hs k (by omega)
      have := (key _ h1).2 _ h2
      unfold lineV at this
      rw [h3] at this
      exact this
end Go.Proofs.YtkeoflnmbcdmfaaDoor
namespace Go.Proofs.YtkeoflnmbcdmfaaDoor
open Go.ChangeShapes Go.WideShapes Go.ChangeAt Go.RowKit

/-- one more at j. -/
def bump (C : Nat → Nat) (j : Nat) : Nat → Nat := fun i => if i = j then C i + 1 else C i
/-- how many of the first k cells have each value, a line behind the other, five values each. -/
def cnt (xs : List Int) (s : Nat) : Nat → (Nat → Nat)
  | 0 => fun _ => 0
  | k + 1 => bump (bump (cnt xs s k) (k / s * 5 + (nth xs k).toNat)) ((s + k % s) * 5 + (nth xs k).toNat)
theorem bump_zero (C : Nat → Nat) (a b j : Nat) : bump (bump C a) b j = 0 ↔ C j = 0 ∧ j ≠ a ∧ j ≠ b := by
  show (if j = b then (if j = a then C j + 1 else C j) + 1 else (if j = a then C j + 1 else C j)) = 0 ↔ _
  split <;> split <;> omega
theorem bump_le (C : Nat → Nat) (a j : Nat) : bump C a j ≤ C j + 1 := by
  unfold bump
  split <;> omega
theorem cnt_le (xs : List Int) (s k j : Nat) : cnt xs s k j ≤ 2 * k := by
  induction k with
  | zero => simp [cnt]
  | succ k ih =>
    simp only [cnt]
    have h1 := bump_le (bump (cnt xs s k) (k / s * 5 + (nth xs k).toNat)) ((s + k % s) * 5 + (nth xs k).toNat) j
    have h2 := bump_le (cnt xs s k) (k / s * 5 + (nth xs k).toNat) j
    omega
theorem cnt_zero {xs : List Int} {s n : Nat} (hs4 : s ≤ 4) (hok : okAll xs s n) (l v : Nat) (hv : v < 5) : ∀ k, k ≤ n → (cnt xs s k (l * 5 + v) = 0 ↔ ∀ i, i < k → onL s l i = true → nth xs i ≠ (v : Int)) := by
  intro k
  induction k with
  | zero => intro _; simp [cnt]
  | succ k ih =>
    intro hk
    obtain ⟨x0, x4⟩ := hok k (by omega)
    simp only [cnt]
    rw [bump_zero, ih (by omega)]
    have hon : onL s l k = true ↔ (k / s = l ∨ s + k % s = l) := by simp [onL]
    constructor
    · rintro ⟨h0, h1, h2⟩ i hi ho he
      by_cases e : i = k
      · subst e
        rcases hon.1 ho with h | h
        · exact h1 (by rw [h]; omega)
        · exact h2 (by rw [h]; omega)
      · exact h0 i (by omega) ho he
    · intro h
      refine ⟨fun i hi => h i (by omega), fun e => ?_, fun e => ?_⟩
      · exact h k (by omega) (hon.2 (.inl (by omega))) (by omega)
      · exact h k (by omega) (hon.2 (.inr (by omega))) (by omega)
/-- the values up to v that stand in neither of two lines. -/
def freeTo (C : Nat → Nat) (r c : Nat) : Nat → Nat
  | 0 => 0
  | v + 1 => if C (r * 5 + (v + 1)) + C (c * 5 + (v + 1)) = 0 then freeTo C r c v ||| 2 ^ (v + 1) else freeTo C r c v
theorem freeTo_lt (C : Nat → Nat) (r c v : Nat) (hv : v ≤ 4) : freeTo C r c v < 32 := by
  induction v with
  | zero => simp [freeTo]
  | succ v ih =>
    simp only [freeTo]
    split
    · exact Nat.or_lt_two_pow (n := 5) (ih (by omega)) (Nat.pow_lt_pow_right (by omega) (by omega))
    · exact ih (by omega)
theorem free_cand {xs : List Int} {s n k : Nat} (hs : s ∈ [2, 3, 4]) (hn : n = s * s) (hok : okAll xs s n) (hk : k < n) (hz : nth xs k = 0) : ∀ v, v ≤ s → freeTo (cnt xs s n) (k / s) (s + k % s) v = candTo xs s k v := by
  have hs4 : s ≤ 4 := by simp at hs; omega
  intro v
  induction v with
  | zero => intro _; rfl
  | succ v ih =>
    intro hv
    simp only [freeTo, candTo, Int.toNat_natCast]
    have hc : ((v : Int) + 1) = ((v + 1 : Nat) : Int) := by omega
    have key : cnt xs s n (k / s * 5 + (v + 1)) + cnt xs s n ((s + k % s) * 5 + (v + 1)) = 0 ↔ okTo3 xs s k ((v : Int) + 1) s = true := by
      rw [hc, ok3_adj hs (by omega), Nat.add_eq_zero_iff, cnt_zero hs4 hok _ _ (by omega) n (Nat.le_refl _), cnt_zero hs4 hok _ _ (by omega) n (Nat.le_refl _)]
      constructor
      · rintro ⟨h1, h2⟩ i hi ha
        rw [onL_adj s hs i hi k (by omega)] at ha
        simp only [Bool.and_eq_true, Bool.or_eq_true] at ha
        rcases ha.2 with h | h
        · exact h1 i (by omega) h
        · exact h2 i (by omega) h
      · intro h
        have side : ∀ l, (l = k / s ∨ l = s + k % s) → ∀ i, i < n → onL s l i = true → nth xs i ≠ ((v + 1 : Nat) : Int) := by
          intro l hl i hi ho
          by_cases e : i = k
          · subst e; rw [hz]; omega
          · refine h i (by omega) ?_
            rw [onL_adj s hs i (by omega) k (by omega)]
            rcases hl with rfl | rfl
            · simp [ho, e]
            · simp [ho, e]
        exact ⟨side _ (.inl rfl), side _ (.inr rfl)⟩
    rw [ih (by omega)]
    by_cases h : cnt xs s n (k / s * 5 + (v + 1)) + cnt xs s n ((s + k % s) * 5 + (v + 1)) = 0
    · rw [if_pos h, if_pos (key.1 h)]
    · rw [if_neg h, if_neg (fun h' => h (key.2 h'))]

end Go.Proofs.YtkeoflnmbcdmfaaDoor
namespace Go.Proofs.YtkeoflnmbcdmfaaDoor
open Go.ChangeShapes Go.WideShapes Go.ChangeAt Go.RowKit

theorem andNot_small : ∀ a : Nat, a < 32 → ∀ b : Nat, b < 32 → bits .andNot .i64 (a : Int) (b : Int) = ((a &&& (31 - b) : Nat) : Int) := by decide +kernel
theorem andNot_test : ∀ a : Nat, a < 32 → ∀ b : Nat, b < 32 → ∀ v : Nat, v < 5 → (a &&& (31 - b)).testBit v = (a.testBit v && !b.testBit v) := by decide +kernel
theorem all_test : ∀ s ∈ [2, 3, 4], ∀ v : Nat, v < 5 → (2 ^ (s + 1) - 2).testBit v = (Nat.blt 0 v && Nat.ble v s) := by decide +kernel

theorem valuesIn_any (M : Nat) (hM : M < 32) (w : World) : Calls Tryd.prog 114 #[.int .i64 M] w (RetSl w (bitsTo M 4)) := by
  go_enter Tryd.func114, Tryd.ntmps114
  go_wp2
  go_loopw [3, 4] (fun v i wr => ∃ u : Nat, u ≤ 4 ∧ i = .int .i64 ((u : Int) + 1) ∧ OwV wr w.heap.size v (bitsTo M u) ∧ Below w.heap.size w wr) (fun _ i _ => (5 - intOf i).toNat)
  case atStart => exact ⟨0, by omega, rfl, ⟨_, _, rfl, Ow.nil_ _ _⟩, Below.refl _ _⟩
  case round =>
    obtain ⟨u, hu, rfl, ⟨A', c', rfl, ho⟩, hb⟩ := hrel
    have hmb := bitsTo_length M u
    have hkb : (bitsTo M u).length ≤ 1099511627776 := by omega
    by_cases hlt : u < 4
    · have hstep : bitsTo M (u + 1) = bitsTo M u ++ (if M.testBit (u + 1) = true then [(u : Int) + 1] else []) := rfl
      have hsh := and_pow M (u + 1) hM (by omega)
      have htn : ((u : Int) + 1).toNat = u + 1 := by omega
      cases hh : M.testBit (u + 1)
      · rw [hh] at hstep hsh
        have Hst := Lib.hid (show bitsTo M (u + 1) = bitsTo M u by rw [hstep]; simp)
        clear hh hstep
        go_wp2
        go_roundw
        case rel => exact ⟨u + 1, by omega, by go_num, ⟨A', c', by rw [Hst.out], by rw [Hst.out]; exact ho⟩, hb⟩
        case measure => simp [intOf]; omega
      · rw [hh] at hstep hsh
        have Hst := Lib.hid (show bitsTo M (u + 1) = bitsTo M u ++ [(u : Int) + 1] by rw [hstep]; simp)
        clear hh hstep
        go_wp2_with (at_builtin; refine push_int rfl (.tmp 14) (.tmp 16) rfl w.heap.size A' _ c' (bitsTo M u) _ rfl rfl ho hkb hb.size ?_; intro A'' c'' w1 ho1 hg1)
        have ho2 : OwV w1 w.heap.size (.slice A'' ((bitsTo M u).length + 1) c'') (bitsTo M (u + 1)) := by
          refine ⟨A'', c'', by rw [Hst.out, List.length_append]; rfl, ?_⟩
          rw [Hst.out, List.length_append]
          exact ho1
        have hb2 := push_below hb ho (Nat.le_refl _) hb.size hg1
        clear ho1 hg1
        go_roundw
        case rel => exact ⟨u + 1, by omega, by go_num, ho2, hb2⟩
        case measure => simp [intOf]; omega
    · obtain rfl : u = 4 := by omega
      go_wp2
      go_ret
      exact retSl_mk ho hb
theorem bitsTo_miss {K s : Nat} {has : Int → Bool} (hs : s ≤ 4) (h : ∀ v, v < 4 → K.testBit (v + 1) = (decide (v < s) && !has ((v : Int) + 1))) : bitsTo K 4 = missTo has s := by
  have h1 : ∀ m, m ≤ s → bitsTo K m = missTo has m := by
    intro m
    induction m with
    | zero => intro _; rfl
    | succ m ih =>
      intro hm
      simp only [bitsTo, missTo]
      rw [ih (by omega), h m (by omega)]
      have : decide (m < s) = true := by simp; omega
      rw [this]
      cases has ((m : Int) + 1) <;> simp
  have h2 : ∀ d, s + d ≤ 4 → bitsTo K (s + d) = missTo has s := by
    intro d
    induction d with
    | zero => intro _; exact h1 s (Nat.le_refl _)
    | succ d ih =>
      intro hd
      show bitsTo K (s + d + 1) = _
      simp only [bitsTo]
      rw [ih (by omega), h (s + d) (by omega)]
      have : decide (s + d < s) = false := by simp
      rw [this]; simp
  have := h2 (4 - s) (by omega)
  rwa [show s + (4 - s) = 4 by omega] at this
end Go.Proofs.YtkeoflnmbcdmfaaDoor
namespace Go.Proofs.YtkeoflnmbcdmfaaDoor
open Go.ChangeShapes Go.WideShapes Go.ChangeAt Go.RowKit

theorem results_cell_tmp {P : Program} {fn : Func} {p q : Tmp} {ty : TypeId} (h : fn.results = #[.cell p ty, .tmp q]) (tmps : Array Value) (w : World) (g : Nat) (t : TypeId) (cs : Array Value) (fr : Nat × Nat) (d : TypeDesc) (b : Value)
    (hp : tmps.getD p undef = .pointer (some ⟨g, 0, none⟩)) (hq : tmps.getD q undef = b) (hg : w.heap[g]? = some (.cells cs t fr))
    (hu : P.underlying ty = some d) (hd : (match d with | .struct _ | .array _ _ => true | _ => false) = true) (hi : (P.info? ty).map (·.size) = some cs.size) :
    (results fn tmps).run P w = .ok (.tuple #[.agg cs, b]) w := by
  have hp' : tmps[p]?.getD undef = .pointer (some ⟨g, 0, none⟩) := by simpa using hp
  have hq' : tmps[q]?.getD undef = b := by simpa using hq
  simp [results, h, hp', hq', asAddr, run_loadVar_row w g t ty cs fr d hg hu hd hi]
theorem lmask_z {xs : List Int} {s k : Nat} (h : nth xs k = 0) : lmask xs s (k + 1) = lmask xs s k ∧ twice xs s (k + 1) = twice xs s k := by simp [lmask, twice, h]
theorem lmask_nz {xs : List Int} {s k v : Nat} (h : nth xs k = (v : Int)) (hv : v ≠ 0) : lmask xs s (k + 1) = mput (mput (lmask xs s k) (k / s) v) (s + k % s) v ∧ twice xs s (k + 1) = (twice xs s k || ((lmask xs s k (k / s)).testBit v || (lmask xs s k (s + k % s)).testBit v)) := by
  have h0 : nth xs k ≠ 0 := by omega
  have e : (nth xs k).toNat = v := by omega
  simp only [lmask, twice]
  rw [if_neg h0, if_neg h0, e]
  exact ⟨rfl, rfl⟩
theorem rc_lt : ∀ s ∈ [2, 3, 4], ∀ k, k < s * s → k / s < 8 ∧ s + k % s < 8 := by decide +kernel
end Go.Proofs.YtkeoflnmbcdmfaaDoor
namespace Go.Proofs.YtkeoflnmbcdmfaaDoor
open Go.ChangeShapes Go.WideShapes Go.ChangeAt Go.RowKit

/-- the cells of the program's counts, five a line, and its size. -/
def ccells (C : Nat → Nat) (s : Int) : Array Value := #[.int .i64 (C 0), .int .i64 (C 1), .int .i64 (C 2), .int .i64 (C 3), .int .i64 (C 4), .int .i64 (C 5), .int .i64 (C 6), .int .i64 (C 7), .int .i64 (C 8), .int .i64 (C 9), .int .i64 (C 10), .int .i64 (C 11), .int .i64 (C 12), .int .i64 (C 13), .int .i64 (C 14), .int .i64 (C 15), .int .i64 (C 16), .int .i64 (C 17), .int .i64 (C 18), .int .i64 (C 19), .int .i64 (C 20), .int .i64 (C 21), .int .i64 (C 22), .int .i64 (C 23), .int .i64 (C 24), .int .i64 (C 25), .int .i64 (C 26), .int .i64 (C 27), .int .i64 (C 28), .int .i64 (C 29), .int .i64 (C 30), .int .i64 (C 31), .int .i64 (C 32), .int .i64 (C 33), .int .i64 (C 34), .int .i64 (C 35), .int .i64 (C 36), .int .i64 (C 37), .int .i64 (C 38), .int .i64 (C 39), .int .i64 s]
theorem ccells_size (C : Nat → Nat) (s : Int) : (ccells C s).size = 41 := rfl
theorem ccell_at (C : Nat → Nat) (s : Int) : ∀ {l : Nat}, l < 40 → (ccells C s)[l]? = some (.int .i64 (C l))
  | 0, _ => rfl
  | 1, _ => rfl
  | 2, _ => rfl
  | 3, _ => rfl
  | 4, _ => rfl
  | 5, _ => rfl
  | 6, _ => rfl
  | 7, _ => rfl
  | 8, _ => rfl
  | 9, _ => rfl
  | 10, _ => rfl
  | 11, _ => rfl
  | 12, _ => rfl
  | 13, _ => rfl
  | 14, _ => rfl
  | 15, _ => rfl
  | 16, _ => rfl
  | 17, _ => rfl
  | 18, _ => rfl
  | 19, _ => rfl
  | 20, _ => rfl
  | 21, _ => rfl
  | 22, _ => rfl
  | 23, _ => rfl
  | 24, _ => rfl
  | 25, _ => rfl
  | 26, _ => rfl
  | 27, _ => rfl
  | 28, _ => rfl
  | 29, _ => rfl
  | 30, _ => rfl
  | 31, _ => rfl
  | 32, _ => rfl
  | 33, _ => rfl
  | 34, _ => rfl
  | 35, _ => rfl
  | 36, _ => rfl
  | 37, _ => rfl
  | 38, _ => rfl
  | 39, _ => rfl
  | n + 40, h => absurd h (by omega)
theorem ccells_set (C : Nat → Nat) (s : Int) : ∀ {l : Nat}, l < 40 → (ccells C s).setIfInBounds l (.int .i64 ((C l + 1 : Nat) : Int)) = ccells (bump C l) s
  | 0, _ => rfl
  | 1, _ => rfl
  | 2, _ => rfl
  | 3, _ => rfl
  | 4, _ => rfl
  | 5, _ => rfl
  | 6, _ => rfl
  | 7, _ => rfl
  | 8, _ => rfl
  | 9, _ => rfl
  | 10, _ => rfl
  | 11, _ => rfl
  | 12, _ => rfl
  | 13, _ => rfl
  | 14, _ => rfl
  | 15, _ => rfl
  | 16, _ => rfl
  | 17, _ => rfl
  | 18, _ => rfl
  | 19, _ => rfl
  | 20, _ => rfl
  | 21, _ => rfl
  | 22, _ => rfl
  | 23, _ => rfl
  | 24, _ => rfl
  | 25, _ => rfl
  | 26, _ => rfl
  | 27, _ => rfl
  | 28, _ => rfl
  | 29, _ => rfl
  | 30, _ => rfl
  | 31, _ => rfl
  | 32, _ => rfl
  | 33, _ => rfl
  | 34, _ => rfl
  | 35, _ => rfl
  | 36, _ => rfl
  | 37, _ => rfl
  | 38, _ => rfl
  | 39, _ => rfl
  | n + 40, h => absurd h (by omega)
theorem cone (C : Nat → Nat) (s : Int) : (ccells C s).all (·.oneCell') = true := by simp [ccells, Value.oneCell']
/-- the counts lie in block g. -/
def CBox (w : World) (g : Nat) (C : Nat → Nat) (s : Int) : Prop := w.heap[g]? = some (.cells (ccells C s) 143)
section
variable {w w' : World} {g : Nat} {C : Nat → Nat} {s : Int}
theorem CBox.lt (h : CBox w g C s) : g < w.heap.size := (Array.getElem?_eq_some_iff.1 h).1
theorem CBox.cell (h : CBox w g C s) {l : Nat} (hl : l < 40) : w.cell? ⟨g, l, none⟩ = some (.int .i64 (C l)) :=
  (cell_of_row _ _ l _ _ (0, 0) h).trans (ccell_at C s hl)
theorem CBox.size_ (h : CBox w g C s) : w.cell? ⟨g, 40, none⟩ = some (.int .i64 s) :=
  (cell_of_row _ _ 40 _ _ (0, 0) h).trans rfl
theorem CBox.frozen (h : CBox w g C s) (l : Nat) : w.frozen? ⟨g, l, none⟩ = false := by
  unfold World.frozen?
  rw [show w.heap[g]? = _ from h]
  simp
theorem CBox.set (h : CBox w g C s) {l : Nat} (hl : l < 40) : CBox (w.setCell ⟨g, l, none⟩ (.int .i64 ((C l : Int) + 1))) g (bump C l) s := by
  show CBox (w.setCell ⟨g, l, none⟩ (.int .i64 ((C l + 1 : Nat) : Int))) g (bump C l) s
  unfold CBox
  rw [heap_setCell_same w g l _ _ _ h, ← ccells_set C s hl]
theorem CBox.below {B : Nat} (h : CBox w g C s) (hg : g < B) (hb : Below B w w') : CBox w' g C s := (hb.block g hg).trans h
theorem CBox.other {g' k : Nat} {v : Value} (h : CBox w g C s) (hne : g ≠ g') : CBox (w.setCell ⟨g', k, none⟩ v) g C s := (heap_setCell_other w _ g v hne).trans h
theorem CBox.stored {C' : Nat → Nat} {s' : Int} (h : CBox w g C s) : CBox (w.setRow g (ccells C' s')) g C' s' := setRow_heap w g _ _ _ _ h
end
theorem cinfo (C : Nat → Nat) (s : Int) : (Tryd.prog.info? 143).map (·.size) = some (ccells C s).size := by rw [ccells_size]; kernel_rfl

def czero (s : Int) : Array Value := #[.int .i64 0, .int .i64 0, .int .i64 0, .int .i64 0, .int .i64 0, .int .i64 0, .int .i64 0, .int .i64 0, .int .i64 0, .int .i64 0, .int .i64 0, .int .i64 0, .int .i64 0, .int .i64 0, .int .i64 0, .int .i64 0, .int .i64 0, .int .i64 0, .int .i64 0, .int .i64 0, .int .i64 0, .int .i64 0, .int .i64 0, .int .i64 0, .int .i64 0, .int .i64 0, .int .i64 0, .int .i64 0, .int .i64 0, .int .i64 0, .int .i64 0, .int .i64 0, .int .i64 0, .int .i64 0, .int .i64 0, .int .i64 0, .int .i64 0, .int .i64 0, .int .i64 0, .int .i64 0, .int .i64 s]
theorem czero_is (s : Int) : czero s = ccells (fun _ => 0) s := by
  unfold czero ccells
  simp
def cstart (A : Option Addr) (n c : Nat) (s : Int) (w : World) : World := ((w.alloc (.cells #[.slice A n c, .int .i64 s] 76)).alloc (.cells (czero 0) 143)).alloc (.cells (czero 0) 143)
theorem cstart_facts (A : Option Addr) (n c : Nat) (s : Int) (w : World) : CBox (cstart A n c s w) (w.heap.size + 1 + 1) (fun _ => 0) 0 ∧ CBox (cstart A n c s w) (w.heap.size + 1) (fun _ => 0) 0 ∧ (cstart A n c s w).cell? ⟨w.heap.size, 0, none⟩ = some (.slice A n c) ∧ (cstart A n c s w).cell? ⟨w.heap.size, 1, none⟩ = some (.int .i64 s) ∧ Below w.heap.size w (cstart A n c s w) := by
  unfold cstart
  rw [czero_is]
  refine ⟨?_, ?_, ?_, ?_, (((Below.refl _ _).alloc (Nat.le_refl _) _).alloc (by simp) _).alloc (by simp; omega) _⟩
  · have := heap_alloc_new ((w.alloc (Obj.cells #[Value.slice A n c, Value.int IntKind.i64 s] 76)).alloc (Obj.cells (ccells (fun _ => 0) 0) 143)) (.cells (ccells (fun _ => 0) 0) 143)
    simp only [World.size_alloc] at this
    exact this
  · have := heap_alloc_new (w.alloc (Obj.cells #[Value.slice A n c, Value.int IntKind.i64 s] 76)) (.cells (ccells (fun _ => 0) 0) 143)
    simp only [World.size_alloc] at this
    exact (heap_alloc_old _ _ (by simp)).trans this
  · refine (cell_of_row _ _ 0 #[.slice A n c, .int .i64 s] 76 (0, 0) ?_).trans rfl
    rw [heap_alloc_old _ _ (by simp; omega), heap_alloc_old _ _ (by simp)]
    exact heap_alloc_new w _
  · refine (cell_of_row _ _ 1 #[.slice A n c, .int .i64 s] 76 (0, 0) ?_).trans rfl
    rw [heap_alloc_old _ _ (by simp; omega), heap_alloc_old _ _ (by simp)]
    exact heap_alloc_new w _
theorem cell_other {w : World} {g g' k j : Nat} {v : Value} (h : g ≠ g') : (w.setCell ⟨g', k, none⟩ v).cell? ⟨g, j, none⟩ = w.cell? ⟨g, j, none⟩ := by
  unfold World.cell?
  rw [heap_setCell_other w ⟨g', k, none⟩ g v h]
theorem setRow_cell {w : World} {g : Nat} {cs : Array Value} {p : Addr} (h : p.block ≠ g) : (w.setRow g cs).cell? p = w.cell? p := cell_setRow_other w g cs p h
theorem CBox.row_other {w : World} {g g' : Nat} {cs : Array Value} {C : Nat → Nat} {s : Int} (h : CBox w g C s) (hne : g ≠ g') : CBox (w.setRow g' cs) g C s := by
  unfold CBox World.setRow
  simp only [Array.getElem?_modify]
  rw [if_neg (fun e => hne e.symm)]
  exact h

theorem counted_any (A : Option Addr) (c n B s : Nat) (xs : List Int) (w : World) (h : Rd w B A n xs) (hB : B ≤ w.heap.size) (hs : s ∈ [2, 3, 4]) (hn : n = s * s) (hok : Hid (okAll xs s n)) :
    Calls Tryd.prog 136 #[.agg #[.slice A n c, .int .i64 s]] w fun e w' => e = .returned (.agg (ccells (cnt xs s n) s)) ∧ Below w.heap.size w w' := by
  have hs2 : 2 ≤ s := by simp at hs; omega
  have hs4 : s ≤ 4 := by simp at hs; omega
  have hn16 : n ≤ 16 := by simp at hs; rcases hs with rfl | rfl | rfl <;> omega
  have Hn := Lib.hid hn; clear hn
  have Hi := Lib.hid (fun C => cinfo C s)
  have Hone := Lib.hid (fun C => cone C s)
  obtain ⟨hx0, hy0, hc00, hc01, hb0⟩ := cstart_facts A n c s w
  have hz2 : (((w.alloc (.cells #[.slice A n c, .int .i64 (s : Int)] 76)).alloc (.cells #[.int .i64 0, .int .i64 0, .int .i64 0, .int .i64 0, .int .i64 0, .int .i64 0, .int .i64 0, .int .i64 0, .int .i64 0, .int .i64 0, .int .i64 0, .int .i64 0, .int .i64 0, .int .i64 0, .int .i64 0, .int .i64 0, .int .i64 0, .int .i64 0, .int .i64 0, .int .i64 0, .int .i64 0, .int .i64 0, .int .i64 0, .int .i64 0, .int .i64 0, .int .i64 0, .int .i64 0, .int .i64 0, .int .i64 0, .int .i64 0, .int .i64 0, .int .i64 0, .int .i64 0, .int .i64 0, .int .i64 0, .int .i64 0, .int .i64 0, .int .i64 0, .int .i64 0, .int .i64 0, .int .i64 0] 143)).alloc (.cells #[.int .i64 0, .int .i64 0, .int .i64 0, .int .i64 0, .int .i64 0, .int .i64 0, .int .i64 0, .int .i64 0, .int .i64 0, .int .i64 0, .int .i64 0, .int .i64 0, .int .i64 0, .int .i64 0, .int .i64 0, .int .i64 0, .int .i64 0, .int .i64 0, .int .i64 0, .int .i64 0, .int .i64 0, .int .i64 0, .int .i64 0, .int .i64 0, .int .i64 0, .int .i64 0, .int .i64 0, .int .i64 0, .int .i64 0, .int .i64 0, .int .i64 0, .int .i64 0, .int .i64 0, .int .i64 0, .int .i64 0, .int .i64 0, .int .i64 0, .int .i64 0, .int .i64 0, .int .i64 0, .int .i64 0] 143)).heap[w.heap.size + 1 + 1]? = some (.cells (ccells (fun _ => 0) 0) 143 (0, 0)) := hx0
  have Hz2 := Lib.hid hz2; clear hz2
  have key : ∀ w0, (cstart A n c s w).setRow (w.heap.size + 1 + 1) (ccells (fun _ => 0) s) = w0 → CBox w0 (w.heap.size + 1 + 1) (fun _ => 0) s ∧ CBox w0 (w.heap.size + 1) (fun _ => 0) 0 ∧ w0.cell? ⟨w.heap.size, 0, none⟩ = some (.slice A n c) ∧ w0.cell? ⟨w.heap.size, 1, none⟩ = some (.int .i64 s) ∧ Below w.heap.size w w0 := by
    rintro w0 rfl
    exact ⟨hx0.stored, hy0.row_other (by omega), (setRow_cell (by simp; omega)).trans hc00, (setRow_cell (by simp; omega)).trans hc01, setRow_below hb0 (by omega)⟩
  have Key := Lib.hid key
  clear key hx0 hy0 hc00 hc01 hb0
  go_enter Tryd.func136, Tryd.ntmps136
  go_wp2_with (refine wpList_store_row rfl 143 _ _ rfl (w.heap.size + 1 + 1) (ccells (fun _ => 0) s) rfl rfl 143 (ccells (fun _ => 0) 0) Hz2.out (Hi.out _) rfl (Hone.out _) ?_; generalize Value.agg #[.int .i64 0, .int .i64 0, .int .i64 0, .int .i64 0, .int .i64 0, .int .i64 0, .int .i64 0, .int .i64 0, .int .i64 0, .int .i64 0, .int .i64 0, .int .i64 0, .int .i64 0, .int .i64 0, .int .i64 0, .int .i64 0, .int .i64 0, .int .i64 0, .int .i64 0, .int .i64 0, .int .i64 0, .int .i64 0, .int .i64 0, .int .i64 0, .int .i64 0, .int .i64 0, .int .i64 0, .int .i64 0, .int .i64 0, .int .i64 0, .int .i64 0, .int .i64 0, .int .i64 0, .int .i64 0, .int .i64 0, .int .i64 0, .int .i64 0, .int .i64 0, .int .i64 0, .int .i64 0, .int .i64 (s : Int)] = V; generalize hw0 : World.setRow _ _ _ = w0; obtain ⟨hx0, hy0, hc00, hc01, hb0⟩ := Key.out _ hw0; clear hw0)
  clear Hz2 Key
  go_loopw [14] (fun i wr => ∃ k : Nat, k ≤ n ∧ i = .int .i64 k ∧ Hid (CBox wr (w.heap.size + 1 + 1) (cnt xs s k) s) ∧ Hid (CBox wr (w.heap.size + 1) (fun _ => 0) 0) ∧ wr.cell? ⟨w.heap.size, 1, none⟩ = some (.int .i64 s) ∧ Below w.heap.size w wr) (fun i _ => n - (intOf i).toNat)
  case atStart => exact ⟨0, Nat.zero_le _, rfl, Lib.hid hx0, Lib.hid hy0, hc01, hb0⟩
  case round =>
    obtain ⟨k, hk, rfl, hx, hy, hc1, hB0⟩ := hrel
    by_cases hlt : k < n
    · obtain ⟨b, off, rfl, hbB, hck⟩ := (h.below (hB0.mono hB)).at_ hlt
      obtain ⟨x0, x4⟩ := hok.out k hlt
      obtain ⟨v, hv⟩ := Int.eq_ofNat_of_zero_le x0
      rw [hv] at hck
      have hv4 : v ≤ 4 := by omega
      obtain ⟨hr8, hc8⟩ := rc_lt s hs k (by have := Hn.out; omega)
      have Hr : Hid ((k : Int) / (s : Int) = ((k / s : Nat) : Int)) := Lib.hid (by simp)
      have Hc : Hid ((s : Int) + (k : Int) % (s : Int) = ((s + k % s : Nat) : Int)) := Lib.hid (by simp)
      obtain ⟨r, hr⟩ : ∃ r, r = k / s := ⟨_, rfl⟩
      obtain ⟨q, hq⟩ : ∃ q, q = s + k % s := ⟨_, rfl⟩
      have hstep := Lib.hid (show cnt xs s (k + 1) = bump (bump (cnt xs s k) (r * 5 + v)) (q * 5 + v) by simp only [cnt, hv, hr, hq, Int.toNat_natCast])
      rw [← hr] at Hr hr8
      rw [← hq] at Hc hc8
      have hl1 := cnt_le xs s k (r * 5 + v)
      have hl2 : bump (cnt xs s k) (r * 5 + v) (q * 5 + v) ≤ 2 * k + 1 := by
        have := bump_le (cnt xs s k) (r * 5 + v) (q * 5 + v)
        have := cnt_le xs s k (q * 5 + v)
        omega
      clear hr hq
      go_wp2_with (go_at_call 128; refine (linesThrough_rc s k r q _ (by omega) (by omega) (by omega) Hr.out Hc.out).mono ?_; rintro e w1 ⟨rfl, hb1⟩)
      have hx1 := Lib.hid (CBox.below hx.out hx.out.lt hb1)
      have hy1 := Lib.hid (CBox.below hy.out hy.out.lt hb1)
      have hB1 := step hB0 hb1
      have hk1 := hx1.out.cell (l := r * 5 + v) (by omega)
      have hf1 := hx1.out.frozen (r * 5 + v)
      have hr8' : (r : Int) < 8 := by omega
      have hq8' : (q : Int) < 8 := by omega
      have hv5' : (v : Int) < 5 := by omega
      have hc11 : w1.cell? ⟨w.heap.size, 1, none⟩ = some (.int .i64 s) := (hb1.cell (p := ⟨w.heap.size, 1, none⟩) (by have := hx.out.lt; show w.heap.size < _; omega)).trans hc1
      go_region
      go_wp2
      obtain ⟨w2, hw2⟩ : ∃ w2, w2 = (w1.setCell ⟨w.heap.size + 1 + 1, r * 5 + v, none⟩ (.int .i64 ((cnt xs s k (r * 5 + v) : Int) + 1))).drew := ⟨_, rfl⟩
      rw [← hw2]
      have hx2 : CBox w2 (w.heap.size + 1 + 1) (bump (cnt xs s k) (r * 5 + v)) s := by rw [hw2]; exact hx1.out.set (by omega)
      have hy2 : CBox w2 (w.heap.size + 1) (fun _ => 0) 0 := by rw [hw2]; exact hy1.out.other (by omega)
      have hB2 : Below w.heap.size w w2 := by rw [hw2]; exact below_drewN (hB1.setCell (by simp; omega) _) 1
      have hsz2 : w.heap.size < w2.heap.size := by have := hx2.lt; omega
      have hc2 : w2.cell? ⟨w.heap.size, 1, none⟩ = some (.int .i64 s) := by rw [hw2]; exact (cell_other (by omega)).trans hc11
      clear hw2 hk1 hf1
      have hk2 := hx2.cell (l := q * 5 + v) (by omega)
      have hf2 := hx2.frozen (q * 5 + v)
      have hx3 := Lib.hid (hx2.set (l := q * 5 + v) (by omega))
      have hy3 := Lib.hid (hy2.other (k := q * 5 + v) (v := (.int .i64 ((bump (cnt xs s k) (r * 5 + v) (q * 5 + v) : Int) + 1))) (show w.heap.size + 1 ≠ w.heap.size + 1 + 1 by omega))
      have hB3 := below_drewN (Below.setCell (p := (⟨w.heap.size + 1 + 1, q * 5 + v, none⟩ : Addr)) hB2 (by simp; omega) (.int .i64 ((bump (cnt xs s k) (r * 5 + v) (q * 5 + v) : Int) + 1))) 1
      have hc3 : (w2.setCell ⟨w.heap.size + 1 + 1, q * 5 + v, none⟩ (.int .i64 ((bump (cnt xs s k) (r * 5 + v) (q * 5 + v) : Int) + 1))).cell? ⟨w.heap.size, 1, none⟩ = some (.int .i64 s) := (cell_other (by omega)).trans hc2
      go_region
      go_wp2
      go_roundw
      case rel => exact ⟨k + 1, by omega, by go_num, by rw [hstep.out]; exact hx3, hy3, hc3, hB3⟩
      case measure => simp [intOf]; omega
    · obtain rfl : k = n := by omega
      have hxf := Lib.hid (CBox.stored (C' := cnt xs s k) (s' := s) hy.out)
      have hBe := setRow_below (g := w.heap.size + 1) (cs := ccells (cnt xs s k) s) hB0 (by omega)
      go_wp2_with (first | (refine wpList_load_row rfl 143 _ rfl (w.heap.size + 1 + 1) rfl 143 (ccells (cnt xs s k) s) (0, 0) _ hx.out Tryd.underlying143 rfl (Hi.out _) ?_) | (refine wpList_store_row rfl 143 _ _ rfl (w.heap.size + 1) (ccells (cnt xs s k) s) rfl rfl 143 (ccells (fun _ => 0) 0) hy.out (Hi.out _) rfl (Hone.out _) ?_))
      refine bodyPost_ret (v := .agg (ccells (cnt xs s k) s)) (results_cell_row (by rfl) _ _ (w.heap.size + 1) 143 _ (0, 0) _ rfl hxf.out Tryd.underlying143 rfl (Hi.out _)) rfl ⟨rfl, hBe⟩
end Go.Proofs.YtkeoflnmbcdmfaaDoor
namespace Go.Proofs.YtkeoflnmbcdmfaaDoor
open Go.ChangeShapes Go.WideShapes Go.ChangeAt Go.RowKit

theorem free_any (C : Nat → Nat) (s cell r q : Nat) (w : World) (h2 : 2 ≤ s) (h4 : s ≤ 4) (hr : Hid ((cell : Int) / (s : Int) = (r : Int))) (hq : Hid ((s : Int) + (cell : Int) % (s : Int) = (q : Int))) (r8 : r < 8) (q8 : q < 8) (c2 : cell < 16) (hC : ∀ j, C j ≤ 64) :
    Calls Tryd.prog 137 #[.agg (ccells C s), .int .i64 cell] w fun e w' => e = .returned (.int .i64 (freeTo C r q s : Int)) ∧ Below w.heap.size w w' := by
  have hx0 : CBox (w.alloc (.cells (ccells C s) 143)) w.heap.size C s := heap_alloc_new w _
  have hb0 : Below w.heap.size w (w.alloc (.cells (ccells C s) 143)) := (Below.refl _ _).alloc (Nat.le_refl _) _
  have hs40 := hx0.size_
  have Hx0 := Lib.hid hx0
  clear hx0
  go_enter Tryd.func137, Tryd.ntmps137
  go_wp2_with (go_at_call 128; refine (linesThrough_rc s cell r q _ (by omega) (by omega) c2 hr.out hq.out).mono ?_; rintro e w1 ⟨rfl, hb1⟩)
  have hx1 := Lib.hid (CBox.below Hx0.out Hx0.out.lt hb1)
  have hB1 := step hb0 hb1
  clear hb1 hs40
  go_loopw [7, 8] (fun m i wr => ∃ v : Nat, v ≤ s ∧ i = .int .i64 ((v : Int) + 1) ∧ m = .int .i64 (freeTo C r q v : Int) ∧ Hid (CBox wr w.heap.size C s) ∧ Below w.heap.size w wr) (fun _ i _ => (s + 1 - intOf i).toNat)
  case atStart => exact ⟨0, by omega, rfl, rfl, hx1, hB1⟩
  case round =>
    obtain ⟨v, hv, rfl, rfl, hx, hb⟩ := hrel
    have hk40 := hx.out.size_
    by_cases hlt : v < s
    · have hk1 := hx.out.cell (l := r * 5 + (v + 1)) (by omega)
      have hk2 := hx.out.cell (l := q * 5 + (v + 1)) (by omega)
      have e1 : ((v : Int) + 1).toNat = v + 1 := by omega
      have e2 : IntKind.i64.wrap ((v : Int) + 1) = (v : Int) + 1 := IntWalk.i64_in _ (by omega)
      have e3 : (0 : Int) ≤ (v : Int) + 1 := by omega
      have e4 : (v : Int) + 1 < 5 := by omega
      have r8' : (r : Int) < 8 := by omega
      have q8' : (q : Int) < 8 := by omega
      have hc1 := hC (r * 5 + (v + 1))
      have hc2 := hC (q * 5 + (v + 1))
      have e5 : IntKind.i64.wrap ((C (r * 5 + (v + 1)) : Int) + (C (q * 5 + (v + 1)) : Int)) = (C (r * 5 + (v + 1)) : Int) + (C (q * 5 + (v + 1)) : Int) := IntWalk.i64_in _ (by omega)
      have hlt32 := freeTo_lt C r q v (by omega)
      have hor := or_int (freeTo C r q v) (v + 1) hlt32 (by omega)
      have hstep : freeTo C r q (v + 1) = if C (r * 5 + (v + 1)) + C (q * 5 + (v + 1)) = 0 then freeTo C r q v ||| 2 ^ (v + 1) else freeTo C r q v := rfl
      by_cases ho : C (r * 5 + (v + 1)) + C (q * 5 + (v + 1)) = 0
      · have ht : ((C (r * 5 + (v + 1)) : Int) + (C (q * 5 + (v + 1)) : Int) == 0) = true := by rw [beq_iff_eq]; omega
        have Hst := Lib.hid (show freeTo C r q (v + 1) = freeTo C r q v ||| 2 ^ (v + 1) by rw [hstep, if_pos ho])
        clear hstep ho hc1 hc2
        go_wp2
        go_quiet (fail)
        go_wp2
        go_roundw
        case rel => exact ⟨v + 1, by omega, by go_num, by rw [Hst.out], Lib.hid (CBox.below hx.out hx.out.lt (below_drewN (Below.refl _ _) _)), below_drewN hb _⟩
        case measure => simp [intOf]; omega
      · have ht : ((C (r * 5 + (v + 1)) : Int) + (C (q * 5 + (v + 1)) : Int) == 0) = false := by rw [beq_eq_false_iff_ne]; omega
        have Hst := Lib.hid (show freeTo C r q (v + 1) = freeTo C r q v by rw [hstep, if_neg ho])
        clear hstep ho hc1 hc2
        go_wp2
        go_quiet (fail)
        go_wp2
        go_roundw
        case rel => exact ⟨v + 1, by omega, by go_num, by rw [Hst.out], Lib.hid (CBox.below hx.out hx.out.lt (below_drewN (Below.refl _ _) _)), below_drewN hb _⟩
        case measure => simp [intOf]; omega
    · obtain rfl : v = s := by omega
      go_wp2
      go_ret
      exact ⟨rfl, hb⟩
theorem cz_key (A : Option Addr) (n c : Nat) (s : Int) (C : Nat → Nat) (w w1 : World) (hb1 : Below (w.alloc (.cells #[.slice A n c, .int .i64 s] 76)).heap.size (w.alloc (.cells #[.slice A n c, .int .i64 s] 76)) w1) (w2 : World)
    (h2 : (w1.alloc (.cells (czero 0) 143)).setRow w1.heap.size (ccells C s) = w2) : CBox w2 w1.heap.size C s ∧ w2.cell? ⟨w.heap.size, 0, none⟩ = some (.slice A n c) ∧ Below w.heap.size w w2 ∧ w.heap.size < w1.heap.size ∧ w1.heap.size < w2.heap.size := by
  subst h2
  have hlt : w.heap.size < w1.heap.size := by have := hb1.size; rw [World.size_alloc] at this; omega
  have hz : CBox (w1.alloc (.cells (czero 0) 143)) w1.heap.size (fun _ => 0) 0 := by rw [czero_is]; exact heap_alloc_new w1 _
  have hB1 := step ((Below.refl w.heap.size w).alloc (Nat.le_refl _) _) hb1
  refine ⟨hz.stored, ?_, setRow_below (hB1.alloc hB1.size _) hB1.size, hlt, by simp⟩
  refine (setRow_cell (by show w.heap.size ≠ w1.heap.size; omega)).trans ?_
  have hc := box_cell hb1 0
  refine ((((Below.refl w1.heap.size w1).alloc (Nat.le_refl _) (.cells (czero 0) 143)).cell (p := ⟨w.heap.size, 0, none⟩) hlt).trans hc)
theorem candidates_any (A : Option Addr) (c n B s : Nat) (xs : List Int) (w : World) (h : Rd w B A n xs) (hB : B ≤ w.heap.size) (hs : s ∈ [2, 3, 4]) (hn : n = s * s) (hok : Hid (okAll xs s n)) :
    Calls Tryd.prog 127 #[.agg #[.slice A n c, .int .i64 s]] w (RetSl w (mapTo (candG xs s) n)) := by
  obtain ⟨i0, hi, hz0, hz1, hz2⟩ := info_parts int_info
  have hs2 : 2 ≤ s := by simp at hs; omega
  have hs4 : s ≤ 4 := by simp at hs; omega
  have hn16 : n ≤ 16 := by simp at hs; rcases hs with rfl | rfl | rfl <;> omega
  have Hn := Lib.hid hn; clear hn
  have Hi := Lib.hid (fun C => cinfo C s)
  have Hone := Lib.hid (fun C => cone C s)
  have hzz : ∀ u : World, (u.alloc (.cells #[.int .i64 0, .int .i64 0, .int .i64 0, .int .i64 0, .int .i64 0, .int .i64 0, .int .i64 0, .int .i64 0, .int .i64 0, .int .i64 0, .int .i64 0, .int .i64 0, .int .i64 0, .int .i64 0, .int .i64 0, .int .i64 0, .int .i64 0, .int .i64 0, .int .i64 0, .int .i64 0, .int .i64 0, .int .i64 0, .int .i64 0, .int .i64 0, .int .i64 0, .int .i64 0, .int .i64 0, .int .i64 0, .int .i64 0, .int .i64 0, .int .i64 0, .int .i64 0, .int .i64 0, .int .i64 0, .int .i64 0, .int .i64 0, .int .i64 0, .int .i64 0, .int .i64 0, .int .i64 0, .int .i64 0] 143)).heap[u.heap.size]? = some (.cells (ccells (fun _ => 0) 0) 143 (0, 0)) := fun u => heap_alloc_new u _
  have Hzz := Lib.hid hzz; clear hzz
  have Key := Lib.hid (fun w1 => cz_key A n c (s : Int) (cnt xs s n) w w1)
  have h1 := h.alloc hB (.cells #[.slice A n c, .int .i64 s] 76)
  have hB1 : B ≤ (w.alloc (.cells #[.slice A n c, .int .i64 s] 76)).heap.size := by simp; omega
  go_enter Tryd.func127, Tryd.ntmps127
  go_wp2_with (first
    | (go_at_call 136; refine (counted_any _ _ _ _ _ _ _ h1 hB1 hs Hn.out hok).mono ?_; rintro e w1 ⟨rfl, hb1⟩)
    | (refine wpList_store_row rfl 143 _ _ rfl w1.heap.size (ccells (cnt xs s n) s) rfl rfl 143 (ccells (fun _ => 0) 0) (Hzz.out w1) (Hi.out _) rfl (Hone.out _) ?_; generalize hw0 : World.setRow _ _ _ = w2; obtain ⟨hx2, hc2, hb2, hg1, hg2⟩ := Key.out w1 hb1 w2 hw0; clear hw0 hb1)
    | (refine wpList_make_full _ rfl (.tmp 11) (.tmp 11) 23 rfl w.heap.size 3 i0 (.int .i64 0) 1 Tryd.underlying23 hi hz0 hz1 .i64 .i64 n n n rfl rfl rfl rfl (by rw [hz2]; omega) (by simp only [maxLen]; omega) hb2.size ?_; intro w3 hown hgr; have hc3 := (made_below hgr (Nat.le_refl _)).cell (p := ⟨w.heap.size, 0, none⟩) (by show w.heap.size < w2.heap.size; omega); rw [hc2] at hc3))
  have ho3 := made_part (mapTo (candG xs s) n) hown
  have hb3' := made_below hgr (Nat.le_refl _)
  have hx3 := Lib.hid (CBox.below hx2 hg2 hb3')
  have hb3 := step hb2 hb3'
  obtain ⟨G, hG⟩ : ∃ G, G = w1.heap.size := ⟨_, rfl⟩
  obtain ⟨M, hM⟩ : ∃ M, M = w2.heap.size := ⟨_, rfl⟩
  rw [← hM] at ho3
  rw [← hG] at hx3
  rw [← hG, ← hM]
  have hne : G ≠ M := by omega
  have hlo : w.heap.size ≤ M := by omega
  clear hown hgr hb3' hx2 hc2 hc3 hb2 Key Hzz hz0 hz1 hz2 hi hG hM hg1 hg2
  go_loopw [16] (fun i wr => ∃ k : Nat, k ≤ n ∧ i = .int .i64 k ∧ Ow wr w.heap.size (some ⟨M, 0, none⟩) n n (part (mapTo (candG xs s) n) k n) ∧ Hid (CBox wr G (cnt xs s n) s) ∧ Below w.heap.size w wr) (fun i _ => n - (intOf i).toNat)
  case atStart => exact ⟨0, Nat.zero_le _, rfl, ho3, hx3, hb3⟩
  case round =>
    obtain ⟨k, hk, rfl, ho, hx, hb⟩ := hrel
    by_cases hlt : k < n
    · obtain ⟨b, off, rfl, hbB, hck⟩ := (h.below (hb.mono hB)).at_ hlt
      obtain ⟨x0, x4⟩ := hok.out k hlt
      obtain ⟨v, hv⟩ := Int.eq_ofNat_of_zero_le x0
      rw [hv] at hck
      have hst := (World.ownsRow.stored ho k (.int .i64 (nth (mapTo (candG xs s) n) k))).1
      rw [part_set, mapTo_nth hlt] at hst
      have hfill := hst
      have hx6 : ∀ v : Value, Hid (CBox (wr.setCell ⟨M, k, none⟩ v) G (cnt xs s n) s) := fun v => Lib.hid (hx.out.other hne)
      by_cases hz : v = 0
      · subst hz
        obtain ⟨hr8, hc8⟩ := rc_lt s hs k (by have := Hn.out; omega)
        have Hr : Hid ((k : Int) / (s : Int) = ((k / s : Nat) : Int)) := Lib.hid (by simp)
        have Hc : Hid ((s : Int) + (k : Int) % (s : Int) = ((s + k % s : Nat) : Int)) := Lib.hid (by simp)
        have Hg := Lib.hid (show ((freeTo (cnt xs s n) (k / s) (s + k % s) s : Nat) : Int) = candG xs s k by
          rw [free_cand hs Hn.out hok.out hlt (by rw [hv]; rfl) s (Nat.le_refl _)]
          simp only [candG, candN, hv, Int.toNat_natCast]
          rw [if_neg (by decide)])
        have hC : ∀ j, cnt xs s n j ≤ 64 := fun j => by have := cnt_le xs s n j; omega
        have HC := Lib.hid hC
        clear hC hst hfill
        go_wp2_with (first
          | (refine wpList_load_row rfl 143 _ rfl G rfl 143 (ccells (cnt xs s n) s) (0, 0) _ hx.out Tryd.underlying143 rfl (Hi.out _) ?_)
          | (go_at_call 137; refine (free_any (cnt xs s n) s k (k / s) (s + k % s) _ hs2 hs4 Hr Hc hr8 hc8 (by omega) HC.out).mono ?_; rintro e w4 ⟨rfl, hb4⟩; rw [Hg.out]; have ho4 := ho.below hb4; obtain ⟨hold4, hfr4⟩ := ho4.cell hlt; have hx4 := Lib.hid (CBox.below hx.out hx.out.lt hb4); have hb4' := step hb hb4; have hst := (World.ownsRow.stored ho4 k (.int .i64 (nth (mapTo (candG xs s) n) k))).1; rw [part_set, mapTo_nth hlt] at hst; have Hst := Lib.hid hst; clear hst; have hx5 : ∀ v : Value, Hid (CBox (w4.setCell ⟨M, k, none⟩ v) G (cnt xs s n) s) := fun v => Lib.hid (hx4.out.other hne); clear hb4))
        go_roundw
        case rel => exact ⟨k + 1, by omega, by go_num, Hst.out, hx5 _, hb4'.setCell (p := (⟨M, k, none⟩ : Addr)) hlo _⟩
        case measure => simp [intOf]; omega
      · have Hg := Lib.hid (show ((2 ^ v : Nat) : Int) = candG xs s k by
          simp only [candG, candN, hv, Int.toNat_natCast]
          rw [if_pos (by omega)])
        have hz1 : ((v : Int) == 0) = false := by simp; omega
        have hpw := two_pow_nat v (by omega)
        have Hpw := Lib.hid hpw
        have Hfill := Lib.hid hfill
        obtain ⟨hold, hfr⟩ := ho.cell hlt
        clear hpw hst hfill hz
        go_wp2
        go_roundw
        case rel => exact ⟨k + 1, by omega, by go_num, by rw [show (wrap64 (2 ^ v)) = candG xs s k from Hpw.out.trans Hg.out]; exact Hfill.out, hx6 _, hb.setCell (p := (⟨M, k, none⟩ : Addr)) hlo _⟩
        case measure => simp [intOf]; omega
    · obtain rfl : k = n := by omega
      have hp : part (mapTo (candG xs s) k) k k = mapTo (candG xs s) k := part_all' (mapTo_length _ _)
      rw [hp] at ho
      go_wp2
      go_ret
      have := retSl_mk ho hb
      exact this
end Go.Proofs.YtkeoflnmbcdmfaaDoor
namespace Go.Proofs.YtkeoflnmbcdmfaaDoor
open Go.ChangeShapes Go.WideShapes Go.ChangeAt Go.RowKit

theorem implCandidatesOf : ICandidatesOf := by
  intro A c n B xs size w h hB hm
  have hlen := Lib.hid h.1
  cases hg : gv xs size
  · have HL := Lib.hid (show candL xs size = [] by simp [candL, hg])
    have h1 := h.alloc hB (.cells #[.slice A n c, .int .i64 size] 76)
    have hB1 : B ≤ (w.alloc (.cells #[.slice A n c, .int .i64 size] 76)).heap.size := by simp; omega
    have hB0 : Below w.heap.size w (w.alloc (.cells #[.slice A n c, .int .i64 size] 76)) := (Below.refl _ _).alloc (Nat.le_refl _) _
    go_enter Tryd.func113, Tryd.ntmps113
    go_wp2_with (go_at_call 70; refine (implValid _ _ _ _ _ _ _ h1 hB1 hm).mono ?_; rintro e w1 ⟨rfl, hb1⟩; rw [hg])
    go_ret
    rw [HL.out]
    exact ⟨_, _, rfl, Ow.nil_ _ _, step hB0 hb1⟩
  · obtain ⟨s, rfl, hs, hls⟩ := size_nat hg
    have hn : n = s * s := by have := hlen.out; omega
    have hok := Lib.hid (gv_okAll hg hlen.out)
    have HL := Lib.hid (show candL xs s = mapTo (candG xs s) n by simp [candL, hg, hlen.out])
    have Hn := Lib.hid hn; clear hn hls
    have h1 := h.alloc hB (.cells #[.slice A n c, .int .i64 s] 76)
    have hB1 : B ≤ (w.alloc (.cells #[.slice A n c, .int .i64 s] 76)).heap.size := by simp; omega
    have hB0 : Below w.heap.size w (w.alloc (.cells #[.slice A n c, .int .i64 s] 76)) := (Below.refl _ _).alloc (Nat.le_refl _) _
    go_enter Tryd.func113, Tryd.ntmps113
    go_wp2_with (first | (go_at_call 70; refine (implValid _ _ _ _ _ _ _ h1 hB1 hm).mono ?_; rintro e w1 ⟨rfl, hb1⟩; rw [hg]; have hr1 := h1.below (hb1.mono hB1); have c0 := box_cell hb1 0; have c1 := box_cell hb1 1; have hB2 := step hB0 hb1; have hBw : B ≤ w1.heap.size := Nat.le_trans hB hB2.size; clear hb1; simp only [List.getElem?_toArray, List.getElem?_cons_zero, List.getElem?_cons_succ] at c0 c1) | (go_at_call 127; refine (candidates_any _ _ _ _ _ _ _ hr1 hBw hs Hn.out hok).mono ?_; rintro e w2 ⟨A2, c2, rfl, ho2, hb2⟩; have hB3 := step hB2 hb2))
    go_ret
    rw [HL.out]
    exact ⟨_, _, rfl, ho2.mono hB2.size, hB3⟩
end Go.Proofs.YtkeoflnmbcdmfaaDoor
