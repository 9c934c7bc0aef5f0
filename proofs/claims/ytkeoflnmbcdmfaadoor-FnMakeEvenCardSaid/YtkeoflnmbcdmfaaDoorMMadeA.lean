import Derived.Test.YtkeoflnmbcdmfaaDoorMSa
import Derived.Test.YtkeoflnmbcdmfaaDoorPushAll
import Derived.Test.YtkeoflnmbcdmfaaDoorMI3
set_option maxRecDepth 8000
namespace Go.Proofs.YtkeoflnmbcdmfaaDoor
open Go.ChangeShapes Go.WideShapes Go.ChangeAt Go.RowKit
/-! 'append(rules, more...)' to a slice of the call's own, what is appended being of the call's own, too. -/
theorem rat_left {rs1 rs2 : List RuleM} {n i : Nat} (hl : rs1.length = n) (hi : i < n) : rat (rs1 ++ rs2) i = rat rs1 i := by
  simp [rat, List.getD_eq_getElem?_getD, List.getElem?_append_left (by omega : i < rs1.length)]
theorem rat_right {rs1 rs2 : List RuleM} {n i : Nat} (hl : rs1.length = n) : rat (rs1 ++ rs2) (n + i) = rat rs2 i := by
  simp [rat, List.getD_eq_getElem?_getD, List.getElem?_append_right (by omega : rs1.length ≤ n + i), hl]
/-- the inner slices of a list of rules, none of them in v's block. -/
def InR (w : World) (lo : Nat) (v : Value) (rs : List RuleM) (vs : List Value) (m : Nat) : Prop :=
  ∀ i, i < m → ∃ A' c', vs[i * 3]? = some (.int .i64 (rat rs i).k) ∧ vs[i * 3 + 1]? = some (.slice A' (rat rs i).xs.length c') ∧ vs[i * 3 + 2]? = some (.int .i64 (rat rs i).v) ∧ Ow w lo A' (rat rs i).xs.length c' (rat rs i).xs ∧ (rat rs i).xs.length ≤ 1099511627776 ∧ ∀ g, (Value.slice A' (rat rs i).xs.length c').ownBlock = some g → v.ownBlock ≠ some g
theorem inR_one {w : World} {lo : Nat} {v : Value} {rs : List RuleM} {vs : List Value} {m : Nat} (h : InR w lo v rs vs m) (hl : vs.length = m * 3) : ∀ u ∈ vs, u.oneCell' = true := by
  intro u hu
  obtain ⟨j, hj, rfl⟩ := List.mem_iff_getElem.1 hu
  obtain ⟨A', c', e0, e1, e2, _⟩ := h (j / 3) (by omega)
  have hjj : vs[j]? = some vs[j] := List.getElem?_eq_getElem hj
  have : j % 3 = 0 ∨ j % 3 = 1 ∨ j % 3 = 2 := by omega
  rcases this with r | r | r
  · rw [show j / 3 * 3 = j by omega, hjj] at e0
    rw [Option.some.inj e0]; rfl
  · rw [show j / 3 * 3 + 1 = j by omega, hjj] at e1
    rw [Option.some.inj e1]; rfl
  · rw [show j / 3 * 3 + 2 = j by omega, hjj] at e2
    rw [Option.some.inj e2]; rfl
theorem run_push_rulesV {w : World} (ty : TypeId) (lo : Nat) (A : Option Addr) (n c : Nat) (rs1 : List RuleM) (vs1 : List Value) (A2 : Option Addr) (m c2 : Nat) (rs2 : List RuleM) (vs2 : List Value) (lo2 : Nat) (l1 : rs1.length = n)
    (hown : w.ownsRow lo 63 3 (.slice A n c) n vs1) (hin1 : InR w lo (.slice A n c) rs1 vs1 n) (hown2 : w.ownsRow lo2 63 3 (.slice A2 m c2) m vs2) (hin2 : InR w lo (.slice A n c) rs2 vs2 m) (hmn : 0 < m ∨ n = 0)
    (hn : n ≤ 1099511627776) (hm : m ≤ 1099511627776) (hlo : lo ≤ w.heap.size) :
    ∃ A' c' w', (Builtin.append_ #[24, 24] ty #[.slice A n c, .slice A2 m c2]).run Tryd.prog w = .ok (.slice A' (n + m) c') w' ∧ (w'.ownsRow lo 63 3 (.slice A' (n + m) c') (n + m) (vs1 ++ vs2) ∧ InR w' lo (.slice A' (n + m) c') (rs1 ++ rs2) (vs1 ++ vs2) (n + m)) ∧ w.grownBy w' (Value.slice A n c).ownBlock ∧ (∀ g, (Value.slice A' (n + m) c').ownBlock = some g → (Value.slice A n c).ownBlock = some g ∨ g = w.heap.size) := by
  obtain ⟨i0, hi, hz0, hz1, hz2⟩ := info_parts rule_parts
  obtain ⟨hvl2, hcase⟩ := id hown2
  have hvl1 := hown.1
  by_cases h0 : 0 < m
  · rcases hcase with ⟨_, h00⟩ | ⟨g2, cap2, cur, hv, _, hrow, h1, h2, h3, h4⟩
    · omega
    · injection hv with e1 _ e2
      subst e1
      have hcell : ∀ j u, vs2[j]? = some u → w.cell? ((⟨g2, 0, none⟩ : Addr).add j) = some u := fun j u hj => by
        have hadd : (⟨g2, 0, none⟩ : Addr).add j = ⟨g2, j, none⟩ := by unfold Addr.add; split <;> simp_all
        rw [hadd, cell_of_row w g2 j cur _ _ hrow]
        rw [← h4, List.getElem?_take] at hj
        split at hj
        · simpa using hj
        · cases hj
      obtain ⟨g, cap, w', hrun, k2, k3, k4, k5⟩ := run_append_lies (P := Tryd.prog) w 24 ty lo 63 i0 (.agg #[.int .i64 0, .slice none 0 0, .int .i64 0]) 3 40 Tryd.underlying24 hi hz0 hz1 hz2 rfl (by decide) _ n vs1 hown ⟨g2, 0, none⟩ m c2 vs2 hvl2 hcell (inR_one hin2 hvl2) h0 (by simp only [maxLen]; omega) (by omega) hlo _ rfl
      have hlast : ∀ g', (Value.slice (some ⟨g, 0, none⟩) (n + m) cap).ownBlock = some g' → (Value.slice A n c).ownBlock = some g' ∨ g' = w.heap.size := fun g' hg' => by
        have : g' = g := by simp [Value.ownBlock] at hg'; omega
        subst this
        exact k4
      have hout : ∀ (A' : Option Addr) (l c' : Nat) (xs : List Int), Ow w lo A' l c' xs → (∀ b, (Value.slice A' l c').ownBlock = some b → (Value.slice A n c).ownBlock ≠ some b) → Ow w' lo A' l c' xs ∧ ∀ b, (Value.slice A' l c').ownBlock = some b → (Value.slice (some ⟨g, 0, none⟩) (n + m) cap).ownBlock ≠ some b := fun A' l c' xs ho hne => by
        refine ⟨Ow.far ho k3 hne, fun b hb e => ?_⟩
        have := World.ownsRow.lt ho b hb
        rcases hlast b e with h | h
        · exact hne b hb h
        · omega
      refine ⟨some ⟨g, 0, none⟩, cap, w', hrun, ⟨k2, fun i hi => ?_⟩, k3, hlast⟩
      by_cases hlt : i < n
      · obtain ⟨A', c', e0, e1, e2, e3, e4, e5⟩ := hin1 i hlt
        rw [rat_left l1 hlt]
        obtain ⟨q1, q2⟩ := hout _ _ _ _ e3 e5
        exact ⟨A', c', by rw [List.getElem?_append_left (by omega)]; exact e0, by rw [List.getElem?_append_left (by omega)]; exact e1, by rw [List.getElem?_append_left (by omega)]; exact e2, q1, e4, q2⟩
      · obtain ⟨q, rfl⟩ : ∃ q, i = n + q := ⟨i - n, by omega⟩
        obtain ⟨A', c', e0, e1, e2, e3, e4, e5⟩ := hin2 q (by omega)
        rw [rat_right l1]
        obtain ⟨q1, q2⟩ := hout _ _ _ _ e3 e5
        exact ⟨A', c', by rw [List.getElem?_append_right (by omega), show (n + q) * 3 - vs1.length = q * 3 by omega]; exact e0, by rw [List.getElem?_append_right (by omega), show (n + q) * 3 + 1 - vs1.length = q * 3 + 1 by omega]; exact e1, by rw [List.getElem?_append_right (by omega), show (n + q) * 3 + 2 - vs1.length = q * 3 + 2 by omega]; exact e2, q1, e4, q2⟩
  · obtain rfl : m = 0 := by omega
    obtain rfl : n = 0 := by omega
    have hsrc : Go.Src Tryd.prog i0.size 24 (.slice A2 0 c2) 0 [] w := by
      cases A2 with
      | none => exact Go.Src.ofNil w Tryd.underlying24 c2
      | some a => exact Go.Src.ofSlice w Tryd.underlying24 a 0 c2 [] (by simp) (fun j u hj => by simp at hj) (fun u hu => by simp at hu)
    exact ⟨A, c, w, run_append_nothing w 24 24 ty 63 i0 Tryd.underlying24 hi A 0 c (Nat.zero_le _) _ hsrc, ⟨by rw [show vs2 = [] from List.eq_nil_of_length_eq_zero (by omega), List.append_nil]; exact hown, fun i hi => absurd hi (by omega)⟩, World.grownBy.refl _ _, fun g hg => .inl hg⟩
theorem run_push_rules {w : World} (ty : TypeId) (lo : Nat) (A : Option Addr) (n c : Nat) (rs1 : List RuleM) (vs1 : List Value) (A2 : Option Addr) (m c2 : Nat) (rs2 : List RuleM) (vs2 : List Value) (lo2 : Nat) (l1 : rs1.length = n)
    (hown : w.ownsRow lo 63 3 (.slice A n c) n vs1) (hin1 : InR w lo (.slice A n c) rs1 vs1 n) (hown2 : w.ownsRow lo2 63 3 (.slice A2 m c2) m vs2) (hin2 : InR w lo (.slice A n c) rs2 vs2 m) (hmn : 0 < m ∨ n = 0)
    (hn : n ≤ 1099511627776) (hm : m ≤ 1099511627776) (hlo : lo ≤ w.heap.size) :
    ∃ A' c' w', (Builtin.append_ #[24, 24] ty #[.slice A n c, .slice A2 m c2]).run Tryd.prog w = .ok (.slice A' (n + m) c') w' ∧ OwR w' lo (.slice A' (n + m) c') (rs1 ++ rs2) (n + m) ∧ w.grownBy w' (Value.slice A n c).ownBlock ∧ (∀ g, (Value.slice A' (n + m) c').ownBlock = some g → (Value.slice A n c).ownBlock = some g ∨ g = w.heap.size) := by
  obtain ⟨A', c', w', hrun, ⟨k1, k2⟩, k3, k4⟩ := run_push_rulesV ty lo A n c rs1 vs1 A2 m c2 rs2 vs2 lo2 l1 hown hin1 hown2 hin2 hmn hn hm hlo
  exact ⟨A', c', w', hrun, ⟨_, k1, k2⟩, k3, k4⟩
/-- where the cells of the rules of a row lie. -/
def CbV (vs : List Value) (m : Nat) (Q : Nat → Prop) : Prop := ∀ i A' n' c', i < m → vs[i * 3 + 1]? = some (.slice A' n' c') → ∀ g, (Value.slice A' n' c').ownBlock = some g → Q g
def SpQ (w : World) (lo : Nat) (v : Value) (k : Nat) (Q : Nat → Prop) : Prop := ∃ vs, w.ownsRow lo 63 3 v k vs ∧ CbV vs k Q
theorem CbV.nil {Q : Nat → Prop} : CbV [] 0 Q := fun i _ _ _ hi => absurd hi (by omega)
theorem CbV.app {vs1 vs2 : List Value} {n m : Nat} {Q : Nat → Prop} (hl : vs1.length = n * 3) (h1 : CbV vs1 n Q) (h2 : CbV vs2 m Q) : CbV (vs1 ++ vs2) (n + m) Q := by
  intro i A' n' c' hi he g hg
  by_cases hlt : i < n
  · rw [List.getElem?_append_left (by omega)] at he
    exact h1 i A' n' c' hlt he g hg
  · obtain ⟨q, rfl⟩ : ∃ q, i = n + q := ⟨i - n, by omega⟩
    rw [List.getElem?_append_right (by omega), show (n + q) * 3 + 1 - vs1.length = q * 3 + 1 by omega] at he
    exact h2 q A' n' c' (by omega) he g hg
theorem CbV.one {x y z : Value} {Q : Nat → Prop} (h : ∀ g, y.ownBlock = some g → Q g) : CbV [x, y, z] 1 Q := by
  intro i A' n' c' hi he g hg
  obtain rfl : i = 0 := by omega
  simp at he
  rw [he] at h
  exact h g hg
theorem CbV.imp {vs : List Value} {m : Nat} {Q Q' : Nat → Prop} (h : CbV vs m Q) (hq : ∀ g, Q g → Q' g) : CbV vs m Q' := fun i A' n' c' hi he g hg => hq g (h i A' n' c' hi he g hg)
theorem SpQ.imp {w : World} {lo k : Nat} {v : Value} {Q Q' : Nat → Prop} (h : SpQ w lo v k Q) (hq : ∀ g, Q g → Q' g) : SpQ w lo v k Q' := by
  obtain ⟨vs, h1, h2⟩ := h
  exact ⟨vs, h1, h2.imp hq⟩
theorem SpQ.map {w w' : World} {lo k : Nat} {v : Value} {Q : Nat → Prop} (h : SpQ w lo v k Q) (hm : ∀ vs, w.ownsRow lo 63 3 v k vs → w'.ownsRow lo 63 3 v k vs) : SpQ w' lo v k Q := by
  obtain ⟨vs, h1, h2⟩ := h
  exact ⟨vs, hm vs h1, h2⟩
theorem SpQ.below {w w' : World} {lo k : Nat} {v : Value} {Q : Nat → Prop} (h : SpQ w lo v k Q) (hb : Below w.heap.size w w') : SpQ w' lo v k Q :=
  h.map fun vs hown => World.ownsRow.kept hown (row := none) ⟨hb.os, hb.tape, hb.output, hb.size, fun k hk _ => hb.block k hk⟩ (by cases e : v.ownBlock <;> simp)
theorem SpQ.keptL {w w' : World} {lo G k : Nat} {v : Value} {Q : Nat → Prop} (h : SpQ w lo v k Q) (hg : w.grownBy w' (some G)) (hG : G < lo) : SpQ w' lo v k Q :=
  h.map fun vs hown => World.ownsRow.kept hown hg (by
    cases e : v.ownBlock
    · exact .inl rfl
    · refine .inr (fun e2 => ?_)
      have h1 := (World.ownsRow.lt hown _ e).1
      have h2 := Option.some.inj e2
      omega)
theorem SpQ.nil {w : World} {lo : Nat} {Q : Nat → Prop} : SpQ w lo (.slice none 0 0) 0 Q := ⟨[], World.ownsRow_nil _ _ _ _, CbV.nil⟩
theorem ownsRow_same {w : World} {lo lo' k sz : Nat} {e : TypeId} {v : Value} {xs ys : List Value} (h : w.ownsRow lo e sz v k xs) (h' : w.ownsRow lo' e sz v k ys) : xs = ys := by
  rcases h.2 with ⟨e1, h0⟩ | ⟨g, cap, cur, hv, _, hg, _, _, _, h4⟩
  · rw [List.eq_nil_of_length_eq_zero (by rw [h.1, h0, Nat.zero_mul] : xs.length = 0), List.eq_nil_of_length_eq_zero (by rw [h'.1, h0, Nat.zero_mul] : ys.length = 0)]
  · rcases h'.2 with ⟨e1', h0'⟩ | ⟨g', cap', cur', hv', _, hg', _, _, _, h4'⟩
    · rw [List.eq_nil_of_length_eq_zero (by rw [h.1, h0', Nat.zero_mul] : xs.length = 0), List.eq_nil_of_length_eq_zero (by rw [h'.1, h0', Nat.zero_mul] : ys.length = 0)]
    · rw [hv] at hv'
      injection hv' with e1 _ _
      injection e1 with e1
      injection e1 with e1 _ _
      subst e1
      rw [hg] at hg'
      injection hg' with hg'
      injection hg' with e2 _ _
      subst e2
      rw [← h4, ← h4']
theorem OwR.with_ {w : World} {lo k : Nat} {v : Value} {rs : List RuleM} {Q : Nat → Prop} (h : OwR w lo v rs k) (hs : SpQ w lo v k Q) : ∃ vs, w.ownsRow lo 63 3 v k vs ∧ InR w lo v rs vs k ∧ CbV vs k Q := by
  obtain ⟨vs, h1, h2⟩ := h
  obtain ⟨vs', h3, h4⟩ := hs
  obtain rfl := ownsRow_same h1 h3
  exact ⟨vs, h1, h2, h4⟩
/-- every row's own: its cells lie below the world's end. -/
theorem OwR.hi {w : World} {lo k : Nat} {v : Value} {rs : List RuleM} (h : OwR w lo v rs k) : SpQ w lo v k (fun g => g < w.heap.size) := by
  obtain ⟨vs, h1, h2⟩ := h
  refine ⟨vs, h1, fun i A' n' c' hi he g hg => ?_⟩
  obtain ⟨A2, c2, _, e1, _, ho, _⟩ := h2 i hi
  rw [he] at e1
  injection e1 with e1
  rw [e1] at hg
  exact ho.own_hi g hg
theorem OwR.lo_ {w : World} {lo k : Nat} {v : Value} {rs : List RuleM} (h : OwR w lo v rs k) : SpQ w lo v k (fun g => lo ≤ g) := by
  obtain ⟨vs, h1, h2⟩ := h
  refine ⟨vs, h1, fun i A' n' c' hi he g hg => ?_⟩
  obtain ⟨A2, c2, _, e1, _, ho, _⟩ := h2 i hi
  rw [he] at e1
  injection e1 with e1
  rw [e1] at hg
  exact ho.own_lo g hg
/-- at a step of a region that draws its order. -/
theorem step_push_rules {w : World} {ops : Array Oper} {o : Oper} {a : Act} {K : Act → World → Prop} {Q : Exit → Act → World → Prop} {E : Prop} (hgd : o.guard = none) (s x : Operand)
    (ho : o.op = .call { callee := .builtin .append, args := #[s, x], argTypes := #[24, 24] })
    (lo : Nat) (A : Option Addr) (n c : Nat) (rs1 : List RuleM) (vs1 : List Value) (A2 : Option Addr) (m c2 : Nat) (rs2 : List RuleM) (vs2 : List Value) (lo2 : Nat) (hs : a.eval s = .slice A n c) (hx : a.eval x = .slice A2 m c2) (l1 : rs1.length = n)
    (hown : w.ownsRow lo 63 3 (.slice A n c) n vs1) (hin1 : InR w lo (.slice A n c) rs1 vs1 n) (hown2 : w.ownsRow lo2 63 3 (.slice A2 m c2) m vs2) (hin2 : InR w lo (.slice A n c) rs2 vs2 m) (hmn : 0 < m ∨ n = 0)
    (hn : n ≤ 1099511627776) (hm : m ≤ 1099511627776) (hlo : lo ≤ w.heap.size)
    (h : ∀ A' c' w', OwR w' lo (.slice A' (n + m) c') (rs1 ++ rs2) (n + m) → w.grownBy w' (Value.slice A n c).ownBlock → (∀ g, (Value.slice A' (n + m) c').ownBlock = some g → (Value.slice A n c).ownBlock = some g ∨ g = w.heap.size) → K (a.put o.dst (.slice A' (n + m) c')) w') :
    if Region.wanted o (yielded ops a.tmps) = true then Oper.wp Tryd.prog o a w K Q else E := by
  obtain ⟨A', c', w', hrun, h1, h2, h3⟩ := run_push_rules o.type lo A n c rs1 vs1 A2 m c2 rs2 vs2 lo2 l1 hown hin1 hown2 hin2 hmn hn hm hlo
  have hw : Region.wanted o (yielded ops a.tmps) = true := by simp [Region.wanted, hgd]
  rw [if_pos hw]
  unfold Oper.wp execOp
  simp only [ho, resolve, invoke, builtin, Sem.run_bind, Sem.run_pure, Result.andThen_ok, List.map_toArray, List.map_cons, List.map_nil, hs, hx, hrun]
  exact h A' c' w' h1 h2 h3
end Go.Proofs.YtkeoflnmbcdmfaaDoor
namespace Go.Proofs.YtkeoflnmbcdmfaaDoor
open Go.ChangeShapes Go.WideShapes Go.ChangeAt Go.RowKit
/-! The same with calls: what one operation does to the world is any relation of the author's. -/
/-- an operation that makes a value. -/
theorem oper_val {P : Program} {o : Oper} {a : Act} {w w' : World} {K : Act → World → Prop} {Q : Exit → Act → World → Prop} {v : Value} (hrun : (execOp a.eval o).run P w = .ok (.value v) w') (h : K (a.put o.dst v) w') : o.wp P a w K Q := by
  unfold Oper.wp
  rw [hrun]
  exact h
/-- an operation that calls a function. -/
theorem oper_call {P : Program} {o : Oper} {a : Act} {w : World} {K : Act → World → Prop} {Q : Exit → Act → World → Prop} {f : FuncId} {args : Array Value} {R : Ending → World → Prop} (hrun : (execOp a.eval o).run P w = .ok (.enter f args) w) (hc : Calls P f args w R) (h : ∀ e w', R e w' → ∃ v, e = .returned v ∧ K (a.put o.dst v) w') : o.wp P a w K Q := by
  unfold Oper.wp
  rw [hrun]
  refine hc.mono (fun e w' hr => ?_)
  obtain ⟨v, rfl, hk⟩ := h e w' hr
  exact hk
theorem wp_region_madeR {P : Program} {ops : Array Oper} {Q : Exit → Act → World → Prop} {id : Nat} {a0 : Act} {W : World} (m : Nat) (d : Nat → Nat) (G : Nat → Value → World → Prop) (Rel : World → World → Prop) (Eff : Nat → World → World → Prop) (C : Nat → World → Prop) (hC0 : ∀ j, C j W.drew) (hrefl : Rel W W.drew) (htrans : ∀ w w', Rel W w → Rel w w' → Rel W w')
    (hm : P.follows .mixedOrders = true) (hlen : ops.size = m + 1) (hback : ∀ (i : Nat) (o : Oper), ops[i]? = some o → ∀ e ∈ o.after, e.on < i)
    (hd : ∀ i o, i < m → ops[i]? = some o → o.dst = some (d i) ∧ o.guard = none) (hinj : ∀ i j, i < m → j < m → d i = d j → i = j) (hlt : ∀ i, i < m → d i < a0.tmps.size)
    (hl : ∀ o, ops[m]? = some o → o.dst = none ∧ o.guard = none ∧ ∀ j, j < m → ∃ e ∈ o.after, e.on = j ∧ Region.binds .any e = true)
    (hG : ∀ j i v w w', j ≠ i → Rel W w → Eff i w w' → G j v w → G j v w')
    (hstep : ∀ i o a w (K : Act → World → Prop), i < m → ops[i]? = some o → Rel W w → Off d m a a0 → (∀ e ∈ o.after, Region.binds .any e = true → G e.on (a.eval (.tmp (d e.on))) w) → C i w → (∀ v w', Rel w w' → Eff i w w' → (∀ j, j ≠ i → C j w → C j w') → G i v w' → K (a.put o.dst v) w') → o.wp P a w K Q)
    (hlast : ∀ o a w, ops[m]? = some o → Rel W w → Off d m a a0 → (∀ j, j < m → G j (a.eval (.tmp (d j))) w) → ∃ w', (execOp a.eval o).run P w = .ok .skip w' ∧ Q .normal a w') :
    (Code.region id ops true).wp P Q a0 W := by
  refine wp_region_inv (Inv := fun l a w => l.size = ops.size ∧ ((l.getD m false = false ∧ Rel W w ∧ Off d m a a0 ∧ (∀ j, l.getD j false = false → C j w) ∧ ∀ j, j < m → l.getD j false = true → G j (a.eval (.tmp (d j))) w) ∨ ((∀ j, j < ops.size → l.getD j false = true) ∧ Q .normal a w))) hm hback (fun l a w h => h.1) ?step ?done ?h0
  case done =>
    rintro l a w ⟨hs, h⟩ hall
    rcases h with ⟨h1, _⟩ | ⟨_, h⟩
    · rw [hall m (by omega)] at h1; cases h1
    · exact h
  case h0 =>
    refine ⟨by simp, .inl ⟨by rw [Array.getD_eq_getD_getElem?, Array.getElem?_replicate]; split <;> rfl, hrefl, ⟨rfl, rfl, fun _ _ => rfl⟩, fun j _ => hC0 j, fun j hj hlj => ?_⟩⟩
    simp at hlj
    have : j < ops.size := by omega
    simp [this] at hlj
  case step =>
    rintro l a w i o ⟨hs, h⟩ ho hli hall
    have hi : i < ops.size := (Array.getElem?_eq_some_iff.1 ho).1
    have hil : i < l.size := by omega
    rcases h with ⟨h1, hb, hoff, hcj, hg⟩ | ⟨h, _⟩
    · refine wpOp_step ho (fun K hK => ?_)
      have hsz : (l.setIfInBounds i true).size = ops.size := by simpa using hs
      by_cases him : i = m
      · subst him
        obtain ⟨q1, q2, q3⟩ := hl o ho
        have hallj : ∀ j, j < i → l.getD j false = true := fun j hj => by
          obtain ⟨e, he, rfl, hbd⟩ := q3 j hj
          exact hall e he hbd
        obtain ⟨w', hrun, hq⟩ := hlast o a w ho hb hoff (fun j hj => hg j hj (hallj j hj))
        rw [if_pos (by simp [Region.wanted, q2])]
        unfold Oper.wp
        rw [hrun]
        have hput : a.put o.dst undef = a := by rw [q1]; rfl
        refine hK _ _ ⟨hsz, .inr ⟨fun j hj => ?_, ?_⟩⟩
        · by_cases e : j = i
          · subst e; simp [hil]
          · have := hallj j (by omega)
            have hjl : j < l.size := by omega
            have hset : (l.setIfInBounds i true).getD j false = l.getD j false := by simp [Array.getElem?_setIfInBounds_ne (fun e' => e (Eq.symm e'))]
            rw [hset]; exact this
        · first | exact hq | (rw [hput]; exact hq)
      · have him' : i < m := by omega
        obtain ⟨q1, q2⟩ := hd i o him' ho
        have hpre : ∀ e ∈ o.after, Region.binds .any e = true → G e.on (a.eval (.tmp (d e.on))) w := fun e he hbd => hg e.on (Nat.lt_trans (hback i o ho e he) him') (hall e he hbd)
        rw [if_pos (by simp [Region.wanted, q2])]
        refine hstep i o a w K him' ho hb hoff hpre (hcj i (by simp [hil] at hli ⊢; exact hli)) (fun v w' hb' hef hcs hgi => ?_)
        have hdlt : d i < a.tmps.size := by rw [hoff.1]; exact hlt i him'
        have hset : ∀ j, (l.setIfInBounds i true).getD j false = if j = i then true else l.getD j false := fun j => by
          by_cases e : j = i
          · subst e; simp [hil]
          · rw [if_neg e]; simp [Array.getElem?_setIfInBounds_ne (fun e' => e (Eq.symm e'))]
        refine hK _ _ ⟨hsz, .inl ⟨by rw [hset, if_neg (fun e => him e.symm)]; exact h1, htrans _ _ hb hb', ?_, fun j hlj => (by rw [hset] at hlj; split at hlj; (cases hlj); (rename_i hji; exact hcs j hji (hcj j hlj))), fun j hj hlj => ?_⟩⟩
        · rw [q1]
          refine ⟨by rw [size_put]; exact hoff.1, hoff.2.1, fun t ht => ?_⟩
          rw [← hoff.2.2 t ht]
          simp [Act.put, Array.getElem?_setIfInBounds_ne (ht i him')]
        · rw [q1]
          by_cases e : j = i
          · subst e; rw [eval_put_same hdlt]; exact hgi
          · rw [eval_put_ne (fun e' => e (hinj _ _ hj him' e'.symm))]
            rw [hset, if_neg e] at hlj
            exact hG _ _ _ _ _ e hb hef (hg j hj hlj)
    · have := h i hi
      simp [hil] at hli this
      rw [this] at hli; cases hli
theorem wp_region_dsR {P : Program} {ops : Array Oper} {Q : Exit → Act → World → Prop} {id : Nat} {a0 : Act} {W : World} (ds : List Nat) (G : Nat → Value → World → Prop) (Rel : World → World → Prop) (Eff : Nat → World → World → Prop) (C : Nat → World → Prop) (hC0 : ∀ j, C j W.drew) (hrefl : Rel W W.drew) (htrans : ∀ w w', Rel W w → Rel w w' → Rel W w')
    (hm : P.follows .mixedOrders = true) (hc : chkOps ops ds = true) (hlt : ∀ t ∈ ds, t < a0.tmps.size)
    (hG : ∀ j i v w w', j ≠ i → Rel W w → Eff i w w' → G j v w → G j v w')
    (hstep : ∀ (i : Nat) (o : Oper) (a : Act) (w : World) (K : Act → World → Prop), i < ds.length → ops[i]? = some o → Rel W w → (∀ t, t ∉ ds → a.eval (.tmp t) = a0.eval (.tmp t)) → (∀ e ∈ o.after, Region.binds .any e = true → G e.on (a.eval (.tmp (ds.getD e.on 0))) w) → C i w → (∀ v w', Rel w w' → Eff i w w' → (∀ j, j ≠ i → C j w → C j w') → G i v w' → K (a.put o.dst v) w') → o.wp P a w K Q)
    (hlast : ∀ (o : Oper) (a : Act) (w : World), ops[ds.length]? = some o → Rel W w → a.defers = a0.defers → a.tmps = ds.foldl (fun tm t => tm.setIfInBounds t (a.tmps.getD t undef)) a0.tmps → (∀ t, t ∉ ds → a.eval (.tmp t) = a0.eval (.tmp t)) → (∀ j, j < ds.length → G j (a.eval (.tmp (ds.getD j 0))) w) → ∃ w', (execOp a.eval o).run P w = .ok .skip w' ∧ Q .normal a w') :
    (Code.region id ops true).wp P Q a0 W := by
  simp only [chkOps, Bool.and_eq_true, beq_iff_eq, List.all_eq_true, List.mem_range, decide_eq_true_eq] at hc
  obtain ⟨⟨⟨⟨c1, c2⟩, c3⟩, c4⟩, c5⟩ := hc
  have hout : ∀ t, t ∉ ds → ∀ j, j < ds.length → ds.getD j 0 ≠ t := fun t ht j hj e => ht (by
    rw [← e, List.getD_eq_getElem?_getD, List.getElem?_eq_getElem hj]; exact List.getElem_mem _)
  have hmem : ∀ j, j < ds.length → ds.getD j 0 ∈ ds := fun j hj => by
    rw [List.getD_eq_getElem?_getD, List.getElem?_eq_getElem hj]; exact List.getElem_mem _
  refine wp_region_madeR ds.length (fun j => ds.getD j 0) G Rel Eff C hC0 hrefl htrans hm c1 ?back ?hd ?inj (fun i hi => hlt _ (hmem i hi)) ?hl hG ?step ?last
  case back =>
    intro i o ho e he
    have hi : i < ops.size := (Array.getElem?_eq_some_iff.1 ho).1
    have := c2 i hi
    rw [ho] at this
    simp only [Array.all_eq_true_iff_forall_mem, decide_eq_true_eq] at this
    exact this e he
  case hd =>
    intro i o hi ho
    have := c3 i hi
    rw [ho] at this
    simp only [Bool.and_eq_true, decide_eq_true_eq, Option.isNone_iff_eq_none] at this
    exact this
  case inj =>
    intro i j hi hj e
    simp only [List.getD_eq_getElem?_getD, List.getElem?_eq_getElem hi, List.getElem?_eq_getElem hj, Option.getD_some] at e
    exact (List.getElem_inj c5).1 e
  case hl =>
    intro o ho
    rw [ho] at c4
    simp only [Bool.and_eq_true, Option.isNone_iff_eq_none, List.all_eq_true, List.mem_range] at c4
    refine ⟨c4.1.1, c4.1.2, fun j hj => ?_⟩
    obtain ⟨e, he, h⟩ := Array.any_eq_true'.1 (c4.2 j hj)
    rw [Bool.and_eq_true, beq_iff_eq] at h
    exact ⟨e, he, h.1, h.2⟩
  case step =>
    intro i o a w K hi ho hb hoff hpre hc hK
    exact hstep i o a w K hi ho hb (fun t ht => hoff.eval (hout t ht)) hpre hc hK
  case last =>
    intro o a w ho hb hoff hpre
    refine hlast o a w ho hb hoff.2.1 (frame_of ds hoff.1 (fun t ht => hoff.2.2 t (hout t ht))) (fun t ht => hoff.eval (hout t ht)) hpre
end Go.Proofs.YtkeoflnmbcdmfaaDoor
namespace Go.Proofs.YtkeoflnmbcdmfaaDoor
open Go.ChangeShapes Go.WideShapes Go.ChangeAt Go.RowKit
/-! The same, the last operation an assignment; what holds until an operation is done may end with those that stand ahead of it. -/
/-- the last operation gives a variable its value. -/
def chkOpsA (ops : Array Oper) (ds : List Nat) (r : Nat) : Bool :=
  ops.size == ds.length + 1 && ((List.range ops.size).all fun i => match ops[i]? with
    | some o => o.after.all fun e => decide (e.on < i)
    | none => false) && ((List.range ds.length).all fun i => match ops[i]? with
    | some o => decide (o.dst = some (ds.getD i 0)) && o.guard.isNone
    | none => false) && (match ops[ds.length]? with
    | some o => decide (o.dst = some r) && o.guard.isNone && (List.range ds.length).all fun j => o.after.any fun e => e.on == j && Region.binds .any e
    | none => false) && decide ds.Nodup
theorem wp_region_madeA {P : Program} {ops : Array Oper} {Q : Exit → Act → World → Prop} {id : Nat} {a0 : Act} {W : World} (m r : Nat) (d : Nat → Nat) (G : Nat → Value → World → Prop) (Rel : World → World → Prop) (Eff : Nat → World → World → Prop) (C : Nat → World → Prop) (hC0 : ∀ j, C j W.drew) (hrefl : Rel W W.drew) (htrans : ∀ w w', Rel W w → Rel w w' → Rel W w')
    (hm : P.follows .mixedOrders = true) (hlen : ops.size = m + 1) (hback : ∀ (i : Nat) (o : Oper), ops[i]? = some o → ∀ e ∈ o.after, e.on < i)
    (hd : ∀ i o, i < m → ops[i]? = some o → o.dst = some (d i) ∧ o.guard = none) (hinj : ∀ i j, i < m → j < m → d i = d j → i = j) (hlt : ∀ i, i < m → d i < a0.tmps.size)
    (hl : ∀ o, ops[m]? = some o → o.dst = some r ∧ o.guard = none ∧ ∀ j, j < m → ∃ e ∈ o.after, e.on = j ∧ Region.binds .any e = true)
    (hG : ∀ j i v w w', j ≠ i → Rel W w → Eff i w w' → G j v w → G j v w')
    (hstep : ∀ i o a w (K : Act → World → Prop) (D : Nat → Prop), (∀ e ∈ o.after, Region.binds .any e = true → D e.on) → (∀ i' o', ops[i']? = some o' → D i' → ∀ e ∈ o'.after, Region.binds .any e = true → D e.on) → i < m → ops[i]? = some o → Rel W w → Off d m a a0 → (∀ e ∈ o.after, Region.binds .any e = true → G e.on (a.eval (.tmp (d e.on))) w) → C i w → (∀ v w', Rel w w' → Eff i w w' → (∀ j, j ≠ i → ¬ D j → C j w → C j w') → G i v w' → K (a.put o.dst v) w') → o.wp P a w K Q)
    (hlast : ∀ o a w, ops[m]? = some o → Rel W w → Off d m a a0 → (∀ j, j < m → G j (a.eval (.tmp (d j))) w) → ∃ v w', (execOp a.eval o).run P w = .ok (.value v) w' ∧ Q .normal (a.put (some r) v) w') :
    (Code.region id ops true).wp P Q a0 W := by
  refine wp_region_inv (Inv := fun l a w => (l.size = ops.size ∧ ∀ i' o', ops[i']? = some o' → l.getD i' false = true → ∀ e ∈ o'.after, Region.binds .any e = true → l.getD e.on false = true) ∧ ((l.getD m false = false ∧ Rel W w ∧ Off d m a a0 ∧ (∀ j, l.getD j false = false → C j w) ∧ ∀ j, j < m → l.getD j false = true → G j (a.eval (.tmp (d j))) w) ∨ ((∀ j, j < ops.size → l.getD j false = true) ∧ Q .normal a w))) hm hback (fun l a w h => h.1.1) ?step ?done ?h0
  case done =>
    rintro l a w ⟨⟨hs, _⟩, h⟩ hall
    rcases h with ⟨h1, _⟩ | ⟨_, h⟩
    · rw [hall m (by omega)] at h1; cases h1
    · exact h
  case h0 =>
    refine ⟨⟨by simp, fun i' o' _ hd' => by rw [Array.getD_eq_getD_getElem?, Array.getElem?_replicate] at hd'; split at hd' <;> cases hd'⟩, .inl ⟨by rw [Array.getD_eq_getD_getElem?, Array.getElem?_replicate]; split <;> rfl, hrefl, ⟨rfl, rfl, fun _ _ => rfl⟩, fun j _ => hC0 j, fun j hj hlj => ?_⟩⟩
    simp at hlj
    have : j < ops.size := by omega
    simp [this] at hlj
  case step =>
    rintro l a w i o ⟨⟨hs, hcl⟩, h⟩ ho hli hall
    have hi : i < ops.size := (Array.getElem?_eq_some_iff.1 ho).1
    have hil : i < l.size := by omega
    rcases h with ⟨h1, hb, hoff, hcj, hg⟩ | ⟨h, _⟩
    · refine wpOp_step ho (fun K hK => ?_)
      have hset0 : ∀ j, (l.setIfInBounds i true).getD j false = if j = i then true else l.getD j false := fun j => by
        by_cases e : j = i
        · subst e; simp [hil]
        · rw [if_neg e]; simp [Array.getElem?_setIfInBounds_ne (fun e' => e (Eq.symm e'))]
      have hsz : (l.setIfInBounds i true).size = ops.size ∧ ∀ i' o', ops[i']? = some o' → (l.setIfInBounds i true).getD i' false = true → ∀ e ∈ o'.after, Region.binds .any e = true → (l.setIfInBounds i true).getD e.on false = true := by
        refine ⟨by simpa using hs, fun i' o' ho' hd' e he hbd => ?_⟩
        rw [hset0] at hd' ⊢
        split
        · rfl
        · split at hd'
          · rename_i _ hii
            subst hii
            rw [ho] at ho'
            injection ho' with ho'
            subst ho'
            exact hall e he hbd
          · exact hcl i' o' ho' hd' e he hbd
      by_cases him : i = m
      · subst him
        obtain ⟨q1, q2, q3⟩ := hl o ho
        have hallj : ∀ j, j < i → l.getD j false = true := fun j hj => by
          obtain ⟨e, he, rfl, hbd⟩ := q3 j hj
          exact hall e he hbd
        obtain ⟨v, w', hrun, hq⟩ := hlast o a w ho hb hoff (fun j hj => hg j hj (hallj j hj))
        rw [if_pos (by simp [Region.wanted, q2])]
        unfold Oper.wp
        rw [hrun]
        refine hK _ _ ⟨hsz, .inr ⟨fun j hj => ?_, ?_⟩⟩
        · by_cases e : j = i
          · subst e; simp [hil]
          · have := hallj j (by omega)
            have hjl : j < l.size := by omega
            have hset : (l.setIfInBounds i true).getD j false = l.getD j false := by simp [Array.getElem?_setIfInBounds_ne (fun e' => e (Eq.symm e'))]
            rw [hset]; exact this
        · rw [q1]; exact hq
      · have him' : i < m := by omega
        obtain ⟨q1, q2⟩ := hd i o him' ho
        have hpre : ∀ e ∈ o.after, Region.binds .any e = true → G e.on (a.eval (.tmp (d e.on))) w := fun e he hbd => hg e.on (Nat.lt_trans (hback i o ho e he) him') (hall e he hbd)
        rw [if_pos (by simp [Region.wanted, q2])]
        refine hstep i o a w K (fun j => l.getD j false = true) hall hcl him' ho hb hoff hpre (hcj i (by simp [hil] at hli ⊢; exact hli)) (fun v w' hb' hef hcs hgi => ?_)
        have hdlt : d i < a.tmps.size := by rw [hoff.1]; exact hlt i him'
        have hset : ∀ j, (l.setIfInBounds i true).getD j false = if j = i then true else l.getD j false := fun j => by
          by_cases e : j = i
          · subst e; simp [hil]
          · rw [if_neg e]; simp [Array.getElem?_setIfInBounds_ne (fun e' => e (Eq.symm e'))]
        refine hK _ _ ⟨hsz, .inl ⟨by rw [hset, if_neg (fun e => him e.symm)]; exact h1, htrans _ _ hb hb', ?_, fun j hlj => (by rw [hset] at hlj; split at hlj; (cases hlj); (rename_i hji; exact hcs j hji (fun e2 => by rw [e2] at hlj; cases hlj) (hcj j hlj))), fun j hj hlj => ?_⟩⟩
        · rw [q1]
          refine ⟨by rw [size_put]; exact hoff.1, hoff.2.1, fun t ht => ?_⟩
          rw [← hoff.2.2 t ht]
          simp [Act.put, Array.getElem?_setIfInBounds_ne (ht i him')]
        · rw [q1]
          by_cases e : j = i
          · subst e; rw [eval_put_same hdlt]; exact hgi
          · rw [eval_put_ne (fun e' => e (hinj _ _ hj him' e'.symm))]
            rw [hset, if_neg e] at hlj
            exact hG _ _ _ _ _ e hb hef (hg j hj hlj)
    · have := h i hi
      simp [hil] at hli this
      rw [this] at hli; cases hli
theorem wp_region_dsA {P : Program} {ops : Array Oper} {Q : Exit → Act → World → Prop} {id : Nat} {a0 : Act} {W : World} (ds : List Nat) (r : Nat) (G : Nat → Value → World → Prop) (Rel : World → World → Prop) (Eff : Nat → World → World → Prop) (C : Nat → World → Prop) (hC0 : ∀ j, C j W.drew) (hrefl : Rel W W.drew) (htrans : ∀ w w', Rel W w → Rel w w' → Rel W w')
    (hm : P.follows .mixedOrders = true) (hc : chkOpsA ops ds r = true) (hlt : ∀ t ∈ ds, t < a0.tmps.size)
    (hG : ∀ j i v w w', j ≠ i → Rel W w → Eff i w w' → G j v w → G j v w')
    (hstep : ∀ (i : Nat) (o : Oper) (a : Act) (w : World) (K : Act → World → Prop) (D : Nat → Prop), (∀ e ∈ o.after, Region.binds .any e = true → D e.on) → (∀ i' o', ops[i']? = some o' → D i' → ∀ e ∈ o'.after, Region.binds .any e = true → D e.on) → i < ds.length → ops[i]? = some o → Rel W w → (∀ t, t ∉ ds → a.eval (.tmp t) = a0.eval (.tmp t)) → (∀ e ∈ o.after, Region.binds .any e = true → G e.on (a.eval (.tmp (ds.getD e.on 0))) w) → C i w → (∀ v w', Rel w w' → Eff i w w' → (∀ j, j ≠ i → ¬ D j → C j w → C j w') → G i v w' → K (a.put o.dst v) w') → o.wp P a w K Q)
    (hlast : ∀ (o : Oper) (a : Act) (w : World), ops[ds.length]? = some o → Rel W w → a.defers = a0.defers → a.tmps = ds.foldl (fun tm t => tm.setIfInBounds t (a.tmps.getD t undef)) a0.tmps → (∀ t, t ∉ ds → a.eval (.tmp t) = a0.eval (.tmp t)) → (∀ j, j < ds.length → G j (a.eval (.tmp (ds.getD j 0))) w) → ∃ v w', (execOp a.eval o).run P w = .ok (.value v) w' ∧ Q .normal (a.put (some r) v) w') :
    (Code.region id ops true).wp P Q a0 W := by
  simp only [chkOpsA, Bool.and_eq_true, beq_iff_eq, List.all_eq_true, List.mem_range, decide_eq_true_eq] at hc
  obtain ⟨⟨⟨⟨c1, c2⟩, c3⟩, c4⟩, c5⟩ := hc
  have hout : ∀ t, t ∉ ds → ∀ j, j < ds.length → ds.getD j 0 ≠ t := fun t ht j hj e => ht (by
    rw [← e, List.getD_eq_getElem?_getD, List.getElem?_eq_getElem hj]; exact List.getElem_mem _)
  have hmem : ∀ j, j < ds.length → ds.getD j 0 ∈ ds := fun j hj => by
    rw [List.getD_eq_getElem?_getD, List.getElem?_eq_getElem hj]; exact List.getElem_mem _
  refine wp_region_madeA ds.length r (fun j => ds.getD j 0) G Rel Eff C hC0 hrefl htrans hm c1 ?back ?hd ?inj (fun i hi => hlt _ (hmem i hi)) ?hl hG ?step ?last
  case back =>
    intro i o ho e he
    have hi : i < ops.size := (Array.getElem?_eq_some_iff.1 ho).1
    have := c2 i hi
    rw [ho] at this
    simp only [Array.all_eq_true_iff_forall_mem, decide_eq_true_eq] at this
    exact this e he
  case hd =>
    intro i o hi ho
    have := c3 i hi
    rw [ho] at this
    simp only [Bool.and_eq_true, decide_eq_true_eq, Option.isNone_iff_eq_none] at this
    exact this
  case inj =>
    intro i j hi hj e
    simp only [List.getD_eq_getElem?_getD, List.getElem?_eq_getElem hi, List.getElem?_eq_getElem hj, Option.getD_some] at e
    exact (List.getElem_inj c5).1 e
  case hl =>
    intro o ho
    rw [ho] at c4
    simp only [Bool.and_eq_true, decide_eq_true_eq, Option.isNone_iff_eq_none, List.all_eq_true, List.mem_range] at c4
    refine ⟨c4.1.1, c4.1.2, fun j hj => ?_⟩
    obtain ⟨e, he, h⟩ := Array.any_eq_true'.1 (c4.2 j hj)
    rw [Bool.and_eq_true, beq_iff_eq] at h
    exact ⟨e, he, h.1, h.2⟩
  case step =>
    intro i o a w K D hD hcl hi ho hb hoff hpre hc hK
    exact hstep i o a w K D hD hcl hi ho hb (fun t ht => hoff.eval (hout t ht)) hpre hc hK
  case last =>
    intro o a w ho hb hoff hpre
    refine hlast o a w ho hb hoff.2.1 (frame_of ds hoff.1 (fun t ht => hoff.2.2 t (hout t ht))) (fun t ht => hoff.eval (hout t ht)) hpre
theorem wp_region_madeS {P : Program} {ops : Array Oper} {Q : Exit → Act → World → Prop} {id : Nat} {a0 : Act} {W : World} (m : Nat) (d : Nat → Nat) (G : Nat → Value → World → Prop) (Rel : World → World → Prop) (Eff : Nat → World → World → Prop) (C : Nat → World → Prop) (hC0 : ∀ j, C j W.drew) (hrefl : Rel W W.drew) (htrans : ∀ w w', Rel W w → Rel w w' → Rel W w')
    (hm : P.follows .mixedOrders = true) (hlen : ops.size = m + 1) (hback : ∀ (i : Nat) (o : Oper), ops[i]? = some o → ∀ e ∈ o.after, e.on < i)
    (hd : ∀ i o, i < m → ops[i]? = some o → o.dst = some (d i) ∧ o.guard = none) (hinj : ∀ i j, i < m → j < m → d i = d j → i = j) (hlt : ∀ i, i < m → d i < a0.tmps.size)
    (hl : ∀ o, ops[m]? = some o → o.dst = none ∧ o.guard = none ∧ ∀ j, j < m → ∃ e ∈ o.after, e.on = j ∧ Region.binds .any e = true)
    (hG : ∀ j i v w w', j ≠ i → Rel W w → Eff i w w' → G j v w → G j v w')
    (hstep : ∀ i o a w (K : Act → World → Prop) (D : Nat → Prop), (∀ e ∈ o.after, Region.binds .any e = true → D e.on) → (∀ i' o', ops[i']? = some o' → D i' → ∀ e ∈ o'.after, Region.binds .any e = true → D e.on) → i < m → ops[i]? = some o → Rel W w → Off d m a a0 → (∀ e ∈ o.after, Region.binds .any e = true → G e.on (a.eval (.tmp (d e.on))) w) → C i w → (∀ v w', Rel w w' → Eff i w w' → (∀ j, j ≠ i → ¬ D j → C j w → C j w') → G i v w' → K (a.put o.dst v) w') → o.wp P a w K Q)
    (hlast : ∀ o a w, ops[m]? = some o → Rel W w → Off d m a a0 → (∀ j, j < m → G j (a.eval (.tmp (d j))) w) → ∃ w', (execOp a.eval o).run P w = .ok .skip w' ∧ Q .normal a w') :
    (Code.region id ops true).wp P Q a0 W := by
  refine wp_region_inv (Inv := fun l a w => (l.size = ops.size ∧ ∀ i' o', ops[i']? = some o' → l.getD i' false = true → ∀ e ∈ o'.after, Region.binds .any e = true → l.getD e.on false = true) ∧ ((l.getD m false = false ∧ Rel W w ∧ Off d m a a0 ∧ (∀ j, l.getD j false = false → C j w) ∧ ∀ j, j < m → l.getD j false = true → G j (a.eval (.tmp (d j))) w) ∨ ((∀ j, j < ops.size → l.getD j false = true) ∧ Q .normal a w))) hm hback (fun l a w h => h.1.1) ?step ?done ?h0
  case done =>
    rintro l a w ⟨⟨hs, _⟩, h⟩ hall
    rcases h with ⟨h1, _⟩ | ⟨_, h⟩
    · rw [hall m (by omega)] at h1; cases h1
    · exact h
  case h0 =>
    refine ⟨⟨by simp, fun i' o' _ hd' => by rw [Array.getD_eq_getD_getElem?, Array.getElem?_replicate] at hd'; split at hd' <;> cases hd'⟩, .inl ⟨by rw [Array.getD_eq_getD_getElem?, Array.getElem?_replicate]; split <;> rfl, hrefl, ⟨rfl, rfl, fun _ _ => rfl⟩, fun j _ => hC0 j, fun j hj hlj => ?_⟩⟩
    simp at hlj
    have : j < ops.size := by omega
    simp [this] at hlj
  case step =>
    rintro l a w i o ⟨⟨hs, hcl⟩, h⟩ ho hli hall
    have hi : i < ops.size := (Array.getElem?_eq_some_iff.1 ho).1
    have hil : i < l.size := by omega
    rcases h with ⟨h1, hb, hoff, hcj, hg⟩ | ⟨h, _⟩
    · refine wpOp_step ho (fun K hK => ?_)
      have hset0 : ∀ j, (l.setIfInBounds i true).getD j false = if j = i then true else l.getD j false := fun j => by
        by_cases e : j = i
        · subst e; simp [hil]
        · rw [if_neg e]; simp [Array.getElem?_setIfInBounds_ne (fun e' => e (Eq.symm e'))]
      have hsz : (l.setIfInBounds i true).size = ops.size ∧ ∀ i' o', ops[i']? = some o' → (l.setIfInBounds i true).getD i' false = true → ∀ e ∈ o'.after, Region.binds .any e = true → (l.setIfInBounds i true).getD e.on false = true := by
        refine ⟨by simpa using hs, fun i' o' ho' hd' e he hbd => ?_⟩
        rw [hset0] at hd' ⊢
        split
        · rfl
        · split at hd'
          · rename_i _ hii
            subst hii
            rw [ho] at ho'
            injection ho' with ho'
            subst ho'
            exact hall e he hbd
          · exact hcl i' o' ho' hd' e he hbd
      by_cases him : i = m
      · subst him
        obtain ⟨q1, q2, q3⟩ := hl o ho
        have hallj : ∀ j, j < i → l.getD j false = true := fun j hj => by
          obtain ⟨e, he, rfl, hbd⟩ := q3 j hj
          exact hall e he hbd
        obtain ⟨w', hrun, hq⟩ := hlast o a w ho hb hoff (fun j hj => hg j hj (hallj j hj))
        rw [if_pos (by simp [Region.wanted, q2])]
        unfold Oper.wp
        rw [hrun]
        have hput : a.put o.dst undef = a := by rw [q1]; rfl
        refine hK _ _ ⟨hsz, .inr ⟨fun j hj => ?_, ?_⟩⟩
        · by_cases e : j = i
          · subst e; simp [hil]
          · have := hallj j (by omega)
            have hjl : j < l.size := by omega
            have hset : (l.setIfInBounds i true).getD j false = l.getD j false := by simp [Array.getElem?_setIfInBounds_ne (fun e' => e (Eq.symm e'))]
            rw [hset]; exact this
        · first | exact hq | (rw [hput]; exact hq)
      · have him' : i < m := by omega
        obtain ⟨q1, q2⟩ := hd i o him' ho
        have hpre : ∀ e ∈ o.after, Region.binds .any e = true → G e.on (a.eval (.tmp (d e.on))) w := fun e he hbd => hg e.on (Nat.lt_trans (hback i o ho e he) him') (hall e he hbd)
        rw [if_pos (by simp [Region.wanted, q2])]
        refine hstep i o a w K (fun j => l.getD j false = true) hall hcl him' ho hb hoff hpre (hcj i (by simp [hil] at hli ⊢; exact hli)) (fun v w' hb' hef hcs hgi => ?_)
        have hdlt : d i < a.tmps.size := by rw [hoff.1]; exact hlt i him'
        have hset : ∀ j, (l.setIfInBounds i true).getD j false = if j = i then true else l.getD j false := fun j => by
          by_cases e : j = i
          · subst e; simp [hil]
          · rw [if_neg e]; simp [Array.getElem?_setIfInBounds_ne (fun e' => e (Eq.symm e'))]
        refine hK _ _ ⟨hsz, .inl ⟨by rw [hset, if_neg (fun e => him e.symm)]; exact h1, htrans _ _ hb hb', ?_, fun j hlj => (by rw [hset] at hlj; split at hlj; (cases hlj); (rename_i hji; exact hcs j hji (fun e2 => by rw [e2] at hlj; cases hlj) (hcj j hlj))), fun j hj hlj => ?_⟩⟩
        · rw [q1]
          refine ⟨by rw [size_put]; exact hoff.1, hoff.2.1, fun t ht => ?_⟩
          rw [← hoff.2.2 t ht]
          simp [Act.put, Array.getElem?_setIfInBounds_ne (ht i him')]
        · rw [q1]
          by_cases e : j = i
          · subst e; rw [eval_put_same hdlt]; exact hgi
          · rw [eval_put_ne (fun e' => e (hinj _ _ hj him' e'.symm))]
            rw [hset, if_neg e] at hlj
            exact hG _ _ _ _ _ e hb hef (hg j hj hlj)
    · have := h i hi
      simp [hil] at hli this
      rw [this] at hli; cases hli
theorem wp_region_dsS {P : Program} {ops : Array Oper} {Q : Exit → Act → World → Prop} {id : Nat} {a0 : Act} {W : World} (ds : List Nat) (G : Nat → Value → World → Prop) (Rel : World → World → Prop) (Eff : Nat → World → World → Prop) (C : Nat → World → Prop) (hC0 : ∀ j, C j W.drew) (hrefl : Rel W W.drew) (htrans : ∀ w w', Rel W w → Rel w w' → Rel W w')
    (hm : P.follows .mixedOrders = true) (hc : chkOps ops ds = true) (hlt : ∀ t ∈ ds, t < a0.tmps.size)
    (hG : ∀ j i v w w', j ≠ i → Rel W w → Eff i w w' → G j v w → G j v w')
    (hstep : ∀ (i : Nat) (o : Oper) (a : Act) (w : World) (K : Act → World → Prop) (D : Nat → Prop), (∀ e ∈ o.after, Region.binds .any e = true → D e.on) → (∀ i' o', ops[i']? = some o' → D i' → ∀ e ∈ o'.after, Region.binds .any e = true → D e.on) → i < ds.length → ops[i]? = some o → Rel W w → (∀ t, t ∉ ds → a.eval (.tmp t) = a0.eval (.tmp t)) → (∀ e ∈ o.after, Region.binds .any e = true → G e.on (a.eval (.tmp (ds.getD e.on 0))) w) → C i w → (∀ v w', Rel w w' → Eff i w w' → (∀ j, j ≠ i → ¬ D j → C j w → C j w') → G i v w' → K (a.put o.dst v) w') → o.wp P a w K Q)
    (hlast : ∀ (o : Oper) (a : Act) (w : World), ops[ds.length]? = some o → Rel W w → a.defers = a0.defers → a.tmps = ds.foldl (fun tm t => tm.setIfInBounds t (a.tmps.getD t undef)) a0.tmps → (∀ t, t ∉ ds → a.eval (.tmp t) = a0.eval (.tmp t)) → (∀ j, j < ds.length → G j (a.eval (.tmp (ds.getD j 0))) w) → ∃ w', (execOp a.eval o).run P w = .ok .skip w' ∧ Q .normal a w') :
    (Code.region id ops true).wp P Q a0 W := by
  simp only [chkOps, Bool.and_eq_true, beq_iff_eq, List.all_eq_true, List.mem_range, decide_eq_true_eq] at hc
  obtain ⟨⟨⟨⟨c1, c2⟩, c3⟩, c4⟩, c5⟩ := hc
  have hout : ∀ t, t ∉ ds → ∀ j, j < ds.length → ds.getD j 0 ≠ t := fun t ht j hj e => ht (by
    rw [← e, List.getD_eq_getElem?_getD, List.getElem?_eq_getElem hj]; exact List.getElem_mem _)
  have hmem : ∀ j, j < ds.length → ds.getD j 0 ∈ ds := fun j hj => by
    rw [List.getD_eq_getElem?_getD, List.getElem?_eq_getElem hj]; exact List.getElem_mem _
  refine wp_region_madeS ds.length (fun j => ds.getD j 0) G Rel Eff C hC0 hrefl htrans hm c1 ?back ?hd ?inj (fun i hi => hlt _ (hmem i hi)) ?hl hG ?step ?last
  case back =>
    intro i o ho e he
    have hi : i < ops.size := (Array.getElem?_eq_some_iff.1 ho).1
    have := c2 i hi
    rw [ho] at this
    simp only [Array.all_eq_true_iff_forall_mem, decide_eq_true_eq] at this
    exact this e he
  case hd =>
    intro i o hi ho
    have := c3 i hi
    rw [ho] at this
    simp only [Bool.and_eq_true, decide_eq_true_eq, Option.isNone_iff_eq_none] at this
    exact this
  case inj =>
    intro i j hi hj e
    simp only [List.getD_eq_getElem?_getD, List.getElem?_eq_getElem hi, List.getElem?_eq_getElem hj, Option.getD_some] at e
    exact (List.getElem_inj c5).1 e
  case hl =>
    intro o ho
    rw [ho] at c4
    simp only [Bool.and_eq_true, Option.isNone_iff_eq_none, List.all_eq_true, List.mem_range] at c4
    refine ⟨c4.1.1, c4.1.2, fun j hj => ?_⟩
    obtain ⟨e, he, h⟩ := Array.any_eq_true'.1 (c4.2 j hj)
    rw [Bool.and_eq_true, beq_iff_eq] at h
    exact ⟨e, he, h.1, h.2⟩
  case step =>
    intro i o a w K D hD hcl hi ho hb hoff hpre hc hK
    exact hstep i o a w K D hD hcl hi ho hb (fun t ht => hoff.eval (hout t ht)) hpre hc hK
  case last =>
    intro o a w ho hb hoff hpre
    refine hlast o a w ho hb hoff.2.1 (frame_of ds hoff.1 (fun t ht => hoff.2.2 t (hout t ht))) (fun t ht => hoff.eval (hout t ht)) hpre
end Go.Proofs.YtkeoflnmbcdmfaaDoor
