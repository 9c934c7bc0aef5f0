import Derived.Test.YtchcmgaohcldjaaDoorSNr
import Derived.Test.YtchcmgaohcldjaaDoorPushAll
import Derived.Laws.Append
import Derived.Test.YtchcmgaohcldjaaDoorP5A
import Derived.Test.YtchcmgaohcldjaaDoorSTj
import Derived.Deep.RegionHeld3
import Derived.Test.YtchcmgaohcldjaaDoorNh
import Derived.Test.YtchcmgaohcldjaaDoorSNx
import Derived.Test.YtchcmgaohcldjaaDoorC3G
import Derived.Lib.BitFns
set_option maxRecDepth 8000
namespace Go.Proofs.YtchcmgaohcldjaaDoor
open Go.ChangeShapes Go.WideShapes Go.ChangeAt Go.RowKit
/-! 'append(rules, more...)' to a slice of the call's own, what is appended being of the call's own, too. -/
theorem rat_left {rs1 rs2 : List RuleM} {n i : Nat} (hl : rs1.length = n) (hi : i < n) : rat (rs1 ++ rs2) i = rat rs1 i := by
  simp [rat, List.getD_eq_getElem?_getD, List.getElem?_append_left (by omega : i < rs1.length)]
theorem rat_right {rs1 rs2 : List RuleM} {n i : Nat} (hl : rs1.length = n) : rat (rs1 ++ rs2) (n + i) = rat rs2 i := by
  simp [rat, List.getD_eq_getElem?_getD, List.getElem?_append_right (by omega : rs1.length ≤ n + i), hl]
/-- the inner slices of a list of rules, none of them in v's block. -/
def InR (w : World) (lo : Nat) (v : Value) (rs : List RuleM) (vs : List Value) (m : Nat) : Prop :=
  ∀ i, i < m → ∃ A' c', vs[i * 3]? = some (.int .i64 (rat rs i).k) ∧ vs[i * 3 + 1]? = some (.slice A' (rat rs i).xs.length c') ∧ vs[i * 3 + 2]? = some (.int .i64 (rat rs i).v) ∧ Ow w lo A' (rat rs i).xs.length c' (rat rs i).xs ∧ (rat rs i).xs.length ≤ 1099511627776 ∧ ∀ g, (Value.slice A' (rat rs i).xs.length c').ownBlock = some g → v.ownBlock ≠ some g
theorem inR_one {w : World} {lo : Nat} {v : Value} {rs : List RuleM} {vs : List Value} {m : Nat} (h : InR w lo v rs vs m) (hl : vs.length = m * 3) : ∀ u ∈ vs, u.oneCell' = true := by
  intro u hu
  obtain ⟨j, hj, rfl⟩ := List.mem_iff_getElem.1 hu
  obtain ⟨A', c', e0, e1, e2, _⟩ := h (j / 3) (by omega)
  have hjj : vs[j]? = some vs[j] := List.getElem?_eq_getElem hj
  have : j % 3 = 0 ∨ j % 3 = 1 ∨ j % 3 = 2 := by omega
  rcases this with r | r | r
  · rw [show j / 3 * 3 = j by omega, hjj] at e0
    rw [Option.some.inj e0]; rfl
  · rw [show j / 3 * 3 + 1 = j by omega, hjj] at e1
    rw [Option.some.inj e1]; rfl
  · rw [show j / 3 * 3 + 2 = j by omega, hjj] at e2
    rw [Option.some.inj e2]; rfl
theorem run_push_rulesV {w : World} (ty : TypeId) (lo : Nat) (A : Option Addr) (n c : Nat) (rs1 : List RuleM) (vs1 : List Value) (A2 : Option Addr) (m c2 : Nat) (rs2 : List RuleM) (vs2 : List Value) (lo2 : Nat) (l1 : rs1.length = n)
    (hown : w.ownsRow lo 44 3 (.slice A n c) n vs1) (hin1 : InR w lo (.slice A n c) rs1 vs1 n) (hown2 : w.ownsRow lo2 44 3 (.slice A2 m c2) m vs2) (hin2 : InR w lo (.slice A n c) rs2 vs2 m) (hmn : 0 < m ∨ n = 0)
    (hn : n ≤ 1099511627776) (hm : m ≤ 1099511627776) (hlo : lo ≤ w.heap.size) :
    ∃ A' c' w', (Builtin.append_ #[28, 28] ty #[.slice A n c, .slice A2 m c2]).run Tryd.prog w = .ok (.slice A' (n + m) c') w' ∧ (w'.ownsRow lo 44 3 (.slice A' (n + m) c') (n + m) (vs1 ++ vs2) ∧ InR w' lo (.slice A' (n + m) c') (rs1 ++ rs2) (vs1 ++ vs2) (n + m)) ∧ w.grownBy w' (Value.slice A n c).ownBlock ∧ (∀ g, (Value.slice A' (n + m) c').ownBlock = some g → (Value.slice A n c).ownBlock = some g ∨ g = w.heap.size) := by
  obtain ⟨i0, hi, hz0, hz1, hz2⟩ := info_parts rule_parts
  obtain ⟨hvl2, hcase⟩ := id hown2
  have hvl1 := hown.1
  by_cases h0 : 0 < m
  · rcases hcase with ⟨_, h00⟩ | ⟨g2, cap2, cur, hv, _, hrow, h1, h2, h3, h4⟩
    · omega
    · injection hv with e1 _ e2
      subst e1
      have hcell : ∀ j u, vs2[j]? = some u → w.cell? ((⟨g2, 0, none⟩ : Addr).add j) = some u := fun j u hj => by
        have hadd : (⟨g2, 0, none⟩ : Addr).add j = ⟨g2, j, none⟩ := by unfold Addr.add; split <;> simp_all
        rw [hadd, cell_of_row w g2 j cur _ _ hrow]
        rw [← h4, List.getElem?_take] at hj
        split at hj
        · simpa using hj
        · cases hj
      obtain ⟨g, cap, w', hrun, k2, k3, k4, k5⟩ := run_append_lies (P := Tryd.prog) w 28 ty lo 44 i0 (.agg #[.int .i64 0, .slice none 0 0, .int .i64 0]) 3 40 Tryd.underlying28 hi hz0 hz1 hz2 rfl (by decide) _ n vs1 hown ⟨g2, 0, none⟩ m c2 vs2 hvl2 hcell (inR_one hin2 hvl2) h0 (by simp only [maxLen]; omega) (by omega) hlo _ rfl
      have hlast : ∀ g', (Value.slice (some ⟨g, 0, none⟩) (n + m) cap).ownBlock = some g' → (Value.slice A n c).ownBlock = some g' ∨ g' = w.heap.size := fun g' hg' => by
        have : g' = g := by simp [Value.ownBlock] at hg'; omega
        subst this
        exact k4
      have hout : ∀ (A' : Option Addr) (l c' : Nat) (xs : List Int), Ow w lo A' l c' xs → (∀ b, (Value.slice A' l c').ownBlock = some b → (Value.slice A n c).ownBlock ≠ some b) → Ow w' lo A' l c' xs ∧ ∀ b, (Value.slice A' l c').ownBlock = some b → (Value.slice (some ⟨g, 0, none⟩) (n + m) cap).ownBlock ≠ some b := fun A' l c' xs ho hne => by
        refine ⟨Ow.far ho k3 hne, fun b hb e => ?_⟩
        have := World.ownsRow.lt ho b hb
        rcases hlast b e with h | h
        · exact hne b hb h
        · omega
      refine ⟨some ⟨g, 0, none⟩, cap, w', hrun, ⟨k2, fun i hi => ?_⟩, k3, hlast⟩
      by_cases hlt : i < n
      · obtain ⟨A', c', e0, e1, e2, e3, e4, e5⟩ := hin1 i hlt
        rw [rat_left l1 hlt]
        obtain ⟨q1, q2⟩ := hout _ _ _ _ e3 e5
        exact ⟨A', c', by rw [List.getElem?_append_left (by omega)]; exact e0, by rw [List.getElem?_append_left (by omega)]; exact e1, by rw [List.getElem?_append_left (by omega)]; exact e2, q1, e4, q2⟩
      · obtain ⟨q, rfl⟩ : ∃ q, i = n + q := ⟨i - n, by omega⟩
        obtain ⟨A', c', e0, e1, e2, e3, e4, e5⟩ := hin2 q (by omega)
        rw [rat_right l1]
        obtain ⟨q1, q2⟩ := hout _ _ _ _ e3 e5
        exact ⟨A', c', by rw [List.getElem?_append_right (by omega), show (n + q) * 3 - vs1.length = q * 3 by omega]; exact e0, by rw [List.getElem?_append_right (by omega), show (n + q) * 3 + 1 - vs1.length = q * 3 + 1 by omega]; exact e1, by rw [List.getElem?_append_right (by omega), show (n + q) * 3 + 2 - vs1.length = q * 3 + 2 by omega]; exact e2, q1, e4, q2⟩
  · obtain rfl : m = 0 := by omega
    obtain rfl : n = 0 := by omega
    have hsrc : Go.Src Tryd.prog i0.size 28 (.slice A2 0 c2) 0 [] w := by
      cases A2 with
      | none => exact Go.Src.ofNil w Tryd.underlying28 c2
      | some a => exact Go.Src.ofSlice w Tryd.underlying28 a 0 c2 [] (by simp) (fun j u hj => by simp at hj) (fun u hu => by simp at hu)
    exact ⟨A, c, w, run_append_nothing w 28 28 ty 44 i0 Tryd.underlying28 hi A 0 c (Nat.zero_le _) _ hsrc, ⟨by rw [show vs2 = [] from List.eq_nil_of_length_eq_zero (by omega), List.append_nil]; exact hown, fun i hi => absurd hi (by omega)⟩, World.grownBy.refl _ _, fun g hg => .inl hg⟩
theorem run_push_rules {w : World} (ty : TypeId) (lo : Nat) (A : Option Addr) (n c : Nat) (rs1 : List RuleM) (vs1 : List Value) (A2 : Option Addr) (m c2 : Nat) (rs2 : List RuleM) (vs2 : List Value) (lo2 : Nat) (l1 : rs1.length = n)
    (hown : w.ownsRow lo 44 3 (.slice A n c) n vs1) (hin1 : InR w lo (.slice A n c) rs1 vs1 n) (hown2 : w.ownsRow lo2 44 3 (.slice A2 m c2) m vs2) (hin2 : InR w lo (.slice A n c) rs2 vs2 m) (hmn : 0 < m ∨ n = 0)
    (hn : n ≤ 1099511627776) (hm : m ≤ 1099511627776) (hlo : lo ≤ w.heap.size) :
    ∃ A' c' w', (Builtin.append_ #[28, 28] ty #[.slice A n c, .slice A2 m c2]).run Tryd.prog w = .ok (.slice A' (n + m) c') w' ∧ OwR w' lo (.slice A' (n + m) c') (rs1 ++ rs2) (n + m) ∧ w.grownBy w' (Value.slice A n c).ownBlock ∧ (∀ g, (Value.slice A' (n + m) c').ownBlock = some g → (Value.slice A n c).ownBlock = some g ∨ g = w.heap.size) := by
  obtain ⟨A', c', w', hrun, ⟨k1, k2⟩, k3, k4⟩ := run_push_rulesV ty lo A n c rs1 vs1 A2 m c2 rs2 vs2 lo2 l1 hown hin1 hown2 hin2 hmn hn hm hlo
  exact ⟨A', c', w', hrun, ⟨_, k1, k2⟩, k3, k4⟩
/-- where the cells of the rules of a row lie. -/
def CbV (vs : List Value) (m : Nat) (Q : Nat → Prop) : Prop := ∀ i A' n' c', i < m → vs[i * 3 + 1]? = some (.slice A' n' c') → ∀ g, (Value.slice A' n' c').ownBlock = some g → Q g
def SpQ (w : World) (lo : Nat) (v : Value) (k : Nat) (Q : Nat → Prop) : Prop := ∃ vs, w.ownsRow lo 44 3 v k vs ∧ CbV vs k Q
theorem CbV.nil {Q : Nat → Prop} : CbV [] 0 Q := fun i _ _ _ hi => absurd hi (by omega)
theorem CbV.app {vs1 vs2 : List Value} {n m : Nat} {Q : Nat → Prop} (hl : vs1.length = n * 3) (h1 : CbV vs1 n Q) (h2 : CbV vs2 m Q) : CbV (vs1 ++ vs2) (n + m) Q := by
  intro i A' n' c' hi he g hg
  by_cases hlt : i < n
  · rw [List.getElem?_append_left (by omega)] at he
    exact h1 i A' n' c' hlt he g hg
  · obtain ⟨q, rfl⟩ : ∃ q, i = n + q := ⟨i - n, by omega⟩
    rw [List.getElem?_append_right (by omega), show (n + q) * 3 + 1 - vs1.length = q * 3 + 1 by omega] at he
    exact h2 q A' n' c' (by omega) he g hg
theorem CbV.one {x y z : Value} {Q : Nat → Prop} (h : ∀ g, y.ownBlock = some g → Q g) : CbV [x, y, z] 1 Q := by
  intro i A' n' c' hi he g hg
  obtain rfl : i = 0 := by omega
  simp at he
  rw [he] at h
  exact h g hg
theorem CbV.imp {vs : List Value} {m : Nat} {Q Q' : Nat → Prop} (h : CbV vs m Q) (hq : ∀ g, Q g → Q' g) : CbV vs m Q' := fun i A' n' c' hi he g hg => hq g (h i A' n' c' hi he g hg)
theorem SpQ.imp {w : World} {lo k : Nat} {v : Value} {Q Q' : Nat → Prop} (h : SpQ w lo v k Q) (hq : ∀ g, Q g → Q' g) : SpQ w lo v k Q' := by
  obtain ⟨vs, h1, h2⟩ := h
  exact ⟨vs, h1, h2.imp hq⟩
theorem SpQ.map {w w' : World} {lo k : Nat} {v : Value} {Q : Nat → Prop} (h : SpQ w lo v k Q) (hm : ∀ vs, w.ownsRow lo 44 3 v k vs → w'.ownsRow lo 44 3 v k vs) : SpQ w' lo v k Q := by
  obtain ⟨vs, h1, h2⟩ := h
  exact ⟨vs, hm vs h1, h2⟩
theorem SpQ.below {w w' : World} {lo k : Nat} {v : Value} {Q : Nat → Prop} (h : SpQ w lo v k Q) (hb : Below w.heap.size w w') : SpQ w' lo v k Q :=
  h.map fun vs hown => World.ownsRow.kept hown (row := none) ⟨hb.os, hb.tape, hb.output, hb.size, fun k hk _ => hb.block k hk⟩ (by cases e : v.ownBlock <;> simp)
theorem SpQ.keptL {w w' : World} {lo G k : Nat} {v : Value} {Q : Nat → Prop} (h : SpQ w lo v k Q) (hg : w.grownBy w' (some G)) (hG : G < lo) : SpQ w' lo v k Q :=
  h.map fun vs hown => World.ownsRow.kept hown hg (by
    cases e : v.ownBlock
    · exact .inl rfl
    · refine .inr (fun e2 => ?_)
      have h1 := (World.ownsRow.lt hown _ e).1
      have h2 := Option.some.inj e2
      omega)
theorem SpQ.nil {w : World} {lo : Nat} {Q : Nat → Prop} : SpQ w lo (.slice none 0 0) 0 Q := ⟨[], World.ownsRow_nil _ _ _ _, CbV.nil⟩
theorem ownsRow_same {w : World} {lo lo' k sz : Nat} {e : TypeId} {v : Value} {xs ys : List Value} (h : w.ownsRow lo e sz v k xs) (h' : w.ownsRow lo' e sz v k ys) : xs = ys := by
  rcases h.2 with ⟨e1, h0⟩ | ⟨g, cap, cur, hv, _, hg, _, _, _, h4⟩
  · rw [List.eq_nil_of_length_eq_zero (by rw [h.1, h0, Nat.zero_mul] : xs.length = 0), List.eq_nil_of_length_eq_zero (by rw [h'.1, h0, Nat.zero_mul] : ys.length = 0)]
  · rcases h'.2 with ⟨e1', h0'⟩ | ⟨g', cap', cur', hv', _, hg', _, _, _, h4'⟩
    · rw [List.eq_nil_of_length_eq_zero (by rw [h.1, h0', Nat.zero_mul] : xs.length = 0), List.eq_nil_of_length_eq_zero (by rw [h'.1, h0', Nat.zero_mul] : ys.length = 0)]
    · rw [hv] at hv'
      injection hv' with e1 _ _
      injection e1 with e1
      injection e1 with e1 _ _
      subst e1
      rw [hg] at hg'
      injection hg' with hg'
      injection hg' with e2 _ _
      subst e2
      rw [← h4, ← h4']
theorem OwR.with_ {w : World} {lo k : Nat} {v : Value} {rs : List RuleM} {Q : Nat → Prop} (h : OwR w lo v rs k) (hs : SpQ w lo v k Q) : ∃ vs, w.ownsRow lo 44 3 v k vs ∧ InR w lo v rs vs k ∧ CbV vs k Q := by
  obtain ⟨vs, h1, h2⟩ := h
  obtain ⟨vs', h3, h4⟩ := hs
  obtain rfl := ownsRow_same h1 h3
  exact ⟨vs, h1, h2, h4⟩
/-- every row's own: its cells lie below the world's end. -/
theorem OwR.hi {w : World} {lo k : Nat} {v : Value} {rs : List RuleM} (h : OwR w lo v rs k) : SpQ w lo v k (fun g => g < w.heap.size) := by
  obtain ⟨vs, h1, h2⟩ := h
  refine ⟨vs, h1, fun i A' n' c' hi he g hg => ?_⟩
  obtain ⟨A2, c2, _, e1, _, ho, _⟩ := h2 i hi
  rw [he] at e1
  injection e1 with e1
  rw [e1] at hg
  exact ho.own_hi g hg
theorem OwR.lo_ {w : World} {lo k : Nat} {v : Value} {rs : List RuleM} (h : OwR w lo v rs k) : SpQ w lo v k (fun g => lo ≤ g) := by
  obtain ⟨vs, h1, h2⟩ := h
  refine ⟨vs, h1, fun i A' n' c' hi he g hg => ?_⟩
  obtain ⟨A2, c2, _, e1, _, ho, _⟩ := h2 i hi
  rw [he] at e1
  injection e1 with e1
  rw [e1] at hg
  exact ho.own_lo g hg
/-- at a step of a region that draws its order. -/
theorem step_push_rules {w : World} {ops : Array Oper} {o : Oper} {a : Act} {K : Act → World → Prop} {Q : Exit → Act → World → Prop} {E : Prop} (hgd : o.guard = none) (s x : Operand)
    (ho : o.op = .call { callee := .builtin .append, args := #[s, x], argTypes := #[28, 28] })
    (lo : Nat) (A : Option Addr) (n c : Nat) (rs1 : List RuleM) (vs1 : List Value) (A2 : Option Addr) (m c2 : Nat) (rs2 : List RuleM) (vs2 : List Value) (lo2 : Nat) (hs : a.eval s = .slice A n c) (hx : a.eval x = .slice A2 m c2) (l1 : rs1.length = n)
    (hown : w.ownsRow lo 44 3 (.slice A n c) n vs1) (hin1 : InR w lo (.slice A n c) rs1 vs1 n) (hown2 : w.ownsRow lo2 44 3 (.slice A2 m c2) m vs2) (hin2 : InR w lo (.slice A n c) rs2 vs2 m) (hmn : 0 < m ∨ n = 0)
    (hn : n ≤ 1099511627776) (hm : m ≤ 1099511627776) (hlo : lo ≤ w.heap.size)
    (h : ∀ A' c' w', OwR w' lo (.slice A' (n + m) c') (rs1 ++ rs2) (n + m) → w.grownBy w' (Value.slice A n c).ownBlock → (∀ g, (Value.slice A' (n + m) c').ownBlock = some g → (Value.slice A n c).ownBlock = some g ∨ g = w.heap.size) → K (a.put o.dst (.slice A' (n + m) c')) w') :
    if Region.wanted o (yielded ops a.tmps) = true then Oper.wp Tryd.prog o a w K Q else E := by
  obtain ⟨A', c', w', hrun, h1, h2, h3⟩ := run_push_rules o.type lo A n c rs1 vs1 A2 m c2 rs2 vs2 lo2 l1 hown hin1 hown2 hin2 hmn hn hm hlo
  have hw : Region.wanted o (yielded ops a.tmps) = true := by simp [Region.wanted, hgd]
  rw [if_pos hw]
  unfold Oper.wp execOp
  simp only [ho, resolve, invoke, builtin, Sem.run_bind, Sem.run_pure, Result.andThen_ok, List.map_toArray, List.map_cons, List.map_nil, hs, hx, hrun]
  exact h A' c' w' h1 h2 h3
end Go.Proofs.YtchcmgaohcldjaaDoor
set_option maxRecDepth 8000
namespace Go.Proofs.YtchcmgaohcldjaaDoor
open Go.ChangeShapes Go.WideShapes Go.ChangeAt Go.RowKit
/-! 'append([]int{}, t...)', 'append([]impl.Rule{}, t...)': nothing that lay there changes, wherever the empty literal lies. -/
theorem below_none {w w' : World} (h : w.grownBy w' none) : Below w.heap.size w w' := ⟨h.os, h.tape, h.output, h.size, fun k hk => h.block k hk (by simp)⟩
theorem fresh_same {e t : TypeId} (ty : TypeId) {i0 : TypeInfo} {z : Value} (ht : Tryd.prog.underlying t = some (.slice e)) (hi : Tryd.prog.info? e = some i0) (hz : i0.zero = some z) {w : World} (b : Nat) (ad : Addr) (m c2 : Nat) (news : List Value) (hl : news.length = m * i0.size) (hnews : ∀ j u, news[j]? = some u → w.cell? (ad.add j) = some u)
    (hm : 0 < m) (h63 : (m : Int) ≤ 9223372036854775807) (hfit : m * i0.bytes ≤ 281474976710656) :
    (Builtin.append_ #[t, t] ty #[.slice (some ⟨b, 0, none⟩) 0 0, .slice (some ad) m c2]).run Tryd.prog w = (Builtin.append_ #[t, t] ty #[.slice none 0 0, .slice (some ad) m c2]).run Tryd.prog w := by
  rw [run_append_grow w t ty e i0 z ht hi hz ⟨b, 0, none⟩ 0 0 [] (by simp) (by simp) ad m c2 news hl hnews (by omega) (by simpa using h63) (by rw [Nat.zero_add, nextslicecap_zero hm]; exact hfit)]
  rw [run_append_nil w t ty e i0 z ht hi hz ad m c2 news hl hnews (by omega) h63 hfit]
  simp
theorem fresh_ints {w : World} (ty : TypeId) (b : Nat) (A2 : Option Addr) (m c2 B : Nat) (ys : List Int) (hr : Rd w B A2 m ys) (h0 : 0 < m) (hm : m ≤ 1099511627776) :
    ∃ A' c' w', (Builtin.append_ #[22, 22] ty #[.slice (some ⟨b, 0, none⟩) 0 0, .slice A2 m c2]).run Tryd.prog w = .ok (.slice A' m c') w' ∧ Ow w' w.heap.size A' m c' ys ∧ Below w.heap.size w w' := by
  obtain ⟨i0, hi, hz0, hz1, hz2⟩ := info_parts int_info
  obtain ⟨A', c', w', hrun, h1, h2, _⟩ := run_push_all ty w.heap.size none 0 0 [] A2 m c2 B ys (Ow.nil_ _ _) hr (.inr rfl) (by omega) hm (Nat.le_refl _)
  obtain ⟨b2, off, rfl, _, _⟩ := hr.at_ h0
  rw [Nat.zero_add] at hrun h1
  rw [List.nil_append] at h1
  exact ⟨A', c', w', (fresh_same ty Tryd.underlying22 hi hz0 b _ m c2 (vals ys) (by rw [vals_length, hr.1, hz1]; omega) hr.news h0 (by omega) (by rw [hz2]; omega)).trans hrun, h1, below_none h2⟩
theorem fresh_rulesV {w : World} (ty : TypeId) (b : Nat) (A2 : Option Addr) (m c2 lo lo2 : Nat) (rs2 : List RuleM) (vs2 : List Value) (hl2 : rs2.length = m) (hown2 : w.ownsRow lo2 44 3 (.slice A2 m c2) m vs2) (hin2 : InR w lo (.slice none 0 0) rs2 vs2 m)
    (hlit : w.heap[b]? = some (.cells #[] 44)) (hb : lo ≤ b) (hm : m ≤ 1099511627776) (hlo : lo ≤ w.heap.size) :
    ∃ A' c' w', (Builtin.append_ #[28, 28] ty #[.slice (some ⟨b, 0, none⟩) 0 0, .slice A2 m c2]).run Tryd.prog w = .ok (.slice A' m c') w' ∧ (w'.ownsRow lo 44 3 (.slice A' m c') m vs2 ∧ InR w' lo (.slice A' m c') rs2 vs2 m) ∧ Below w.heap.size w w' := by
  obtain ⟨i0, hi, hz0, hz1, hz2⟩ := info_parts rule_parts
  by_cases h0 : 0 < m
  · obtain ⟨A', c', w', hrun, h1, h2, _⟩ := run_push_rulesV ty lo none 0 0 [] [] A2 m c2 rs2 vs2 lo2 rfl (World.ownsRow_nil _ _ _ _) (fun i hi => absurd hi (by omega)) hown2 hin2 (.inl h0) (by omega) hm hlo
    obtain ⟨hvl2, hcase⟩ := id hown2
    rcases hcase with ⟨_, h00⟩ | ⟨g2, cap2, cur, hv, _, hrow, q1, q2, q3, q4⟩
    · omega
    · injection hv with e1 _ e2
      subst e1
      have hcell : ∀ j u, vs2[j]? = some u → w.cell? ((⟨g2, 0, none⟩ : Addr).add j) = some u := fun j u hj => by
        have hadd : (⟨g2, 0, none⟩ : Addr).add j = ⟨g2, j, none⟩ := by unfold Addr.add; split <;> simp_all
        rw [hadd, cell_of_row w g2 j cur _ _ hrow]
        rw [← q4, List.getElem?_take] at hj
        split at hj
        · simpa using hj
        · cases hj
      rw [Nat.zero_add] at hrun h1
      rw [List.nil_append, List.nil_append] at h1
      exact ⟨A', c', w', (fresh_same ty Tryd.underlying28 hi hz0 b _ m c2 vs2 (by rw [hvl2, hz1]) hcell h0 (by omega) (by rw [hz2]; omega)).trans hrun, h1, below_none h2⟩
  · obtain rfl : m = 0 := by omega
    have hsrc : Go.Src Tryd.prog i0.size 28 (.slice A2 0 c2) 0 [] w := by
      cases A2 with
      | none => exact Go.Src.ofNil w Tryd.underlying28 c2
      | some a => exact Go.Src.ofSlice w Tryd.underlying28 a 0 c2 [] (by simp) (fun j u hj => by simp at hj) (fun u hu => by simp at hu)
    refine ⟨some ⟨b, 0, none⟩, 0, w, run_append_nothing w 28 28 ty 44 i0 Tryd.underlying28 hi (some ⟨b, 0, none⟩) 0 0 (Nat.zero_le _) _ hsrc, ⟨by rw [show vs2 = [] from List.eq_nil_of_length_eq_zero (by rw [hown2.1, Nat.zero_mul])]; exact ⟨by simp, .inr ⟨b, 0, #[], rfl, hb, hlit, Nat.le_refl _, by simp [maxLen], by simp, by simp⟩⟩, fun i hi => absurd hi (by omega)⟩, Below.refl _ _⟩
theorem fresh_rules {w : World} (ty : TypeId) (b : Nat) (A2 : Option Addr) (m c2 lo lo2 : Nat) (rs2 : List RuleM) (vs2 : List Value) (hl2 : rs2.length = m) (hown2 : w.ownsRow lo2 44 3 (.slice A2 m c2) m vs2) (hin2 : InR w lo (.slice none 0 0) rs2 vs2 m)
    (hlit : w.heap[b]? = some (.cells #[] 44)) (hb : lo ≤ b) (hm : m ≤ 1099511627776) (hlo : lo ≤ w.heap.size) :
    ∃ A' c' w', (Builtin.append_ #[28, 28] ty #[.slice (some ⟨b, 0, none⟩) 0 0, .slice A2 m c2]).run Tryd.prog w = .ok (.slice A' m c') w' ∧ OwR w' lo (.slice A' m c') rs2 m ∧ Below w.heap.size w w' := by
  obtain ⟨A', c', w', hrun, ⟨k1, k2⟩, k3⟩ := fresh_rulesV ty b A2 m c2 lo lo2 rs2 vs2 hl2 hown2 hin2 hlit hb hm hlo
  exact ⟨A', c', w', hrun, ⟨_, k1, k2⟩, k3⟩
/-- at steps of a region that draws its order. -/
theorem step_fresh_ints {w : World} {ops : Array Oper} {o : Oper} {a : Act} {K : Act → World → Prop} {Q : Exit → Act → World → Prop} {E : Prop} (hgd : o.guard = none) (s x : Operand)
    (ho : o.op = .call { callee := .builtin .append, args := #[s, x], argTypes := #[22, 22] })
    (b : Nat) (A2 : Option Addr) (m c2 B : Nat) (ys : List Int) (hs : a.eval s = .slice (some ⟨b, 0, none⟩) 0 0) (hx : a.eval x = .slice A2 m c2) (hr : Rd w B A2 m ys) (h0 : 0 < m) (hm : m ≤ 1099511627776)
    (h : ∀ A' c' w', Ow w' w.heap.size A' m c' ys → Below w.heap.size w w' → K (a.put o.dst (.slice A' m c')) w') :
    if Region.wanted o (yielded ops a.tmps) = true then Oper.wp Tryd.prog o a w K Q else E := by
  obtain ⟨A', c', w', hrun, h1, h2⟩ := fresh_ints o.type b A2 m c2 B ys hr h0 hm
  have hw : Region.wanted o (yielded ops a.tmps) = true := by simp [Region.wanted, hgd]
  rw [if_pos hw]
  unfold Oper.wp execOp
  simp only [ho, resolve, invoke, builtin, Sem.run_bind, Sem.run_pure, Result.andThen_ok, List.map_toArray, List.map_cons, List.map_nil, hs, hx, hrun]
  exact h A' c' w' h1 h2
theorem step_fresh_rules {w : World} {ops : Array Oper} {o : Oper} {a : Act} {K : Act → World → Prop} {Q : Exit → Act → World → Prop} {E : Prop} (hgd : o.guard = none) (s x : Operand)
    (ho : o.op = .call { callee := .builtin .append, args := #[s, x], argTypes := #[28, 28] })
    (b : Nat) (A2 : Option Addr) (m c2 lo lo2 : Nat) (rs2 : List RuleM) (vs2 : List Value) (hs : a.eval s = .slice (some ⟨b, 0, none⟩) 0 0) (hx : a.eval x = .slice A2 m c2) (hl2 : rs2.length = m) (hown2 : w.ownsRow lo2 44 3 (.slice A2 m c2) m vs2) (hin2 : InR w lo (.slice none 0 0) rs2 vs2 m)
    (hlit : w.heap[b]? = some (.cells #[] 44)) (hb : lo ≤ b) (hm : m ≤ 1099511627776) (hlo : lo ≤ w.heap.size)
    (h : ∀ A' c' w', OwR w' lo (.slice A' m c') rs2 m → Below w.heap.size w w' → K (a.put o.dst (.slice A' m c')) w') :
    if Region.wanted o (yielded ops a.tmps) = true then Oper.wp Tryd.prog o a w K Q else E := by
  obtain ⟨A', c', w', hrun, h1, h2⟩ := fresh_rules o.type b A2 m c2 lo lo2 rs2 vs2 hl2 hown2 hin2 hlit hb hm hlo
  have hw : Region.wanted o (yielded ops a.tmps) = true := by simp [Region.wanted, hgd]
  rw [if_pos hw]
  unfold Oper.wp execOp
  simp only [ho, resolve, invoke, builtin, Sem.run_bind, Sem.run_pure, Result.andThen_ok, List.map_toArray, List.map_cons, List.map_nil, hs, hx, hrun]
  exact h A' c' w' h1 h2
end Go.Proofs.YtchcmgaohcldjaaDoor
set_option maxRecDepth 8000
namespace Go.Proofs.YtchcmgaohcldjaaDoor
open Go.ChangeShapes Go.WideShapes Go.ChangeAt Go.RowKit

theorem OwR.far {w w' : World} {lo n c : Nat} {A : Option Addr} {rs : List RuleM} {row : Option Nat} (h : OwR w lo (.slice A n c) rs n) (hg : w.grownBy w' row) (hr : ∀ g, row = some g → g < lo) : OwR w' lo (.slice A n c) rs n := by
  obtain ⟨vs, hown, hin⟩ := h
  refine ⟨vs, World.ownsRow.kept hown hg (by
    cases e : (Value.slice A n c).ownBlock with
    | none => exact .inl rfl
    | some g => exact .inr (fun he => by have h1 := (World.ownsRow.lt hown g e).1; have h2 := hr g he.symm; omega)), fun i hi => ?_⟩
  obtain ⟨A', c', e0, e1, e2, e3, e4, e5⟩ := hin i hi
  exact ⟨A', c', e0, e1, e2, e3.far hg (fun g hgg e => by have h1 := e3.own_lo g hgg; have h2 := hr g e; omega), e4, e5⟩
theorem lt_set5 {a : Nat} {w : World} {p : Addr} {v : Value} (h : a < w.heap.size) : a < (w.setCell p v).heap.size := by rw [World.size_setCell]; exact h
theorem grown_row {w : World} {g : Nat} {cs : Array Value} : w.grownBy (w.setRow g cs) (some g) :=
  ⟨rfl, rfl, rfl, by simp, fun k hk hne => by unfold World.setRow; simp only [Array.getElem?_modify]; rw [if_neg (fun e => hne (by rw [e]))]⟩
theorem OwR.mono {w : World} {lo lo' n : Nat} {v : Value} {rs : List RuleM} (h : OwR w lo v rs n) (hl : lo' ≤ lo) : OwR w lo' v rs n := by
  obtain ⟨vs, hown, hin⟩ := h
  refine ⟨vs, World.ownsRow.mono hown hl, fun i hi => ?_⟩
  obtain ⟨A', c', e0, e1, e2, e3, e4, e5⟩ := hin i hi
  exact ⟨A', c', e0, e1, e2, e3.mono hl, e4, e5⟩
end Go.Proofs.YtchcmgaohcldjaaDoor
set_option maxRecDepth 8000
namespace Go.Proofs.YtchcmgaohcldjaaDoor
open Go.ChangeShapes Go.WideShapes Go.ChangeAt Go.RowKit


def oneB (s : Int) (n : Nat) (gi : List Int) (rs : List RuleM) : Bool := (allS s 2 n gi rs).length == 1
end Go.Proofs.YtchcmgaohcldjaaDoor
set_option maxRecDepth 8000
namespace Go.Proofs.YtchcmgaohcldjaaDoor
open Go.ChangeShapes Go.WideShapes Go.ChangeAt Go.RowKit

/-- the cell is one of the puzzle's, and given. -/
def givenB (n : Nat) (gi : List Int) (i : Int) : Bool := inr i 0 ((n : Int) - 1) && decide (0 < nth gi i.toNat)
def redB (s : Int) (n : Nat) (gi : List Int) (rs : List RuleM) (i : Int) : Bool := pvB s gi rs && givenB n gi i && oneB s n gi rs && oneB s n (gi.set i.toNat 0) rs
end Go.Proofs.YtchcmgaohcldjaaDoor
set_option maxRecDepth 8000
namespace Go.Proofs.YtchcmgaohcldjaaDoor
open Go.ChangeShapes Go.WideShapes Go.ChangeAt Go.RowKit
/-- what is given, less what is redundant among the first k cells. -/
def minL (s : Int) (n : Nat) (rs : List RuleM) (gi : List Int) : Nat → List Int
  | 0 => gi
  | k + 1 => if redB s n (minL s n rs gi k) rs k = true then (minL s n rs gi k).set k 0 else minL s n rs gi k
theorem minL_length (s : Int) (n : Nat) (rs : List RuleM) (gi : List Int) (k : Nat) : (minL s n rs gi k).length = gi.length := by
  induction k with
  | zero => rfl
  | succ k ih => unfold minL; split <;> simp [ih]
theorem OwR.past {w0 w w' : World} {lo X k : Nat} {v : Value} {rs : List RuleM} (h : OwR w0 lo v rs k) (hb : Below w0.heap.size w0 w) (hg : w.grownBy w' (some X)) (hX : w0.heap.size ≤ X) : OwR w' lo v rs k := by
  obtain ⟨vs, hown, hin⟩ := id h
  obtain ⟨vs', hown', hin'⟩ := h.below hb
  have hv : ∀ b, v.ownBlock = some b → b ≠ X := fun b hbb e => by have := (World.ownsRow.lt hown b hbb).2; omega
  refine ⟨vs, World.ownsRow.kept (World.ownsRow.kept hown (row := none) ⟨hb.os, hb.tape, hb.output, hb.size, fun k hk _ => hb.block k hk⟩ (by cases e : v.ownBlock <;> simp)) hg (by
    cases e : v.ownBlock
    · exact .inl rfl
    · exact .inr (fun e2 => hv _ e (Option.some.inj e2))), fun i hi => ?_⟩
  obtain ⟨A', c', e0, e1, e2, e3, e4, e5⟩ := hin i hi
  exact ⟨A', c', e0, e1, e2, Ow.far (Ow.below e3 hb) hg (fun b hbb e => by have := (World.ownsRow.lt e3 b hbb).2; have := Option.some.inj e; omega), e4, e5⟩
theorem OwR.keptL {w w' : World} {lo G k : Nat} {v : Value} {rs : List RuleM} (h : OwR w lo v rs k) (hg : w.grownBy w' (some G)) (hG : G < lo) : OwR w' lo v rs k := by
  obtain ⟨vs, hown, hin⟩ := h
  refine ⟨vs, World.ownsRow.kept hown hg (by
    cases e : v.ownBlock
    · exact .inl rfl
    · refine .inr (fun e2 => ?_)
      have h1 := (World.ownsRow.lt hown _ e).1
      have h2 := Option.some.inj e2
      omega), fun i hi => ?_⟩
  obtain ⟨A', c', e0, e1, e2, e3, e4, e5⟩ := hin i hi
  exact ⟨A', c', e0, e1, e2, Ow.far e3 hg (fun g hgg e => by have h1 := e3.own_lo g hgg; have h2 := Option.some.inj e; omega), e4, e5⟩
theorem grown_setRow5 {w : World} {g : Nat} {cs : Array Value} : w.grownBy (w.setRow g cs) (some g) :=
  ⟨rfl, rfl, rfl, by simp, fun k hk hne => by unfold World.setRow; simp only [Array.getElem?_modify]; rw [if_neg (fun e => hne (by rw [e]))]⟩
theorem ownsRow_setX {w : World} {lo sz n X : Nat} {e t : TypeId} {v : Value} {xs : List Value} {cs cs' : Array Value} (h : w.ownsRow lo e sz v n xs) (hX : w.heap[X]? = some (.cells cs t)) (hne : t ≠ e) : (w.setRow X cs').ownsRow lo e sz v n xs := by
  refine World.ownsRow.kept h grown_setRow5 ?_
  rcases h.2 with ⟨rfl, _⟩ | ⟨g, cap, cur, rfl, hb, hg, _⟩
  · exact .inl rfl
  · refine .inr (fun e2 => ?_)
    have e3 : g = X := by simpa [Value.ownBlock] using e2
    subst e3
    rw [hX] at hg
    injection hg with hg
    injection hg with _ h2 _
    exact hne h2
theorem Ow.setX {w : World} {lo n c X : Nat} {A : Option Addr} {xs : List Int} {cs cs' : Array Value} (h : Ow w lo A n c xs) (hX : w.heap[X]? = some (.cells cs 30)) : Ow (w.setRow X cs') lo A n c xs := ownsRow_setX h hX (by decide)
theorem OwR.setX {w : World} {lo k X : Nat} {v : Value} {rs : List RuleM} {cs cs' : Array Value} (h : OwR w lo v rs k) (hX : w.heap[X]? = some (.cells cs 30)) : OwR (w.setRow X cs') lo v rs k := by
  obtain ⟨vs, hown, hin⟩ := h
  refine ⟨vs, ownsRow_setX hown hX (by decide), fun i hi => ?_⟩
  obtain ⟨A', c', e0, e1, e2, e3, e4, e5⟩ := hin i hi
  exact ⟨A', c', e0, e1, e2, e3.setX hX, e4, e5⟩
theorem SpQ.setX {w : World} {lo k X : Nat} {v : Value} {Q : Nat → Prop} {cs cs' : Array Value} (h : SpQ w lo v k Q) (hX : w.heap[X]? = some (.cells cs 30)) : SpQ (w.setRow X cs') lo v k Q := h.map fun _ hown => ownsRow_setX hown hX (by decide)
theorem SpQ.mono {w : World} {lo lo' k : Nat} {v : Value} {Q : Nat → Prop} (h : SpQ w lo v k Q) (hl : lo' ≤ lo) : SpQ w lo' v k Q := by
  obtain ⟨vs, h1, h2⟩ := h
  exact ⟨vs, World.ownsRow.mono h1 hl, h2⟩
theorem results_row_tmp {P : Program} {fn : Func} {p q : Tmp} {ty : TypeId} (h : fn.results = #[.cell p ty, .tmp q]) (tmps : Array Value) (w : World) (g : Nat) (t : TypeId) (cs : Array Value) (fr : Nat × Nat) (d : TypeDesc) (b : Value)
    (hp : tmps.getD p undef = .pointer (some ⟨g, 0, none⟩)) (hq : tmps.getD q undef = b) (hg : w.heap[g]? = some (.cells cs t fr))
    (hu : P.underlying ty = some d) (hd : (match d with | .struct _ | .array _ _ => true | _ => false) = true) (hi : (P.info? ty).map (·.size) = some cs.size) :
    (results fn tmps).run P w = .ok (.tuple #[.agg cs, b]) w := by
  have hp' : tmps[p]?.getD undef = .pointer (some ⟨g, 0, none⟩) := by simpa using hp
  have hq' : tmps[q]?.getD undef = b := by simpa using hq
  simp [results, h, hp', hq', asAddr, run_loadVar_row w g t ty cs fr d hg hu hd hi]
end Go.Proofs.YtchcmgaohcldjaaDoor
set_option maxRecDepth 8000
namespace Go.Proofs.YtchcmgaohcldjaaDoor
open Go.ChangeShapes Go.WideShapes Go.ChangeAt Go.RowKit
/-- a store of a number into any row of numbers: a row of the call's own is still one, whatever it holds now. -/
theorem ow_any {w : World} {lo n c : Nat} {A : Option Addr} {xs : List Int} (h : Ow w lo A n c xs) (g j : Nat) (z : Int) : ∃ xs', xs'.length = xs.length ∧ Ow (w.setCell ⟨g, j, none⟩ (.int .i64 z)) lo A n c xs' := by
  by_cases e : (Value.slice A n c).ownBlock = some g
  · obtain ⟨b, hA⟩ : ∃ b : Addr, A = some b := by cases A with
      | none => simp [Value.ownBlock] at e
      | some b => exact ⟨b, rfl⟩
    have hg : A = some ⟨g, 0, none⟩ := by
      rcases h.2 with ⟨h1, _⟩ | ⟨g', cap, cur, hv, _⟩
      · rw [hA] at h1; cases h1
      · injection hv with e1 _ _
        rw [e1] at e ⊢
        simp [Value.ownBlock] at e
        rw [e]
    subst hg
    refine ⟨xs.set j z, by simp, ?_⟩
    have := (World.ownsRow.stored h j (.int .i64 z)).1
    unfold Ow
    rwa [show vals (xs.set j z) = (vals xs).set j (.int .i64 z) by simp [vals, List.map_set]]
  · exact ⟨xs, rfl, World.ownsRow.kept h (row := some g) grown_set (.inr e)⟩
theorem owR_any {w : World} {lo k : Nat} {v : Value} {rs : List RuleM} (h : OwR w lo v rs k) (g j : Nat) (z : Int) {cs : Array Value} (hg : w.heap[g]? = some (.cells cs 3)) :
    ∃ rs', rs'.length = k ∧ OwR (w.setCell ⟨g, j, none⟩ (.int .i64 z)) lo v rs' k := by
  obtain ⟨vs, hown, hin⟩ := h
  have hx : ∀ i, ∃ xs' : List Int, i < k → xs'.length = (rat rs i).xs.length ∧ ∃ A' c', vs[i * 3]? = some (.int .i64 (rat rs i).k) ∧ vs[i * 3 + 1]? = some (.slice A' (rat rs i).xs.length c') ∧ vs[i * 3 + 2]? = some (.int .i64 (rat rs i).v) ∧ Ow (w.setCell ⟨g, j, none⟩ (.int .i64 z)) lo A' (rat rs i).xs.length c' xs' ∧ (rat rs i).xs.length ≤ 1099511627776 ∧ ∀ b, (Value.slice A' (rat rs i).xs.length c').ownBlock = some b → v.ownBlock ≠ some b := by
    intro i
    by_cases hi : i < k
    · obtain ⟨A', c', e0, e1, e2, e3, e4, e5⟩ := hin i hi
      obtain ⟨xs', hl, ho⟩ := ow_any e3 g j z
      exact ⟨xs', fun _ => ⟨hl, A', c', e0, e1, e2, ho, e4, e5⟩⟩
    · exact ⟨[], fun h => absurd h hi⟩
  obtain ⟨f, hf⟩ := Classical.skolem.1 hx
  refine ⟨(List.range k).map (fun i => ⟨(rat rs i).k, f i, (rat rs i).v⟩), by simp, vs, World.ownsRow.kept hown (row := some g) grown_set ?_, fun i hi => ?_⟩
  · rcases hown.2 with ⟨rfl, _⟩ | ⟨g', cap, cur, rfl, hb, hg', _⟩
    · exact .inl rfl
    · refine .inr (fun e2 => ?_)
      have e3 : g' = g := by simpa [Value.ownBlock] using e2
      subst e3
      rw [hg] at hg'
      injection hg' with hg'
      injection hg' with _ h2 _
      exact absurd h2 (by decide)
  · have hr : rat ((List.range k).map (fun i => (⟨(rat rs i).k, f i, (rat rs i).v⟩ : RuleM))) i = ⟨(rat rs i).k, f i, (rat rs i).v⟩ := by
      simp [rat, List.getD_eq_getElem?_getD, hi]
    obtain ⟨hl, A', c', e0, e1, e2, e3, e4, e5⟩ := hf i hi
    rw [hr]
    simp only
    rw [hl]
    exact ⟨A', c', e0, e1, e2, e3, e4, e5⟩
/-- 'append(rs, x)': one rule, whose value lies in a literal's block. -/
theorem run_push_oneV {w : World} (ty : TypeId) (lo : Nat) (A : Option Addr) (n c b : Nat) (rs : List RuleM) (k v : Int) (A3 : Option Addr) (m c3 : Nat) (xs : List Int) (hl : rs.length = n) (vs1 : List Value) (hown : w.ownsRow lo 44 3 (.slice A n c) n vs1) (hin : InR w lo (.slice A n c) rs vs1 n) (ho : Ow w lo A3 m c3 xs)
    (hlit : w.heap[b]? = some (.cells #[.int .i64 k, .slice A3 m c3, .int .i64 v] 44)) (hn : n ≤ 1099511627775) (hm : m ≤ 1099511627776) (hlo : lo ≤ w.heap.size) :
    ∃ A' c' w', (Builtin.append_ #[28, 28] ty #[.slice A n c, .slice (some ⟨b, 0, none⟩) 1 1]).run Tryd.prog w = .ok (.slice A' (n + 1) c') w' ∧ (w'.ownsRow lo 44 3 (.slice A' (n + 1) c') (n + 1) (vs1 ++ [.int .i64 k, .slice A3 m c3, .int .i64 v]) ∧ InR w' lo (.slice A' (n + 1) c') (rs ++ [⟨k, xs, v⟩]) (vs1 ++ [.int .i64 k, .slice A3 m c3, .int .i64 v]) (n + 1)) ∧ w.grownBy w' (Value.slice A n c).ownBlock := by
  have hxl := ho.len
  have hl2 : w.ownsRow 0 44 3 (.slice (some ⟨b, 0, none⟩) 1 1) 1 [.int .i64 k, .slice A3 m c3, .int .i64 v] := ⟨rfl, .inr ⟨b, 1, _, rfl, Nat.zero_le _, hlit, Nat.le_refl _, by simp [maxLen], rfl, rfl⟩⟩
  have hin2 : InR w lo (.slice A n c) [⟨k, xs, v⟩] [.int .i64 k, .slice A3 m c3, .int .i64 v] 1 := by
    intro i hi
    obtain rfl : i = 0 := by omega
    refine ⟨A3, c3, rfl, by simp [rat, hxl], rfl, by simp only [rat, List.getD_cons_zero]; rw [hxl]; exact ho, by simp only [rat, List.getD_cons_zero]; omega, fun g hg e => ?_⟩
    simp only [rat, List.getD_cons_zero] at hg
    rcases hown.2 with ⟨e1, _⟩ | ⟨g1, cap1, cur1, e1, _, hr1, _⟩
    · rw [e1] at e; simp [Value.ownBlock] at e
    · rcases ho.2 with ⟨e2, _⟩ | ⟨g2, cap2, cur2, e2, _, hr2, _⟩
      · injection e2 with e2 _ _
        rw [e2] at hg; simp [Value.ownBlock] at hg
      · injection e2 with e2 _ _
        rw [e1] at e
        rw [e2] at hg
        simp [Value.ownBlock] at e hg
        subst e
        subst hg
        rw [hr1] at hr2
        injection hr2 with hr2
        injection hr2 with _ h2 _
        exact absurd h2 (by decide)
  obtain ⟨A', c', w', hrun, h1, h2, _⟩ := run_push_rulesV ty lo A n c rs vs1 (some ⟨b, 0, none⟩) 1 1 [⟨k, xs, v⟩] _ 0 hl hown hin hl2 hin2 (.inl (by omega)) (by omega) (by omega) hlo
  exact ⟨A', c', w', hrun, h1, h2⟩
theorem run_push_one {w : World} (ty : TypeId) (lo : Nat) (A : Option Addr) (n c b : Nat) (rs : List RuleM) (k v : Int) (A3 : Option Addr) (m c3 : Nat) (xs : List Int) (hl : rs.length = n) (h : OwR w lo (.slice A n c) rs n) (ho : Ow w lo A3 m c3 xs)
    (hlit : w.heap[b]? = some (.cells #[.int .i64 k, .slice A3 m c3, .int .i64 v] 44)) (hn : n ≤ 1099511627775) (hm : m ≤ 1099511627776) (hlo : lo ≤ w.heap.size) :
    ∃ A' c' w', (Builtin.append_ #[28, 28] ty #[.slice A n c, .slice (some ⟨b, 0, none⟩) 1 1]).run Tryd.prog w = .ok (.slice A' (n + 1) c') w' ∧ OwR w' lo (.slice A' (n + 1) c') (rs ++ [⟨k, xs, v⟩]) (n + 1) ∧ w.grownBy w' (Value.slice A n c).ownBlock := by
  obtain ⟨vs1, hown, hin⟩ := id h
  obtain ⟨A', c', w', hrun, ⟨k1, k2⟩, k3⟩ := run_push_oneV ty lo A n c b rs k v A3 m c3 xs hl vs1 hown hin ho hlit hn hm hlo
  exact ⟨A', c', w', hrun, ⟨_, k1, k2⟩, k3⟩
/-- at a step of a region that draws its order. -/
theorem step_push_one {w : World} {ops : Array Oper} {o : Oper} {a : Act} {K : Act → World → Prop} {Q : Exit → Act → World → Prop} {E : Prop} (hgd : o.guard = none) (s x : Operand)
    (ho' : o.op = .call { callee := .builtin .append, args := #[s, x], argTypes := #[28, 28] })
    (lo : Nat) (A : Option Addr) (n c b : Nat) (rs : List RuleM) (k v : Int) (A3 : Option Addr) (m c3 : Nat) (xs : List Int) (hs : a.eval s = .slice A n c) (hx : a.eval x = .slice (some ⟨b, 0, none⟩) 1 1) (hl : rs.length = n) (h : OwR w lo (.slice A n c) rs n) (ho : Ow w lo A3 m c3 xs)
    (hlit : w.heap[b]? = some (.cells #[.int .i64 k, .slice A3 m c3, .int .i64 v] 44)) (hn : n ≤ 1099511627775) (hm : m ≤ 1099511627776) (hlo : lo ≤ w.heap.size)
    (hK : ∀ A' c' w', OwR w' lo (.slice A' (n + 1) c') (rs ++ [⟨k, xs, v⟩]) (n + 1) → w.grownBy w' (Value.slice A n c).ownBlock → K (a.put o.dst (.slice A' (n + 1) c')) w') :
    if Region.wanted o (yielded ops a.tmps) = true then Oper.wp Tryd.prog o a w K Q else E := by
  obtain ⟨A', c', w', hrun, h1, h2⟩ := run_push_one o.type lo A n c b rs k v A3 m c3 xs hl h ho hlit hn hm hlo
  have hw : Region.wanted o (yielded ops a.tmps) = true := by simp [Region.wanted, hgd]
  rw [if_pos hw]
  unfold Oper.wp execOp
  simp only [ho', resolve, invoke, builtin, Sem.run_bind, Sem.run_pure, Result.andThen_ok, List.map_toArray, List.map_cons, List.map_nil, hs, hx, hrun]
  exact hK A' c' w' h1 h2
/-- in a region whose order is written. -/
theorem push_rules {w : World} {ops : Array Oper} {rest : List Oper} {o : Oper} {a : Act} {Q : Exit → Act → World → Prop} (hgd : o.guard = none) (s x : Operand)
    (ho : o.op = .call { callee := .builtin .append, args := #[s, x], argTypes := #[28, 28] })
    (lo : Nat) (A : Option Addr) (n c : Nat) (rs1 : List RuleM) (vs1 : List Value) (A2 : Option Addr) (m c2 : Nat) (rs2 : List RuleM) (vs2 : List Value) (lo2 : Nat) (hs : a.eval s = .slice A n c) (hx : a.eval x = .slice A2 m c2) (l1 : rs1.length = n)
    (hown : w.ownsRow lo 44 3 (.slice A n c) n vs1) (hin1 : InR w lo (.slice A n c) rs1 vs1 n) (hown2 : w.ownsRow lo2 44 3 (.slice A2 m c2) m vs2) (hin2 : InR w lo (.slice A n c) rs2 vs2 m) (hmn : 0 < m ∨ n = 0)
    (hn : n ≤ 1099511627776) (hm : m ≤ 1099511627776) (hlo : lo ≤ w.heap.size)
    (h : ∀ A' c' w', OwR w' lo (.slice A' (n + m) c') (rs1 ++ rs2) (n + m) → w.grownBy w' (Value.slice A n c).ownBlock → wpList Tryd.prog ops Q rest (a.put o.dst (.slice A' (n + m) c')) w') :
    wpList Tryd.prog ops Q (o :: rest) a w := by
  refine wpList_plain hgd fun K hK => ?_
  obtain ⟨A', c', w', hrun, h1, h2, h3⟩ := run_push_rules o.type lo A n c rs1 vs1 A2 m c2 rs2 vs2 lo2 l1 hown hin1 hown2 hin2 hmn hn hm hlo
  unfold Oper.wp
  simp [execOp, ho, resolve, invoke, builtin, hs, hx, hrun, Result.andThen]
  exact hK _ _ (h A' c' w' h1 h2)
theorem push_rulesV {w : World} {ops : Array Oper} {rest : List Oper} {o : Oper} {a : Act} {Q : Exit → Act → World → Prop} (hgd : o.guard = none) (s x : Operand)
    (ho : o.op = .call { callee := .builtin .append, args := #[s, x], argTypes := #[28, 28] })
    (lo : Nat) (A : Option Addr) (n c : Nat) (rs1 : List RuleM) (vs1 : List Value) (A2 : Option Addr) (m c2 : Nat) (rs2 : List RuleM) (vs2 : List Value) (lo2 : Nat) (hs : a.eval s = .slice A n c) (hx : a.eval x = .slice A2 m c2) (l1 : rs1.length = n)
    (hown : w.ownsRow lo 44 3 (.slice A n c) n vs1) (hin1 : InR w lo (.slice A n c) rs1 vs1 n) (hown2 : w.ownsRow lo2 44 3 (.slice A2 m c2) m vs2) (hin2 : InR w lo (.slice A n c) rs2 vs2 m) (hmn : 0 < m ∨ n = 0)
    (hn : n ≤ 1099511627776) (hm : m ≤ 1099511627776) (hlo : lo ≤ w.heap.size)
    (h : ∀ A' c' w', w'.ownsRow lo 44 3 (.slice A' (n + m) c') (n + m) (vs1 ++ vs2) → InR w' lo (.slice A' (n + m) c') (rs1 ++ rs2) (vs1 ++ vs2) (n + m) → w.grownBy w' (Value.slice A n c).ownBlock → wpList Tryd.prog ops Q rest (a.put o.dst (.slice A' (n + m) c')) w') :
    wpList Tryd.prog ops Q (o :: rest) a w := by
  refine wpList_plain hgd fun K hK => ?_
  obtain ⟨A', c', w', hrun, ⟨h1, h1'⟩, h2, h3⟩ := run_push_rulesV o.type lo A n c rs1 vs1 A2 m c2 rs2 vs2 lo2 l1 hown hin1 hown2 hin2 hmn hn hm hlo
  unfold Oper.wp
  simp [execOp, ho, resolve, invoke, builtin, hs, hx, hrun, Result.andThen]
  exact hK _ _ (h A' c' w' h1 h1' h2)
/-- what is written in blocks of the call's own: the lower ones stay. -/
theorem grown_own {w2 w w' : World} {G lo : Nat} {v : Value} {e : TypeId} {sz n : Nat} {xs : List Value} (h : w2.grownBy w (some G)) (hown : w.ownsRow lo e sz v n xs) (hlo : w2.heap.size ≤ lo) (hg : w.grownBy w' v.ownBlock) : w2.grownBy w' (some G) :=
  ⟨hg.os.trans h.os, hg.tape.trans h.tape, hg.output.trans h.output, Nat.le_trans h.size hg.size, fun k hk hne => (hg.block k (Nat.lt_of_lt_of_le hk h.size) (fun e => by have := (World.ownsRow.lt hown k e.symm).1; omega)).trans (h.block k hk hne)⟩
/-- a puzzle's row, kept by a write into a row of numbers or rules. -/
theorem row_own {w w' : World} {lo X : Nat} {v : Value} {e t : TypeId} {sz n : Nat} {xs : List Value} {cs : Array Value} (hX : w.heap[X]? = some (.cells cs t)) (hown : w.ownsRow lo e sz v n xs) (hne : t ≠ e) (hg : w.grownBy w' v.ownBlock) : w'.heap[X]? = some (.cells cs t) := by
  refine (hg.block X (Array.getElem?_eq_some_iff.1 hX).1 (fun e2 => ?_)).trans hX
  rcases hown.2 with ⟨rfl, _⟩ | ⟨g, cap, cur, rfl, hb, hg', _⟩
  · simp [Value.ownBlock] at e2
  · have e3 : X = g := by simpa [Value.ownBlock] using e2
    subst e3
    rw [hX] at hg'
    injection hg' with hg'
    injection hg' with _ h2 _
    exact hne h2
/-- a row of numbers, kept by a write into a row of rules. -/
theorem ow_own {w w' : World} {lo lo' A n c} {xs : List Int} {v : Value} {e : TypeId} {sz k : Nat} {vs : List Value} (h : Ow w lo A n c xs) (hown : w.ownsRow lo' e sz v k vs) (hne : 3 ≠ e) (hg : w.grownBy w' v.ownBlock) : Ow w' lo A n c xs := by
  refine World.ownsRow.kept h hg ?_
  rcases h.2 with ⟨e1, _⟩ | ⟨g1, cap1, cur1, e1, _, hr1, _⟩
  · rw [e1]; exact .inl rfl
  · refine .inr (fun e2 => ?_)
    rcases hown.2 with ⟨e3, _⟩ | ⟨g2, cap2, cur2, e3, _, hr2, _⟩
    · rw [e1, e3] at e2; simp [Value.ownBlock] at e2
    · rw [e1, e3] at e2
      simp [Value.ownBlock] at e2
      subst e2
      rw [hr1] at hr2
      injection hr2 with hr2
      injection hr2 with _ h2 _
      exact hne h2
end Go.Proofs.YtchcmgaohcldjaaDoor
set_option maxRecDepth 8000
namespace Go.Proofs.YtchcmgaohcldjaaDoor
open Go.ChangeShapes Go.WideShapes Go.ChangeAt Go.RowKit
/-! the second technique of the program: a queue of cells. -/
theorem hC_mono (m : List Int) (S u : Int) (v : Nat) {k k' : Nat} (h : k ≤ k') : hC m S u v k ≤ hC m S u v k' := by
  induction h with
  | refl => exact Nat.le_refl _
  | step _ ih => simp only [hC]; split <;> omega
/-- what a line's values leave in the queue: cells and values. -/
def qV (m : List Int) (S : Int) (N : Nat) (u : Int) : Nat → List (Nat × Nat)
  | 0 => []
  | r + 1 => if hC m S u (r + 1) N = 1 then qV m S N u r ++ [(hL m S u (r + 1) N, r + 1)] else qV m S N u r
def qU (m : List Int) (S : Int) (N : Nat) : Nat → List (Nat × Nat)
  | 0 => []
  | u + 1 => qU m S N u ++ qV m S N u N
def keepQ (o : List Int) (p : Nat × Nat) : List Int := o.set p.1 (bits .and .i64 (nth o p.1) (2 ^ p.2))
theorem qV_fold (m : List Int) (S : Int) (N : Nat) (u : Int) (o : List Int) (r : Nat) : (qV m S N u r).foldl keepQ o = hVs m S N u o r := by
  induction r with
  | zero => rfl
  | succ r ih =>
    simp only [qV, hVs]
    split
    · rw [List.foldl_append, ih]; rfl
    · exact ih
theorem qU_fold (m : List Int) (S : Int) (N u : Nat) : (qU m S N u).foldl keepQ m = hU m S N u := by
  induction u with
  | zero => rfl
  | succ u ih => simp only [qU, hU]; rw [List.foldl_append, ih, qV_fold]
theorem qV_len (m : List Int) (S : Int) (N : Nat) (u : Int) (r : Nat) : (qV m S N u r).length ≤ r := by
  induction r with
  | zero => exact Nat.le_refl _
  | succ r ih =>
    simp only [qV]
    split
    · simp; omega
    · omega
theorem qU_len (m : List Int) (S : Int) (N u : Nat) : (qU m S N u).length ≤ u * N := by
  induction u with
  | zero => simp [qU]
  | succ u ih => simp only [qU, List.length_append]; have := qV_len m S N u N; rw [Nat.succ_mul]; omega
theorem qV_in {m : List Int} {S u : Int} {N n : Nat} (hat : ∀ j, j < N → (lineAt S u j).toNat < n) (h0 : 0 < n) (r : Nat) : ∀ p ∈ qV m S N u r, p.1 < n ∧ 1 ≤ p.2 ∧ p.2 ≤ r := by
  induction r with
  | zero => intro p hp; simp [qV] at hp
  | succ r ih =>
    intro p hp
    simp only [qV] at hp
    split at hp
    · rcases List.mem_append.1 hp with h | h
      · have := ih p h; omega
      · rw [List.mem_singleton] at h; subst h
        exact ⟨hL_lt hat h0, by simp, by simp⟩
    · have := ih p hp; omega
theorem qU_in {m : List Int} {S : Int} {N n U : Nat} (hat : ∀ u : Nat, u < U → ∀ j, j < N → (lineAt S u j).toNat < n) (h0 : 0 < n) (u : Nat) (hu : u ≤ U) : ∀ p ∈ qU m S N u, p.1 < n ∧ 1 ≤ p.2 ∧ p.2 ≤ N := by
  induction u with
  | zero => intro p hp; simp [qU] at hp
  | succ u ih =>
    intro p hp
    simp only [qU] at hp
    rcases List.mem_append.1 hp with h | h
    · exact ih (by omega) p h
    · exact qV_in (hat u (by omega)) h0 N p h
/-- a queue of the call's own. -/
def fl (q : List (Nat × Nat)) : List Value := q.flatMap (fun p => [.int .i64 (p.1 : Int), .int .i64 (p.2 : Int)])
theorem fl_len (q : List (Nat × Nat)) : (fl q).length = q.length * 2 := by
  induction q with
  | nil => rfl
  | cons a q ih =>
    have : fl (a :: q) = [.int .i64 (a.1 : Int), .int .i64 (a.2 : Int)] ++ fl q := rfl
    rw [this, List.length_append, ih, List.length_cons]; simp; omega
theorem fl_app (q q' : List (Nat × Nat)) : fl (q ++ q') = fl q ++ fl q' := by simp [fl]
theorem fl_get {q : List (Nat × Nat)} {k : Nat} (h : k < q.length) : (fl q)[k * 2]? = some (.int .i64 (q[k].1 : Int)) ∧ (fl q)[k * 2 + 1]? = some (.int .i64 (q[k].2 : Int)) := by
  induction q generalizing k with
  | nil => simp at h
  | cons a q ih =>
    have e : fl (a :: q) = .int .i64 (a.1 : Int) :: .int .i64 (a.2 : Int) :: fl q := rfl
    rw [e]
    cases k with
    | zero => simp
    | succ k =>
      have h' : k < q.length := by simpa using h
      rw [show (k + 1) * 2 = k * 2 + 1 + 1 by omega]
      simpa using ih h'
def OwF (w : World) (lo : Nat) (A : Option Addr) (n c : Nat) (q : List (Nat × Nat)) : Prop := w.ownsRow lo 83 2 (.slice A n c) n (fl q)
theorem OwF.below {w w' : World} {lo n c : Nat} {A : Option Addr} {q : List (Nat × Nat)} (h : OwF w lo A n c q) (hb : Below w.heap.size w w') : OwF w' lo A n c q :=
  World.ownsRow.kept h (row := none) ⟨hb.os, hb.tape, hb.output, hb.size, fun k hk _ => hb.block k hk⟩ (by
    cases e : (Value.slice A n c).ownBlock
    · exact .inl rfl
    · exact .inr (by simp))
theorem found_info : (Tryd.prog.info? 83).map (fun i => (i.zero, i.size, i.bytes)) = some (some (.agg #[.int .i64 0, .int .i64 0]), 2, 16) := by kernel_rfl
/-- 'queue = append(queue, foundCell{cell, value})'. -/
theorem push_found {w : World} {ops : Array Oper} {rest : List Oper} {o : Oper} {a : Act} {Q : Exit → Act → World → Prop} (hgd : o.guard = none) (s x : Operand)
    (ho : o.op = .call { callee := .builtin .append, args := #[s, x], argTypes := #[80, 80] })
    (lo : Nat) (A : Option Addr) (n c : Nat) (q : List (Nat × Nat)) (p v : Nat) (hs : a.eval s = .slice A n c) (hx : a.eval x = .slice (some ⟨w.heap.size, 0, none⟩) 1 1) (hown : OwF w lo A n c q) (hn : n ≤ 1099511627776) (hlo : lo ≤ w.heap.size)
    (h : ∀ A' c' w', OwF w' lo A' (n + 1) c' (q ++ [(p, v)]) → (w.alloc (.cells #[.int .i64 (p : Int), .int .i64 (v : Int)] 83)).grownBy w' (Value.slice A n c).ownBlock → wpList Tryd.prog ops Q rest (a.put o.dst (.slice A' (n + 1) c')) w') :
    wpList Tryd.prog ops Q (o :: rest) a (w.alloc (.cells #[.int .i64 (p : Int), .int .i64 (v : Int)] 83)) := by
  obtain ⟨i0, hi, hz0, hz1, hz2⟩ := info_parts found_info
  refine wpList_append_own (P := Tryd.prog) _ hgd s x 80 ho lo 83 i0 (.agg #[.int .i64 0, .int .i64 0]) 2 16 Tryd.underlying80 hi hz0 hz1 hz2 rfl (by decide) _ n (fl q) hs (World.ownsRow.alloc hown _) ⟨w.heap.size, 0, none⟩ 1 1 [.int .i64 (p : Int), .int .i64 (v : Int)] hx rfl ?_ ?_ (by simp only [maxLen]; omega) (by omega) (by simp; omega) ?_
  · intro j u hj
    match j, hj with
    | 0, hj =>
      simp at hj
      subst hj
      simp [Addr.add]
    | 1, hj =>
      simp at hj
      subst hj
      simp [Addr.add]
  · intro u hu
    simp at hu
    rcases hu with rfl | rfl <;> rfl
  · intro v' w' h2 h3 _
    obtain ⟨g, cap, hv, _, _⟩ := World.ownsRow.form h2 (by omega)
    subst hv
    exact h _ _ _ (by unfold OwF; rw [fl_app]; exact h2) h3
set_option maxHeartbeats 1000000 in
theorem onlyPlace_any (A : Option Addr) (c n B : Nat) (m : List Int) (Ac : Option Addr) (cc N Bc : Nat) (S u : Int) (v : Nat) (w : World) (h : Rd w B A n m) (hc : Rd w Bc Ac N (lineTo S u N)) (hBm : B ≤ w.heap.size) (hBc : Bc ≤ w.heap.size) (hN : N ≤ 4) (hat : Hid (∀ j, j < N → ∃ q : Nat, lineAt S u j = (q : Int) ∧ q < n)) (hrng : Hid (∀ k, k < n → 0 ≤ nth m k ∧ nth m k ≤ 30)) (hv : v ≤ 4) :
    Calls Tryd.prog 74 #[.slice A n c, .slice Ac N cc, .int .i64 v] w fun e w' => (∃ p : Nat, e = .returned (.tuple #[.int .i64 p, .bool (hC m S u v N == 1)]) ∧ (hC m S u v N = 1 → p = hL m S u v N)) ∧ Below w.heap.size w w' := by
  go_enter Tryd.func74, Tryd.ntmps74
  go_wp2
  go_loopw [8, 9, 14] (fun pl fo i wr => ∃ k p : Nat, k ≤ N ∧ i = .int .i64 k ∧ hC m S u v k ≤ 1 ∧ pl = .int .i64 p ∧ fo = .bool (hC m S u v k == 1) ∧ Hid (hC m S u v k = 1 → p = hL m S u v k) ∧ Below w.heap.size w wr) (fun _ _ i _ => N - (intOf i).toNat)
  case atStart => exact ⟨0, 0, Nat.zero_le _, rfl, Nat.zero_le _, rfl, rfl, Lib.hid (fun h => by simp [hC] at h), Below.refl _ _⟩
  case round =>
    obtain ⟨k, p, hk, rfl, hle, rfl, rfl, hp, hb⟩ := hrel
    by_cases hlt : k < N
    · obtain ⟨q, hq, hqn⟩ := hat.out k hlt
      obtain ⟨b, off, rfl, hbB, hck⟩ := (hc.below (hb.mono hBc)).at_ hlt
      rw [show nth (lineTo S u N) k = (q : Int) by rw [← hq]; simp [lineTo, nth, List.getD_eq_getElem?_getD, hlt]] at hck
      obtain ⟨b', off', rfl, hbB', hcm⟩ := (h.below (hb.mono hBm)).at_ hqn
      obtain ⟨x0, x1⟩ := hrng.out q hqn
      obtain ⟨M, hM⟩ := Int.eq_ofNat_of_zero_le x0
      rw [hM] at hcm x1
      have hsh := and_pow0 M v (by omega) hv
      have hbit : hB m S u v k = M.testBit v := by simp only [hB, hq, Int.toNat_natCast]; rw [hM]; simp
      have hvs : v < 64 := by omega
      cases hh : M.testBit v
      · rw [hh] at hsh hbit
        have H1 := Lib.hid (show hC m S u v (k + 1) = hC m S u v k by simp [hC, hbit])
        have H2 := Lib.hid (show hL m S u v (k + 1) = hL m S u v k by simp [hL, hbit])
        clear hh hbit hM hq x0
        go_wp2
        go_quiet (fail)
        go_wp2
        go_roundw
        case rel => exact ⟨k + 1, p, by omega, by go_num, by rw [H1.out]; exact hle, rfl, by rw [H1.out], Lib.hid (by rw [H1.out, H2.out]; exact hp.out), below_drewN hb _⟩
        case measure => simp [intOf]; omega
      · rw [hh] at hsh hbit
        have H1 := Lib.hid (show hC m S u v (k + 1) = hC m S u v k + 1 by simp [hC, hbit])
        have H2 := Lib.hid (show hL m S u v (k + 1) = q by simp [hL, hbit, hq])
        clear hh hbit hM hq x0
        by_cases h1 : hC m S u v k = 1
        · have Hf := Lib.hid (show hC m S u v N ≠ 1 by have := hC_mono m S u v (show k + 1 ≤ N by omega); rw [H1.out] at this; omega)
          have f1 : (hC m S u v k == 1) = true := by simp [h1]
          rw [f1]
          clear h1 f1
          go_wp2
          go_quiet (fail)
          go_wp2
          go_ret2
          exact ⟨⟨0, by rw [show (hC m S u v N == 1) = false by simp [Hf.out]]; rfl, fun h => absurd h Hf.out⟩, below_drewN hb _⟩
        · have h0 := Lib.hid (show hC m S u v k = 0 by omega)
          have f1 : (hC m S u v k == 1) = false := by simp [h1]
          rw [f1]
          clear h1 f1
          go_wp2
          go_quiet (fail)
          go_wp2
          go_roundw
          case rel => exact ⟨k + 1, q, by omega, by go_num, by rw [H1.out, h0.out]; exact Nat.le_refl _, rfl, by rw [H1.out, h0.out]; rfl, Lib.hid (fun _ => H2.out.symm), below_drewN hb _⟩
          case measure => simp [intOf]; omega
    · obtain rfl : k = N := by omega
      obtain ⟨bb, hbb⟩ : ∃ bb, (hC m S u v k == 1) = bb := ⟨_, rfl⟩
      rw [hbb]
      go_wp2
      go_ret2
      exact ⟨⟨p, by rw [hbb]; rfl, hp.out⟩, hb⟩
theorem qV_step {m : List Int} {S u : Int} {N v : Nat} (h : 1 ≤ v) : qV m S N u v = if hC m S u v N = 1 then qV m S N u (v - 1) ++ [(hL m S u v N, v)] else qV m S N u (v - 1) := by
  obtain ⟨r, rfl⟩ : ∃ r, v = r + 1 := ⟨v - 1, by omega⟩
  rfl
theorem line_in {s u : Nat} (hs : s ∈ [2, 3, 4]) (hu : u < 2 * s) : ∀ j, j < s → ∃ q : Nat, lineAt s u j = (q : Int) ∧ q < s * s := by
  intro j hj
  simp at hs
  by_cases hx : (u : Int) < (s : Int)
  · rw [lineAt_row hx]
    refine ⟨u * s + j, by simp, ?_⟩
    rcases hs with rfl | rfl | rfl <;> omega
  · rw [lineAt_col hx]
    refine ⟨j * s + u - s, ?_, ?_⟩
    · rcases hs with rfl | rfl | rfl <;> omega
    · rcases hs with rfl | rfl | rfl <;> omega
set_option maxHeartbeats 2000000 in
theorem hiddenIn_any (A : Option Addr) (c n B : Nat) (m : List Int) (s : Nat) (w : World) (h : Rd w B A n m) (hBm : B ≤ w.heap.size) (hs : s ∈ [2, 3, 4]) (hn : n = s * s) (hrng : Hid (∀ k, k < n → 0 ≤ nth m k ∧ nth m k ≤ 30)) :
    Calls Tryd.prog 59 #[.slice A n c, .int .i64 s] w fun e w' => ∃ A' c', e = .returned (.slice A' (qU m s s (2 * s)).length c') ∧ OwF w' w.heap.size A' (qU m s s (2 * s)).length c' (qU m s s (2 * s)) ∧ Below w.heap.size w w' := by
  have hs2 : 2 ≤ s := by simp at hs; omega
  have hs4 : s ≤ 4 := by simp at hs; omega
  have Hs := Lib.hid hs
  have Hn := Lib.hid hn
  obtain ⟨T, hT⟩ : ∃ T, T = 2 * s := ⟨_, rfl⟩
  rw [← hT]
  have HT := Lib.hid hT
  have hT8 : T ≤ 8 := by omega
  clear hs hn hT
  go_enter Tryd.func59, Tryd.ntmps59
  go_wp2
  go_loopw [5, 13] (fun qv i wr => ∃ (u k : Nat) (A' : Option Addr) (c' : Nat), u ≤ T ∧ i = .int .i64 u ∧ qv = .slice A' k c' ∧ Hid ((qU m s s u).length = k) ∧ OwF wr w.heap.size A' k c' (qU m s s u) ∧ Below w.heap.size w wr) (fun _ i _ => T - (intOf i).toNat)
  case atStart => exact ⟨0, 0, none, 0, Nat.zero_le _, rfl, rfl, Lib.hid rfl, World.ownsRow_nil _ _ _ _, Below.refl _ _⟩
  case round =>
    obtain ⟨u, k, A', c', hu, rfl, rfl, hk, ho, hb⟩ := hrel
    by_cases hlt : u < T
    · have hltI : (u : Int) < 2 * (s : Int) := by have := HT.out; omega
      have HLc : Hid (Calls Tryd.prog 60 #[.int .i64 s, .int .i64 u] wr fun e w'' => ∃ A3 c3, e = .returned (.slice A3 s c3) ∧ Ow w'' wr.heap.size A3 s c3 (lineTo s u s) ∧ Below wr.heap.size wr w'') := Lib.hid ((implLineCells s u wr ⟨by omega, by omega⟩).mono (by
          rintro e w'' ⟨A3, c3, rfl, ho3, hb3⟩
          have e1 : lineL s u = lineTo s u s := by
            have : lineOk s u = true := by have := HT.out; simp [lineOk, inr]; omega
            simp [lineL, this]
          rw [e1, lineTo_length] at ho3
          rw [e1, lineTo_length]
          exact ⟨A3, c3, rfl, ho3, hb3⟩))
      have hat := Lib.hid (show ∀ j, j < s → ∃ q : Nat, lineAt s u j = (q : Int) ∧ q < n by rw [Hn.out]; exact line_in Hs.out (by have := HT.out; omega))
      have hsw := hb.size
      go_wp2_with (go_at_call 60; refine HLc.out.mono ?_; rintro e w3 ⟨A3, c3, rfl, ho3, hb3⟩)
      have hoq := ho.below hb3
      have hbq := hb.trans (hb3.mono hsw)
      have ho3' := ho3.mono hsw
      go_loopw [5, 8] (fun qv i wr => ∃ (v k : Nat) (A' : Option Addr) (c' : Nat), 1 ≤ v ∧ v ≤ s + 1 ∧ i = .int .i64 v ∧ qv = .slice A' k c' ∧ Hid ((qU m s s u ++ qV m s s u (v - 1)).length = k) ∧ OwF wr w.heap.size A' k c' (qU m s s u ++ qV m s s u (v - 1)) ∧ Ow wr w.heap.size A3 s c3 (lineTo s u s) ∧ Below w.heap.size w wr) (fun _ i _ => s + 1 - (intOf i).toNat)
      case atStart => exact ⟨1, k, A', c', by omega, by omega, rfl, rfl, Lib.hid (by simp only [Nat.sub_self, qV, List.append_nil]; exact hk.out), by simp only [Nat.sub_self, qV, List.append_nil]; exact hoq, ho3', hbq⟩
      case round =>
        clear ho hoq hbq ho3 ho3' hb3 hb HLc hk
        obtain ⟨v, k, A', c', hv1, hv2, rfl, rfl, hk, ho, ho3, hb⟩ := hrel
        have hsw := hb.size
        by_cases hvs : v ≤ s
        · have hvI : (v : Int) ≤ (s : Int) := by omega
          have HOP := Lib.hid (onlyPlace_any A c n B m A3 c3 s wr.heap.size s u v wr (h.below (hb.mono hBm)) ho3.rd (Nat.le_trans hBm hb.size) (Nat.le_refl _) hs4 hat hrng (by omega))
          have hk8 : k ≤ 1099511627776 := by
            have q1 := hk.out
            have q2 := qU_len m s s u
            have q3 := qV_len m s s u (v - 1)
            have q4 : u * s ≤ 8 * 4 := Nat.mul_le_mul (by omega) hs4
            rw [List.length_append] at q1
            omega
          by_cases h1 : hC m s u v s = 1
          · have f1 : (hC m s u v s == 1) = true := by simp [h1]
            have HQ := Lib.hid (show qV m s s u v = qV m s s u (v - 1) ++ [(hL m s u v s, v)] by rw [qV_step hv1, if_pos h1])
            have H1 := Lib.hid h1
            clear h1
            go_wp2_with (first
              | (go_at_call 74; refine HOP.out.mono ?_; rintro e w3 ⟨⟨p, rfl, hp⟩, hb3⟩; rw [f1]; have ho5 := ho.below hb3; have hp' := Lib.hid (hp H1.out); clear hp; have hs3 := Nat.le_trans hsw hb3.size)
              | (at_builtin; refine push_found rfl (.tmp 32) (.tmp 36) rfl w.heap.size A' k c' _ p v rfl rfl ho5 hk8 hs3 ?_; intro A5 c5 w5 ho6 hg6))
            have ho36 := ow_own (World.ownsRow.alloc (ho3.below hb3) _) (World.ownsRow.alloc ho5 _) (by decide) hg6
            have hb6 : Below w.heap.size w w5 := ((hb.trans (hb3.mono hsw)).alloc hs3 _).grown hg6 (by simp; omega) (fun g hg => (World.ownsRow.lt ho5 g hg).1)
            go_roundw
            case rel => exact ⟨v + 1, k + 1, A5, c5, by omega, by omega, by go_num, rfl, Lib.hid (by rw [Nat.add_sub_cancel, HQ.out, ← List.append_assoc, List.length_append, hk.out]; rfl), by rw [Nat.add_sub_cancel, HQ.out, ← List.append_assoc, ← hp'.out]; exact ho6, ho36, hb6⟩
            case measure => simp [intOf]; omega
          · have f1 : (hC m s u v s == 1) = false := by simp [h1]
            have HQ := Lib.hid (show qV m s s u v = qV m s s u (v - 1) by rw [qV_step hv1, if_neg h1])
            clear h1
            go_wp2_with (go_at_call 74; refine HOP.out.mono ?_; rintro e w3 ⟨⟨p, rfl, _⟩, hb3⟩; rw [f1])
            go_roundw
            case rel => exact ⟨v + 1, k, A', c', by omega, by omega, by go_num, rfl, Lib.hid (by rw [Nat.add_sub_cancel, HQ.out]; exact hk.out), by rw [Nat.add_sub_cancel, HQ.out]; exact ho.below hb3, ho3.below hb3, step hb hb3⟩
            case measure => simp [intOf]; omega
        · obtain rfl : v = s + 1 := by omega
          have hvI : ((s + 1 : Nat) : Int) = (s : Int) + 1 := by simp
          rw [Nat.add_sub_cancel] at hk ho
          go_wp2
          go_roundw
          case rel => exact ⟨u + 1, k, A', c', by omega, by go_num, rfl, hk, ho, hb⟩
          case measure => simp [intOf]; omega
    · have hltI : ¬ (u : Int) < 2 * (s : Int) := by have := HT.out; omega
      obtain rfl : u = T := by omega
      go_wp2
      go_ret
      rw [hk.out]
      exact ⟨_, _, rfl, ho, hb⟩
theorem OwF.set {w : World} {lo lo' g n c n' c' j : Nat} {A : Option Addr} {q : List (Nat × Nat)} {xs : List Int} (h : OwF w lo A n c q) (ho : Ow w lo' (some ⟨g, 0, none⟩) n' c' xs) (v : Value) : OwF (w.setCell ⟨g, j, none⟩ v) lo A n c q := by
  refine World.ownsRow.kept h (row := some g) grown_set ?_
  rcases h.2 with ⟨e1, _⟩ | ⟨g1, cap1, cur1, e1, _, hr1, _⟩
  · rw [e1]; exact .inl rfl
  · refine .inr (fun e2 => ?_)
    rw [e1] at e2
    have e3 : g1 = g := by simpa [Value.ownBlock] using e2
    subst e3
    rcases ho.2 with ⟨e4, _⟩ | ⟨g2, cap2, cur2, e4, _, hr2, _⟩
    · cases e4
    · injection e4 with e4 _ _
      injection e4 with e4
      injection e4 with e4 _ _
      subst e4
      rw [hr1] at hr2
      injection hr2 with hr2
      injection hr2 with _ h2 _
      exact absurd h2 (by decide)
theorem OwF.cells {w : World} {lo n c : Nat} {A : Option Addr} {q : List (Nat × Nat)} (h : OwF w lo A n c q) {k : Nat} (hk : k < n) : ∃ g, A = some ⟨g, 0, none⟩ ∧ g < w.heap.size ∧ w.cell? ⟨g, k * 2, none⟩ = some (.int .i64 ((q.getD k (0, 0)).1 : Int)) ∧ w.cell? ⟨g, k * 2 + 1, none⟩ = some (.int .i64 ((q.getD k (0, 0)).2 : Int)) := by
  obtain ⟨g, cap, hv, _, hg⟩ := World.ownsRow.form h (by omega)
  injection hv with hA _ _
  subst hA
  have hl := h.1
  rw [fl_len] at hl
  have hkq : k < q.length := by omega
  have e := fl_get hkq
  have hd : q.getD k (0, 0) = q[k] := by simp [List.getD_eq_getElem?_getD, hkq]
  refine ⟨g, rfl, hg, ?_, ?_⟩
  · rw [hd, World.ownsRow.cellAt h (k * 2) (by omega)]; exact e.1
  · rw [hd, World.ownsRow.cellAt h (k * 2 + 1) (by omega)]; exact e.2
set_option maxHeartbeats 2000000 in
theorem implNarrowHidden (A : Option Addr) (c n B : Nat) (m : List Int) (size : Int) (w : World) (h : Rd w B A n m) (hm64 : B64 m) (hBm : B ≤ w.heap.size) (hm : n ≤ 1099511627776) (hsb : -9223372036854775808 ≤ size ∧ size ≤ 9223372036854775807) :
    Calls Tryd.prog 46 #[.slice A n c, .int .i64 size] w (RetSl w (nhL m size)) := by
  have hlen := Lib.hid h.1
  have HV := Lib.hid (implMasksValid A c n B m size w h hm64 hBm hm hsb)
  cases hv : mvd m size
  · have HL := Lib.hid (show nhL m size = [] by simp [nhL, hv])
    go_enter Tryd.func46, Tryd.ntmps46
    go_wp2_with (go_at_call 43; refine HV.out.mono ?_; rintro e w1 ⟨rfl, hb1⟩; rw [hv])
    go_ret
    rw [HL.out]
    exact ⟨_, _, rfl, Ow.nil_ _ _, hb1⟩
  · obtain ⟨⟨s2, s4⟩, hsq, hn16, hrng⟩ := mvd_at hv
    rw [hlen.out] at hsq hn16 hrng
    obtain ⟨s, rfl⟩ := Int.eq_ofNat_of_zero_le (by omega : 0 ≤ size)
    have hs : s ∈ [2, 3, 4] := by simp; omega
    have hn : n = s * s := by
      have : (n : Int) = ((s * s : Nat) : Int) := by simpa using hsq
      omega
    have hn0 : 0 < n := by
      simp at hs
      rcases hs with rfl | rfl | rfl <;> omega
    have Hrng := Lib.hid (fun k (hk : k < n) => (⟨(hrng k hk).1, (hrng k hk).2.1⟩ : 0 ≤ nth m k ∧ nth m k ≤ 30))
    have HCl := Lib.hid (fun w' (hb : Below w.heap.size w w') => clone_any A n c B m w' (h.below (hb.mono hBm)) (Nat.le_trans hBm hb.size) hn0 hm)
    have HHi := Lib.hid (fun w' (hb : Below w.heap.size w w') => hiddenIn_any A c n B m s w' (h.below (hb.mono hBm)) (Nat.le_trans hBm hb.size) hs hn Hrng)
    have Hin := Lib.hid (qU_in (m := m) (S := s) (N := s) (n := n) (U := 2 * s) (fun u hu j hj => by
      obtain ⟨q, hq, hqn⟩ := line_in hs hu j hj
      rw [hq, hn]; simpa using hqn) hn0 (2 * s) (Nat.le_refl _))
    have HQ8 := Lib.hid (show (qU m s s (2 * s)).length ≤ 32 by have := qU_len m s s (2 * s); have : 2 * s * s ≤ 8 * 4 := Nat.mul_le_mul (by omega) (by omega); omega)
    have HF := Lib.hid (show nhL m s = (qU m s s (2 * s)).foldl keepQ m by rw [qU_fold]; simp [nhL, hv])
    have hs4' : s ≤ 4 := by omega
    obtain ⟨q, hq⟩ : ∃ q, q = qU m s s (2 * s) := ⟨_, rfl⟩
    rw [← hq] at HHi Hin HQ8 HF
    obtain ⟨K, hK⟩ : ∃ K, K = q.length := ⟨_, rfl⟩
    rw [← hK] at HHi HQ8
    have HK := Lib.hid hK
    have hK32 := HQ8.out
    clear hrng hsq hq hK hn hs
    go_enter Tryd.func46, Tryd.ntmps46
    go_wp2_with (first
      | (go_at_call 43; refine HV.out.mono ?_; rintro e w1 ⟨rfl, hb1⟩; rw [hv])
      | (go_at_call 56; refine (HCl.out _ hb1).mono ?_; rintro e w2 ⟨Ac, cc, rfl, ho2, hb2⟩; have hb12 := step hb1 hb2)
      | (go_at_call 59; refine (HHi.out _ hb12).mono ?_; rintro e w3 ⟨Aq, cq, rfl, hoq, hb3⟩))
    have hb13 := step hb12 hb3
    have ho3 := (ho2.mono hb1.size).below hb3
    have hoq' : OwF w3 w.heap.size Aq K cq q := World.ownsRow.mono hoq hb12.size
    obtain ⟨g, rfl, hgl, hgw⟩ := ho3.form hn0
    go_loopw [18] (fun i wr => ∃ k : Nat, k ≤ K ∧ i = .int .i64 k ∧ Ow wr w.heap.size (some ⟨g, 0, none⟩) n cc ((q.take k).foldl keepQ m) ∧ OwF wr w.heap.size Aq K cq q ∧ Below w.heap.size w wr) (fun i _ => K - (intOf i).toNat)
    case atStart => exact ⟨0, Nat.zero_le _, rfl, ho3, hoq', hb13⟩
    case round =>
      clear ho3 hoq hoq' hb13 hb12 hb1 hb2 hb3 ho2
      obtain ⟨k, hk, rfl, ho, hof, hb⟩ := hrel
      by_cases hlt : k < K
      · obtain ⟨gq, rfl, hgq, hcx, hcy⟩ := hof.cells hlt
        have hkq : k < q.length := by rw [← HK.out]; exact hlt
        have hmem : q.getD k (0, 0) ∈ q := by
          rw [List.getD_eq_getElem?_getD, List.getElem?_eq_getElem hkq]; exact List.getElem_mem _
        obtain ⟨hx, hy1, hy4⟩ := Hin.out _ hmem
        have HT := Lib.hid (show (q.take (k + 1)).foldl keepQ m = ((q.take k).foldl keepQ m).set (q.getD k (0, 0)).1 (bits .and .i64 (nth ((q.take k).foldl keepQ m) (q.getD k (0, 0)).1) (2 ^ (q.getD k (0, 0)).2)) by
          rw [List.take_add_one, List.getElem?_eq_getElem hkq]
          simp only [Option.toList_some, List.foldl_append, List.foldl_cons, List.foldl_nil, keepQ, List.getD_eq_getElem?_getD, List.getElem?_eq_getElem hkq, Option.getD_some])
        obtain ⟨x, hxe⟩ : ∃ x, x = (q.getD k (0, 0)).1 := ⟨_, rfl⟩
        obtain ⟨y, hye⟩ : ∃ y, y = (q.getD k (0, 0)).2 := ⟨_, rfl⟩
        rw [← hxe] at hcx hx HT
        rw [← hye] at hcy hy1 hy4 HT
        obtain ⟨o, hoe⟩ : ∃ o, o = (q.take k).foldl keepQ m := ⟨_, rfl⟩
        rw [← hoe] at ho HT
        clear hxe hye hmem hoe
        obtain ⟨hcell, hfr⟩ := ho.cell hx
        have hw2 : wrap64 ((2 : Int) ^ y) = 2 ^ y := by
          obtain ⟨r, rfl⟩ : ∃ r, y = r + 1 := ⟨y - 1, by omega⟩
          exact pow_wrap5 (by omega)
        have hy64 : y < 64 := by omega
        have hgr := ho.own_hi g rfl
        obtain ⟨W, hW⟩ : ∃ W, wr.alloc (.cells #[.int .i64 (x : Int), .int .i64 (y : Int)] 83) = W := ⟨_, rfl⟩
        have hoW : Ow W w.heap.size (some ⟨g, 0, none⟩) n cc o := by rw [← hW]; exact World.ownsRow.alloc ho _
        have hofW : OwF W w.heap.size (some ⟨gq, 0, none⟩) K cq q := by rw [← hW]; exact World.ownsRow.alloc hof _
        have hbW : Below w.heap.size w W := by rw [← hW]; exact hb.alloc hb.size _
        have hz0 : W.cell? ⟨wr.heap.size, 0, none⟩ = some (.int .i64 (x : Int)) := by rw [← hW]; exact cell_of_row _ _ 0 _ _ (0, 0) (heap_alloc_new wr _)
        have hz1 : W.cell? ⟨wr.heap.size, 1, none⟩ = some (.int .i64 (y : Int)) := by rw [← hW]; exact cell_of_row _ _ 1 _ _ (0, 0) (heap_alloc_new wr _)
        obtain ⟨hcW, hfW⟩ := hoW.cell hx
        have hput := Lib.hid (hoW.putN x (bits .and .i64 (nth o x) (2 ^ y)))
        have hofp := Lib.hid (hofW.set (j := x) hoW (.int .i64 (bits .and .i64 (nth o x) (2 ^ y))))
        have hbp := Lib.hid (Below.setCell (p := (⟨g, x, none⟩ : Addr)) hbW hgl (.int .i64 (bits .and .i64 (nth o x) (2 ^ y))))
        have HW := Lib.hid hW
        clear hW hofW hoW hbW
        go_wp2
        rw [HW.out]
        go_region
        go_wp2
        go_roundw
        case rel => exact ⟨k + 1, by omega, by go_num, by rw [HT.out]; exact hput.out, hofp.out, below_drewN hbp.out 1⟩
        case measure => simp [intOf]; omega
      · obtain rfl : k = K := by omega
        rw [show q.take k = q by rw [HK.out]; exact List.take_length] at ho
        go_wp2
        go_ret
        rw [HF.out]
        exact retSl_mk ho hb
end Go.Proofs.YtchcmgaohcldjaaDoor
namespace Go.Proofs.YtchcmgaohcldjaaDoor
open Go.ChangeShapes Go.WideShapes Go.ChangeAt Go.RowKit
theorem ones64_any (M : Nat) (h : M < 32) (he : M % 2 = 0) (w : World) : Calls Tryd.prog 83 #[.int .u64 M] w fun e w' => e = .returned (.int .i64 (Lib.onesCount M : Nat)) ∧ w = w' := by
  have : M = 0 ∨ M = 2 ∨ M = 4 ∨ M = 6 ∨ M = 8 ∨ M = 10 ∨ M = 12 ∨ M = 14 ∨ M = 16 ∨ M = 18 ∨ M = 20 ∨ M = 22 ∨ M = 24 ∨ M = 26 ∨ M = 28 ∨ M = 30 := by omega
  rcases this with rfl | rfl | rfl | rfl | rfl | rfl | rfl | rfl | rfl | rfl | rfl | rfl | rfl | rfl | rfl | rfl
  all_goals
    go_enter Tryd.func83, Tryd.ntmps83
    go_wp2
    go_ret
    exact ⟨by kernel_rfl, rfl⟩
theorem ones_any (M : Nat) (h : M < 32) (he : M % 2 = 0) (w : World) : Calls Tryd.prog 79 #[.int .u64 M] w fun e w' => e = .returned (.int .i64 (Lib.onesCount M : Nat)) ∧ w = w' := by
  go_enter Tryd.func79, Tryd.ntmps79
  go_wp2_with (go_at_call 83; refine (ones64_any M h he _).mono ?_; rintro e w' ⟨rfl, rfl⟩)
  go_ret
  exact ⟨rfl, rfl⟩
theorem ones_lt : ∀ M, M < 32 → Lib.onesCount M < 32 := by decide +kernel
theorem ones_bits : ∀ M, M < 32 → M % 2 = 0 → Lib.onesCount M = (bitsTo M 4).length := by decide +kernel
end Go.Proofs.YtchcmgaohcldjaaDoor
namespace Go.Proofs.YtchcmgaohcldjaaDoor
open Go.ChangeShapes Go.WideShapes Go.ChangeAt Go.RowKit

/-- the table of trailing zeros lies in its variable: what is read of it here, for the bits 0 to 15. -/
def tzI : List Nat := [0, 1, 3, 7, 15, 31, 63, 62, 61, 59, 55, 47, 30, 60, 57, 51]
def Tz (w : World) : Prop := ∀ p : Nat, p < 16 → w.cell? ⟨1, tzI.getD p 0, none⟩ = some (.int .u8 (p : Int))
theorem Tz.lt {w : World} (h : Tz w) : 1 < w.heap.size := cell_lt (h 0 (by decide))
theorem Tz.below {w w' : World} {B : Nat} (h : Tz w) (hB : 1 < B) (hb : Below B w w') : Tz w' :=
  fun p hp => (hb.cell (p := ⟨1, tzI.getD p 0, none⟩) hB).trans (h p hp)

theorem tz64_core (x k idx : Nat) (w : World) (hx0 : ((x : Int) == 0) = false)
    (key : IntKind.u64.wrap (bits BinOp.and IntKind.u64 (x : Int) (IntKind.u64.wrap (-(x : Int))) * 285870213051353865) / 288230376151711744 = (idx : Int))
    (hi : idx < 64) (hk : k < 64) (hcell : w.cell? ⟨1, idx, none⟩ = some (.int .u8 k)) :
    Calls Tryd.prog 85 #[.int .u64 x] w fun e w' => e = .returned (.int .i64 k) ∧ w = w' := by
  go_enter Tryd.func85, Tryd.ntmps85
  go_wp2_with (simp only [key])
  go_ret
  exact ⟨rfl, rfl⟩
theorem tz_core (x k idx : Nat) (w : World) (hx0 : ((x : Int) == 0) = false)
    (key : IntKind.u64.wrap (bits BinOp.and IntKind.u64 (x : Int) (IntKind.u64.wrap (-(x : Int))) * 285870213051353865) / 288230376151711744 = (idx : Int))
    (hi : idx < 64) (hk : k < 64) (hcell : w.cell? ⟨1, idx, none⟩ = some (.int .u8 k)) :
    Calls Tryd.prog 80 #[.int .u64 x] w fun e w' => e = .returned (.int .i64 k) ∧ w = w' := by
  have Key := Lib.hid key
  clear key
  go_enter Tryd.func80, Tryd.ntmps80
  go_wp2_with (go_at_call 85; refine (tz64_core x k idx _ hx0 Key.out hi hk hcell).mono ?_; rintro e w' ⟨rfl, rfl⟩)
  go_ret
  exact ⟨rfl, rfl⟩
theorem tz_any (M v : Nat) (w : World) (hT : Tz w) (h : (M = 2 ∧ v = 1) ∨ (M = 4 ∧ v = 2) ∨ (M = 8 ∧ v = 3) ∨ (M = 16 ∧ v = 4)) : Calls Tryd.prog 80 #[.int .u64 M] w fun e w' => e = .returned (.int .i64 v) ∧ w = w' := by
  have t1 := hT 1 (by decide)
  have t2 := hT 2 (by decide)
  have t3 := hT 3 (by decide)
  have t4 := hT 4 (by decide)
  rcases h with ⟨rfl, rfl⟩ | ⟨rfl, rfl⟩ | ⟨rfl, rfl⟩ | ⟨rfl, rfl⟩
  · exact tz_core 2 1 1 w (by decide) (by decide +kernel) (by decide) (by decide) t1
  · exact tz_core 4 2 3 w (by decide) (by decide +kernel) (by decide) (by decide) t2
  · exact tz_core 8 3 7 w (by decide) (by decide +kernel) (by decide) (by decide) t3
  · exact tz_core 16 4 15 w (by decide) (by decide +kernel) (by decide) (by decide) t4
def oneCase (M : Nat) : Bool := if Lib.onesCount M = 1 then ((M == 2 && oneOf (bitsTo M 4) == 1) || (M == 4 && oneOf (bitsTo M 4) == 2) || (M == 8 && oneOf (bitsTo M 4) == 3) || (M == 16 && oneOf (bitsTo M 4) == 4)) else oneOf (bitsTo M 4) == 0
theorem one_case : ∀ M, M < 32 → M % 2 = 0 → oneCase M = true := by decide +kernel
theorem onlyValue_any (M : Nat) (h : M < 32) (he : M % 2 = 0) (w : World) (hT : Tz w) : Calls Tryd.prog 72 #[.int .i64 M] w fun e w' => e = .returned (.int .i64 (oneOf (bitsTo M 4))) ∧ w = w' := by
  have hc := one_case M h he
  have hl := ones_lt M h
  unfold oneCase at hc
  obtain ⟨p, hp⟩ : ∃ p, p = Lib.onesCount M := ⟨_, rfl⟩
  have Ho := Lib.hid (fun w => ones_any M h he w)
  rw [← hp] at hc hl Ho
  by_cases h1 : p = 1
  · rw [if_pos h1] at hc
    simp only [Bool.or_eq_true, Bool.and_eq_true, beq_iff_eq] at hc
    subst h1
    have hv : ∃ v, oneOf (bitsTo M 4) = (v : Nat) ∧ ((M = 2 ∧ v = 1) ∨ (M = 4 ∧ v = 2) ∨ (M = 8 ∧ v = 3) ∨ (M = 16 ∧ v = 4)) := by
      rcases hc with ((⟨h1, h2⟩ | ⟨h1, h2⟩) | ⟨h1, h2⟩) | ⟨h1, h2⟩
      · exact ⟨1, h2, .inl ⟨h1, rfl⟩⟩
      · exact ⟨2, h2, .inr (.inl ⟨h1, rfl⟩)⟩
      · exact ⟨3, h2, .inr (.inr (.inl ⟨h1, rfl⟩))⟩
      · exact ⟨4, h2, .inr (.inr (.inr ⟨h1, rfl⟩))⟩
    obtain ⟨v, hv1, hv2⟩ := hv
    rw [hv1]
    have Ht := Lib.hid (fun w hT => tz_any M v w hT hv2)
    clear hv1 hv2 hc hp
    go_enter Tryd.func72, Tryd.ntmps72
    go_wp2_with (first | (go_at_call 79; refine (Ho.out _).mono ?_; rintro e w' ⟨rfl, rfl⟩) | (go_at_call 80; refine (Ht.out _ hT).mono ?_; rintro e w' ⟨rfl, rfl⟩))
    go_ret
    exact ⟨rfl, rfl⟩
  · rw [if_neg h1] at hc
    have hv := beq_iff_eq.1 hc
    rw [hv]
    have hne : ((p : Int) != 1) = true := by simp; omega
    clear hv hc hp h1
    go_enter Tryd.func72, Tryd.ntmps72
    go_wp2_with (go_at_call 79; refine (Ho.out _).mono ?_; rintro e w' ⟨rfl, rfl⟩)
    go_ret
    exact ⟨rfl, rfl⟩
end Go.Proofs.YtchcmgaohcldjaaDoor
