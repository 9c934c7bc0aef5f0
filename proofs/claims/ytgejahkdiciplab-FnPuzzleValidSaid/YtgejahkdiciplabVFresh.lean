import Derived.Test.YtgejahkdiciplabOwn
import Derived.Test.YtgejahkdiciplabPushAll
import Derived.Laws.Append
set_option maxRecDepth 8000
namespace Go.Proofs.Ytgejahkdiciplab
open Go.ChangeShapes Go.WideShapes Go.ChangeAt Go.RowKit

theorem le_alloc5 {a : Nat} {w : World} {o : Obj} (h : a ≤ w.heap.size) : a ≤ (w.alloc o).heap.size := by rw [World.size_alloc]; omega
theorem rule_parts : (Try.prog.info? 30).map (fun i => (i.zero, i.size, i.bytes)) = some (some (.agg #[.int .i64 0, .slice none 0 0, .int .i64 0]), 3, 40) := by kernel_rfl
/-- 'append(rules, rule)' to a slice of the call's own. -/
theorem push_rule {w : World} {ops : Array Oper} {rest : List Oper} {o : Oper} {a : Act} {Q : Exit → Act → World → Prop} (hgd : o.guard = none) (s x : Operand)
    (ho : o.op = .call { callee := .builtin .append, args := #[s, x], argTypes := #[24, 24] })
    (lo : Nat) (v : Value) (n : Nat) (vs : List Value) (g : Nat) (k : Int) (A : Option Addr) (m c : Nat) (u : Int) (hs : a.eval s = v) (hx : a.eval x = .slice (some ⟨g, 0, none⟩) 1 1)
    (hown : w.ownsRow lo 30 3 v n vs) (hrow : w.heap[g]? = some (.cells #[.int .i64 k, .slice A m c, .int .i64 u] 30)) (hn : n ≤ 1099511627776) (hlo : lo ≤ w.heap.size)
    (h : ∀ g' cap w', w'.ownsRow lo 30 3 (.slice (some ⟨g', 0, none⟩) (n + 1) cap) (n + 1) (vs ++ [.int .i64 k, .slice A m c, .int .i64 u]) → w.grownBy w' v.ownBlock → (v.ownBlock = some g' ∨ g' = w.heap.size) → wpList Try.prog ops Q rest (a.put o.dst (.slice (some ⟨g', 0, none⟩) (n + 1) cap)) w') :
    wpList Try.prog ops Q (o :: rest) a w := by
  refine wpList_plain hgd fun K hK => ?_
  obtain ⟨i0, hi, hz0, hz1, hz2⟩ := info_parts rule_parts
  obtain ⟨g', cap, w', hrun, h1, h2, h3, h4⟩ := run_append_lies (P := Try.prog) w 24 o.type lo 30 i0 (.agg #[.int .i64 0, .slice none 0 0, .int .i64 0]) 3 40 Try.underlying24 hi hz0 hz1 hz2 rfl (by decide) v n vs hown ⟨g, 0, none⟩ 1 1 [.int .i64 k, .slice A m c, .int .i64 u] rfl (World.news_of_block (cs := #[.int .i64 k, .slice A m c, .int .i64 u]) hrow) (by simp [Value.oneCell']) (by decide) (by simp only [maxLen]; omega) (by omega) hlo _ rfl
  unfold Oper.wp
  simp [execOp, ho, resolve, invoke, builtin, hs, hx, hrun, Result.andThen]
  exact hK _ _ (h g' cap w' h1 h2 h3)
/-- the first k rules, in a slice of the call's own. -/
def OwR (w : World) (lo : Nat) (v : Value) (rs : List RuleM) (k : Nat) : Prop :=
  ∃ vs, w.ownsRow lo 30 3 v k vs ∧ ∀ i, i < k → ∃ A' c', vs[i * 3]? = some (.int .i64 (rat rs i).k) ∧ vs[i * 3 + 1]? = some (.slice A' (rat rs i).xs.length c') ∧ vs[i * 3 + 2]? = some (.int .i64 (rat rs i).v) ∧ Ow w lo A' (rat rs i).xs.length c' (rat rs i).xs ∧ (rat rs i).xs.length ≤ 1099511627776 ∧ ∀ g, (Value.slice A' (rat rs i).xs.length c').ownBlock = some g → v.ownBlock ≠ some g
theorem OwR.below {w w' : World} {lo : Nat} {v : Value} {rs : List RuleM} {k : Nat} (h : OwR w lo v rs k) (hb : Below w.heap.size w w') : OwR w' lo v rs k := by
  obtain ⟨vs, hown, hin⟩ := h
  refine ⟨vs, World.ownsRow.kept hown (row := none) ⟨hb.os, hb.tape, hb.output, hb.size, fun k hk _ => hb.block k hk⟩ (by
    cases e : v.ownBlock
    · exact .inl rfl
    · exact .inr (by simp)), fun i hi => ?_⟩
  obtain ⟨A', c', e0, e1, e2, e3, e4, e5⟩ := hin i hi
  exact ⟨A', c', e0, e1, e2, e3.below hb, e4, e5⟩
theorem OwR.push {w w3 w5 : World} {lo : Nat} {v : Value} {rs : List RuleM} {u : Nat} {vs : List Value} {A3 : Option Addr} {c3 g' cap : Nat} (hown : w.ownsRow lo 30 3 v u vs)
    (hin : ∀ i, i < u → ∃ A' c', vs[i * 3]? = some (.int .i64 (rat rs i).k) ∧ vs[i * 3 + 1]? = some (.slice A' (rat rs i).xs.length c') ∧ vs[i * 3 + 2]? = some (.int .i64 (rat rs i).v) ∧ Ow w lo A' (rat rs i).xs.length c' (rat rs i).xs ∧ (rat rs i).xs.length ≤ 1099511627776 ∧ ∀ g, (Value.slice A' (rat rs i).xs.length c').ownBlock = some g → v.ownBlock ≠ some g)
    (hlo : lo ≤ w.heap.size) (hb : Below w.heap.size w w3) (ho3 : Ow w3 w.heap.size A3 (rat rs u).xs.length c3 (rat rs u).xs) (hm : (rat rs u).xs.length ≤ 1099511627776) {o : Obj}
    (h5 : w5.ownsRow lo 30 3 (.slice (some ⟨g', 0, none⟩) (u + 1) cap) (u + 1) (vs ++ [.int .i64 (rat rs u).k, .slice A3 (rat rs u).xs.length c3, .int .i64 (rat rs u).v])) (hg5 : (w3.alloc o).grownBy w5 v.ownBlock) (hl5 : v.ownBlock = some g' ∨ g' = (w3.alloc o).heap.size) :
    OwR w5 lo (.slice (some ⟨g', 0, none⟩) (u + 1) cap) rs (u + 1) := by
  have hvl : vs.length = u * 3 := hown.1
  have hs3 := hb.size
  have hg'o : (Value.slice (some ⟨g', 0, none⟩) (u + 1) cap).ownBlock = some g' := by simp [Value.ownBlock]
  refine ⟨_, h5, fun i hi => ?_⟩
  by_cases hlt : i < u
  · obtain ⟨A', c', e0, e1, e2, e3, e4, e5⟩ := hin i hlt
    refine ⟨A', c', by rw [List.getElem?_append_left (by omega)]; exact e0, by rw [List.getElem?_append_left (by omega)]; exact e1, by rw [List.getElem?_append_left (by omega)]; exact e2, ?_, e4, fun b hbb => ?_⟩
    · exact Ow.far (World.ownsRow.alloc (e3.below hb) o) hg5 e5
    · rw [hg'o]
      intro e
      injection e with e
      subst e
      have h1 := e3.own_hi g' hbb
      rcases hl5 with h | h
      · exact e5 g' hbb h
      · rw [World.size_alloc] at h; omega
  · obtain rfl : i = u := by omega
    refine ⟨A3, c3, by rw [List.getElem?_append_right (by omega), hvl, Nat.sub_self]; rfl, by rw [List.getElem?_append_right (by omega), hvl, show i * 3 + 1 - i * 3 = 1 by omega]; rfl, by rw [List.getElem?_append_right (by omega), hvl, show i * 3 + 2 - i * 3 = 2 by omega]; rfl, ?_, hm, fun b hbb => ?_⟩
    · exact (Ow.far (World.ownsRow.alloc ho3 o) hg5 (fun b hbb e => by have h1 := ho3.own_lo b hbb; have h2 := (World.ownsRow.lt hown b e).2; omega)).mono hlo
    · rw [hg'o]
      intro e
      injection e with e
      subst e
      have h1 := ho3.own_lo g' hbb
      have h2 := ho3.own_hi g' hbb
      rcases hl5 with h | h
      · have := (World.ownsRow.lt hown g' h).2; omega
      · rw [World.size_alloc] at h; omega
theorem OwR.rd {w : World} {lo k c : Nat} {A : Option Addr} {rs : List RuleM} (hl : rs.length = k) (h : OwR w lo (.slice A k c) rs k) : RdRs w w.heap.size A k rs := by
  refine ⟨hl, fun hn => ?_⟩
  obtain ⟨vs, hown, hin⟩ := h
  obtain ⟨hvl, hcase⟩ := id hown
  rcases hcase with ⟨_, h0⟩ | ⟨g, cap, cur, hv, hlog, hrow, h1, h2, h3, h4⟩
  · omega
  · injection hv with hA _ _
    subst hA
    have hlt : g < w.heap.size := (Array.getElem?_eq_some_iff.1 hrow).1
    have hcell : ∀ j u, vs[j]? = some u → w.cell? ⟨g, 0 + j, none⟩ = some u := fun j u hj => by
      rw [Nat.zero_add, cell_of_row w g j cur _ _ hrow]
      rw [← h4, List.getElem?_take] at hj
      split at hj
      · simpa using hj
      · cases hj
    refine ⟨g, 0, rfl, hlt, fun i hi => ?_⟩
    obtain ⟨A', c', e0, e1, e2, e3, e4, e5⟩ := hin i hi
    exact ⟨A', c', hcell _ _ e0, by rw [Nat.add_assoc]; exact hcell _ _ e1, by rw [Nat.add_assoc]; exact hcell _ _ e2, e3.rd, e4⟩
set_option maxHeartbeats 1000000 in
theorem specOwnRules (A : Option Addr) (n c B : Nat) (rs : List RuleM) (w : World) (h : RdRs w B A n rs) (hB : B ≤ w.heap.size) (hm : n ≤ 1099511627775) :
    Calls Try.prog 111 #[.slice A n c] w fun e w' => ∃ A' c', e = .returned (.slice A' n c') ∧ OwR w' w.heap.size (.slice A' n c') rs n ∧ Below w.heap.size w w' := by
  go_enter Try.func111, Try.ntmps111
  go_wp2
  have hr0 : OwR (w.alloc (.cells #[] 30)) w.heap.size (.slice (some ⟨w.heap.size, 0, none⟩) 0 0) rs 0 := ⟨[], World.ownsRow_made _ #[] 0 (Nat.le_refl _) (by simp [maxLen]) rfl, fun i hi => absurd hi (by omega)⟩
  have hb0 : Below w.heap.size w (w.alloc (.cells #[] 30)) := (Below.refl _ _).alloc (Nat.le_refl _) _
  go_loopw [3, 4] (fun v i wr => ∃ (u : Nat) (A' : Option Addr) (c' : Nat), u ≤ n ∧ i = .int .i64 u ∧ v = .slice A' u c' ∧ OwR wr w.heap.size v rs u ∧ Below w.heap.size w wr) (fun _ i _ => n - (intOf i).toNat)
  case atStart => exact ⟨0, _, _, Nat.zero_le _, rfl, rfl, hr0, hb0⟩
  case round =>
    obtain ⟨u, A', c', hu, rfl, rfl, hown, hb⟩ := hrel
    by_cases hlt : u < n
    · obtain ⟨b, off, hA, hbB, hcc⟩ := (h.below (hb.mono hB)).2 (by omega)
      subst hA
      obtain ⟨A2, c2, r0, r1, r2, r3, r4⟩ := hcc u hlt
      obtain ⟨vs, hown, hin⟩ := hown
      have hsw := hb.size
      have HR := Lib.hid (specOwnRule (rat rs u).k A2 (rat rs u).xs.length c2 B (rat rs u).xs (rat rs u).v wr r3 (Nat.le_trans hB hsw) r4)
      have HK : Hid (∀ w', Below wr.heap.size wr w' → w'.ownsRow w.heap.size 30 3 (.slice A' u c') u vs) := Lib.hid (fun w' hb => World.ownsRow.kept hown (row := none) ⟨hb.os, hb.tape, hb.output, hb.size, fun k hk _ => hb.block k hk⟩ (by
        cases e : (Value.slice A' u c').ownBlock
        · exact .inl rfl
        · exact .inr (by simp)))
      have hn1 : u ≤ 1099511627776 := by omega
      clear hcc
      have Hin := Lib.hid hin
      clear hin
      go_wp2_with (first
        | (go_at_call 120; refine HR.out.mono ?_; rintro e w3 ⟨A3, c3, rfl, ho3, hb3⟩; have hlo3 := Nat.le_trans hsw hb3.size; have hown3 := World.ownsRow.alloc (HK.out _ hb3) (.cells #[.int .i64 (rat rs u).k, .slice A3 (rat rs u).xs.length c3, .int .i64 (rat rs u).v] 30))
        | (at_builtin; (refine push_rule rfl (.tmp 12) (.tmp 18) rfl w.heap.size (.slice A' u c') u vs w3.heap.size (rat rs u).k A3 (rat rs u).xs.length c3 (rat rs u).v rfl rfl hown3 (heap_alloc_new w3 _) hn1 (le_alloc5 hlo3) ?_); intro g5 cap5 w5 ho5 hg5 hl5))
      go_roundw
      case rel => exact ⟨u + 1, _, _, by omega, by go_num, rfl, OwR.push hown Hin.out hsw hb3 ho3 r4 ho5 hg5 hl5, ((hb.trans (hb3.mono hsw)).alloc hlo3 _).grown hg5 (le_alloc5 hlo3) (fun k hk => (World.ownsRow.lt hown k hk).1)⟩
      case measure => simp [intOf]; omega
    · obtain rfl : u = n := by omega
      go_wp2
      go_ret
      exact ⟨_, _, rfl, hown, hb⟩
end Go.Proofs.Ytgejahkdiciplab
set_option maxRecDepth 8000
namespace Go.Proofs.Ytgejahkdiciplab
open Go.ChangeShapes Go.WideShapes Go.ChangeAt Go.RowKit
/-! 'append(rules, more...)' to a slice of the call's own, what is appended being of the call's own, too. -/
theorem rat_left {rs1 rs2 : List RuleM} {n i : Nat} (hl : rs1.length = n) (hi : i < n) : rat (rs1 ++ rs2) i = rat rs1 i := by
  simp [rat, List.getD_eq_getElem?_getD, List.getElem?_append_left (by omega : i < rs1.length)]
theorem rat_right {rs1 rs2 : List RuleM} {n i : Nat} (hl : rs1.length = n) : rat (rs1 ++ rs2) (n + i) = rat rs2 i := by
  simp [rat, List.getD_eq_getElem?_getD, List.getElem?_append_right (by omega : rs1.length ≤ n + i), hl]
/-- the inner slices of a list of rules, none of them in v's block. -/
def InR (w : World) (lo : Nat) (v : Value) (rs : List RuleM) (vs : List Value) (m : Nat) : Prop :=
  ∀ i, i < m → ∃ A' c', vs[i * 3]? = some (.int .i64 (rat rs i).k) ∧ vs[i * 3 + 1]? = some (.slice A' (rat rs i).xs.length c') ∧ vs[i * 3 + 2]? = some (.int .i64 (rat rs i).v) ∧ Ow w lo A' (rat rs i).xs.length c' (rat rs i).xs ∧ (rat rs i).xs.length ≤ 1099511627776 ∧ ∀ g, (Value.slice A' (rat rs i).xs.length c').ownBlock = some g → v.ownBlock ≠ some g
theorem inR_one {w : World} {lo : Nat} {v : Value} {rs : List RuleM} {vs : List Value} {m : Nat} (h : InR w lo v rs vs m) (hl : vs.length = m * 3) : ∀ u ∈ vs, u.oneCell' = true := by
  intro u hu
  obtain ⟨j, hj, rfl⟩ := List.mem_iff_getElem.1 hu
  obtain ⟨A', c', e0, e1, e2, _⟩ := h (j / 3) (by omega)
  have hjj : vs[j]? = some vs[j] := List.getElem?_eq_getElem hj
  have : j % 3 = 0 ∨ j % 3 = 1 ∨ j % 3 = 2 := by omega
  rcases this with r | r | r
  · rw [show j / 3 * 3 = j by omega, hjj] at e0
    rw [Option.some.inj e0]; rfl
  · rw [show j / 3 * 3 + 1 = j by omega, hjj] at e1
    rw [Option.some.inj e1]; rfl
  · rw [show j / 3 * 3 + 2 = j by omega, hjj] at e2
    rw [Option.some.inj e2]; rfl
theorem run_push_rulesV {w : World} (ty : TypeId) (lo : Nat) (A : Option Addr) (n c : Nat) (rs1 : List RuleM) (vs1 : List Value) (A2 : Option Addr) (m c2 : Nat) (rs2 : List RuleM) (vs2 : List Value) (lo2 : Nat) (l1 : rs1.length = n)
    (hown : w.ownsRow lo 30 3 (.slice A n c) n vs1) (hin1 : InR w lo (.slice A n c) rs1 vs1 n) (hown2 : w.ownsRow lo2 30 3 (.slice A2 m c2) m vs2) (hin2 : InR w lo (.slice A n c) rs2 vs2 m) (hmn : 0 < m ∨ n = 0)
    (hn : n ≤ 1099511627776) (hm : m ≤ 1099511627776) (hlo : lo ≤ w.heap.size) :
    ∃ A' c' w', (Builtin.append_ #[24, 24] ty #[.slice A n c, .slice A2 m c2]).run Try.prog w = .ok (.slice A' (n + m) c') w' ∧ (w'.ownsRow lo 30 3 (.slice A' (n + m) c') (n + m) (vs1 ++ vs2) ∧ InR w' lo (.slice A' (n + m) c') (rs1 ++ rs2) (vs1 ++ vs2) (n + m)) ∧ w.grownBy w' (Value.slice A n c).ownBlock ∧ (∀ g, (Value.slice A' (n + m) c').ownBlock = some g → (Value.slice A n c).ownBlock = some g ∨ g = w.heap.size) := by
  obtain ⟨i0, hi, hz0, hz1, hz2⟩ := info_parts rule_parts
  obtain ⟨hvl2, hcase⟩ := id hown2
  have hvl1 := hown.1
  by_cases h0 : 0 < m
  · rcases hcase with ⟨_, h00⟩ | ⟨g2, cap2, cur, hv, _, hrow, h1, h2, h3, h4⟩
    · omega
    · injection hv with e1 _ e2
      subst e1
      have hcell : ∀ j u, vs2[j]? = some u → w.cell? ((⟨g2, 0, none⟩ : Addr).add j) = some u := fun j u hj => by
        have hadd : (⟨g2, 0, none⟩ : Addr).add j = ⟨g2, j, none⟩ := by unfold Addr.add; split <;> simp_all
        rw [hadd, cell_of_row w g2 j cur _ _ hrow]
        rw [← h4, List.getElem?_take] at hj
        split at hj
        · simpa using hj
        · cases hj
      obtain ⟨g, cap, w', hrun, k2, k3, k4, k5⟩ := run_append_lies (P := Try.prog) w 24 ty lo 30 i0 (.agg #[.int .i64 0, .slice none 0 0, .int .i64 0]) 3 40 Try.underlying24 hi hz0 hz1 hz2 rfl (by decide) _ n vs1 hown ⟨g2, 0, none⟩ m c2 vs2 hvl2 hcell (inR_one hin2 hvl2) h0 (by simp only [maxLen]; omega) (by omega) hlo _ rfl
      have hlast : ∀ g', (Value.slice (some ⟨g, 0, none⟩) (n + m) cap).ownBlock = some g' → (Value.slice A n c).ownBlock = some g' ∨ g' = w.heap.size := fun g' hg' => by
        have : g' = g := by simp [Value.ownBlock] at hg'; omega
        subst this
        exact k4
      have hout : ∀ (A' : Option Addr) (l c' : Nat) (xs : List Int), Ow w lo A' l c' xs → (∀ b, (Value.slice A' l c').ownBlock = some b → (Value.slice A n c).ownBlock ≠ some b) → Ow w' lo A' l c' xs ∧ ∀ b, (Value.slice A' l c').ownBlock = some b → (Value.slice (some ⟨g, 0, none⟩) (n + m) cap).ownBlock ≠ some b := fun A' l c' xs ho hne => by
        refine ⟨Ow.far ho k3 hne, fun b hb e => ?_⟩
        have := World.ownsRow.lt ho b hb
        rcases hlast b e with h | h
        · exact hne b hb h
        · omega
      refine ⟨some ⟨g, 0, none⟩, cap, w', hrun, ⟨k2, fun i hi => ?_⟩, k3, hlast⟩
      by_cases hlt : i < n
      · obtain ⟨A', c', e0, e1, e2, e3, e4, e5⟩ := hin1 i hlt
        rw [rat_left l1 hlt]
        obtain ⟨q1, q2⟩ := hout _ _ _ _ e3 e5
        exact ⟨A', c', by rw [List.getElem?_append_left (by omega)]; exact e0, by rw [List.getElem?_append_left (by omega)]; exact e1, by rw [List.getElem?_append_left (by omega)]; exact e2, q1, e4, q2⟩
      · obtain ⟨q, rfl⟩ : ∃ q, i = n + q := ⟨i - n, by omega⟩
        obtain ⟨A', c', e0, e1, e2, e3, e4, e5⟩ := hin2 q (by omega)
        rw [rat_right l1]
        obtain ⟨q1, q2⟩ := hout _ _ _ _ e3 e5
        exact ⟨A', c', by rw [List.getElem?_append_right (by omega), show (n + q) * 3 - vs1.length = q * 3 by omega]; exact e0, by rw [List.getElem?_append_right (by omega), show (n + q) * 3 + 1 - vs1.length = q * 3 + 1 by omega]; exact e1, by rw [List.getElem?_append_right (by omega), show (n + q) * 3 + 2 - vs1.length = q * 3 + 2 by omega]; exact e2, q1, e4, q2⟩
  · obtain rfl : m = 0 := by omega
    obtain rfl : n = 0 := by omega
    have hsrc : Go.Src Try.prog i0.size 24 (.slice A2 0 c2) 0 [] w := by
      cases A2 with
      | none => exact Go.Src.ofNil w Try.underlying24 c2
      | some a => exact Go.Src.ofSlice w Try.underlying24 a 0 c2 [] (by simp) (fun j u hj => by simp at hj) (fun u hu => by simp at hu)
    exact ⟨A, c, w, run_append_nothing w 24 24 ty 30 i0 Try.underlying24 hi A 0 c (Nat.zero_le _) _ hsrc, ⟨by rw [show vs2 = [] from List.eq_nil_of_length_eq_zero (by omega), List.append_nil]; exact hown, fun i hi => absurd hi (by omega)⟩, World.grownBy.refl _ _, fun g hg => .inl hg⟩
theorem run_push_rules {w : World} (ty : TypeId) (lo : Nat) (A : Option Addr) (n c : Nat) (rs1 : List RuleM) (vs1 : List Value) (A2 : Option Addr) (m c2 : Nat) (rs2 : List RuleM) (vs2 : List Value) (lo2 : Nat) (l1 : rs1.length = n)
    (hown : w.ownsRow lo 30 3 (.slice A n c) n vs1) (hin1 : InR w lo (.slice A n c) rs1 vs1 n) (hown2 : w.ownsRow lo2 30 3 (.slice A2 m c2) m vs2) (hin2 : InR w lo (.slice A n c) rs2 vs2 m) (hmn : 0 < m ∨ n = 0)
    (hn : n ≤ 1099511627776) (hm : m ≤ 1099511627776) (hlo : lo ≤ w.heap.size) :
    ∃ A' c' w', (Builtin.append_ #[24, 24] ty #[.slice A n c, .slice A2 m c2]).run Try.prog w = .ok (.slice A' (n + m) c') w' ∧ OwR w' lo (.slice A' (n + m) c') (rs1 ++ rs2) (n + m) ∧ w.grownBy w' (Value.slice A n c).ownBlock ∧ (∀ g, (Value.slice A' (n + m) c').ownBlock = some g → (Value.slice A n c).ownBlock = some g ∨ g = w.heap.size) := by
  obtain ⟨A', c', w', hrun, ⟨k1, k2⟩, k3, k4⟩ := run_push_rulesV ty lo A n c rs1 vs1 A2 m c2 rs2 vs2 lo2 l1 hown hin1 hown2 hin2 hmn hn hm hlo
  exact ⟨A', c', w', hrun, ⟨_, k1, k2⟩, k3, k4⟩
/-- where the cells of the rules of a row lie. -/
def CbV (vs : List Value) (m : Nat) (Q : Nat → Prop) : Prop := ∀ i A' n' c', i < m → vs[i * 3 + 1]? = some (.slice A' n' c') → ∀ g, (Value.slice A' n' c').ownBlock = some g → Q g
def SpQ (w : World) (lo : Nat) (v : Value) (k : Nat) (Q : Nat → Prop) : Prop := ∃ vs, w.ownsRow lo 30 3 v k vs ∧ CbV vs k Q
theorem CbV.nil {Q : Nat → Prop} : CbV [] 0 Q := fun i _ _ _ hi => absurd hi (by omega)
theorem CbV.app {vs1 vs2 : List Value} {n m : Nat} {Q : Nat → Prop} (hl : vs1.length = n * 3) (h1 : CbV vs1 n Q) (h2 : CbV vs2 m Q) : CbV (vs1 ++ vs2) (n + m) Q := by
  intro i A' n' c' hi he g hg
  by_cases hlt : i < n
  · rw [List.getElem?_append_left (by omega)] at he
    exact h1 i A' n' c' hlt he g hg
  · obtain ⟨q, rfl⟩ : ∃ q, i = n + q := ⟨i - n, by omega⟩
    rw [List.getElem?_append_right (by omega), show (n + q) * 3 + 1 - vs1.length = q * 3 + 1 by omega] at he
    exact h2 q A' n' c' (by omega) he g hg
theorem CbV.one {x y z : Value} {Q : Nat → Prop} (h : ∀ g, y.ownBlock = some g → Q g) : CbV [x, y, z] 1 Q := by
  intro i A' n' c' hi he g hg
  obtain rfl : i = 0 := by omega
  simp at he
  rw [he] at h
  exact h g hg
theorem CbV.imp {vs : List Value} {m : Nat} {Q Q' : Nat → Prop} (h : CbV vs m Q) (hq : ∀ g, Q g → Q' g) : CbV vs m Q' := fun i A' n' c' hi he g hg => hq g (h i A' n' c' hi he g hg)
theorem SpQ.imp {w : World} {lo k : Nat} {v : Value} {Q Q' : Nat → Prop} (h : SpQ w lo v k Q) (hq : ∀ g, Q g → Q' g) : SpQ w lo v k Q' := by
  obtain ⟨vs, h1, h2⟩ := h
  exact ⟨vs, h1, h2.imp hq⟩
theorem SpQ.map {w w' : World} {lo k : Nat} {v : Value} {Q : Nat → Prop} (h : SpQ w lo v k Q) (hm : ∀ vs, w.ownsRow lo 30 3 v k vs → w'.ownsRow lo 30 3 v k vs) : SpQ w' lo v k Q := by
  obtain ⟨vs, h1, h2⟩ := h
  exact ⟨vs, hm vs h1, h2⟩
theorem SpQ.below {w w' : World} {lo k : Nat} {v : Value} {Q : Nat → Prop} (h : SpQ w lo v k Q) (hb : Below w.heap.size w w') : SpQ w' lo v k Q :=
  h.map fun vs hown => World.ownsRow.kept hown (row := none) ⟨hb.os, hb.tape, hb.output, hb.size, fun k hk _ => hb.block k hk⟩ (by cases e : v.ownBlock <;> simp)
theorem SpQ.keptL {w w' : World} {lo G k : Nat} {v : Value} {Q : Nat → Prop} (h : SpQ w lo v k Q) (hg : w.grownBy w' (some G)) (hG : G < lo) : SpQ w' lo v k Q :=
  h.map fun vs hown => World.ownsRow.kept hown hg (by
    cases e : v.ownBlock
    · exact .inl rfl
    · refine .inr (fun e2 => ?_)
      have h1 := (World.ownsRow.lt hown _ e).1
      have h2 := Option.some.inj e2
      omega)
theorem SpQ.nil {w : World} {lo : Nat} {Q : Nat → Prop} : SpQ w lo (.slice none 0 0) 0 Q := ⟨[], World.ownsRow_nil _ _ _ _, CbV.nil⟩
theorem ownsRow_same {w : World} {lo lo' k sz : Nat} {e : TypeId} {v : Value} {xs ys : List Value} (h : w.ownsRow lo e sz v k xs) (h' : w.ownsRow lo' e sz v k ys) : xs = ys := by
  rcases h.2 with ⟨e1, h0⟩ | ⟨g, cap, cur, hv, _, hg, _, _, _, h4⟩
  · rw [List.eq_nil_of_length_eq_zero (by rw [h.1, h0, Nat.zero_mul] : xs.length = 0), List.eq_nil_of_length_eq_zero (by rw [h'.1, h0, Nat.zero_mul] : ys.length = 0)]
  · rcases h'.2 with ⟨e1', h0'⟩ | ⟨g', cap', cur', hv', _, hg', _, _, _, h4'⟩
    · rw [List.eq_nil_of_length_eq_zero (by rw [h.1, h0', Nat.zero_mul] : xs.length = 0), List.eq_nil_of_length_eq_zero (by rw [h'.1, h0', Nat.zero_mul] : ys.length = 0)]
    · rw [hv] at hv'
      injection hv' with e1 _ _
      injection e1 with e1
      injection e1 with e1 _ _
      subst e1
      rw [hg] at hg'
      injection hg' with hg'
      injection hg' with e2 _ _
      subst e2
      rw [← h4, ← h4']
theorem OwR.with_ {w : World} {lo k : Nat} {v : Value} {rs : List RuleM} {Q : Nat → Prop} (h : OwR w lo v rs k) (hs : SpQ w lo v k Q) : ∃ vs, w.ownsRow lo 30 3 v k vs ∧ InR w lo v rs vs k ∧ CbV vs k Q := by
  obtain ⟨vs, h1, h2⟩ := h
  obtain ⟨vs', h3, h4⟩ := hs
  obtain rfl := ownsRow_same h1 h3
  exact ⟨vs, h1, h2, h4⟩
/-- every row's own: its cells lie below the world's end. -/
theorem OwR.hi {w : World} {lo k : Nat} {v : Value} {rs : List RuleM} (h : OwR w lo v rs k) : SpQ w lo v k (fun g => g < w.heap.size) := by
  obtain ⟨vs, h1, h2⟩ := h
  refine ⟨vs, h1, fun i A' n' c' hi he g hg => ?_⟩
  obtain ⟨A2, c2, _, e1, _, ho, _⟩ := h2 i hi
  rw [he] at e1
  injection e1 with e1
  rw [e1] at hg
  exact ho.own_hi g hg
theorem OwR.lo_ {w : World} {lo k : Nat} {v : Value} {rs : List RuleM} (h : OwR w lo v rs k) : SpQ w lo v k (fun g => lo ≤ g) := by
  obtain ⟨vs, h1, h2⟩ := h
  refine ⟨vs, h1, fun i A' n' c' hi he g hg => ?_⟩
  obtain ⟨A2, c2, _, e1, _, ho, _⟩ := h2 i hi
  rw [he] at e1
  injection e1 with e1
  rw [e1] at hg
  exact ho.own_lo g hg
/-- at a step of a region that draws its order. -/
theorem step_push_rules {w : World} {ops : Array Oper} {o : Oper} {a : Act} {K : Act → World → Prop} {Q : Exit → Act → World → Prop} {E : Prop} (hgd : o.guard = none) (s x : Operand)
    (ho : o.op = .call { callee := .builtin .append, args := #[s, x], argTypes := #[24, 24] })
    (lo : Nat) (A : Option Addr) (n c : Nat) (rs1 : List RuleM) (vs1 : List Value) (A2 : Option Addr) (m c2 : Nat) (rs2 : List RuleM) (vs2 : List Value) (lo2 : Nat) (hs : a.eval s = .slice A n c) (hx : a.eval x = .slice A2 m c2) (l1 : rs1.length = n)
    (hown : w.ownsRow lo 30 3 (.slice A n c) n vs1) (hin1 : InR w lo (.slice A n c) rs1 vs1 n) (hown2 : w.ownsRow lo2 30 3 (.slice A2 m c2) m vs2) (hin2 : InR w lo (.slice A n c) rs2 vs2 m) (hmn : 0 < m ∨ n = 0)
    (hn : n ≤ 1099511627776) (hm : m ≤ 1099511627776) (hlo : lo ≤ w.heap.size)
    (h : ∀ A' c' w', OwR w' lo (.slice A' (n + m) c') (rs1 ++ rs2) (n + m) → w.grownBy w' (Value.slice A n c).ownBlock → (∀ g, (Value.slice A' (n + m) c').ownBlock = some g → (Value.slice A n c).ownBlock = some g ∨ g = w.heap.size) → K (a.put o.dst (.slice A' (n + m) c')) w') :
    if Region.wanted o (yielded ops a.tmps) = true then Oper.wp Try.prog o a w K Q else E := by
  obtain ⟨A', c', w', hrun, h1, h2, h3⟩ := run_push_rules o.type lo A n c rs1 vs1 A2 m c2 rs2 vs2 lo2 l1 hown hin1 hown2 hin2 hmn hn hm hlo
  have hw : Region.wanted o (yielded ops a.tmps) = true := by simp [Region.wanted, hgd]
  rw [if_pos hw]
  unfold Oper.wp execOp
  simp only [ho, resolve, invoke, builtin, Sem.run_bind, Sem.run_pure, Result.andThen_ok, List.map_toArray, List.map_cons, List.map_nil, hs, hx, hrun]
  exact h A' c' w' h1 h2 h3
end Go.Proofs.Ytgejahkdiciplab
set_option maxRecDepth 8000
namespace Go.Proofs.Ytgejahkdiciplab
open Go.ChangeShapes Go.WideShapes Go.ChangeAt Go.RowKit
/-! 'append([]int{}, t...)', 'append([]impl.Rule{}, t...)': nothing that lay there changes, wherever the empty literal lies. -/
theorem below_none {w w' : World} (h : w.grownBy w' none) : Below w.heap.size w w' := ⟨h.os, h.tape, h.output, h.size, fun k hk => h.block k hk (by simp)⟩
theorem fresh_same {e t : TypeId} (ty : TypeId) {i0 : TypeInfo} {z : Value} (ht : Try.prog.underlying t = some (.slice e)) (hi : Try.prog.info? e = some i0) (hz : i0.zero = some z) {w : World} (b : Nat) (ad : Addr) (m c2 : Nat) (news : List Value) (hl : news.length = m * i0.size) (hnews : ∀ j u, news[j]? = some u → w.cell? (ad.add j) = some u)
    (hm : 0 < m) (h63 : (m : Int) ≤ 9223372036854775807) (hfit : m * i0.bytes ≤ 281474976710656) :
    (Builtin.append_ #[t, t] ty #[.slice (some ⟨b, 0, none⟩) 0 0, .slice (some ad) m c2]).run Try.prog w = (Builtin.append_ #[t, t] ty #[.slice none 0 0, .slice (some ad) m c2]).run Try.prog w := by
  rw [run_append_grow w t ty e i0 z ht hi hz ⟨b, 0, none⟩ 0 0 [] (by simp) (by simp) ad m c2 news hl hnews (by omega) (by simpa using h63) (by rw [Nat.zero_add, nextslicecap_zero hm]; exact hfit)]
  rw [run_append_nil w t ty e i0 z ht hi hz ad m c2 news hl hnews (by omega) h63 hfit]
  simp
theorem fresh_ints {w : World} (ty : TypeId) (b : Nat) (A2 : Option Addr) (m c2 B : Nat) (ys : List Int) (hr : Rd w B A2 m ys) (h0 : 0 < m) (hm : m ≤ 1099511627776) :
    ∃ A' c' w', (Builtin.append_ #[23, 23] ty #[.slice (some ⟨b, 0, none⟩) 0 0, .slice A2 m c2]).run Try.prog w = .ok (.slice A' m c') w' ∧ Ow w' w.heap.size A' m c' ys ∧ Below w.heap.size w w' := by
  obtain ⟨i0, hi, hz0, hz1, hz2⟩ := info_parts int_info
  obtain ⟨A', c', w', hrun, h1, h2, _⟩ := run_push_all ty w.heap.size none 0 0 [] A2 m c2 B ys (Ow.nil_ _ _) hr (.inr rfl) (by omega) hm (Nat.le_refl _)
  obtain ⟨b2, off, rfl, _, _⟩ := hr.at_ h0
  rw [Nat.zero_add] at hrun h1
  rw [List.nil_append] at h1
  exact ⟨A', c', w', (fresh_same ty Try.underlying23 hi hz0 b _ m c2 (vals ys) (by rw [vals_length, hr.1, hz1]; omega) hr.news h0 (by omega) (by rw [hz2]; omega)).trans hrun, h1, below_none h2⟩
theorem fresh_rulesV {w : World} (ty : TypeId) (b : Nat) (A2 : Option Addr) (m c2 lo lo2 : Nat) (rs2 : List RuleM) (vs2 : List Value) (hl2 : rs2.length = m) (hown2 : w.ownsRow lo2 30 3 (.slice A2 m c2) m vs2) (hin2 : InR w lo (.slice none 0 0) rs2 vs2 m)
    (hlit : w.heap[b]? = some (.cells #[] 30)) (hb : lo ≤ b) (hm : m ≤ 1099511627776) (hlo : lo ≤ w.heap.size) :
    ∃ A' c' w', (Builtin.append_ #[24, 24] ty #[.slice (some ⟨b, 0, none⟩) 0 0, .slice A2 m c2]).run Try.prog w = .ok (.slice A' m c') w' ∧ (w'.ownsRow lo 30 3 (.slice A' m c') m vs2 ∧ InR w' lo (.slice A' m c') rs2 vs2 m) ∧ Below w.heap.size w w' := by
  obtain ⟨i0, hi, hz0, hz1, hz2⟩ := info_parts rule_parts
  by_cases h0 : 0 < m
  · obtain ⟨A', c', w', hrun, h1, h2, _⟩ := run_push_rulesV ty lo none 0 0 [] [] A2 m c2 rs2 vs2 lo2 rfl (World.ownsRow_nil _ _ _ _) (fun i hi => absurd hi (by omega)) hown2 hin2 (.inl h0) (by omega) hm hlo
    obtain ⟨hvl2, hcase⟩ := id hown2
    rcases hcase with ⟨_, h00⟩ | ⟨g2, cap2, cur, hv, _, hrow, q1, q2, q3, q4⟩
    · omega
    · injection hv with e1 _ e2
      subst e1
      have hcell : ∀ j u, vs2[j]? = some u → w.cell? ((⟨g2, 0, none⟩ : Addr).add j) = some u := fun j u hj => by
        have hadd : (⟨g2, 0, none⟩ : Addr).add j = ⟨g2, j, none⟩ := by unfold Addr.add; split <;> simp_all
        rw [hadd, cell_of_row w g2 j cur _ _ hrow]
        rw [← q4, List.getElem?_take] at hj
        split at hj
        · simpa using hj
        · cases hj
      rw [Nat.zero_add] at hrun h1
      rw [List.nil_append, List.nil_append] at h1
      exact ⟨A', c', w', (fresh_same ty Try.underlying24 hi hz0 b _ m c2 vs2 (by rw [hvl2, hz1]) hcell h0 (by omega) (by rw [hz2]; omega)).trans hrun, h1, below_none h2⟩
  · obtain rfl : m = 0 := by omega
    have hsrc : Go.Src Try.prog i0.size 24 (.slice A2 0 c2) 0 [] w := by
      cases A2 with
      | none => exact Go.Src.ofNil w Try.underlying24 c2
      | some a => exact Go.Src.ofSlice w Try.underlying24 a 0 c2 [] (by simp) (fun j u hj => by simp at hj) (fun u hu => by simp at hu)
    refine ⟨some ⟨b, 0, none⟩, 0, w, run_append_nothing w 24 24 ty 30 i0 Try.underlying24 hi (some ⟨b, 0, none⟩) 0 0 (Nat.zero_le _) _ hsrc, ⟨by rw [show vs2 = [] from List.eq_nil_of_length_eq_zero (by rw [hown2.1, Nat.zero_mul])]; exact ⟨by simp, .inr ⟨b, 0, #[], rfl, hb, hlit, Nat.le_refl _, by simp [maxLen], by simp, by simp⟩⟩, fun i hi => absurd hi (by omega)⟩, Below.refl _ _⟩
theorem fresh_rules {w : World} (ty : TypeId) (b : Nat) (A2 : Option Addr) (m c2 lo lo2 : Nat) (rs2 : List RuleM) (vs2 : List Value) (hl2 : rs2.length = m) (hown2 : w.ownsRow lo2 30 3 (.slice A2 m c2) m vs2) (hin2 : InR w lo (.slice none 0 0) rs2 vs2 m)
    (hlit : w.heap[b]? = some (.cells #[] 30)) (hb : lo ≤ b) (hm : m ≤ 1099511627776) (hlo : lo ≤ w.heap.size) :
    ∃ A' c' w', (Builtin.append_ #[24, 24] ty #[.slice (some ⟨b, 0, none⟩) 0 0, .slice A2 m c2]).run Try.prog w = .ok (.slice A' m c') w' ∧ OwR w' lo (.slice A' m c') rs2 m ∧ Below w.heap.size w w' := by
  obtain ⟨A', c', w', hrun, ⟨k1, k2⟩, k3⟩ := fresh_rulesV ty b A2 m c2 lo lo2 rs2 vs2 hl2 hown2 hin2 hlit hb hm hlo
  exact ⟨A', c', w', hrun, ⟨_, k1, k2⟩, k3⟩
/-- at steps of a region that draws its order. -/
theorem step_fresh_ints {w : World} {ops : Array Oper} {o : Oper} {a : Act} {K : Act → World → Prop} {Q : Exit → Act → World → Prop} {E : Prop} (hgd : o.guard = none) (s x : Operand)
    (ho : o.op = .call { callee := .builtin .append, args := #[s, x], argTypes := #[23, 23] })
    (b : Nat) (A2 : Option Addr) (m c2 B : Nat) (ys : List Int) (hs : a.eval s = .slice (some ⟨b, 0, none⟩) 0 0) (hx : a.eval x = .slice A2 m c2) (hr : Rd w B A2 m ys) (h0 : 0 < m) (hm : m ≤ 1099511627776)
    (h : ∀ A' c' w', Ow w' w.heap.size A' m c' ys → Below w.heap.size w w' → K (a.put o.dst (.slice A' m c')) w') :
    if Region.wanted o (yielded ops a.tmps) = true then Oper.wp Try.prog o a w K Q else E := by
  obtain ⟨A', c', w', hrun, h1, h2⟩ := fresh_ints o.type b A2 m c2 B ys hr h0 hm
  have hw : Region.wanted o (yielded ops a.tmps) = true := by simp [Region.wanted, hgd]
  rw [if_pos hw]
  unfold Oper.wp execOp
  simp only [ho, resolve, invoke, builtin, Sem.run_bind, Sem.run_pure, Result.andThen_ok, List.map_toArray, List.map_cons, List.map_nil, hs, hx, hrun]
  exact h A' c' w' h1 h2
theorem step_fresh_rules {w : World} {ops : Array Oper} {o : Oper} {a : Act} {K : Act → World → Prop} {Q : Exit → Act → World → Prop} {E : Prop} (hgd : o.guard = none) (s x : Operand)
    (ho : o.op = .call { callee := .builtin .append, args := #[s, x], argTypes := #[24, 24] })
    (b : Nat) (A2 : Option Addr) (m c2 lo lo2 : Nat) (rs2 : List RuleM) (vs2 : List Value) (hs : a.eval s = .slice (some ⟨b, 0, none⟩) 0 0) (hx : a.eval x = .slice A2 m c2) (hl2 : rs2.length = m) (hown2 : w.ownsRow lo2 30 3 (.slice A2 m c2) m vs2) (hin2 : InR w lo (.slice none 0 0) rs2 vs2 m)
    (hlit : w.heap[b]? = some (.cells #[] 30)) (hb : lo ≤ b) (hm : m ≤ 1099511627776) (hlo : lo ≤ w.heap.size)
    (h : ∀ A' c' w', OwR w' lo (.slice A' m c') rs2 m → Below w.heap.size w w' → K (a.put o.dst (.slice A' m c')) w') :
    if Region.wanted o (yielded ops a.tmps) = true then Oper.wp Try.prog o a w K Q else E := by
  obtain ⟨A', c', w', hrun, h1, h2⟩ := fresh_rules o.type b A2 m c2 lo lo2 rs2 vs2 hl2 hown2 hin2 hlit hb hm hlo
  have hw : Region.wanted o (yielded ops a.tmps) = true := by simp [Region.wanted, hgd]
  rw [if_pos hw]
  unfold Oper.wp execOp
  simp only [ho, resolve, invoke, builtin, Sem.run_bind, Sem.run_pure, Result.andThen_ok, List.map_toArray, List.map_cons, List.map_nil, hs, hx, hrun]
  exact h A' c' w' h1 h2
end Go.Proofs.Ytgejahkdiciplab
