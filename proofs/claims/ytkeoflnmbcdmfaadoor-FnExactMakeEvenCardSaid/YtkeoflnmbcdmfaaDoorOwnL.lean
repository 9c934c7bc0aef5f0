import Derived.Test.YtkeoflnmbcdmfaaDoorOwn
set_option maxRecDepth 8000
namespace Go.Proofs.YtkeoflnmbcdmfaaDoor
open Go.ChangeShapes Go.WideShapes Go.ChangeAt Go.RowKit

theorem le_alloc5 {a : Nat} {w : World} {o : Obj} (h : a ≤ w.heap.size) : a ≤ (w.alloc o).heap.size := by rw [World.size_alloc]; omega
theorem rule_parts : (Tryd.prog.info? 63).map (fun i => (i.zero, i.size, i.bytes)) = some (some (.agg #[.int .i64 0, .slice none 0 0, .int .i64 0]), 3, 40) := by kernel_rfl
/-- 'append(rules, rule)' to a slice of the call's own. -/
theorem push_rule {w : World} {ops : Array Oper} {rest : List Oper} {o : Oper} {a : Act} {Q : Exit → Act → World → Prop} (hgd : o.guard = none) (s x : Operand)
    (ho : o.op = .call { callee := .builtin .append, args := #[s, x], argTypes := #[24, 24] })
    (lo : Nat) (v : Value) (n : Nat) (vs : List Value) (g : Nat) (k : Int) (A : Option Addr) (m c : Nat) (u : Int) (hs : a.eval s = v) (hx : a.eval x = .slice (some ⟨g, 0, none⟩) 1 1)
    (hown : w.ownsRow lo 63 3 v n vs) (hrow : w.heap[g]? = some (.cells #[.int .i64 k, .slice A m c, .int .i64 u] 63)) (hn : n ≤ 1099511627776) (hlo : lo ≤ w.heap.size)
    (h : ∀ g' cap w', w'.ownsRow lo 63 3 (.slice (some ⟨g', 0, none⟩) (n + 1) cap) (n + 1) (vs ++ [.int .i64 k, .slice A m c, .int .i64 u]) → w.grownBy w' v.ownBlock → (v.ownBlock = some g' ∨ g' = w.heap.size) → wpList Tryd.prog ops Q rest (a.put o.dst (.slice (some ⟨g', 0, none⟩) (n + 1) cap)) w') :
    wpList Tryd.prog ops Q (o :: rest) a w := by
  refine wpList_plain hgd fun K hK => ?_
  obtain ⟨i0, hi, hz0, hz1, hz2⟩ := info_parts rule_parts
  obtain ⟨g', cap, w', hrun, h1, h2, h3, h4⟩ := run_append_lies (P := Tryd.prog) w 24 o.type lo 63 i0 (.agg #[.int .i64 0, .slice none 0 0, .int .i64 0]) 3 40 Tryd.underlying24 hi hz0 hz1 hz2 rfl (by decide) v n vs hown ⟨g, 0, none⟩ 1 1 [.int .i64 k, .slice A m c, .int .i64 u] rfl (World.news_of_block (cs := #[.int .i64 k, .slice A m c, .int .i64 u]) hrow) (by simp [Value.oneCell']) (by decide) (by simp only [maxLen]; omega) (by omega) hlo _ rfl
  unfold Oper.wp
  simp [execOp, ho, resolve, invoke, builtin, hs, hx, hrun, Result.andThen]
  exact hK _ _ (h g' cap w' h1 h2 h3)
/-- the first k rules, in a slice of the call's own. -/
def OwR (w : World) (lo : Nat) (v : Value) (rs : List RuleM) (k : Nat) : Prop :=
  ∃ vs, w.ownsRow lo 63 3 v k vs ∧ ∀ i, i < k → ∃ A' c', vs[i * 3]? = some (.int .i64 (rat rs i).k) ∧ vs[i * 3 + 1]? = some (.slice A' (rat rs i).xs.length c') ∧ vs[i * 3 + 2]? = some (.int .i64 (rat rs i).v) ∧ Ow w lo A' (rat rs i).xs.length c' (rat rs i).xs ∧ (rat rs i).xs.length ≤ 1099511627776 ∧ ∀ g, (Value.slice A' (rat rs i).xs.length c').ownBlock = some g → v.ownBlock ≠ some g
theorem OwR.below {w w' : World} {lo : Nat} {v : Value} {rs : List RuleM} {k : Nat} (h : OwR w lo v rs k) (hb : Below w.heap.size w w') : OwR w' lo v rs k := by
  obtain ⟨vs, hown, hin⟩ := h
  refine ⟨vs, World.ownsRow.kept hown (row := none) ⟨hb.os, hb.tape, hb.output, hb.size, fun k hk _ => hb.block k hk⟩ (by
    cases e : v.ownBlock
    · exact .inl rfl
    · exact .inr (by simp)), fun i hi => ?_⟩
  obtain ⟨A', c', e0, e1, e2, e3, e4, e5⟩ := hin i hi
  exact ⟨A', c', e0, e1, e2, e3.below hb, e4, e5⟩
theorem OwR.push {w w3 w5 : World} {lo : Nat} {v : Value} {rs : List RuleM} {u : Nat} {vs : List Value} {A3 : Option Addr} {c3 g' cap : Nat} (hown : w.ownsRow lo 63 3 v u vs)
    (hin : ∀ i, i < u → ∃ A' c', vs[i * 3]? = some (.int .i64 (rat rs i).k) ∧ vs[i * 3 + 1]? = some (.slice A' (rat rs i).xs.length c') ∧ vs[i * 3 + 2]? = some (.int .i64 (rat rs i).v) ∧ Ow w lo A' (rat rs i).xs.length c' (rat rs i).xs ∧ (rat rs i).xs.length ≤ 1099511627776 ∧ ∀ g, (Value.slice A' (rat rs i).xs.length c').ownBlock = some g → v.ownBlock ≠ some g)
    (hlo : lo ≤ w.heap.size) (hb : Below w.heap.size w w3) (ho3 : Ow w3 w.heap.size A3 (rat rs u).xs.length c3 (rat rs u).xs) (hm : (rat rs u).xs.length ≤ 1099511627776) {o : Obj}
    (h5 : w5.ownsRow lo 63 3 (.slice (some ⟨g', 0, none⟩) (u + 1) cap) (u + 1) (vs ++ [.int .i64 (rat rs u).k, .slice A3 (rat rs u).xs.length c3, .int .i64 (rat rs u).v])) (hg5 : (w3.alloc o).grownBy w5 v.ownBlock) (hl5 : v.ownBlock = some g' ∨ g' = (w3.alloc o).heap.size) :
    OwR w5 lo (.slice (some ⟨g', 0, none⟩) (u + 1) cap) rs (u + 1) := by
  have hvl : vs.length = u * 3 := hown.1
  have hs3 := hb.size
  have hg'o : (Value.slice (some ⟨g', 0, none⟩) (u + 1) cap).ownBlock = some g' := by simp [Value.ownBlock]
  refine ⟨_, h5, fun i hi => ?_⟩
  by_cases hlt : i < u
  · obtain ⟨A', c', e0, e1, e2, e3, e4, e5⟩ := hin i hlt
    refine ⟨A', c', by rw [List.getElem?_append_left (by omega)]; exact e0, by rw [List.getElem?_append_left (by omega)]; exact e1, by rw [List.getElem?_append_left (by omega)]; exact e2, ?_, e4, fun b hbb => ?_⟩
    · exact Ow.far (World.ownsRow.alloc (e3.below hb) o) hg5 e5
    · rw [hg'o]
      intro e
      injection e with e
      subst e
      have h1 := e3.own_hi g' hbb
      rcases hl5 with h | h
      · exact e5 g' hbb h
      · rw [World.size_alloc] at h; omega
  · obtain rfl : i = u := by omega
    refine ⟨A3, c3, by rw [List.getElem?_append_right (by omega), hvl, Nat.sub_self]; rfl, by rw [List.getElem?_append_right (by omega), hvl, show i * 3 + 1 - i * 3 = 1 by omega]; rfl, by rw [List.getElem?_append_right (by omega), hvl, show i * 3 + 2 - i * 3 = 2 by omega]; rfl, ?_, hm, fun b hbb => ?_⟩
    · exact (Ow.far (World.ownsRow.alloc ho3 o) hg5 (fun b hbb e => by have h1 := ho3.own_lo b hbb; have h2 := (World.ownsRow.lt hown b e).2; omega)).mono hlo
    · rw [hg'o]
      intro e
      injection e with e
      subst e
      have h1 := ho3.own_lo g' hbb
      have h2 := ho3.own_hi g' hbb
      rcases hl5 with h | h
      · have := (World.ownsRow.lt hown g' h).2; omega
      · rw [World.size_alloc] at h; omega
theorem OwR.rd {w : World} {lo k c : Nat} {A : Option Addr} {rs : List RuleM} (hl : rs.length = k) (h : OwR w lo (.slice A k c) rs k) : RdRs w w.heap.size A k rs := by
  refine ⟨hl, fun hn => ?_⟩
  obtain ⟨vs, hown, hin⟩ := h
  obtain ⟨hvl, hcase⟩ := id hown
  rcases hcase with ⟨_, h0⟩ | ⟨g, cap, cur, hv, hlog, hrow, h1, h2, h3, h4⟩
  · omega
  · injection hv with hA _ _
    subst hA
    have hlt : g < w.heap.size := (Array.getElem?_eq_some_iff.1 hrow).1
    have hcell : ∀ j u, vs[j]? = some u → w.cell? ⟨g, 0 + j, none⟩ = some u := fun j u hj => by
      rw [Nat.zero_add, cell_of_row w g j cur _ _ hrow]
      rw [← h4, List.getElem?_take] at hj
      split at hj
      · simpa using hj
      · cases hj
    refine ⟨g, 0, rfl, hlt, fun i hi => ?_⟩
    obtain ⟨A', c', e0, e1, e2, e3, e4, e5⟩ := hin i hi
    exact ⟨A', c', hcell _ _ e0, by rw [Nat.add_assoc]; exact hcell _ _ e1, by rw [Nat.add_assoc]; exact hcell _ _ e2, e3.rd, e4⟩
set_option maxHeartbeats 1000000 in
theorem specOwnRules (A : Option Addr) (n c B : Nat) (rs : List RuleM) (w : World) (h : RdRs w B A n rs) (hB : B ≤ w.heap.size) (hm : n ≤ 1099511627775) :
    Calls Tryd.prog 104 #[.slice A n c] w fun e w' => ∃ A' c', e = .returned (.slice A' n c') ∧ OwR w' w.heap.size (.slice A' n c') rs n ∧ Below w.heap.size w w' := by
  go_enter Tryd.func104, Tryd.ntmps104
  go_wp2
  have hr0 : OwR (w.alloc (.cells #[] 63)) w.heap.size (.slice (some ⟨w.heap.size, 0, none⟩) 0 0) rs 0 := ⟨[], World.ownsRow_made _ #[] 0 (Nat.le_refl _) (by simp [maxLen]) rfl, fun i hi => absurd hi (by omega)⟩
  have hb0 : Below w.heap.size w (w.alloc (.cells #[] 63)) := (Below.refl _ _).alloc (Nat.le_refl _) _
  go_loopw [3, 4] (fun v i wr => ∃ (u : Nat) (A' : Option Addr) (c' : Nat), u ≤ n ∧ i = .int .i64 u ∧ v = .slice A' u c' ∧ OwR wr w.heap.size v rs u ∧ Below w.heap.size w wr) (fun _ i _ => n - (intOf i).toNat)
  case atStart => exact ⟨0, _, _, Nat.zero_le _, rfl, rfl, hr0, hb0⟩
  case round =>
    obtain ⟨u, A', c', hu, rfl, rfl, hown, hb⟩ := hrel
    by_cases hlt : u < n
    · obtain ⟨b, off, hA, hbB, hcc⟩ := (h.below (hb.mono hB)).2 (by omega)
      subst hA
      obtain ⟨A2, c2, r0, r1, r2, r3, r4⟩ := hcc u hlt
      obtain ⟨vs, hown, hin⟩ := hown
      have hsw := hb.size
      have HR := Lib.hid (specOwnRule (rat rs u).k A2 (rat rs u).xs.length c2 B (rat rs u).xs (rat rs u).v wr r3 (Nat.le_trans hB hsw) r4)
      have HK : Hid (∀ w', Below wr.heap.size wr w' → w'.ownsRow w.heap.size 63 3 (.slice A' u c') u vs) := Lib.hid (fun w' hb => World.ownsRow.kept hown (row := none) ⟨hb.os, hb.tape, hb.output, hb.size, fun k hk _ => hb.block k hk⟩ (by
        cases e : (Value.slice A' u c').ownBlock
        · exact .inl rfl
        · exact .inr (by simp)))
      have hn1 : u ≤ 1099511627776 := by omega
      clear hcc
      have Hin := Lib.hid hin
      clear hin
      go_wp2_with (first
        | (go_at_call 121; refine HR.out.mono ?_; rintro e w3 ⟨A3, c3, rfl, ho3, hb3⟩; have hlo3 := Nat.le_trans hsw hb3.size; have hown3 := World.ownsRow.alloc (HK.out _ hb3) (.cells #[.int .i64 (rat rs u).k, .slice A3 (rat rs u).xs.length c3, .int .i64 (rat rs u).v] 63))
        | (at_builtin; (refine push_rule rfl (.tmp 12) (.tmp 18) rfl w.heap.size (.slice A' u c') u vs w3.heap.size (rat rs u).k A3 (rat rs u).xs.length c3 (rat rs u).v rfl rfl hown3 (heap_alloc_new w3 _) hn1 (le_alloc5 hlo3) ?_); intro g5 cap5 w5 ho5 hg5 hl5))
      go_roundw
      case rel => exact ⟨u + 1, _, _, by omega, by go_num, rfl, OwR.push hown Hin.out hsw hb3 ho3 r4 ho5 hg5 hl5, ((hb.trans (hb3.mono hsw)).alloc hlo3 _).grown hg5 (le_alloc5 hlo3) (fun k hk => (World.ownsRow.lt hown k hk).1)⟩
      case measure => simp [intOf]; omega
    · obtain rfl : u = n := by omega
      go_wp2
      go_ret
      exact ⟨_, _, rfl, hown, hb⟩
end Go.Proofs.YtkeoflnmbcdmfaaDoor
