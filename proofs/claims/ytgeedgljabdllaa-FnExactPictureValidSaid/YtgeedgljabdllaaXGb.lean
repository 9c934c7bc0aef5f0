import Derived.Test.YtgeedgljabdllaaXSzi
import Derived.Test.YtgeedgljabdllaaPp
import Derived.Deep.AppendLies
set_option maxRecDepth 8000
namespace Go.Proofs.Ytgeedgljabdllaa
open Go.ChangeShapes Go.WideShapes Go.ChangeAt Go.RowKit
theorem RdF.news {w : World} {B b off m : Nat} {ys : List Bool} (hr : RdF w B (some ⟨b, off, none⟩) m ys) : ∀ j u, (bvals ys)[j]? = some u → w.cell? ((⟨b, off, none⟩ : Addr).add j) = some u := by
  intro j u hj
  have hjl : j < ys.length := by
    have := (List.getElem?_eq_some_iff.1 hj).1
    rwa [bvals_length] at this
  rw [bvals_get hjl] at hj
  injection hj with hj
  subst hj
  have hjm : j < m := by rw [← hr.1]; exact hjl
  obtain ⟨b', off', he, _, hc⟩ := hr.at_ hjm
  cases he
  rw [← hc]
  unfold Addr.add
  by_cases h0 : j = 0
  · subst h0; simp
  · simp [h0]
theorem bvals_one (ys : List Bool) : ∀ u ∈ bvals ys, u.oneCell' = true := by
  intro u hu
  simp only [bvals, List.mem_map] at hu
  obtain ⟨y, _, rfl⟩ := hu
  rfl
theorem run_push_allF {w : World} (ty : TypeId) (lo : Nat) (A : Option Addr) (n c : Nat) (xs : List Bool) (A2 : Option Addr) (m c2 B : Nat) (ys : List Bool) (hown : OwF w lo A n c xs) (hr : RdF w B A2 m ys) (hmn : 0 < m ∨ n = 0)
    (hn : n ≤ 1099511627776) (hm : m ≤ 1099511627776) (hlo : lo ≤ w.heap.size) :
    ∃ A' c' w', (Builtin.append_ #[41, 41] ty #[.slice A n c, .slice A2 m c2]).run Try.prog w = .ok (.slice A' (n + m) c') w' ∧ OwF w' lo A' (n + m) c' (xs ++ ys) ∧ w.grownBy w' (Value.slice A n c).ownBlock ∧ (∀ g, (Value.slice A' (n + m) c').ownBlock = some g → (Value.slice A n c).ownBlock = some g ∨ g = w.heap.size) := by
  obtain ⟨i0, hi, hz0, hz1, hz2⟩ := info_parts bool_info
  by_cases h0 : 0 < m
  · obtain ⟨b, off, rfl, _, _⟩ := hr.at_ h0
    obtain ⟨g, cap, w', hrun, h2, h3, h4, h5⟩ := run_append_lies (P := Try.prog) w 41 ty lo 4 i0 (.bool false) 1 1 Try.underlying41 hi hz0 hz1 hz2 rfl (by decide) _ n (bvals xs) hown ⟨b, off, none⟩ m c2 (bvals ys) (by rw [bvals_length, hr.1]; omega) hr.news (bvals_one ys) h0 (by simp only [maxLen]; omega) (by omega) hlo _ rfl
    refine ⟨some ⟨g, 0, none⟩, cap, w', hrun, ?_, h3, ?_⟩
    · unfold OwF
      rw [show bvals (xs ++ ys) = bvals xs ++ bvals ys by simp [bvals]]
      exact h2
    · intro g' hg'
      have : g' = g := by simp [Value.ownBlock] at hg'; omega
      subst this
      exact h4
  · obtain rfl : m = 0 := by omega
    obtain rfl : n = 0 := by omega
    have hy : ys = [] := List.eq_nil_of_length_eq_zero hr.1
    subst hy
    have hsrc : Go.Src Try.prog i0.size 41 (.slice A2 0 c2) 0 [] w := by
      cases A2 with
      | none => exact Go.Src.ofNil w Try.underlying41 c2
      | some a => exact Go.Src.ofSlice w Try.underlying41 a 0 c2 [] (by simp) (fun j u hj => by simp at hj) (fun u hu => by simp at hu)
    refine ⟨A, c, w, run_append_nothing w 41 41 ty 4 i0 Try.underlying41 hi A 0 c (Nat.zero_le _) _ hsrc, ?_, World.grownBy.refl _ _, fun g hg => .inl hg⟩
    rw [List.append_nil]
    exact hown
/-! a slice of slices of bools of the call's own. -/
theorem sl_infoF : (Try.prog.info? 41).map (fun i => (i.zero, i.size, i.bytes)) = some (some (.slice none 0 0), 1, 24) := by kernel_rfl
abbrev GVF := Value × List Bool
theorem OwF.off {w w' : World} {lo : Nat} {A : Option Addr} {n c : Nat} {xs : List Bool} {row : Option Nat} (h : OwF w lo A n c xs) (hg : w.grownBy w' row) (hne : ∀ g, (Value.slice A n c).ownBlock = some g → row ≠ some g) : OwF w' lo A n c xs := by
  refine World.ownsRow.kept h hg ?_
  cases e : (Value.slice A n c).ownBlock with
  | none => exact .inl rfl
  | some g => exact .inr (fun he => hne g e he.symm)
/-- the cells of each element lie in a block of its own. -/
def GsF (w : World) (lo : Nat) (v : Value) (d : List GVF) : Prop :=
  w.ownsRow lo 41 1 v d.length (d.map Prod.fst) ∧ (∀ x ∈ d, (∃ A c, x.1 = .slice A x.2.length c ∧ OwF w lo A x.2.length c x.2) ∧ ∀ g, x.1.ownBlock = some g → v.ownBlock ≠ some g) ∧ d.Pairwise fun x y => ∀ g, x.1.ownBlock = some g → y.1.ownBlock ≠ some g
def gsCF (d : List GVF) : List (List Bool) := d.map Prod.snd
def gatF (Ls : List (List Bool)) (k : Nat) : List Bool := Ls.getD k []
theorem cnt_lenF (d : List GVF) : (gsCF d).length = d.length := by simp [gsCF]
theorem gat_cntF {d : List GVF} {k : Nat} (hk : k < d.length) : gatF (gsCF d) k = d[k].2 := by
  simp [gatF, gsCF, List.getD_eq_getElem?_getD, hk]
theorem GsF.below {w w' : World} {lo : Nat} {v : Value} {d : List GVF} (h : GsF w lo v d) (hb : Below w.heap.size w w') : GsF w' lo v d := by
  refine ⟨World.ownsRow.kept h.1 (row := none) ⟨hb.os, hb.tape, hb.output, hb.size, fun k hk _ => hb.block k hk⟩ (by
    cases e : v.ownBlock
    · exact .inl rfl
    · exact .inr (by simp)), fun x hx => ?_, h.2.2⟩
  obtain ⟨⟨A, c, e, ho⟩, hs⟩ := h.2.1 x hx
  exact ⟨⟨A, c, e, ho.below hb⟩, hs⟩
theorem GsF.hi {w : World} {lo : Nat} {v : Value} {d : List GVF} (h : GsF w lo v d) {x : GVF} (hx : x ∈ d) : ∀ g, x.1.ownBlock = some g → g < w.heap.size := fun g hg => by
  obtain ⟨⟨A, c, e, ho⟩, _⟩ := h.2.1 x hx
  rw [e] at hg
  exact ho.own_hi g hg
theorem GsF.vhi {w : World} {lo : Nat} {v : Value} {d : List GVF} (h : GsF w lo v d) : ∀ g, v.ownBlock = some g → g < w.heap.size := fun g hg => (World.ownsRow.lt h.1 g hg).2
theorem GsF.vlo {w : World} {lo : Nat} {v : Value} {d : List GVF} (h : GsF w lo v d) : ∀ g, v.ownBlock = some g → lo ≤ g := fun g hg => (World.ownsRow.lt h.1 g hg).1
theorem GsF.mono {w : World} {lo lo' : Nat} {v : Value} {d : List GVF} (h : GsF w lo v d) (hl : lo' ≤ lo) : GsF w lo' v d :=
  ⟨World.ownsRow.mono h.1 hl, fun x hx => by obtain ⟨⟨A, c, e, ho⟩, hs⟩ := h.2.1 x hx; exact ⟨⟨A, c, e, ho.mono hl⟩, hs⟩, h.2.2⟩
theorem GsF.at_ {w : World} {lo m cap : Nat} {A : Option Addr} {d : List GVF} (h : GsF w lo (.slice A m cap) d) {k : Nat} (hk : k < d.length) :
    ∃ g A' c', A = some ⟨g, 0, none⟩ ∧ m = d.length ∧ lo ≤ g ∧ g < w.heap.size ∧ w.cell? ⟨g, k, none⟩ = some (.slice A' (gatF (gsCF d) k).length c') ∧ w.frozen? ⟨g, k, none⟩ = false ∧ OwF w lo A' (gatF (gsCF d) k).length c' (gatF (gsCF d) k) ∧ (∀ b, (Value.slice A' (gatF (gsCF d) k).length c').ownBlock = some b → b ≠ g) ∧ d[k].1 = .slice A' (gatF (gsCF d) k).length c' := by
  obtain ⟨g, cap', hv, h1, h2⟩ := World.ownsRow.form h.1 (by omega)
  injection hv with e1 e2 e3
  subst e1 e2 e3
  obtain ⟨⟨A', c', e, ho⟩, hs⟩ := h.2.1 d[k] (List.getElem_mem hk)
  rw [gat_cntF hk]
  refine ⟨g, A', c', rfl, rfl, h1, h2, ?_, World.ownsRow.frozenAt h.1 k, ho, fun b hb => ?_, e⟩
  · rw [World.ownsRow.cellAt h.1 k (by omega), List.getElem?_map, List.getElem?_eq_getElem hk]
    simp only [Option.map_some, e]
  · rw [← e] at hb
    have := hs b hb
    simp [Value.ownBlock] at this
    exact fun q => this q.symm
theorem GsF.nil_ {w : World} {lo : Nat} : GsF w lo (.slice none 0 0) [] := ⟨World.ownsRow_nil w lo _ _, fun x hx => by simp at hx, List.Pairwise.nil⟩
theorem GsF.made0 {w : World} {lo : Nat} (h : lo ≤ w.heap.size) : GsF (w.alloc (.cells #[] 41)) lo (.slice (some ⟨w.heap.size, 0, none⟩) 0 0) [] := ⟨World.ownsRow_made w #[] 0 h (by simp [maxLen]) rfl, fun x hx => by simp at hx, List.Pairwise.nil⟩
/-- one slice more, in a block of its own. -/
theorem GsF.push {w3 w5 : World} {lo lo3 : Nat} {v : Value} {d : List GVF} {A3 : Option Addr} {c3 g' cap : Nat} {xs : List Bool} (h : GsF w3 lo v d) (ho3 : OwF w3 lo3 A3 xs.length c3 xs) (hlo : lo ≤ lo3)
    (hsep : ∀ x ∈ d, ∀ g, x.1.ownBlock = some g → (Value.slice A3 xs.length c3).ownBlock ≠ some g) (hv : ∀ g, (Value.slice A3 xs.length c3).ownBlock = some g → v.ownBlock ≠ some g) {o : Obj}
    (h5 : w5.ownsRow lo 41 1 (.slice (some ⟨g', 0, none⟩) (d.length + 1) cap) (d.length + 1) (d.map Prod.fst ++ [.slice A3 xs.length c3])) (hg5 : (w3.alloc o).grownBy w5 v.ownBlock) (hl5 : v.ownBlock = some g' ∨ g' = (w3.alloc o).heap.size) :
    GsF w5 lo (.slice (some ⟨g', 0, none⟩) (d.length + 1) cap) (d ++ [(.slice A3 xs.length c3, xs)]) := by
  have hno : ∀ {lo2 : Nat} {A : Option Addr} {n c : Nat} {ys : List Bool}, OwF w3 lo2 A n c ys → (∀ g, (Value.slice A n c).ownBlock = some g → v.ownBlock ≠ some g) → OwF w5 lo2 A n c ys := fun ho hne => OwF.off (World.ownsRow.alloc ho o) hg5 hne
  have hg' : (Value.slice (some ⟨g', 0, none⟩) (d.length + 1) cap).ownBlock = some g' := by simp [Value.ownBlock]
  have hfar : ∀ b, b < w3.heap.size → v.ownBlock ≠ some b → b ≠ g' := fun b hb hne e => by
    subst e
    rcases hl5 with q | q
    · exact hne q
    · rw [World.size_alloc] at q; omega
  refine ⟨by simpa using h5, fun x hx => ?_, ?_⟩
  · rw [List.mem_append] at hx
    rcases hx with hx | hx
    · obtain ⟨⟨A, c, e, ho⟩, hs⟩ := h.2.1 x hx
      refine ⟨⟨A, c, e, hno ho (fun g hg => hs g (by rw [e]; exact hg))⟩, fun g hg => ?_⟩
      rw [hg']
      intro q
      injection q with q
      exact hfar g (h.hi hx g hg) (hs g hg) q.symm
    · simp only [List.mem_singleton] at hx
      subst hx
      refine ⟨⟨A3, c3, rfl, (hno ho3 hv).mono hlo⟩, fun g hg => ?_⟩
      rw [hg']
      intro q
      injection q with q
      exact hfar g (ho3.own_hi g hg) (hv g hg) q.symm
  · rw [List.pairwise_append]
    exact ⟨h.2.2, List.pairwise_singleton _ _, fun x hx y hy g hg => by simp only [List.mem_singleton] at hy; subst hy; exact hsep x hx g hg⟩
/-- an element put into its place. -/
theorem GsF.put {w : World} {lo lo3 g m cap k : Nat} {d : List GVF} {A3 : Option Addr} {c3 : Nat} {xs : List Bool} (h : GsF w lo (.slice (some ⟨g, 0, none⟩) m cap) d) (hk : k < d.length) (ho3 : OwF w lo3 A3 xs.length c3 xs) (hlo : lo ≤ lo3)
    (hsep : ∀ x ∈ d, ∀ b, x.1.ownBlock = some b → (Value.slice A3 xs.length c3).ownBlock ≠ some b) (hv : ∀ b, (Value.slice A3 xs.length c3).ownBlock = some b → b ≠ g) :
    GsF (w.setCell ⟨g, k, none⟩ (.slice A3 xs.length c3)) lo (.slice (some ⟨g, 0, none⟩) m cap) (d.set k (.slice A3 xs.length c3, xs)) := by
  obtain ⟨g0, cap', hv0, _, _⟩ := World.ownsRow.form h.1 (by omega)
  injection hv0 with e1 e2 e3
  injection e1 with e1
  injection e1 with e1 _ _
  subst e1 e2 e3
  obtain ⟨h1, h2⟩ := World.ownsRow.stored h.1 k (.slice A3 xs.length c3)
  have hno : ∀ {lo2 : Nat} {A : Option Addr} {n c : Nat} {ys : List Bool}, OwF w lo2 A n c ys → (∀ b, (Value.slice A n c).ownBlock = some b → b ≠ g) → OwF (w.setCell ⟨g, k, none⟩ (.slice A3 xs.length c3)) lo2 A n c ys := fun ho hne => OwF.off ho h2 (fun b hb e => hne b hb (by injection e with e; exact e.symm))
  have hg' : (Value.slice (some ⟨g, 0, none⟩) d.length cap).ownBlock = some g := by simp [Value.ownBlock]
  refine ⟨by rw [List.length_set, List.map_set]; exact h1, fun x hx => ?_, ?_⟩
  · rcases List.mem_or_eq_of_mem_set hx with hx | hx
    · obtain ⟨⟨A, c, e, ho⟩, hs⟩ := h.2.1 x hx
      refine ⟨⟨A, c, e, hno ho (fun b hb q => hs b (by rw [e]; exact hb) (by rw [hg', q]))⟩, hs⟩
    · subst hx
      exact ⟨⟨A3, c3, rfl, (hno ho3 hv).mono hlo⟩, fun b hb => by rw [hg']; intro q; injection q with q; exact hv b hb q.symm⟩
  · rw [List.pairwise_iff_getElem]
    have hp := List.pairwise_iff_getElem.1 h.2.2
    intro i j hi hj hij b hb
    rw [List.length_set] at hi hj
    rw [List.getElem_set] at hb ⊢
    by_cases e : k = i
    · rw [if_pos e] at hb
      rw [if_neg (by omega)]
      intro q
      exact hsep d[j] (List.getElem_mem hj) b q hb
    · rw [if_neg e] at hb
      by_cases e2 : k = j
      · rw [if_pos e2]
        exact hsep d[i] (List.getElem_mem hi) b hb
      · rw [if_neg e2]
        exact hp i j hi hj hij b hb
theorem cnt_setF {d : List GVF} {k : Nat} {x : GVF} : gsCF (d.set k x) = (gsCF d).set k x.2 := by simp [gsCF, List.map_set]
theorem gat_setF {Ls : List (List Bool)} {k j : Nat} {xs : List Bool} (hk : k < Ls.length) : gatF (Ls.set k xs) j = if j = k then xs else gatF Ls j := by
  simp only [gatF, List.getD_eq_getElem?_getD, List.getElem?_set]
  by_cases e : k = j
  · subst e; simp [hk]
  · rw [if_neg e, if_neg (fun q => e q.symm)]
/-- 'append(out, x)', x a slice that has been laid just ahead. -/
theorem push_slF {w : World} {ops : Array Oper} {rest : List Oper} {o : Oper} {a : Act} {Q : Exit → Act → World → Prop} (hgd : o.guard = none) (s x : Operand)
    (ho : o.op = .call { callee := .builtin .append, args := #[s, x], argTypes := #[31, 31] })
    (lo : Nat) (v : Value) (n : Nat) (vs : List Value) (g : Nat) (A : Option Addr) (m c : Nat) (hs : a.eval s = v) (hx : a.eval x = .slice (some ⟨g, 0, none⟩) 1 1)
    (hown : w.ownsRow lo 41 1 v n vs) (hrow : w.heap[g]? = some (.cells #[.slice A m c] 41)) (hn : n ≤ 1099511627776) (hlo : lo ≤ w.heap.size)
    (h : ∀ g' cap w', w'.ownsRow lo 41 1 (.slice (some ⟨g', 0, none⟩) (n + 1) cap) (n + 1) (vs ++ [.slice A m c]) → w.grownBy w' v.ownBlock → (v.ownBlock = some g' ∨ g' = w.heap.size) → wpList Try.prog ops Q rest (a.put o.dst (.slice (some ⟨g', 0, none⟩) (n + 1) cap)) w') :
    wpList Try.prog ops Q (o :: rest) a w := by
  refine wpList_plain hgd fun K hK => ?_
  obtain ⟨i0, hi, hz0, hz1, hz2⟩ := info_parts sl_infoF
  obtain ⟨g', cap, w', hrun, h1, h2, h3, h4⟩ := run_append_lies (P := Try.prog) w 31 o.type lo 41 i0 (.slice none 0 0) 1 24 Try.underlying31 hi hz0 hz1 hz2 rfl (by decide) v n vs hown ⟨g, 0, none⟩ 1 1 [.slice A m c] rfl (World.news_of_block (cs := #[.slice A m c]) hrow) (by simp [Value.oneCell']) (by decide) (by simp only [maxLen]; omega) (by omega) hlo _ rfl
  unfold Oper.wp
  simp [execOp, ho, resolve, invoke, builtin, hs, hx, hrun, Result.andThen]
  exact hK _ _ (h g' cap w' h1 h2 h3)
/-- 'append([]int{}, t...)', t whatever reads. -/
theorem push_copyF {w : World} {ops : Array Oper} {rest : List Oper} {o : Oper} {a : Act} {Q : Exit → Act → World → Prop} (hgd : o.guard = none) (s x : Operand)
    (ho : o.op = .call { callee := .builtin .append, args := #[s, x], argTypes := #[41, 41] })
    (lo : Nat) (A : Option Addr) (A2 : Option Addr) (m c2 B : Nat) (ys : List Bool) (hs : a.eval s = .slice A 0 0) (hx : a.eval x = .slice A2 m c2) (hown : OwF w lo A 0 0 []) (hr : RdF w B A2 m ys)
    (hm : m ≤ 1099511627776) (hlo : lo ≤ w.heap.size)
    (h : ∀ A' c' w', OwF w' lo A' m c' ys → w.grownBy w' (Value.slice A 0 0).ownBlock → wpList Try.prog ops Q rest (a.put o.dst (.slice A' m c')) w') :
    wpList Try.prog ops Q (o :: rest) a w := by
  refine wpList_plain hgd fun K hK => ?_
  obtain ⟨A', c', w', hrun, h1, h2, h3⟩ := run_push_allF o.type lo A 0 0 [] A2 m c2 B ys hown hr (.inr rfl) (by omega) hm hlo
  rw [Nat.zero_add] at hrun h1
  rw [List.nil_append] at h1
  unfold Oper.wp
  simp [execOp, ho, resolve, invoke, builtin, hs, hx, hrun, Result.andThen]
  exact hK _ _ (h A' c' w' h1 h2)
/-- a slice of n ints of the call's own is handed back. -/
def RetNF (w : World) (n : Nat) (xs : List Bool) (e : Ending) (w' : World) : Prop := ∃ A c, e = .returned (.slice A n c) ∧ OwF w' w.heap.size A n c xs ∧ Below w.heap.size w w'
theorem retN_ofF {w w' : World} {n : Nat} {xs : List Bool} {e : Ending} (h : RetFl w xs e w') (hl : xs.length = n) : RetNF w n xs e w' := by
  obtain ⟨A, c, rfl, ho, hb⟩ := h
  rw [hl] at ho ⊢
  exact ⟨A, c, rfl, ho, hb⟩
def RetGsF (w : World) (Ls : List (List Bool)) (e : Ending) (w' : World) : Prop := ∃ A c d, e = .returned (.slice A Ls.length c) ∧ gsCF d = Ls ∧ GsF w' w.heap.size (.slice A Ls.length c) d ∧ Below w.heap.size w w'
theorem retGs_mkF {w w' : World} {A : Option Addr} {m c : Nat} {d : List GVF} {Ls : List (List Bool)} (hd : d.length = m) (hc : gsCF d = Ls) (hG : GsF w' w.heap.size (.slice A m c) d) (hb : Below w.heap.size w w') : RetGsF w Ls (.returned (.slice A m c)) w' := by
  have : Ls.length = m := by rw [← hc, cnt_lenF, hd]
  subst this
  exact ⟨A, c, d, rfl, hc, hG, hb⟩
/-- a slice of slices of the call's own reads. -/
theorem Gs.rr {w : World} {lo n c : Nat} {A : Option Addr} {d : List GV} (h : Gs w lo (.slice A n c) d) (hn : d.length = n) : Rr Rd w w.heap.size A n (gsC d) := by
  refine ⟨by rw [cnt_len, hn], fun h0 => ?_⟩
  obtain ⟨g, A0, c0, rfl, _, _, hg, _⟩ := h.at_ (k := 0) (by omega)
  refine ⟨g, 0, rfl, hg, fun k hk => ?_⟩
  obtain ⟨g', A', c', e, _, _, _, h1, _, h2, _⟩ := h.at_ (k := k) (by omega)
  injection e with e
  injection e with e _ _
  subst e
  rw [Nat.zero_add]
  exact ⟨A', c', h1, h2.rd⟩
theorem GsF.rr {w : World} {lo n c : Nat} {A : Option Addr} {d : List GVF} (h : GsF w lo (.slice A n c) d) (hn : d.length = n) : Rr RdF w w.heap.size A n (gsCF d) := by
  refine ⟨by rw [cnt_lenF, hn], fun h0 => ?_⟩
  obtain ⟨g, A0, c0, rfl, _, _, hg, _⟩ := h.at_ (k := 0) (by omega)
  refine ⟨g, 0, rfl, hg, fun k hk => ?_⟩
  obtain ⟨g', A', c', e, _, _, _, h1, _, h2, _⟩ := h.at_ (k := k) (by omega)
  injection e with e
  injection e with e _ _
  subst e
  rw [Nat.zero_add]
  exact ⟨A', c', h1, h2.rd⟩
/-- the elements' values, wherever nothing of it changes. -/
theorem Gs.row {w W : World} {lo k cv : Nat} {Av : Option Addr} {d : List GV} (h : Gs w lo (.slice Av k cv) d) (hd : d.length = k) (hW : Below w.heap.size w W) : W.ownsRow lo 28 1 (.slice Av k cv) k (d.map Prod.fst) := by
  have := (h.below hW).1
  rwa [hd] at this
/-- one slice more, made since. -/
theorem Gs.fresh {w0 wr W w5 : World} {lo k cv n c3 g5 cap5 : Nat} {Av A3 : Option Addr} {d : List GV} {L : List Int} (hG : Gs wr lo (.slice Av k cv) d) (hd : d.length = k) (hL : L.length = n) (hlo : lo ≤ wr.heap.size) (hW : Below wr.heap.size wr W) (ho3 : Ow W wr.heap.size A3 n c3 L)
    (h5 : w5.ownsRow lo 28 1 (.slice (some ⟨g5, 0, none⟩) (k + 1) cap5) (k + 1) (d.map Prod.fst ++ [.slice A3 n c3])) (hg5 : (W.alloc (.cells #[.slice A3 n c3] 28)).grownBy w5 (Value.slice Av k cv).ownBlock) (hl5 : (Value.slice Av k cv).ownBlock = some g5 ∨ g5 = (W.alloc (.cells #[.slice A3 n c3] 28)).heap.size) (hb : Below lo w0 wr) :
    Gs w5 lo (.slice (some ⟨g5, 0, none⟩) (k + 1) cap5) (d ++ [(.slice A3 n c3, L)]) ∧ Below lo w0 w5 ∧ (d ++ [(Value.slice A3 n c3, L)]).length = k + 1 ∧ gsC (d ++ [(.slice A3 n c3, L)]) = gsC d ++ [L] ∧ Ow w5 wr.heap.size A3 n c3 L := by
  subst hL
  have s1 : ∀ x ∈ d, ∀ g, x.1.ownBlock = some g → (Value.slice A3 L.length c3).ownBlock ≠ some g := fun x hx g hg q => by
    have := hG.hi hx g hg
    have := ho3.own_lo g q
    omega
  have s2 : ∀ g, (Value.slice A3 L.length c3).ownBlock = some g → (Value.slice Av k cv).ownBlock ≠ some g := fun g hg q => by
    have := hG.vhi g q
    have := ho3.own_lo g hg
    omega
  have hGW := hG.below hW
  have hP := Gs.push (xs := L) (A3 := A3) (c3 := c3) (o := .cells #[.slice A3 L.length c3] 28) (g' := g5) (cap := cap5) (w5 := w5) hGW ho3 hlo s1 s2 (by rw [hd]; exact h5) hg5 hl5
  rw [hd] at hP
  have hbW : Below lo w0 W := hb.trans (hW.mono hlo)
  refine ⟨hP, (hbW.alloc (Nat.le_trans hlo hW.size) _).grown hg5 (Nat.le_trans (Nat.le_trans hlo hW.size) (by simp)) (fun g hg => hG.vlo g hg), by rw [List.length_append, hd]; rfl, by simp [gsC], Ow.off (World.ownsRow.alloc ho3 _) hg5 (fun g hg => s2 g hg)⟩
theorem grown_setRow13 {w : World} {g : Nat} {cs : Array Value} : w.grownBy (w.setRow g cs) (some g) :=
  ⟨rfl, rfl, rfl, by simp, fun k hk hne => by unfold World.setRow; simp only [Array.getElem?_modify]; rw [if_neg (fun e => hne (by rw [e]))]⟩
theorem Gs.off {w w' : World} {lo : Nat} {v : Value} {d : List GV} {row : Option Nat} (h : Gs w lo v d) (hg : w.grownBy w' row) (hne : ∀ g, row = some g → g < lo) : Gs w' lo v d := by
  refine ⟨World.ownsRow.kept h.1 hg ?_, fun x hx => ?_, h.2.2⟩
  · cases e : v.ownBlock with
    | none => exact .inl rfl
    | some g => exact .inr (fun he => by have := h.vlo g e; have := hne g he.symm; omega)
  · obtain ⟨⟨A, c, e, ho⟩, hs⟩ := h.2.1 x hx
    exact ⟨⟨A, c, e, Ow.off ho hg (fun b hb q => by have := ho.own_lo b hb; have := hne b q; omega)⟩, hs⟩
theorem grown_set13 {w : World} {G i : Nat} {v : Value} : w.grownBy (w.setCell ⟨G, i, none⟩ v) (some G) := ⟨rfl, rfl, rfl, by simp [World.setCell], fun k _ hk => heap_setCell_other w ⟨G, i, none⟩ k v (fun e => hk (by rw [e]))⟩
theorem below_setRow13 {B g : Nat} {w w' : World} {cs : Array Value} (h : Below B w w') (hg : B ≤ g) : Below B w (w'.setRow g cs) :=
  h.trans ⟨rfl, rfl, rfl, by simp, fun k hk => by unfold World.setRow; simp only [Array.getElem?_modify]; rw [if_neg (by omega)]⟩
theorem ownsRow_keep13 {w w' : World} {base : Nat} {e : TypeId} {size : Nat} {v : Value} {n : Nat} {xs : List Value} (h : w.ownsRow base e size v n xs) (hb : ∀ g, v.ownBlock = some g → w'.heap[g]? = w.heap[g]?) : w'.ownsRow base e size v n xs := by
  refine ⟨h.1, ?_⟩
  rcases h.2 with h | ⟨g, cap, cur, hv, hb', hg, hr⟩
  · exact .inl h
  · exact .inr ⟨g, cap, cur, hv, hb', (hb g (by rw [hv]; rfl)).trans hg, hr⟩
/-- the blocks of a slice of slices lie below mid. -/
def UpTo (mid : Nat) (v : Value) (d : List GV) : Prop := (∀ g, v.ownBlock = some g → g < mid) ∧ ∀ x ∈ d, ∀ g, x.1.ownBlock = some g → g < mid
theorem Gs.up {w : World} {lo : Nat} {v : Value} {d : List GV} (h : Gs w lo v d) : UpTo w.heap.size v d := ⟨h.vhi, fun _ hx => h.hi hx⟩
theorem Gs.keepB {w w' : World} {lo mid : Nat} {v : Value} {d : List GV} (h : Gs w lo v d) (hu : UpTo mid v d) (hb : ∀ j, lo ≤ j → j < mid → w'.heap[j]? = w.heap[j]?) : Gs w' lo v d := by
  refine ⟨ownsRow_keep13 h.1 fun g hg => hb g (h.vlo g hg) (hu.1 g hg), fun x hx => ?_, h.2.2⟩
  obtain ⟨⟨A, c, e, ho⟩, hs⟩ := h.2.1 x hx
  exact ⟨⟨A, c, e, ownsRow_keep13 ho fun g hg => hb g (ho.own_lo g hg) (hu.2 x hx g (by rw [e]; exact hg))⟩, hs⟩
theorem gtl_take {α : Type} {Ls : List (List α)} {k : Nat} (h : k < Ls.length) : Ls.take (k + 1) = Ls.take k ++ [gtl Ls k] := by
  rw [List.take_add_one]
  simp [gtl, List.getD_eq_getElem?_getD, h]
/-- the elements' values, wherever nothing of it changes. -/
theorem GsF.row {w W : World} {lo k cv : Nat} {Av : Option Addr} {d : List GVF} (h : GsF w lo (.slice Av k cv) d) (hd : d.length = k) (hW : Below w.heap.size w W) : W.ownsRow lo 41 1 (.slice Av k cv) k (d.map Prod.fst) := by
  have := (h.below hW).1
  rwa [hd] at this
/-- one slice more, made since. -/
theorem GsF.fresh {w0 wr W w5 : World} {lo k cv n c3 g5 cap5 : Nat} {Av A3 : Option Addr} {d : List GVF} {L : List Bool} (hG : GsF wr lo (.slice Av k cv) d) (hd : d.length = k) (hL : L.length = n) (hlo : lo ≤ wr.heap.size) (hW : Below wr.heap.size wr W) (ho3 : OwF W wr.heap.size A3 n c3 L)
    (h5 : w5.ownsRow lo 41 1 (.slice (some ⟨g5, 0, none⟩) (k + 1) cap5) (k + 1) (d.map Prod.fst ++ [.slice A3 n c3])) (hg5 : (W.alloc (.cells #[.slice A3 n c3] 41)).grownBy w5 (Value.slice Av k cv).ownBlock) (hl5 : (Value.slice Av k cv).ownBlock = some g5 ∨ g5 = (W.alloc (.cells #[.slice A3 n c3] 41)).heap.size) (hb : Below lo w0 wr) :
    GsF w5 lo (.slice (some ⟨g5, 0, none⟩) (k + 1) cap5) (d ++ [(.slice A3 n c3, L)]) ∧ Below lo w0 w5 ∧ (d ++ [(Value.slice A3 n c3, L)]).length = k + 1 ∧ gsCF (d ++ [(.slice A3 n c3, L)]) = gsCF d ++ [L] ∧ OwF w5 wr.heap.size A3 n c3 L := by
  subst hL
  have s1 : ∀ x ∈ d, ∀ g, x.1.ownBlock = some g → (Value.slice A3 L.length c3).ownBlock ≠ some g := fun x hx g hg q => by
    have := hG.hi hx g hg
    have := ho3.own_lo g q
    omega
  have s2 : ∀ g, (Value.slice A3 L.length c3).ownBlock = some g → (Value.slice Av k cv).ownBlock ≠ some g := fun g hg q => by
    have := hG.vhi g q
    have := ho3.own_lo g hg
    omega
  have hGW := hG.below hW
  have hP := GsF.push (xs := L) (A3 := A3) (c3 := c3) (o := .cells #[.slice A3 L.length c3] 41) (g' := g5) (cap := cap5) (w5 := w5) hGW ho3 hlo s1 s2 (by rw [hd]; exact h5) hg5 hl5
  rw [hd] at hP
  have hbW : Below lo w0 W := hb.trans (hW.mono hlo)
  refine ⟨hP, (hbW.alloc (Nat.le_trans hlo hW.size) _).grown hg5 (Nat.le_trans (Nat.le_trans hlo hW.size) (by simp)) (fun g hg => hG.vlo g hg), by rw [List.length_append, hd]; rfl, by simp [gsCF], OwF.off (World.ownsRow.alloc ho3 _) hg5 (fun g hg => s2 g hg)⟩
theorem GsF.off {w w' : World} {lo : Nat} {v : Value} {d : List GVF} {row : Option Nat} (h : GsF w lo v d) (hg : w.grownBy w' row) (hne : ∀ g, row = some g → g < lo) : GsF w' lo v d := by
  refine ⟨World.ownsRow.kept h.1 hg ?_, fun x hx => ?_, h.2.2⟩
  · cases e : v.ownBlock with
    | none => exact .inl rfl
    | some g => exact .inr (fun he => by have := h.vlo g e; have := hne g he.symm; omega)
  · obtain ⟨⟨A, c, e, ho⟩, hs⟩ := h.2.1 x hx
    exact ⟨⟨A, c, e, OwF.off ho hg (fun b hb q => by have := ho.own_lo b hb; have := hne b q; omega)⟩, hs⟩
theorem retGs_mk' {w w' : World} {A : Option Addr} {m c : Nat} {d : List GV} {Ls : List (List Int)} (hd : d.length = m) (hc : gsC d = Ls) (hG : Gs w' w.heap.size (.slice A m c) d) (hb : Below w.heap.size w w') : RetGs w Ls (.returned (.slice A m c)) w' := retGs_mk hd hc hG hb
theorem retGsF_mk' {w w' : World} {A : Option Addr} {m c : Nat} {d : List GVF} {Ls : List (List Bool)} (hd : d.length = m) (hc : gsCF d = Ls) (hG : GsF w' w.heap.size (.slice A m c) d) (hb : Below w.heap.size w w') : RetGsF w Ls (.returned (.slice A m c)) w' := retGs_mkF hd hc hG hb
end Go.Proofs.Ytgeedgljabdllaa
