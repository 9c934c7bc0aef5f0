import Derived.Test.YtgeedgljabdllaaOPxt
import Derived.Test.YtgeedgljabdllaaPp
import Derived.Deep.AppendLies
import Derived.Test.YtgeedgljabdllaaBo
import Derived.Deep.Grids
import Derived.Lib.SmallJoins
import Derived.Test.YtgeedgljabdllaaIz
import Derived.Test.YtgeedgljabdllaaInts
set_option maxRecDepth 8000
namespace Go.Proofs.Ytgeedgljabdllaa
open Go.ChangeShapes Go.WideShapes Go.ChangeAt Go.RowKit
theorem RdF.news {w : World} {B b off m : Nat} {ys : List Bool} (hr : RdF w B (some ⟨b, off, none⟩) m ys) : ∀ j u, (bvals ys)[j]? = some u → w.cell? ((⟨b, off, none⟩ : Addr).add j) = some u := by
  intro j u hj
  have hjl : j < ys.length := by
    have := (List.getElem?_eq_some_iff.1 hj).1
    rwa [bvals_length] at this
  rw [bvals_get hjl] at hj
  injection hj with hj
  subst hj
  have hjm : j < m := by rw [← hr.1]; exact hjl
  obtain ⟨b', off', he, _, hc⟩ := hr.at_ hjm
  cases he
  rw [← hc]
  unfold Addr.add
  by_cases h0 : j = 0
  · subst h0; simp
  · simp [h0]
theorem bvals_one (ys : List Bool) : ∀ u ∈ bvals ys, u.oneCell' = true := by
  intro u hu
  simp only [bvals, List.mem_map] at hu
  obtain ⟨y, _, rfl⟩ := hu
  rfl
theorem run_push_allF {w : World} (ty : TypeId) (lo : Nat) (A : Option Addr) (n c : Nat) (xs : List Bool) (A2 : Option Addr) (m c2 B : Nat) (ys : List Bool) (hown : OwF w lo A n c xs) (hr : RdF w B A2 m ys) (hmn : 0 < m ∨ n = 0)
    (hn : n ≤ 1099511627776) (hm : m ≤ 1099511627776) (hlo : lo ≤ w.heap.size) :
    ∃ A' c' w', (Builtin.append_ #[41, 41] ty #[.slice A n c, .slice A2 m c2]).run Try.prog w = .ok (.slice A' (n + m) c') w' ∧ OwF w' lo A' (n + m) c' (xs ++ ys) ∧ w.grownBy w' (Value.slice A n c).ownBlock ∧ (∀ g, (Value.slice A' (n + m) c').ownBlock = some g → (Value.slice A n c).ownBlock = some g ∨ g = w.heap.size) := by
  obtain ⟨i0, hi, hz0, hz1, hz2⟩ := info_parts bool_info
  by_cases h0 : 0 < m
  · obtain ⟨b, off, rfl, _, _⟩ := hr.at_ h0
    obtain ⟨g, cap, w', hrun, h2, h3, h4, h5⟩ := run_append_lies (P := Try.prog) w 41 ty lo 4 i0 (.bool false) 1 1 Try.underlying41 hi hz0 hz1 hz2 rfl (by decide) _ n (bvals xs) hown ⟨b, off, none⟩ m c2 (bvals ys) (by rw [bvals_length, hr.1]; omega) hr.news (bvals_one ys) h0 (by simp only [maxLen]; omega) (by omega) hlo _ rfl
    refine ⟨some ⟨g, 0, none⟩, cap, w', hrun, ?_, h3, ?_⟩
    · unfold OwF
      rw [show bvals (xs ++ ys) = bvals xs ++ bvals ys by simp [bvals]]
      exact h2
    · intro g' hg'
      have : g' = g := by simp [Value.ownBlock] at hg'; omega
      subst this
      exact h4
  · obtain rfl : m = 0 := by omega
    obtain rfl : n = 0 := by omega
    have hy : ys = [] := List.eq_nil_of_length_eq_zero hr.1
    subst hy
    have hsrc : Go.Src Try.prog i0.size 41 (.slice A2 0 c2) 0 [] w := by
      cases A2 with
      | none => exact Go.Src.ofNil w Try.underlying41 c2
      | some a => exact Go.Src.ofSlice w Try.underlying41 a 0 c2 [] (by simp) (fun j u hj => by simp at hj) (fun u hu => by simp at hu)
    refine ⟨A, c, w, run_append_nothing w 41 41 ty 4 i0 Try.underlying41 hi A 0 c (Nat.zero_le _) _ hsrc, ?_, World.grownBy.refl _ _, fun g hg => .inl hg⟩
    rw [List.append_nil]
    exact hown
/-! a slice of slices of bools of the call's own. -/
theorem sl_infoF : (Try.prog.info? 41).map (fun i => (i.zero, i.size, i.bytes)) = some (some (.slice none 0 0), 1, 24) := by kernel_rfl
abbrev GVF := Value × List Bool
theorem OwF.off {w w' : World} {lo : Nat} {A : Option Addr} {n c : Nat} {xs : List Bool} {row : Option Nat} (h : OwF w lo A n c xs) (hg : w.grownBy w' row) (hne : ∀ g, (Value.slice A n c).ownBlock = some g → row ≠ some g) : OwF w' lo A n c xs := by
  refine World.ownsRow.kept h hg ?_
  cases e : (Value.slice A n c).ownBlock with
  | none => exact .inl rfl
  | some g => exact .inr (fun he => hne g e he.symm)
/-- the cells of each element lie in a block of its own. -/
def GsF (w : World) (lo : Nat) (v : Value) (d : List GVF) : Prop :=
  w.ownsRow lo 41 1 v d.length (d.map Prod.fst) ∧ (∀ x ∈ d, (∃ A c, x.1 = .slice A x.2.length c ∧ OwF w lo A x.2.length c x.2) ∧ ∀ g, x.1.ownBlock = some g → v.ownBlock ≠ some g) ∧ d.Pairwise fun x y => ∀ g, x.1.ownBlock = some g → y.1.ownBlock ≠ some g
def gsCF (d : List GVF) : List (List Bool) := d.map Prod.snd
def gatF (Ls : List (List Bool)) (k : Nat) : List Bool := Ls.getD k []
theorem cnt_lenF (d : List GVF) : (gsCF d).length = d.length := by simp [gsCF]
theorem gat_cntF {d : List GVF} {k : Nat} (hk : k < d.length) : gatF (gsCF d) k = d[k].2 := by
  simp [gatF, gsCF, List.getD_eq_getElem?_getD, hk]
theorem GsF.below {w w' : World} {lo : Nat} {v : Value} {d : List GVF} (h : GsF w lo v d) (hb : Below w.heap.size w w') : GsF w' lo v d := by
  refine ⟨World.ownsRow.kept h.1 (row := none) ⟨hb.os, hb.tape, hb.output, hb.size, fun k hk _ => hb.block k hk⟩ (by
    cases e : v.ownBlock
    · exact .inl rfl
    · exact .inr (by simp)), fun x hx => ?_, h.2.2⟩
  obtain ⟨⟨A, c, e, ho⟩, hs⟩ := h.2.1 x hx
  exact ⟨⟨A, c, e, ho.below hb⟩, hs⟩
theorem GsF.hi {w : World} {lo : Nat} {v : Value} {d : List GVF} (h : GsF w lo v d) {x : GVF} (hx : x ∈ d) : ∀ g, x.1.ownBlock = some g → g < w.heap.size := fun g hg => by
  obtain ⟨⟨A, c, e, ho⟩, _⟩ := h.2.1 x hx
  rw [e] at hg
  exact ho.own_hi g hg
theorem GsF.vhi {w : World} {lo : Nat} {v : Value} {d : List GVF} (h : GsF w lo v d) : ∀ g, v.ownBlock = some g → g < w.heap.size := fun g hg => (World.ownsRow.lt h.1 g hg).2
theorem GsF.vlo {w : World} {lo : Nat} {v : Value} {d : List GVF} (h : GsF w lo v d) : ∀ g, v.ownBlock = some g → lo ≤ g := fun g hg => (World.ownsRow.lt h.1 g hg).1
theorem GsF.mono {w : World} {lo lo' : Nat} {v : Value} {d : List GVF} (h : GsF w lo v d) (hl : lo' ≤ lo) : GsF w lo' v d :=
  ⟨World.ownsRow.mono h.1 hl, fun x hx => by obtain ⟨⟨A, c, e, ho⟩, hs⟩ := h.2.1 x hx; exact ⟨⟨A, c, e, ho.mono hl⟩, hs⟩, h.2.2⟩
theorem GsF.at_ {w : World} {lo m cap : Nat} {A : Option Addr} {d : List GVF} (h : GsF w lo (.slice A m cap) d) {k : Nat} (hk : k < d.length) :
    ∃ g A' c', A = some ⟨g, 0, none⟩ ∧ m = d.length ∧ lo ≤ g ∧ g < w.heap.size ∧ w.cell? ⟨g, k, none⟩ = some (.slice A' (gatF (gsCF d) k).length c') ∧ w.frozen? ⟨g, k, none⟩ = false ∧ OwF w lo A' (gatF (gsCF d) k).length c' (gatF (gsCF d) k) ∧ (∀ b, (Value.slice A' (gatF (gsCF d) k).length c').ownBlock = some b → b ≠ g) ∧ d[k].1 = .slice A' (gatF (gsCF d) k).length c' := by
  obtain ⟨g, cap', hv, h1, h2⟩ := World.ownsRow.form h.1 (by omega)
  injection hv with e1 e2 e3
  subst e1 e2 e3
  obtain ⟨⟨A', c', e, ho⟩, hs⟩ := h.2.1 d[k] (List.getElem_mem hk)
  rw [gat_cntF hk]
  refine ⟨g, A', c', rfl, rfl, h1, h2, ?_, World.ownsRow.frozenAt h.1 k, ho, fun b hb => ?_, e⟩
  · rw [World.ownsRow.cellAt h.1 k (by omega), List.getElem?_map, List.getElem?_eq_getElem hk]
    simp only [Option.map_some, e]
  · rw [← e] at hb
    have := hs b hb
    simp [Value.ownBlock] at this
    exact fun q => this q.symm
theorem GsF.nil_ {w : World} {lo : Nat} : GsF w lo (.slice none 0 0) [] := ⟨World.ownsRow_nil w lo _ _, fun x hx => by simp at hx, List.Pairwise.nil⟩
theorem GsF.made0 {w : World} {lo : Nat} (h : lo ≤ w.heap.size) : GsF (w.alloc (.cells #[] 41)) lo (.slice (some ⟨w.heap.size, 0, none⟩) 0 0) [] := ⟨World.ownsRow_made w #[] 0 h (by simp [maxLen]) rfl, fun x hx => by simp at hx, List.Pairwise.nil⟩
/-- one slice more, in a block of its own. -/
theorem GsF.push {w3 w5 : World} {lo lo3 : Nat} {v : Value} {d : List GVF} {A3 : Option Addr} {c3 g' cap : Nat} {xs : List Bool} (h : GsF w3 lo v d) (ho3 : OwF w3 lo3 A3 xs.length c3 xs) (hlo : lo ≤ lo3)
    (hsep : ∀ x ∈ d, ∀ g, x.1.ownBlock = some g → (Value.slice A3 xs.length c3).ownBlock ≠ some g) (hv : ∀ g, (Value.slice A3 xs.length c3).ownBlock = some g → v.ownBlock ≠ some g) {o : Obj}
    (h5 : w5.ownsRow lo 41 1 (.slice (some ⟨g', 0, none⟩) (d.length + 1) cap) (d.length + 1) (d.map Prod.fst ++ [.slice A3 xs.length c3])) (hg5 : (w3.alloc o).grownBy w5 v.ownBlock) (hl5 : v.ownBlock = some g' ∨ g' = (w3.alloc o).heap.size) :
    GsF w5 lo (.slice (some ⟨g', 0, none⟩) (d.length + 1) cap) (d ++ [(.slice A3 xs.length c3, xs)]) := by
  have hno : ∀ {lo2 : Nat} {A : Option Addr} {n c : Nat} {ys : List Bool}, OwF w3 lo2 A n c ys → (∀ g, (Value.slice A n c).ownBlock = some g → v.ownBlock ≠ some g) → OwF w5 lo2 A n c ys := fun ho hne => OwF.off (World.ownsRow.alloc ho o) hg5 hne
  have hg' : (Value.slice (some ⟨g', 0, none⟩) (d.length + 1) cap).ownBlock = some g' := by simp [Value.ownBlock]
  have hfar : ∀ b, b < w3.heap.size → v.ownBlock ≠ some b → b ≠ g' := fun b hb hne e => by
    subst e
    rcases hl5 with q | q
    · exact hne q
    · rw [World.size_alloc] at q; omega
  refine ⟨by simpa using h5, fun x hx => ?_, ?_⟩
  · rw [List.mem_append] at hx
    rcases hx with hx | hx
    · obtain ⟨⟨A, c, e, ho⟩, hs⟩ := h.2.1 x hx
      refine ⟨⟨A, c, e, hno ho (fun g hg => hs g (by rw [e]; exact hg))⟩, fun g hg => ?_⟩
      rw [hg']
      intro q
      injection q with q
      exact hfar g (h.hi hx g hg) (hs g hg) q.symm
    · simp only [List.mem_singleton] at hx
      subst hx
      refine ⟨⟨A3, c3, rfl, (hno ho3 hv).mono hlo⟩, fun g hg => ?_⟩
      rw [hg']
      intro q
      injection q with q
      exact hfar g (ho3.own_hi g hg) (hv g hg) q.symm
  · rw [List.pairwise_append]
    exact ⟨h.2.2, List.pairwise_singleton _ _, fun x hx y hy g hg => by simp only [List.mem_singleton] at hy; subst hy; exact hsep x hx g hg⟩
/-- an element put into its place. -/
theorem GsF.put {w : World} {lo lo3 g m cap k : Nat} {d : List GVF} {A3 : Option Addr} {c3 : Nat} {xs : List Bool} (h : GsF w lo (.slice (some ⟨g, 0, none⟩) m cap) d) (hk : k < d.length) (ho3 : OwF w lo3 A3 xs.length c3 xs) (hlo : lo ≤ lo3)
    (hsep : ∀ x ∈ d, ∀ b, x.1.ownBlock = some b → (Value.slice A3 xs.length c3).ownBlock ≠ some b) (hv : ∀ b, (Value.slice A3 xs.length c3).ownBlock = some b → b ≠ g) :
    GsF (w.setCell ⟨g, k, none⟩ (.slice A3 xs.length c3)) lo (.slice (some ⟨g, 0, none⟩) m cap) (d.set k (.slice A3 xs.length c3, xs)) := by
  obtain ⟨g0, cap', hv0, _, _⟩ := World.ownsRow.form h.1 (by omega)
  injection hv0 with e1 e2 e3
  injection e1 with e1
  injection e1 with e1 _ _
  subst e1 e2 e3
  obtain ⟨h1, h2⟩ := World.ownsRow.stored h.1 k (.slice A3 xs.length c3)
  have hno : ∀ {lo2 : Nat} {A : Option Addr} {n c : Nat} {ys : List Bool}, OwF w lo2 A n c ys → (∀ b, (Value.slice A n c).ownBlock = some b → b ≠ g) → OwF (w.setCell ⟨g, k, none⟩ (.slice A3 xs.length c3)) lo2 A n c ys := fun ho hne => OwF.off ho h2 (fun b hb e => hne b hb (by injection e with e; exact e.symm))
  have hg' : (Value.slice (some ⟨g, 0, none⟩) d.length cap).ownBlock = some g := by simp [Value.ownBlock]
  refine ⟨by rw [List.length_set, List.map_set]; exact h1, fun x hx => ?_, ?_⟩
  · rcases List.mem_or_eq_of_mem_set hx with hx | hx
    · obtain ⟨⟨A, c, e, ho⟩, hs⟩ := h.2.1 x hx
      refine ⟨⟨A, c, e, hno ho (fun b hb q => hs b (by rw [e]; exact hb) (by rw [hg', q]))⟩, hs⟩
    · subst hx
      exact ⟨⟨A3, c3, rfl, (hno ho3 hv).mono hlo⟩, fun b hb => by rw [hg']; intro q; injection q with q; exact hv b hb q.symm⟩
  · rw [List.pairwise_iff_getElem]
    have hp := List.pairwise_iff_getElem.1 h.2.2
    intro i j hi hj hij b hb
    rw [List.length_set] at hi hj
    rw [List.getElem_set] at hb ⊢
    by_cases e : k = i
    · rw [if_pos e] at hb
      rw [if_neg (by omega)]
      intro q
      exact hsep d[j] (List.getElem_mem hj) b q hb
    · rw [if_neg e] at hb
      by_cases e2 : k = j
      · rw [if_pos e2]
        exact hsep d[i] (List.getElem_mem hi) b hb
      · rw [if_neg e2]
        exact hp i j hi hj hij b hb
theorem cnt_setF {d : List GVF} {k : Nat} {x : GVF} : gsCF (d.set k x) = (gsCF d).set k x.2 := by simp [gsCF, List.map_set]
theorem gat_setF {Ls : List (List Bool)} {k j : Nat} {xs : List Bool} (hk : k < Ls.length) : gatF (Ls.set k xs) j = if j = k then xs else gatF Ls j := by
  simp only [gatF, List.getD_eq_getElem?_getD, List.getElem?_set]
  by_cases e : k = j
  · subst e; simp [hk]
  · rw [if_neg e, if_neg (fun q => e q.symm)]
/-- 'append(out, x)', x a slice that has been laid just ahead. -/
theorem push_slF {w : World} {ops : Array Oper} {rest : List Oper} {o : Oper} {a : Act} {Q : Exit → Act → World → Prop} (hgd : o.guard = none) (s x : Operand)
    (ho : o.op = .call { callee := .builtin .append, args := #[s, x], argTypes := #[31, 31] })
    (lo : Nat) (v : Value) (n : Nat) (vs : List Value) (g : Nat) (A : Option Addr) (m c : Nat) (hs : a.eval s = v) (hx : a.eval x = .slice (some ⟨g, 0, none⟩) 1 1)
    (hown : w.ownsRow lo 41 1 v n vs) (hrow : w.heap[g]? = some (.cells #[.slice A m c] 41)) (hn : n ≤ 1099511627776) (hlo : lo ≤ w.heap.size)
    (h : ∀ g' cap w', w'.ownsRow lo 41 1 (.slice (some ⟨g', 0, none⟩) (n + 1) cap) (n + 1) (vs ++ [.slice A m c]) → w.grownBy w' v.ownBlock → (v.ownBlock = some g' ∨ g' = w.heap.size) → wpList Try.prog ops Q rest (a.put o.dst (.slice (some ⟨g', 0, none⟩) (n + 1) cap)) w') :
    wpList Try.prog ops Q (o :: rest) a w := by
  refine wpList_plain hgd fun K hK => ?_
  obtain ⟨i0, hi, hz0, hz1, hz2⟩ := info_parts sl_infoF
  obtain ⟨g', cap, w', hrun, h1, h2, h3, h4⟩ := run_append_lies (P := Try.prog) w 31 o.type lo 41 i0 (.slice none 0 0) 1 24 Try.underlying31 hi hz0 hz1 hz2 rfl (by decide) v n vs hown ⟨g, 0, none⟩ 1 1 [.slice A m c] rfl (World.news_of_block (cs := #[.slice A m c]) hrow) (by simp [Value.oneCell']) (by decide) (by simp only [maxLen]; omega) (by omega) hlo _ rfl
  unfold Oper.wp
  simp [execOp, ho, resolve, invoke, builtin, hs, hx, hrun, Result.andThen]
  exact hK _ _ (h g' cap w' h1 h2 h3)
/-- 'append([]int{}, t...)', t whatever reads. -/
theorem push_copyF {w : World} {ops : Array Oper} {rest : List Oper} {o : Oper} {a : Act} {Q : Exit → Act → World → Prop} (hgd : o.guard = none) (s x : Operand)
    (ho : o.op = .call { callee := .builtin .append, args := #[s, x], argTypes := #[41, 41] })
    (lo : Nat) (A : Option Addr) (A2 : Option Addr) (m c2 B : Nat) (ys : List Bool) (hs : a.eval s = .slice A 0 0) (hx : a.eval x = .slice A2 m c2) (hown : OwF w lo A 0 0 []) (hr : RdF w B A2 m ys)
    (hm : m ≤ 1099511627776) (hlo : lo ≤ w.heap.size)
    (h : ∀ A' c' w', OwF w' lo A' m c' ys → w.grownBy w' (Value.slice A 0 0).ownBlock → wpList Try.prog ops Q rest (a.put o.dst (.slice A' m c')) w') :
    wpList Try.prog ops Q (o :: rest) a w := by
  refine wpList_plain hgd fun K hK => ?_
  obtain ⟨A', c', w', hrun, h1, h2, h3⟩ := run_push_allF o.type lo A 0 0 [] A2 m c2 B ys hown hr (.inr rfl) (by omega) hm hlo
  rw [Nat.zero_add] at hrun h1
  rw [List.nil_append] at h1
  unfold Oper.wp
  simp [execOp, ho, resolve, invoke, builtin, hs, hx, hrun, Result.andThen]
  exact hK _ _ (h A' c' w' h1 h2)
/-- a slice of n ints of the call's own is handed back. -/
def RetNF (w : World) (n : Nat) (xs : List Bool) (e : Ending) (w' : World) : Prop := ∃ A c, e = .returned (.slice A n c) ∧ OwF w' w.heap.size A n c xs ∧ Below w.heap.size w w'
theorem retN_ofF {w w' : World} {n : Nat} {xs : List Bool} {e : Ending} (h : RetFl w xs e w') (hl : xs.length = n) : RetNF w n xs e w' := by
  obtain ⟨A, c, rfl, ho, hb⟩ := h
  rw [hl] at ho ⊢
  exact ⟨A, c, rfl, ho, hb⟩
def RetGsF (w : World) (Ls : List (List Bool)) (e : Ending) (w' : World) : Prop := ∃ A c d, e = .returned (.slice A Ls.length c) ∧ gsCF d = Ls ∧ GsF w' w.heap.size (.slice A Ls.length c) d ∧ Below w.heap.size w w'
theorem retGs_mkF {w w' : World} {A : Option Addr} {m c : Nat} {d : List GVF} {Ls : List (List Bool)} (hd : d.length = m) (hc : gsCF d = Ls) (hG : GsF w' w.heap.size (.slice A m c) d) (hb : Below w.heap.size w w') : RetGsF w Ls (.returned (.slice A m c)) w' := by
  have : Ls.length = m := by rw [← hc, cnt_lenF, hd]
  subst this
  exact ⟨A, c, d, rfl, hc, hG, hb⟩
/-- a slice of slices of the call's own reads. -/
theorem Gs.rr {w : World} {lo n c : Nat} {A : Option Addr} {d : List GV} (h : Gs w lo (.slice A n c) d) (hn : d.length = n) : Rr Rd w w.heap.size A n (gsC d) := by
  refine ⟨by rw [cnt_len, hn], fun h0 => ?_⟩
  obtain ⟨g, A0, c0, rfl, _, _, hg, _⟩ := h.at_ (k := 0) (by omega)
  refine ⟨g, 0, rfl, hg, fun k hk => ?_⟩
  obtain ⟨g', A', c', e, _, _, _, h1, _, h2, _⟩ := h.at_ (k := k) (by omega)
  injection e with e
  injection e with e _ _
  subst e
  rw [Nat.zero_add]
  exact ⟨A', c', h1, h2.rd⟩
theorem GsF.rr {w : World} {lo n c : Nat} {A : Option Addr} {d : List GVF} (h : GsF w lo (.slice A n c) d) (hn : d.length = n) : Rr RdF w w.heap.size A n (gsCF d) := by
  refine ⟨by rw [cnt_lenF, hn], fun h0 => ?_⟩
  obtain ⟨g, A0, c0, rfl, _, _, hg, _⟩ := h.at_ (k := 0) (by omega)
  refine ⟨g, 0, rfl, hg, fun k hk => ?_⟩
  obtain ⟨g', A', c', e, _, _, _, h1, _, h2, _⟩ := h.at_ (k := k) (by omega)
  injection e with e
  injection e with e _ _
  subst e
  rw [Nat.zero_add]
  exact ⟨A', c', h1, h2.rd⟩
/-- the elements' values, wherever nothing of it changes. -/
theorem Gs.row {w W : World} {lo k cv : Nat} {Av : Option Addr} {d : List GV} (h : Gs w lo (.slice Av k cv) d) (hd : d.length = k) (hW : Below w.heap.size w W) : W.ownsRow lo 28 1 (.slice Av k cv) k (d.map Prod.fst) := by
  have := (h.below hW).1
  rwa [hd] at this
/-- one slice more, made since. -/
theorem Gs.fresh {w0 wr W w5 : World} {lo k cv n c3 g5 cap5 : Nat} {Av A3 : Option Addr} {d : List GV} {L : List Int} (hG : Gs wr lo (.slice Av k cv) d) (hd : d.length = k) (hL : L.length = n) (hlo : lo ≤ wr.heap.size) (hW : Below wr.heap.size wr W) (ho3 : Ow W wr.heap.size A3 n c3 L)
    (h5 : w5.ownsRow lo 28 1 (.slice (some ⟨g5, 0, none⟩) (k + 1) cap5) (k + 1) (d.map Prod.fst ++ [.slice A3 n c3])) (hg5 : (W.alloc (.cells #[.slice A3 n c3] 28)).grownBy w5 (Value.slice Av k cv).ownBlock) (hl5 : (Value.slice Av k cv).ownBlock = some g5 ∨ g5 = (W.alloc (.cells #[.slice A3 n c3] 28)).heap.size) (hb : Below lo w0 wr) :
    Gs w5 lo (.slice (some ⟨g5, 0, none⟩) (k + 1) cap5) (d ++ [(.slice A3 n c3, L)]) ∧ Below lo w0 w5 ∧ (d ++ [(Value.slice A3 n c3, L)]).length = k + 1 ∧ gsC (d ++ [(.slice A3 n c3, L)]) = gsC d ++ [L] ∧ Ow w5 wr.heap.size A3 n c3 L := by
  subst hL
  have s1 : ∀ x ∈ d, ∀ g, x.1.ownBlock = some g → (Value.slice A3 L.length c3).ownBlock ≠ some g := fun x hx g hg q => by
    have := hG.hi hx g hg
    have := ho3.own_lo g q
    omega
  have s2 : ∀ g, (Value.slice A3 L.length c3).ownBlock = some g → (Value.slice Av k cv).ownBlock ≠ some g := fun g hg q => by
    have := hG.vhi g q
    have := ho3.own_lo g hg
    omega
  have hGW := hG.below hW
  have hP := Gs.push (xs := L) (A3 := A3) (c3 := c3) (o := .cells #[.slice A3 L.length c3] 28) (g' := g5) (cap := cap5) (w5 := w5) hGW ho3 hlo s1 s2 (by rw [hd]; exact h5) hg5 hl5
  rw [hd] at hP
  have hbW : Below lo w0 W := hb.trans (hW.mono hlo)
  refine ⟨hP, (hbW.alloc (Nat.le_trans hlo hW.size) _).grown hg5 (Nat.le_trans (Nat.le_trans hlo hW.size) (by simp)) (fun g hg => hG.vlo g hg), by rw [List.length_append, hd]; rfl, by simp [gsC], Ow.off (World.ownsRow.alloc ho3 _) hg5 (fun g hg => s2 g hg)⟩
theorem grown_setRow13 {w : World} {g : Nat} {cs : Array Value} : w.grownBy (w.setRow g cs) (some g) :=
  ⟨rfl, rfl, rfl, by simp, fun k hk hne => by unfold World.setRow; simp only [Array.getElem?_modify]; rw [if_neg (fun e => hne (by rw [e]))]⟩
theorem Gs.off {w w' : World} {lo : Nat} {v : Value} {d : List GV} {row : Option Nat} (h : Gs w lo v d) (hg : w.grownBy w' row) (hne : ∀ g, row = some g → g < lo) : Gs w' lo v d := by
  refine ⟨World.ownsRow.kept h.1 hg ?_, fun x hx => ?_, h.2.2⟩
  · cases e : v.ownBlock with
    | none => exact .inl rfl
    | some g => exact .inr (fun he => by have := h.vlo g e; have := hne g he.symm; omega)
  · obtain ⟨⟨A, c, e, ho⟩, hs⟩ := h.2.1 x hx
    exact ⟨⟨A, c, e, Ow.off ho hg (fun b hb q => by have := ho.own_lo b hb; have := hne b q; omega)⟩, hs⟩
theorem grown_set13 {w : World} {G i : Nat} {v : Value} : w.grownBy (w.setCell ⟨G, i, none⟩ v) (some G) := ⟨rfl, rfl, rfl, by simp [World.setCell], fun k _ hk => heap_setCell_other w ⟨G, i, none⟩ k v (fun e => hk (by rw [e]))⟩
theorem below_setRow13 {B g : Nat} {w w' : World} {cs : Array Value} (h : Below B w w') (hg : B ≤ g) : Below B w (w'.setRow g cs) :=
  h.trans ⟨rfl, rfl, rfl, by simp, fun k hk => by unfold World.setRow; simp only [Array.getElem?_modify]; rw [if_neg (by omega)]⟩
theorem ownsRow_keep13 {w w' : World} {base : Nat} {e : TypeId} {size : Nat} {v : Value} {n : Nat} {xs : List Value} (h : w.ownsRow base e size v n xs) (hb : ∀ g, v.ownBlock = some g → w'.heap[g]? = w.heap[g]?) : w'.ownsRow base e size v n xs := by
  refine ⟨h.1, ?_⟩
  rcases h.2 with h | ⟨g, cap, cur, hv, hb', hg, hr⟩
  · exact .inl h
  · exact .inr ⟨g, cap, cur, hv, hb', (hb g (by rw [hv]; rfl)).trans hg, hr⟩
/-- the blocks of a slice of slices lie below mid. -/
def UpTo (mid : Nat) (v : Value) (d : List GV) : Prop := (∀ g, v.ownBlock = some g → g < mid) ∧ ∀ x ∈ d, ∀ g, x.1.ownBlock = some g → g < mid
theorem Gs.up {w : World} {lo : Nat} {v : Value} {d : List GV} (h : Gs w lo v d) : UpTo w.heap.size v d := ⟨h.vhi, fun _ hx => h.hi hx⟩
theorem Gs.keepB {w w' : World} {lo mid : Nat} {v : Value} {d : List GV} (h : Gs w lo v d) (hu : UpTo mid v d) (hb : ∀ j, lo ≤ j → j < mid → w'.heap[j]? = w.heap[j]?) : Gs w' lo v d := by
  refine ⟨ownsRow_keep13 h.1 fun g hg => hb g (h.vlo g hg) (hu.1 g hg), fun x hx => ?_, h.2.2⟩
  obtain ⟨⟨A, c, e, ho⟩, hs⟩ := h.2.1 x hx
  exact ⟨⟨A, c, e, ownsRow_keep13 ho fun g hg => hb g (ho.own_lo g hg) (hu.2 x hx g (by rw [e]; exact hg))⟩, hs⟩
theorem gtl_take {α : Type} {Ls : List (List α)} {k : Nat} (h : k < Ls.length) : Ls.take (k + 1) = Ls.take k ++ [gtl Ls k] := by
  rw [List.take_add_one]
  simp [gtl, List.getD_eq_getElem?_getD, h]
/-- the elements' values, wherever nothing of it changes. -/
theorem GsF.row {w W : World} {lo k cv : Nat} {Av : Option Addr} {d : List GVF} (h : GsF w lo (.slice Av k cv) d) (hd : d.length = k) (hW : Below w.heap.size w W) : W.ownsRow lo 41 1 (.slice Av k cv) k (d.map Prod.fst) := by
  have := (h.below hW).1
  rwa [hd] at this
/-- one slice more, made since. -/
theorem GsF.fresh {w0 wr W w5 : World} {lo k cv n c3 g5 cap5 : Nat} {Av A3 : Option Addr} {d : List GVF} {L : List Bool} (hG : GsF wr lo (.slice Av k cv) d) (hd : d.length = k) (hL : L.length = n) (hlo : lo ≤ wr.heap.size) (hW : Below wr.heap.size wr W) (ho3 : OwF W wr.heap.size A3 n c3 L)
    (h5 : w5.ownsRow lo 41 1 (.slice (some ⟨g5, 0, none⟩) (k + 1) cap5) (k + 1) (d.map Prod.fst ++ [.slice A3 n c3])) (hg5 : (W.alloc (.cells #[.slice A3 n c3] 41)).grownBy w5 (Value.slice Av k cv).ownBlock) (hl5 : (Value.slice Av k cv).ownBlock = some g5 ∨ g5 = (W.alloc (.cells #[.slice A3 n c3] 41)).heap.size) (hb : Below lo w0 wr) :
    GsF w5 lo (.slice (some ⟨g5, 0, none⟩) (k + 1) cap5) (d ++ [(.slice A3 n c3, L)]) ∧ Below lo w0 w5 ∧ (d ++ [(Value.slice A3 n c3, L)]).length = k + 1 ∧ gsCF (d ++ [(.slice A3 n c3, L)]) = gsCF d ++ [L] ∧ OwF w5 wr.heap.size A3 n c3 L := by
  subst hL
  have s1 : ∀ x ∈ d, ∀ g, x.1.ownBlock = some g → (Value.slice A3 L.length c3).ownBlock ≠ some g := fun x hx g hg q => by
    have := hG.hi hx g hg
    have := ho3.own_lo g q
    omega
  have s2 : ∀ g, (Value.slice A3 L.length c3).ownBlock = some g → (Value.slice Av k cv).ownBlock ≠ some g := fun g hg q => by
    have := hG.vhi g q
    have := ho3.own_lo g hg
    omega
  have hGW := hG.below hW
  have hP := GsF.push (xs := L) (A3 := A3) (c3 := c3) (o := .cells #[.slice A3 L.length c3] 41) (g' := g5) (cap := cap5) (w5 := w5) hGW ho3 hlo s1 s2 (by rw [hd]; exact h5) hg5 hl5
  rw [hd] at hP
  have hbW : Below lo w0 W := hb.trans (hW.mono hlo)
  refine ⟨hP, (hbW.alloc (Nat.le_trans hlo hW.size) _).grown hg5 (Nat.le_trans (Nat.le_trans hlo hW.size) (by simp)) (fun g hg => hG.vlo g hg), by rw [List.length_append, hd]; rfl, by simp [gsCF], OwF.off (World.ownsRow.alloc ho3 _) hg5 (fun g hg => s2 g hg)⟩
theorem GsF.off {w w' : World} {lo : Nat} {v : Value} {d : List GVF} {row : Option Nat} (h : GsF w lo v d) (hg : w.grownBy w' row) (hne : ∀ g, row = some g → g < lo) : GsF w' lo v d := by
  refine ⟨World.ownsRow.kept h.1 hg ?_, fun x hx => ?_, h.2.2⟩
  · cases e : v.ownBlock with
    | none => exact .inl rfl
    | some g => exact .inr (fun he => by have := h.vlo g e; have := hne g he.symm; omega)
  · obtain ⟨⟨A, c, e, ho⟩, hs⟩ := h.2.1 x hx
    exact ⟨⟨A, c, e, OwF.off ho hg (fun b hb q => by have := ho.own_lo b hb; have := hne b q; omega)⟩, hs⟩
theorem retGs_mk' {w w' : World} {A : Option Addr} {m c : Nat} {d : List GV} {Ls : List (List Int)} (hd : d.length = m) (hc : gsC d = Ls) (hG : Gs w' w.heap.size (.slice A m c) d) (hb : Below w.heap.size w w') : RetGs w Ls (.returned (.slice A m c)) w' := retGs_mk hd hc hG hb
theorem retGsF_mk' {w w' : World} {A : Option Addr} {m c : Nat} {d : List GVF} {Ls : List (List Bool)} (hd : d.length = m) (hc : gsCF d = Ls) (hG : GsF w' w.heap.size (.slice A m c) d) (hb : Below w.heap.size w w') : RetGsF w Ls (.returned (.slice A m c)) w' := retGs_mkF hd hc hG hb
end Go.Proofs.Ytgeedgljabdllaa
set_option maxRecDepth 8000
namespace Go.Proofs.Ytgeedgljabdllaa
open Go.ChangeShapes Go.WideShapes Go.ChangeAt Go.RowKit
/-! picture puzzles by value: counted, copied, compared. -/
/-- a picture puzzle that came in, of any size. -/
structure PicX (w : World) (B : Nat) (RA : Option Addr) (nr : Nat) (rc : List (List Int)) (CA : Option Addr) (nc : Nat) (cc : List (List Int)) : Prop where
  r : Rrx w B RA nr rc
  c : Rrx w B CA nc cc
  mr : nr ≤ 9223372036854775807
  mc : nc ≤ 9223372036854775807
theorem PicX.below {w w' : World} {B : Nat} {RA : Option Addr} {nr : Nat} {rc : List (List Int)} {CA : Option Addr} {nc : Nat} {cc : List (List Int)} (h : PicX w B RA nr rc CA nc cc) (hb : Below B w w') : PicX w' B RA nr rc CA nc cc := ⟨Rrx.below h.r hb, Rrx.below h.c hb, h.mr, h.mc⟩
theorem pic_info13 (T : TypeId) (u v : Value) (h : (Try.prog.info? T).map (·.size) = some 2) : (Try.prog.info? T).map (·.size) = some (#[u, v] : Array Value).size := h
theorem pic_one13 (A A' : Option Addr) (n c n' c' : Nat) : (#[Value.slice A n c, .slice A' n' c'] : Array Value).all (·.oneCell') = true := by simp [Value.oneCell']
set_option maxHeartbeats 1000000 in
theorem szPicture_any (RA : Option Addr) (nr cr : Nat) (rc : List (List Int)) (CA : Option Addr) (nc c2 : Nat) (cc : List (List Int)) (B : Nat) (l : Int) (w : World) (hp : PicX w B RA nr rc CA nc cc) (hB : B ≤ w.heap.size) (h0 : 0 ≤ l) (h1 : l ≤ 1048576) :
    Calls Try.prog 32 #[.agg #[.slice RA nr cr, .slice CA nc c2], .int .i64 l] w fun e w' => ∃ r : Int, e = .returned (.int .i64 r) ∧ Below w.heap.size w w' ∧ (r = -1 ∨ (0 ≤ r ∧ ∀ w2 B2, PicX w2 B2 RA nr rc CA nc cc → PicR w2 B2 RA nr rc CA nc cc)) := by
  have hx := pcbox_new w RA nr cr CA nc c2 45
  have hb0 : Below w.heap.size w (w.alloc (.cells #[.slice RA nr cr, .slice CA nc c2] 45)) := (Below.refl _ _).alloc (Nat.le_refl _) _
  have hs0 : w.heap.size < (w.alloc (.cells #[.slice RA nr cr, .slice CA nc c2] 45)).heap.size := by simp
  obtain ⟨a0, a1⟩ := id hx
  have Hx := Lib.hid hx
  have HC := Lib.hid (fun w' (hb : Below w.heap.size w w') => szIntSS_any RA cr nr B rc l w' (Rrx.below hp.r (hb.mono hB)) (Nat.le_trans hB hb.size) hp.mr h0 (by omega))
  have HD := Lib.hid (fun w' (q : Int) (hb : Below w.heap.size w w') (hq : 0 ≤ q) (hq2 : q ≤ 1048576) => szIntSS_any CA c2 nc B cc q w' (Rrx.below hp.c (hb.mono hB)) (Nat.le_trans hB hb.size) hp.mc hq (by omega))
  clear hp hx
  go_enter Try.func32, Try.ntmps32
  go_wp2_with fail
  refine (HC.out _ hb0).mono ?_
  rintro e w1 ⟨q, rfl, hb1, hq⟩
  have h01 := step hb0 hb1
  obtain ⟨c0, c1⟩ := Hx.out.below hs0 hb1
  rcases hq with rfl | ⟨q0, q1, q2, q3⟩
  · go_wp2
    go_ret
    exact ⟨-1, rfl, h01, .inl rfl⟩
  · have hn1 : ¬ q < 0 := by omega
    have HQ2 := Lib.hid q2
    have HQ3 := Lib.hid q3
    clear q2 q3 a0 a1
    go_wp2_with fail
    refine (HD.out _ q h01 q0 (by omega)).mono ?_
    rintro e w2 ⟨p, rfl, hb2, hpp⟩
    have h02 := step h01 hb2
    rcases hpp with rfl | ⟨p0, p1, p2, p3⟩
    · go_wp2
      go_ret
      exact ⟨-1, rfl, h02, .inl rfl⟩
    · have hn2 : ¬ p < 0 := by omega
      have HP2 := Lib.hid p2
      have HP3 := Lib.hid p3
      clear p2 p3
      go_wp2
      go_ret
      refine ⟨p, rfl, h02, .inr ⟨p0, fun w3 B3 hx3 => ⟨Rrx.lns hx3.r (by have := HQ2.out; omega) fun k hk => by have := HQ3.out k hk; omega, Rrx.lns hx3.c (by have := HP2.out; omega) fun k hk => by have := HP3.out k hk; omega⟩⟩⟩
set_option maxHeartbeats 1000000 in
theorem eqPicture_rd (RA : Option Addr) (nr cr : Nat) (rc : List (List Int)) (CA : Option Addr) (nc c2 : Nat) (cc : List (List Int)) (B : Nat) (RA' : Option Addr) (cr' : Nat) (CA' : Option Addr) (c2' B' : Nat) (w : World) (hp : PicR w B RA nr rc CA nc cc) (hB : B ≤ w.heap.size) (hp' : PicR w B' RA' nr rc CA' nc cc) (hB' : B' ≤ w.heap.size) :
    Calls Try.prog 34 #[.agg #[.slice RA nr cr, .slice CA nc c2], .agg #[.slice RA' nr cr', .slice CA' nc c2']] w fun e w' => e = .returned (.bool true) ∧ Below w.heap.size w w' := by
  have hx := pcbox_new w RA nr cr CA nc c2 25
  have hs0 : w.heap.size < (w.alloc (.cells #[.slice RA nr cr, .slice CA nc c2] 25)).heap.size := by simp
  have hx2 := pcbox_new (w.alloc (.cells #[.slice RA nr cr, .slice CA nc c2] 25)) RA' nr cr' CA' nc c2' 25
  obtain ⟨U, hU⟩ : ∃ U, U = (w.alloc (.cells #[.slice RA nr cr, .slice CA nc c2] 25)).alloc (.cells #[.slice RA' nr cr', .slice CA' nc c2'] 25) := ⟨_, rfl⟩
  rw [World.size_alloc, ← hU] at hx2
  have hx1 : PcBox U w.heap.size RA nr cr CA nc c2 := by rw [hU]; exact hx.below hs0 ((Below.refl _ _).alloc (Nat.le_refl _) _)
  have hbU : Below w.heap.size w U := by rw [hU]; exact ((Below.refl _ _).alloc (Nat.le_refl _) _).alloc (by simp) _
  have hsU : U.heap.size = w.heap.size + 1 + 1 := by rw [hU]; simp
  have hs1 : w.heap.size < U.heap.size := by omega
  have hs2 : w.heap.size + 1 < U.heap.size := by omega
  obtain ⟨a0, a1⟩ := id hx1
  obtain ⟨b0, b1⟩ := id hx2
  have HR := Lib.hid (eqIntSS_rd RA RA' cr cr' nr B B' rc U (hp.r.below (hbU.mono hB)) (hp'.r.below (hbU.mono hB')) (Nat.le_trans hB hbU.size) (Nat.le_trans hB' hbU.size))
  have HC := Lib.hid (fun w' (hb : Below w.heap.size w w') => eqIntSS_rd CA CA' c2 c2' nc B B' cc w' (hp.c.below (hb.mono hB)) (hp'.c.below (hb.mono hB')) (Nat.le_trans hB hb.size) (Nat.le_trans hB' hb.size))
  have HU := Lib.hid hU
  have Hx1 := Lib.hid hx1
  have Hx2 := Lib.hid hx2
  clear hU hx hsU hp hp' hx1 hx2
  go_enter Try.func34, Try.ntmps34
  go_wp2_with fail
  rw [← HU.out]
  refine HR.out.mono ?_
  rintro e w2 ⟨rfl, hb2⟩
  have h02 := step hbU hb2
  obtain ⟨d0, d1⟩ := Hx1.out.below hs1 hb2
  obtain ⟨e0, e1⟩ := Hx2.out.below hs2 hb2
  clear a0 a1 b0 b1
  go_wp2_with fail
  refine (HC.out _ h02).mono ?_
  rintro e w3 ⟨rfl, hb3⟩
  have h03 := step h02 hb3
  go_wp2
  go_ret
  exact ⟨rfl, h03⟩
theorem picn_one : Hid (∀ A n c A' n' c', (#[Value.slice A n c, .slice A' n' c'] : Array Value).all (·.oneCell') = true) := Lib.hid fun A n c A' n' c' => pic_one13 A A' n c n' c'
set_option maxHeartbeats 2000000 in
theorem toPicture_any (RA : Option Addr) (nr cr : Nat) (rc : List (List Int)) (CA : Option Addr) (nc c2 : Nat) (cc : List (List Int)) (B : Nat) (w : World) (hp : PicR w B RA nr rc CA nc cc) (hB : B ≤ w.heap.size) :
    Calls Try.prog 33 #[.agg #[.slice RA nr cr, .slice CA nc c2]] w fun e w' => ∃ g1 g2 d1 d2, e = .returned (.agg #[.slice (some ⟨g1, 0, none⟩) nr nr, .slice (some ⟨g2, 0, none⟩) nc nc]) ∧ Gs w' w.heap.size (.slice (some ⟨g1, 0, none⟩) nr nr) d1 ∧ d1.length = nr ∧ gsC d1 = rc ∧ (∃ B2, Gs w' B2 (.slice (some ⟨g2, 0, none⟩) nc nc) d2 ∧ w.heap.size ≤ B2 ∧ g1 < B2 ∧ ∀ x ∈ d1, ∀ g, x.1.ownBlock = some g → g < B2) ∧ d2.length = nc ∧ gsC d2 = cc ∧ Below w.heap.size w w' := by
  have Hi : Hid ((Try.prog.info? 25).map (·.size) = some 2) := Lib.hid (by kernel_rfl)
  have hx0 := pcbox_new w RA nr cr CA nc c2 45
  have hs0 : w.heap.size < (w.alloc (.cells #[.slice RA nr cr, .slice CA nc c2] 45)).heap.size := by simp
  obtain ⟨V, hV⟩ : ∃ V, V = ((w.alloc (.cells #[.slice RA nr cr, .slice CA nc c2] 45)).alloc (.cells #[.slice none 0 0, .slice none 0 0] 25)).alloc (.cells #[.slice none 0 0, .slice none 0 0] 25) := ⟨_, rfl⟩
  have hbV : Below w.heap.size w V := by rw [hV]; exact (((Below.refl _ _).alloc (Nat.le_refl _) _).alloc (by simp) _).alloc (by simp; omega) _
  have hsV : V.heap.size = w.heap.size + 1 + 1 + 1 := by rw [hV]; simp
  have hv2 : V.heap[w.heap.size + 1 + 1]? = some (.cells #[.slice none 0 0, .slice none 0 0] 25) := by
    have := heap_alloc2_new (w.alloc (.cells #[.slice RA nr cr, .slice CA nc c2] 45)) (.cells #[.slice none 0 0, .slice none 0 0] 25) (.cells #[.slice none 0 0, .slice none 0 0] 25)
    rw [World.size_alloc] at this
    rw [hV]
    exact this
  have hv1 : V.heap[w.heap.size + 1]? = some (.cells #[.slice none 0 0, .slice none 0 0] 25) := by
    have := heap_alloc2_old (w.alloc (.cells #[.slice RA nr cr, .slice CA nc c2] 45)) (.cells #[.slice none 0 0, .slice none 0 0] 25) (.cells #[.slice none 0 0, .slice none 0 0] 25)
    rw [World.size_alloc] at this
    rw [hV]
    exact this
  have hx1 : PcBox V w.heap.size RA nr cr CA nc c2 := by
    rw [hV]
    exact hx0.below hs0 (((Below.refl _ _).alloc (Nat.le_refl _) _).alloc (by simp) _)
  obtain ⟨k0, k1⟩ := id hx1
  have hwV0 : w.heap.size < V.heap.size := by omega
  have hwV1 : w.heap.size + 1 < V.heap.size := by omega
  have hwV2 : w.heap.size + 1 + 1 < V.heap.size := by omega
  have hne02 : w.heap.size + 1 + 1 ≠ w.heap.size := by omega
  have hne12 : w.heap.size + 1 ≠ w.heap.size + 1 + 1 := by omega
  have HR := Lib.hid (fun w' (hb : Below w.heap.size w w') => toIntSS_any RA cr nr B rc w' (hp.r.below (hb.mono hB)) (Nat.le_trans hB hb.size))
  have HC := Lib.hid (fun w' (hb : Below w.heap.size w w') => toIntSS_any CA c2 nc B cc w' (hp.c.below (hb.mono hB)) (Nat.le_trans hB hb.size))
  have HV := Lib.hid hV
  have HsV := Lib.hid hsV
  clear hV hsV hx0 hs0 hp
  go_enter Try.func33, Try.ntmps33
  go_wp2_with fail
  rw [← HV.out]
  refine (HR.out _ hbV).mono ?_
  rintro e w1 ⟨d1, rfl, ho1, hl1, hc1, hbw1⟩
  have f1 := (hbw1.block (w.heap.size + 1) hwV1).trans hv1
  have f2 := (hbw1.block (w.heap.size + 1 + 1) hwV2).trans hv2
  obtain ⟨j0, j1⟩ := hx1.below hwV0 hbw1
  have m0 : w1.cell? ⟨w.heap.size + 1 + 1, 0, none⟩ = some (.slice none 0 0) := cell_of_row _ _ 0 _ _ (0, 0) f2
  have fz := frozen_of_row w1 (w.heap.size + 1 + 1) 0 _ _ f2
  obtain ⟨W2, hW2⟩ : ∃ W2, w1.setCell ⟨w.heap.size + 1 + 1, 0, none⟩ (.slice (some ⟨V.heap.size, 0, none⟩) nr nr) = W2 := ⟨_, rfl⟩
  have g1 : W2.heap[w.heap.size + 1]? = some (.cells #[.slice none 0 0, .slice none 0 0] 25) := by rw [← hW2]; exact (heap_setCell_other w1 ⟨w.heap.size + 1 + 1, 0, none⟩ (w.heap.size + 1) _ hne12).trans f1
  have g2 : W2.heap[w.heap.size + 1 + 1]? = some (.cells #[.slice (some ⟨V.heap.size, 0, none⟩) nr nr, .slice none 0 0] 25) := by rw [← hW2]; exact heap_setCell_same w1 (w.heap.size + 1 + 1) 0 _ _ (.slice (some ⟨V.heap.size, 0, none⟩) nr nr) f2
  have hb2 : Below w.heap.size w W2 := by rw [← hW2]; exact (hbV.trans (hbw1.mono (by omega))).setCell (p := ⟨w.heap.size + 1 + 1, 0, none⟩) (show w.heap.size ≤ w.heap.size + 1 + 1 by omega) _
  have hj2 : W2.cell? ⟨w.heap.size, 1, none⟩ = some (.slice CA nc c2) := by rw [← hW2]; exact (World.cell?_setCell_far w1 ⟨w.heap.size + 1 + 1, 0, none⟩ ⟨w.heap.size, 1, none⟩ _ hne02).trans j1
  have ho2 : Hid (Gs W2 V.heap.size (.slice (some ⟨V.heap.size, 0, none⟩) nr nr) d1) := Lib.hid (by rw [← hW2]; exact ho1.off (row := some (w.heap.size + 1 + 1)) grown_set13 (fun g e => by injection e with e; omega))
  have hs2 : w.heap.size + 1 + 1 < W2.heap.size := (Array.getElem?_eq_some_iff.1 g2).1
  have HR2 := Lib.hid (HC.out W2 hb2)
  have HL1 := Lib.hid hl1
  have HC1 := Lib.hid hc1
  have HbV := Lib.hid hbV
  clear f1 f2 k0 k1 hv1 hv2 ho1 hl1 hc1 hbV
  go_wp2_with fail
  (try rw [hW2])
  refine HR2.out.mono ?_
  rintro e w3 ⟨d2, rfl, ho3, hl3, hc3, hb3⟩
  have q1 := (hb3.block (w.heap.size + 1) (by omega)).trans g1
  have q2 := (hb3.block (w.heap.size + 1 + 1) hs2).trans g2
  have fz3 := frozen_of_row w3 (w.heap.size + 1 + 1) 1 _ _ q2
  have p2 : w3.cell? ⟨w.heap.size + 1 + 1, 1, none⟩ = some (.slice none 0 0) := cell_of_row _ _ 1 _ _ (0, 0) q2
  have r1 := (heap_setCell_other w3 ⟨w.heap.size + 1 + 1, 1, none⟩ (w.heap.size + 1) (.slice (some ⟨W2.heap.size, 0, none⟩) nc nc) hne12).trans q1
  have r2 := heap_setCell_same w3 (w.heap.size + 1 + 1) 1 _ _ (.slice (some ⟨W2.heap.size, 0, none⟩) nc nc) q2
  have HO3 := Lib.hid ho3
  have HL3 := Lib.hid hl3
  have HC3 := Lib.hid hc3
  clear ho3 hl3 hc3
  go_wp2_with (first
    | (refine wpList_load_row rfl 25 _ rfl (w.heap.size + 1 + 1) rfl 25 #[.slice (some ⟨V.heap.size, 0, none⟩) nr nr, .slice (some ⟨W2.heap.size, 0, none⟩) nc nc] (0, 0) _ r2 Try.underlying25 rfl Hi.out ?_)
    | (refine wpList_store_row rfl 25 _ _ rfl (w.heap.size + 1) #[.slice (some ⟨V.heap.size, 0, none⟩) nr nr, .slice (some ⟨W2.heap.size, 0, none⟩) nc nc] rfl rfl 25 #[.slice none 0 0, .slice none 0 0] r1 Hi.out rfl (picn_one.out _ _ _ _ _ _) ?_))
  have hB3 : Below w.heap.size w w3 := step hb2 hb3
  have hBe : Below w.heap.size w ((w3.setCell ⟨w.heap.size + 1 + 1, 1, none⟩ (.slice (some ⟨W2.heap.size, 0, none⟩) nc nc)).setRow (w.heap.size + 1) #[.slice (some ⟨V.heap.size, 0, none⟩) nr nr, .slice (some ⟨W2.heap.size, 0, none⟩) nc nc]) := below_setRow13 (hB3.setCell (p := ⟨w.heap.size + 1 + 1, 1, none⟩) (show w.heap.size ≤ w.heap.size + 1 + 1 by omega) _) (by omega)
  have HsV' := HsV.out
  have hVW : V.heap.size < W2.heap.size := ho2.out.vhi V.heap.size rfl
  have ko : ∀ {lo : Nat} {v : Value} {d : List GV}, Gs w3 lo v d → w.heap.size + 1 + 1 < lo → Gs ((w3.setCell ⟨w.heap.size + 1 + 1, 1, none⟩ (.slice (some ⟨W2.heap.size, 0, none⟩) nc nc)).setRow (w.heap.size + 1) #[.slice (some ⟨V.heap.size, 0, none⟩) nr nr, .slice (some ⟨W2.heap.size, 0, none⟩) nc nc]) lo v d := fun hg hlo => (hg.off (row := some (w.heap.size + 1 + 1)) grown_set13 (fun g e => by injection e with e; omega)).off (row := some (w.heap.size + 1)) grown_setRow13 (fun g e => by injection e with e; omega)
  refine bodyPost_ret (v := .agg #[.slice (some ⟨V.heap.size, 0, none⟩) nr nr, .slice (some ⟨W2.heap.size, 0, none⟩) nc nc]) (results_cell_row (by rfl) _ _ (w.heap.size + 1) 25 _ (0, 0) _ rfl (setRow_heap _ _ _ _ _ _ r1) Try.underlying25 rfl Hi.out) rfl ?_
  exact ⟨V.heap.size, W2.heap.size, d1, d2, rfl, (ko (ho2.out.below hb3) (by omega)).mono (by omega), HL1.out, HC1.out, ⟨W2.heap.size, ko HO3.out hs2, by omega, hVW, fun x hx g hg => ho2.out.hi hx g hg⟩, HL3.out, HC3.out, hBe⟩
end Go.Proofs.Ytgeedgljabdllaa
set_option maxRecDepth 8000
namespace Go.Proofs.Ytgeedgljabdllaa
open Go.ChangeShapes Go.WideShapes Go.ChangeAt Go.RowKit
/-! slices of slices of any lengths, marked and found again. -/
/-- one element's cells are written anew. -/
theorem Gs.mark13 {w w' : World} {lo k n c : Nat} {v : Value} {d : List GV} {A : Option Addr} {ys : List Int} (h : Gs w lo v d) (hk : k < d.length) (he : d[k].1 = .slice A n c) (hy : ys.length = n) (ho : Ow w' lo A n c ys) (hg : w.grownBy w' (Value.slice A n c).ownBlock) : Gs w' lo v (d.set k (.slice A n c, ys)) := by
  have hne : ∀ {x : GV}, x ∈ d → ∀ b, x.1.ownBlock = some b → v.ownBlock ≠ some b := fun hx b hb => (h.2.1 _ hx).2 b hb
  have hp := List.pairwise_iff_getElem.1 h.2.2
  refine ⟨?_, fun x hx => ?_, ?_⟩
  · rw [List.length_set, List.map_set]
    have e2 : (d.map Prod.fst).set k (.slice A n c) = d.map Prod.fst := by
      apply List.ext_getElem (by simp)
      intro i h1 h2
      rw [List.getElem_set]
      split
      · next e => subst e; rw [List.getElem_map, he]
      · rfl
    show w'.ownsRow lo _ 1 v d.length ((d.map Prod.fst).set k (.slice A n c))
    rw [e2]
    refine World.ownsRow.kept h.1 hg ?_
    cases e : v.ownBlock with
    | none => exact .inl rfl
    | some b => exact .inr (fun q => hne (List.getElem_mem hk) b (by rw [he]; exact q.symm) e)
  · rcases List.mem_iff_getElem.1 hx with ⟨i, hi, e⟩
    rw [List.length_set] at hi
    rw [List.getElem_set] at e
    by_cases hik : k = i
    · rw [if_pos hik] at e
      subst e
      refine ⟨⟨A, c, by rw [hy], by rw [hy]; exact ho⟩, fun b hb => hne (List.getElem_mem hk) b (by rw [he]; exact hb)⟩
    · rw [if_neg hik] at e
      subst e
      obtain ⟨⟨A', c', e', ho'⟩, hs'⟩ := h.2.1 d[i] (List.getElem_mem hi)
      refine ⟨⟨A', c', e', Ow.off ho' hg (fun b hb q => ?_)⟩, hs'⟩
      have h1 : d[i].1.ownBlock = some b := by rw [e']; exact hb
      have h2 : d[k].1.ownBlock = some b := by rw [he]; exact q
      rcases Nat.lt_or_gt_of_ne hik with hlt | hlt
      · exact hp k i hk hi hlt b h2 h1
      · exact hp i k hi hk hlt b h1 h2
  · rw [List.pairwise_iff_getElem]
    intro i j hi hj hij b hb
    rw [List.length_set] at hi hj
    have key : ∀ i (hi : i < d.length), ((d.set k (.slice A n c, ys))[i]'(by rw [List.length_set]; exact hi)).1 = d[i].1 := fun i hi => by
      rw [List.getElem_set]
      split
      · next e => subst e; exact he.symm
      · rfl
    rw [key i hi] at hb
    rw [key j hj]
    exact hp i j hi hj hij b hb
def preN (f : Nat → Nat) : Nat → Nat
  | 0 => 0
  | k + 1 => preN f k + f k
theorem preN_le {f : Nat → Nat} {m : Nat} (h : ∀ k, k < m → f k ≤ 16) : ∀ k, k ≤ m → preN f k ≤ k * 16 := by
  intro k
  induction k with
  | zero => intro _; exact Nat.le_refl _
  | succ k ih =>
    intro hk
    have := ih (by omega)
    have := h k (by omega)
    show preN f k + f k ≤ _
    omega
/-- the blocks that no element of d has stay. -/
def KeepOut (d : List GV) (w w' : World) : Prop := ∀ b, b < w.heap.size → (∀ x ∈ d, x.1.ownBlock ≠ some b) → w'.heap[b]? = w.heap[b]?
theorem KeepOut.refl (d : List GV) (w : World) : KeepOut d w w := fun _ _ _ => rfl
theorem KeepOut.step {d : List GV} {w w1 w2 : World} {x : GV} (h : KeepOut d w w1) (hs : w.heap.size ≤ w1.heap.size) (hg : w1.grownBy w2 x.1.ownBlock) (hx : x ∈ d) : KeepOut d w w2 := fun b hb hno =>
  (hg.block b (by omega) (fun e => hno x hx e.symm)).trans (h b hb hno)
theorem fst_mem {d d' : List GV} (he : d'.map Prod.fst = d.map Prod.fst) {k : Nat} (hk : k < d'.length) : ∃ x ∈ d, x.1 = d'[k].1 := by
  have hl : d'.length = d.length := by simpa using congrArg List.length he
  have hk' : k < d.length := by omega
  refine ⟨d[k], List.getElem_mem hk', ?_⟩
  have h2 : (d'.map Prod.fst)[k]? = (d.map Prod.fst)[k]? := by rw [he]
  simp only [List.getElem?_map, List.getElem?_eq_getElem hk, List.getElem?_eq_getElem hk', Option.map_some, Option.some.injEq] at h2
  exact h2.symm
set_option maxHeartbeats 1000000 in
theorem markIntSS_seq (A : Option Addr) (c m lo x : Nat) (f : Nat → Nat) (d : List GV) (w : World) (h : Gs w lo (.slice A m c) d) (hm : d.length = m) (h8 : m ≤ 8) (hf : ∀ k, k < m → (gat (gsC d) k).length = f k) (hf16 : ∀ k, k < m → f k ≤ 16) (hx : x ≤ 1000) (hlo : lo ≤ w.heap.size) :
    Calls Try.prog 42 #[.slice A m c, .int .i64 (x : Int)] w fun e w' => ∃ d', e = .returned (.int .i64 ((x + preN f m : Nat) : Int)) ∧ d'.length = m ∧ (∀ j, j < m → gat (gsC d') j = seqI ((x + preN f j : Nat) : Int) (f j)) ∧ Gs w' lo (.slice A m c) d' ∧ Below lo w w' ∧ KeepOut d w w' ∧ d'.map Prod.fst = d.map Prod.fst := by
  have Hf := Lib.hid hf
  have Hp := Lib.hid (preN_le hf16)
  have Hf16 := Lib.hid hf16
  clear hf hf16
  go_enter Try.func42, Try.ntmps42
  go_wp2
  go_loopw [1, 5] (fun y i wr => ∃ (k : Nat) (d' : List GV) (X : Nat), k ≤ m ∧ i = .int .i64 k ∧ y = .int .i64 X ∧ Hid (X = x + preN f k) ∧ d'.length = m ∧ Hid (∀ j, j < m → gat (gsC d') j = if j < k then seqI ((x + preN f j : Nat) : Int) (f j) else gat (gsC d) j) ∧ Hid (Gs wr lo (.slice A m c) d') ∧ Hid (Below lo w wr) ∧ Hid (w.heap.size ≤ wr.heap.size) ∧ Hid (KeepOut d w wr) ∧ Hid (d'.map Prod.fst = d.map Prod.fst)) (fun _ i _ => m - (intOf i).toNat)
  case atStart => exact ⟨0, d, x, Nat.zero_le _, rfl, rfl, Lib.hid rfl, hm, Lib.hid (fun j hj => by rw [if_neg (by omega)]), Lib.hid h, Lib.hid (Below.refl _ _), Lib.hid (Nat.le_refl _), Lib.hid (KeepOut.refl _ _), Lib.hid rfl⟩
  case round =>
    obtain ⟨k, d', X, hk, rfl, rfl, HX, hdl, HK, hG, hb, hsz, hko, hfs⟩ := hrel
    by_cases hlt : k < m
    · have hltI : (k : Int) < (m : Int) := by omega
      have hkd : k < d'.length := by omega
      obtain ⟨g, A3, c3, rfl, -, -, hgw, hck, hfk, ho3, hne3, he3⟩ := hG.out.at_ hkd
      obtain ⟨n, hn⟩ : ∃ n, n = f k := ⟨_, rfl⟩
      have hgl : (gat (gsC d') k).length = n := by rw [HK.out k hlt, if_neg (by omega), hn]; exact Hf.out k hlt
      have hn16 : n ≤ 16 := by rw [hn]; exact Hf16.out k hlt
      rw [hgl] at hck ho3 he3
      have hX16 : X ≤ 1000 + 8 * 16 := by
        have := Hp.out k hk
        rw [HX.out]
        omega
      have Hn := Lib.hid hn
      obtain ⟨xk, hxk, exk⟩ := fst_mem hfs.out hkd
      rw [he3] at exk
      have Hxk := Lib.hid hxk
      have Hexk := Lib.hid exk
      have HGk := Lib.hid (fun (w3 : World) (ho : Ow w3 lo A3 n c3 (seqI (X : Int) n)) (hg : wr.grownBy w3 (Value.slice A3 n c3).ownBlock) => hG.out.mark13 hkd he3 (seqI_length _ _) ho hg)
      have HFs : Hid ((d'.set k (.slice A3 n c3, seqI (X : Int) n)).map Prod.fst = d.map Prod.fst) := Lib.hid (by
        rw [List.map_set, ← hfs.out]
        apply List.ext_getElem (by simp)
        intro i h1 h2
        rw [List.getElem_set]
        split
        · next e => subst e; rw [List.getElem_map, he3]
        · rfl)
      have O3 := Lib.hid ho3
      have HKd := Lib.hid hkd
      clear he3 hgl hkd hn hxk exk
      go_wp2_with (go_at_call 76; refine (markIntS_any _ _ _ _ _ _ _ O3.out (by omega) (by omega) (by omega)).mono ?_; rintro e w3 ⟨rfl, ho4, hg4⟩)
      rw [marked_all] at ho4
      have hGn := HGk.out w3 ho4 hg4
      have hbn : Below lo w w3 := hb.out.grown hg4 (Nat.le_trans hlo hb.out.size) (fun b hbb => O3.out.own_lo b hbb)
      have HGn := Lib.hid hGn
      have HXn := Lib.hid (show X + n = x + preN f (k + 1) by show X + n = x + (preN f k + f k); rw [HX.out, Hn.out]; omega)
      have HKO := Lib.hid (hko.out.step hsz.out (x := xk) (by rw [Hexk.out]; exact hg4) Hxk.out)
      have HSz := Lib.hid (Nat.le_trans hsz.out hg4.size)
      have HKn := Lib.hid (show ∀ j, j < m → gat (gsC (d'.set k (.slice A3 n c3, seqI (X : Int) n))) j = if j < k + 1 then seqI ((x + preN f j : Nat) : Int) (f j) else gat (gsC d) j from fun j hj => by
        rw [cnt_set, gat_set (by rw [cnt_len]; exact HKd.out), HK.out j hj]
        by_cases e : j = k
        · subst e
          rw [if_pos rfl, if_pos (by omega), HX.out, Hn.out]
        · rw [if_neg e]
          by_cases e2 : j < k
          · rw [if_pos e2, if_pos (by omega)]
          · rw [if_neg e2, if_neg (by omega)])
      clear hGn ho4 hg4
      go_roundw
      case rel => exact ⟨k + 1, _, X + n, by omega, by go_num, by go_num, HXn, by simp [hdl], HKn, HGn, Lib.hid hbn, HSz, HKO, HFs⟩
      case measure => simp [intOf]; omega
    · obtain rfl : k = m := by omega
      go_wp2
      go_ret
      refine ⟨d', by rw [HX.out]; push_cast; rfl, hdl, fun j hj => by rw [HK.out j hj, if_pos hj], hG.out, hb.out, hko.out, hfs.out⟩
theorem heldIntSS_seq (A : Option Addr) (c m lo x : Nat) (f : Nat → Nat) (d : List GV) (w : World) (h : Gs w lo (.slice A m c) d) (hm : d.length = m) (h8 : m ≤ 8) (hl : ∀ j, j < m → gat (gsC d) j = seqI ((x + preN f j : Nat) : Int) (f j)) (hf16 : ∀ k, k < m → f k ≤ 16) (hx : x ≤ 1000) :
    Calls Try.prog 43 #[.slice A m c, .int .i64 (x : Int)] w fun e w' => e = .returned (.int .i64 ((x + preN f m : Nat) : Int)) ∧ w = w' := by
  have Hl := Lib.hid hl
  have Hp := Lib.hid (preN_le hf16)
  have Hf16 := Lib.hid hf16
  clear hl hf16
  go_enter Try.func43, Try.ntmps43
  go_wp2
  go_loop [1, 5] (fun y i => ∃ (k X : Nat), k ≤ m ∧ i = .int .i64 k ∧ y = .int .i64 X ∧ Hid (X = x + preN f k)) (fun _ i => m - (intOf i).toNat)
  case atStart => exact ⟨0, x, Nat.zero_le _, rfl, rfl, Lib.hid rfl⟩
  case round =>
    obtain ⟨k, X, hk, rfl, rfl, HX⟩ := hrel
    by_cases hlt : k < m
    · have hltI : (k : Int) < (m : Int) := by omega
      obtain ⟨g, A3, c3, rfl, -, -, hgw, hck, hfk, ho3, -, -⟩ := h.at_ (show k < d.length by omega)
      obtain ⟨n, hn⟩ : ∃ n, n = f k := ⟨_, rfl⟩
      have hn16 : n ≤ 16 := by rw [hn]; exact Hf16.out k hlt
      rw [Hl.out k hlt, seqI_length, ← HX.out, ← hn] at ho3
      rw [Hl.out k hlt, seqI_length, ← hn] at hck
      have hX16 : X ≤ 1000 + 8 * 16 := by
        have := Hp.out k hk
        rw [HX.out]
        omega
      have HXn := Lib.hid (show X + n = x + preN f (k + 1) by show X + n = x + (preN f k + f k); rw [HX.out, hn]; omega)
      have hXn0 : ¬ ((X : Int) + (n : Int) < 0) := by omega
      have O3 := Lib.hid ho3
      clear ho3 hn
      go_wp2_with (go_at_call 77; refine (heldIntS_seq _ _ _ _ _ _ O3.out.rd (by omega) (by omega) (by omega)).mono ?_; rintro e w3 ⟨rfl, rfl⟩)
      go_round
      case rel => exact ⟨k + 1, X + n, by omega, by go_num, by go_num, HXn⟩
      case measure => simp [intOf]; omega
    · obtain rfl : k = m := by omega
      go_wp2
      go_ret
      exact ⟨by rw [HX.out]; push_cast; rfl, rfl⟩
/-- a picture puzzle of the call's own, marked: its rows' blocks lie below mid, its columns' from mid on. -/
structure MkPic (w : World) (lo mid : Nat) (RA : Option Addr) (nr c1 : Nat) (CA : Option Addr) (nc c2 : Nat) (d1 d2 : List GV) : Prop where
  r : Gs w lo (.slice RA nr c1) d1
  u : UpTo mid (.slice RA nr c1) d1
  c : Gs w mid (.slice CA nc c2) d2
  l1 : d1.length = nr
  l2 : d2.length = nc
  lm : lo ≤ mid
  ms : mid ≤ w.heap.size
  hr : nr ≤ 8
  hc : nc ≤ 8
theorem MkPic.below {w w' : World} {lo mid nr c1 nc c2 : Nat} {RA CA : Option Addr} {d1 d2 : List GV} (h : MkPic w lo mid RA nr c1 CA nc c2 d1 d2) (hb : Below w.heap.size w w') : MkPic w' lo mid RA nr c1 CA nc c2 d1 d2 :=
  ⟨h.r.below hb, h.u, h.c.below hb, h.l1, h.l2, h.lm, Nat.le_trans h.ms hb.size, h.hr, h.hc⟩
theorem MkPic.keepB {w w' : World} {lo mid nr c1 nc c2 : Nat} {RA CA : Option Addr} {d1 d2 : List GV} (h : MkPic w lo mid RA nr c1 CA nc c2 d1 d2) (hs : w.heap.size ≤ w'.heap.size) (hb : ∀ j, lo ≤ j → j < w.heap.size → w'.heap[j]? = w.heap[j]?) : MkPic w' lo mid RA nr c1 CA nc c2 d1 d2 :=
  ⟨h.r.keepB h.r.up hb, h.u, h.c.keepB h.c.up (fun j h1 h2 => hb j (Nat.le_trans h.lm h1) h2), h.l1, h.l2, h.lm, Nat.le_trans h.ms hs, h.hr, h.hc⟩
set_option maxHeartbeats 1000000 in
theorem markPicture_any (lo mid : Nat) (RA : Option Addr) (nr c1 : Nat) (CA : Option Addr) (nc c2 : Nat) (f1 f2 : Nat → Nat) (d1 d2 : List GV) (w : World) (h : MkPic w lo mid RA nr c1 CA nc c2 d1 d2) (hf1 : ∀ k, k < nr → (gat (gsC d1) k).length = f1 k) (hf2 : ∀ k, k < nc → (gat (gsC d2) k).length = f2 k) (g1 : ∀ k, k < nr → f1 k ≤ 16) (g2 : ∀ k, k < nc → f2 k ≤ 16) :
    Calls Try.prog 39 #[.agg #[.slice RA nr c1, .slice CA nc c2], .int .i64 1] w fun e w' => ∃ d1' d2', e = .returned (.int .i64 ((1 + preN f1 nr + preN f2 nc : Nat) : Int)) ∧ MkPic w' lo mid RA nr c1 CA nc c2 d1' d2' ∧ (∀ j, j < nr → gat (gsC d1') j = seqI ((1 + preN f1 j : Nat) : Int) (f1 j)) ∧ (∀ j, j < nc → gat (gsC d2') j = seqI ((1 + preN f1 nr + preN f2 j : Nat) : Int) (f2 j)) ∧ Below lo w w' ∧ ∀ b, b < w.heap.size → (∀ x ∈ d1, x.1.ownBlock ≠ some b) → (∀ x ∈ d2, x.1.ownBlock ≠ some b) → w'.heap[b]? = w.heap[b]? := by
  have hx := pcbox_new w RA nr c1 CA nc c2 25
  have hb0 : Below w.heap.size w (w.alloc (.cells #[.slice RA nr c1, .slice CA nc c2] 25)) := (Below.refl _ _).alloc (Nat.le_refl _) _
  have hs0 : w.heap.size < (w.alloc (.cells #[.slice RA nr c1, .slice CA nc c2] 25)).heap.size := by simp
  obtain ⟨V, hV⟩ : ∃ V, V = w.alloc (.cells #[.slice RA nr c1, .slice CA nc c2] 25) := ⟨_, rfl⟩
  rw [← hV] at hx hb0 hs0
  have hm0 := h.below hb0
  obtain ⟨a0, a1⟩ := id hx
  have hp1 := preN_le g1 nr (Nat.le_refl _)
  have hr8 := h.hr
  have HR := Lib.hid (markIntSS_seq RA c1 nr lo 1 f1 d1 V hm0.r hm0.l1 h.hr hf1 g1 (by omega) (Nat.le_trans h.lm hm0.ms))
  have HC := Lib.hid (fun (w' : World) (hg : Gs w' mid (.slice CA nc c2) d2) (hl : mid ≤ w'.heap.size) => markIntSS_seq CA c2 nc mid (1 + preN f1 nr) f2 d2 w' hg hm0.l2 h.hc hf2 g2 (by omega) hl)
  have HM := Lib.hid hm0
  have HV := Lib.hid hV
  have Hl := Lib.hid h.lm
  have Hms := Lib.hid h.ms
  have Hhr := Lib.hid h.hr
  have Hhc := Lib.hid h.hc
  have Hx := Lib.hid hx
  have H0 := Lib.hid h
  clear hV hf1 hf2 g1 g2 hm0 hp1 h hx
  go_enter Try.func39, Try.ntmps39
  go_wp2_with fail
  rw [← HV.out]
  refine HR.out.mono ?_
  rintro e w1 ⟨d1', rfl, hl1, hq1, hG1, hb1, hk1, hs1⟩
  have hwx : PcBox w1 w.heap.size RA nr c1 CA nc c2 := by
    have hno : ∀ x ∈ d1, x.1.ownBlock ≠ some w.heap.size := fun x hx e => by have := H0.out.r.hi hx _ e; omega
    have := hk1 w.heap.size hs0 hno
    have h0 : w1.cell? ⟨w.heap.size, 0, none⟩ = V.cell? ⟨w.heap.size, 0, none⟩ := by simp only [World.cell?, this]
    have h1 : w1.cell? ⟨w.heap.size, 1, none⟩ = V.cell? ⟨w.heap.size, 1, none⟩ := by simp only [World.cell?, this]
    exact ⟨h0.trans Hx.out.1, h1.trans Hx.out.2⟩
  have hG2 : Gs w1 mid (.slice CA nc c2) d2 := HM.out.c.keepB HM.out.c.up fun j hj hj2 => hk1 j hj2 fun x hx e => by have := HM.out.u.2 x hx j e; omega
  have hu1 : UpTo mid (.slice RA nr c1) d1' := ⟨HM.out.u.1, fun x hx g hg => by
    obtain ⟨k, hk, rfl⟩ := List.getElem_of_mem hx
    obtain ⟨y, hy, hye⟩ := fst_mem hs1 hk
    exact HM.out.u.2 y hy g (by rw [hye]; exact hg)⟩
  obtain ⟨b0, b1⟩ := hwx
  have Hq1 := Lib.hid hq1
  have HG1 := Lib.hid hG1
  have Hu1 := Lib.hid hu1
  have hmw : mid ≤ w1.heap.size := Nat.le_trans (Nat.le_trans HM.out.ms (Nat.le_refl _)) hb1.size
  have HC1 := Lib.hid (HC.out w1 hG2 hmw)
  have HK1 := Lib.hid hk1
  clear hq1 hG1 hu1 hG2 hk1 hs1 a0 a1
  go_wp2_with fail
  refine HC1.out.mono ?_
  rintro e w2 ⟨d2', rfl, hl2, hq2, hG2', hb2, hk2, hs2⟩
  have hG1' : Gs w2 lo (.slice RA nr c1) d1' := HG1.out.keepB Hu1.out fun j hj hj2 => hb2.block j hj2
  have hbe : Below lo w w2 := (hb0.mono (Nat.le_trans Hl.out Hms.out)).trans (hb1.trans (hb2.mono Hl.out))
  have hmw2 : mid ≤ w2.heap.size := Nat.le_trans hmw hb2.size
  go_wp2
  go_ret
  exact ⟨d1', d2', rfl, ⟨hG1', Hu1.out, hG2', hl1, hl2, Hl.out, hmw2, Hhr.out, Hhc.out⟩, Hq1.out, hq2, hbe, fun b hb h1 h2 => (hk2 b (by have := hb1.size; omega) h2).trans ((HK1.out b (by omega) h1).trans (hb0.block b hb))⟩
set_option maxHeartbeats 1000000 in
theorem heldPicture_any (lo mid : Nat) (RA : Option Addr) (nr c1 : Nat) (CA : Option Addr) (nc c2 : Nat) (f1 f2 : Nat → Nat) (d1 d2 : List GV) (w : World) (h : MkPic w lo mid RA nr c1 CA nc c2 d1 d2) (hq1 : ∀ j, j < nr → gat (gsC d1) j = seqI ((1 + preN f1 j : Nat) : Int) (f1 j)) (hq2 : ∀ j, j < nc → gat (gsC d2) j = seqI ((1 + preN f1 nr + preN f2 j : Nat) : Int) (f2 j)) (g1 : ∀ k, k < nr → f1 k ≤ 16) (g2 : ∀ k, k < nc → f2 k ≤ 16) :
    Calls Try.prog 40 #[.agg #[.slice RA nr c1, .slice CA nc c2], .int .i64 1] w fun e w' => e = .returned (.int .i64 ((1 + preN f1 nr + preN f2 nc : Nat) : Int)) ∧ Below w.heap.size w w' := by
  have hx := pcbox_new w RA nr c1 CA nc c2 25
  have hb0 : Below w.heap.size w (w.alloc (.cells #[.slice RA nr c1, .slice CA nc c2] 25)) := (Below.refl _ _).alloc (Nat.le_refl _) _
  have hm0 := h.below hb0
  obtain ⟨a0, a1⟩ := id hx
  have hp1 := preN_le g1 nr (Nat.le_refl _)
  have hr8 := h.hr
  have HR := Lib.hid (heldIntSS_seq RA c1 nr lo 1 f1 d1 _ hm0.r hm0.l1 h.hr hq1 g1 (by omega))
  have HC := Lib.hid (heldIntSS_seq CA c2 nc mid (1 + preN f1 nr) f2 d2 _ hm0.c hm0.l2 h.hc hq2 g2 (by omega))
  obtain ⟨X, hX⟩ : ∃ X, X = 1 + preN f1 nr := ⟨_, rfl⟩
  rw [← hX] at HR HC ⊢
  have hX0 : ¬ ((X : Int) < 0) := by omega
  obtain ⟨Y, hY⟩ : ∃ Y, Y = X + preN f2 nc := ⟨_, rfl⟩
  rw [← hY] at HC ⊢
  have hY0 : ¬ ((Y : Int) < 0) := by omega
  clear hX hY hm0 hp1 h hx hq1 hq2 g1 g2
  go_enter Try.func40, Try.ntmps40
  go_wp2_with fail
  refine HR.out.mono ?_
  rintro e w1 ⟨rfl, rfl⟩
  go_wp2_with fail
  refine HC.out.mono ?_
  rintro e w2 ⟨rfl, rfl⟩
  go_wp2
  go_ret
  exact ⟨rfl, hb0⟩
end Go.Proofs.Ytgeedgljabdllaa
set_option maxRecDepth 8000
namespace Go.Proofs.Ytgeedgljabdllaa
open Go.ChangeShapes Go.WideShapes Go.ChangeAt Go.RowKit Go.Deep
/-! a slice of bools that came in, as it reads. -/
theorem rdF_of_cells {w : World} {a : Addr} {len cap : Nat} {F : Nat → Bool} (hl : len ≤ cap) (hc : ∀ i, i < cap → w.cell? (a.add i) = some (.bool (F i))) : RdF w w.heap.size (some a) len ((List.range len).map F) := by
  refine ⟨by simp, fun hn => ?_⟩
  obtain ⟨b, off, spot⟩ := a
  have hc0 := hc 0 (by omega)
  have hspot : spot = none := by simpa [Addr.add] using World.cell?_spot hc0
  subst hspot
  refine ⟨b, off, rfl, by simpa [Addr.add] using cell_lt hc0, fun k hk => ?_⟩
  have := hc k (by omega)
  rw [show nb ((List.range len).map F) k = F k by simp [nb, List.getD_eq_getElem?_getD, hk], ← this]
  unfold Addr.add
  by_cases h0 : k = 0
  · subst h0; simp
  · simp [h0]
theorem open_flags {H : Type} {enc : TypeId × Value → H} {P : Program} {W : World} {base : Nat} {held : Bool} {t e : TypeId} {fuel : Nat} {v : Value} {x : DataW H × List MemPlace} (ht : P.underlying t = some (.slice e)) (he : P.underlying e = some .bool) (hc : P.cellsOf e = 1)
    (h : DataW.trod enc P W base (fun _ => true) held fuel t [v] = some x) : ∃ A len cap L, v = .slice A len cap ∧ RdF W W.heap.size A len L ∧ len ≤ 9223372036854775807 := by
  rcases open_bools ht he hc h with ⟨hcs, _⟩ | ⟨a, len, cap, F, hcs, _, hl, hm, _, hcell⟩
  · injection hcs with hcs
    exact ⟨none, 0, 0, [], hcs, ⟨rfl, fun hn => absurd hn (by omega)⟩, by omega⟩
  · injection hcs with hcs
    refine ⟨_, _, _, _, hcs, rdF_of_cells hl hcell, by simp only [maxLen] at hm; omega⟩
end Go.Proofs.Ytgeedgljabdllaa
set_option maxRecDepth 8000
namespace Go.Proofs.Ytgeedgljabdllaa
open Go.ChangeShapes Go.WideShapes Go.ChangeAt Go.RowKit
/-! slices of bools in the exact laws. -/
theorem ext_nb {xs ys : List Bool} (hl : xs.length = ys.length) (h : ∀ k, k < xs.length → nb xs k = nb ys k) : xs = ys := by
  apply List.ext_getElem hl
  intro i h1 h2
  have := h i h1
  simpa [nb, List.getD_eq_getElem?_getD, h1, h2] using this
def partF (xs : List Bool) (k n : Nat) : List Bool := (List.range n).map fun j => if j < k then nb xs j else false
theorem partF_length (xs : List Bool) (k n : Nat) : (partF xs k n).length = n := by simp [partF]
theorem partF_zero (xs : List Bool) (n : Nat) : bvals (partF xs 0 n) = List.replicate n (.bool false) := by
  apply List.ext_getElem <;> simp [bvals, partF]
theorem partF_nb (xs : List Bool) (k n j : Nat) (h : j < n) : nb (partF xs k n) j = if j < k then nb xs j else false := by
  simp [nb, partF, List.getD_eq_getElem?_getD, h]
theorem partF_all {xs : List Bool} {n : Nat} (h : xs.length = n) : partF xs n n = xs := by
  apply ext_nb (by rw [partF_length]; exact h.symm)
  intro k hk
  rw [partF_length] at hk
  rw [partF_nb _ _ _ _ hk, if_pos hk]
theorem partF_set (xs : List Bool) (k n : Nat) : (bvals (partF xs k n)).set k (.bool (nb xs k)) = bvals (partF xs (k + 1) n) := by
  apply List.ext_getElem
  · simp [bvals, partF]
  · intro i h1 h2
    simp only [bvals, partF, List.map_map, List.getElem_set, List.getElem_map, List.getElem_range, Function.comp]
    by_cases e : k = i
    · subst e; simp
    · rw [if_neg e]
      by_cases h : i < k
      · rw [if_pos h, if_pos (by omega)]
      · rw [if_neg h, if_neg (by omega)]
def sameF (xs ys : List Bool) : Bool := decide (xs = ys)
theorem sameF_refl (xs : List Bool) : sameF xs xs = true := by simp [sameF]
theorem toBoolS_any (A : Option Addr) (c n B : Nat) (xs : List Bool) (w : World) (h : RdF w B A n xs) (hB : B ≤ w.heap.size) (hm : n ≤ 1099511627776) :
    Calls Try.prog 72 #[.slice A n c] w fun e w' => e = .returned (.slice (some ⟨w.heap.size, 0, none⟩) n n) ∧ OwF w' w.heap.size (some ⟨w.heap.size, 0, none⟩) n n xs ∧ Below w.heap.size w w' := by
  obtain ⟨i0, hi, hz0, hz1, hz2⟩ := info_parts bool_info
  have hlen := Lib.hid h.1
  go_enter Try.func72, Try.ntmps72
  go_wp2_with (refine wpList_make_full _ rfl (.tmp 6) (.tmp 6) 41 rfl w.heap.size 4 i0 (.bool false) 1 Try.underlying41 hi hz0 hz1 .i64 .i64 n n n rfl rfl rfl rfl ?_ ?_ (Nat.le_refl _) ?_)
  · rw [hz2]; omega
  · simp only [maxLen]; omega
  · intro w1 hown hgr
    have hown1 : OwF w1 w.heap.size (some ⟨w.heap.size, 0, none⟩) n n (partF xs 0 n) := by
      unfold OwF
      rw [partF_zero, ← toList_madeCells_one]
      exact hown
    have hb1 : Below w.heap.size w w1 := (Below.refl _ _).grown hgr (Nat.le_refl _) (fun k hk => by cases hk)
    clear hown hgr
    go_wp2
    go_loopw [4] (fun i wr => ∃ k : Nat, k ≤ n ∧ i = .int .i64 k ∧ OwF wr w.heap.size (some ⟨w.heap.size, 0, none⟩) n n (partF xs k n) ∧ Below w.heap.size w wr) (fun i _ => n - (intOf i).toNat)
    case atStart => exact ⟨0, Nat.zero_le _, rfl, hown1, hb1⟩
    case round =>
      obtain ⟨k, hk, rfl, ho, hb⟩ := hrel
      by_cases hlt : k < n
      · obtain ⟨b, off, rfl, hbB, hck⟩ := (h.below (hb.mono hB)).at_ hlt
        have hold := World.ownsRow.cellAt ho k (by omega)
        rw [bvals_get (by rw [partF_length]; exact hlt)] at hold
        have hfr := World.ownsRow.frozenAt ho k
        have hst := World.ownsRow.stored ho k (.bool (nb xs k))
        rw [partF_set] at hst
        have Hst := Lib.hid hst; clear hst
        generalize nb xs k = bb at *
        go_wp2
        go_roundw
        case rel => exact ⟨k + 1, by omega, by go_num, Hst.out.1, hb.setCell (Nat.le_refl _) _⟩
        case measure => simp [intOf]; omega
      · obtain rfl : k = n := by omega
        rw [partF_all hlen.out] at ho
        go_wp2
        go_ret
        exact ⟨rfl, ho, hb⟩
theorem eqBoolS_same (A A' : Option Addr) (c c' n B B' : Nat) (xs : List Bool) (w : World) (h : RdF w B A n xs) (h' : RdF w B' A' n xs) (hm : n ≤ 1099511627776) :
    Calls Try.prog 73 #[.slice A n c, .slice A' n c'] w fun e w' => e = .returned (.bool true) ∧ Below w.heap.size w w' := by
  go_enter Try.func73, Try.ntmps73
  go_wp2
  go_loopw [5] (fun i wr => ∃ k : Nat, k ≤ n ∧ i = .int .i64 k ∧ Below w.heap.size w wr ∧ RdF wr B A n xs ∧ RdF wr B' A' n xs) (fun i _ => n - (intOf i).toNat)
  case atStart => exact ⟨0, Nat.zero_le _, rfl, Below.refl _ _, h, h'⟩
  case round =>
    obtain ⟨k, hk, rfl, hb, hr, hr'⟩ := hrel
    by_cases hlt : k < n
    · obtain ⟨b, off, rfl, hbB, hck⟩ := hr.at_ hlt
      obtain ⟨b', off', rfl, hbB', hck'⟩ := hr'.at_ hlt
      have hltI : (k : Int) < (n : Int) := by omega
      generalize nb xs k = bb at *
      have hne : (bb != bb) = false := by simp
      go_wp2
      go_quiet (fail)
      go_wp2
      go_roundw
      case rel => exact ⟨k + 1, by omega, by go_num, ⟨hb.os, hb.tape, hb.output, hb.size, hb.block⟩, hr, hr'⟩
      case measure => simp [intOf]; omega
    · obtain rfl : k = n := by omega
      go_wp2
      go_ret
      exact ⟨rfl, hb⟩
def markedF (xs : List Bool) (m : Int) (k n : Nat) : List Bool := (List.range n).map fun (j : Nat) => if j < k then decide ((m + (j : Int)).tmod 3 = 0) else nb xs j
theorem markBoolS_any (A : Option Addr) (c n lo : Nat) (xs : List Bool) (m : Int) (w : World) (h : OwF w lo A n c xs) (hm : n ≤ 1099511627776) (h0 : 0 ≤ m) (h1 : m ≤ 4611686018427387904) :
    Calls Try.prog 74 #[.slice A n c, .int .i64 m] w fun e w' => e = .returned (.int .i64 (m + n)) ∧ w.grownBy w' (Value.slice A n c).ownBlock := by
  go_enter Try.func74, Try.ntmps74
  go_wp2
  go_loopw [1, 5] (fun q i wr => ∃ (k : Nat) (ys : List Bool), k ≤ n ∧ i = .int .i64 k ∧ q = .int .i64 (m + k) ∧ OwF wr lo A n c ys ∧ w.grownBy wr (Value.slice A n c).ownBlock) (fun _ i _ => n - (intOf i).toNat)
  case atStart => exact ⟨0, xs, Nat.zero_le _, rfl, by simp, h, World.grownBy.refl _ _⟩
  case round =>
    obtain ⟨k, ys, hk, rfl, rfl, ho, hg⟩ := hrel
    by_cases hlt : k < n
    · obtain ⟨g, rfl, hlog, hgw⟩ := ho.form (by omega)
      have hold := World.ownsRow.cellAt ho k (by omega)
      rw [bvals_get (by rw [ho.len]; exact hlt)] at hold
      have hfr := World.ownsRow.frozenAt ho k
      have Hst := Lib.hid (fun bb : Bool => show OwF (wr.setCell ⟨g, k, none⟩ (.bool bb)) lo (some ⟨g, 0, none⟩) n c (ys.set k bb) ∧ wr.grownBy (wr.setCell ⟨g, k, none⟩ (.bool bb)) (some g) from by
        have := World.ownsRow.stored ho k (.bool bb)
        rw [show (bvals ys).set k (.bool bb) = bvals (ys.set k bb) by simp [bvals, List.map_set]] at this
        exact this)
      generalize nb ys k = b0 at *
      go_wp2
      go_roundw
      case rel => exact ⟨k + 1, _, by omega, by go_num, by go_num, (Hst.out _).1, hg.trans (Hst.out _).2⟩
      case measure => simp [intOf]; omega
    · obtain rfl : k = n := by omega
      go_wp2
      go_ret
      exact ⟨rfl, hg⟩
theorem clueL_len (L : List Bool) : (clueL L).length ≤ 9 := by
  have := cS_le L (L.length + 1)
  rw [cS_all] at this
  unfold clueL
  split
  · simp at this; omega
  · simp
theorem forI_len (cs ks : List Int) : (forI cs ks).length ≤ ks.length := by
  unfold forI
  split
  · split
    · exact Nat.le_refl _
    · unfold forL; rw [mapTo_length]; exact Nat.le_refl _
  · simp
end Go.Proofs.Ytgeedgljabdllaa
set_option maxRecDepth 8000
namespace Go.Proofs.Ytgeedgljabdllaa
open Go.ChangeShapes Go.WideShapes Go.ChangeAt Go.RowKit
/-! slices of slices of bools: counted, copied, compared. -/
/-- bools that came in. -/
def RdxF (w : World) (B : Nat) (A : Option Addr) (n : Nat) (xs : List Bool) : Prop := RdF w B A n xs ∧ n ≤ 9223372036854775807
abbrev RrxF (w : World) (B : Nat) (A : Option Addr) (n : Nat) (Ls : List (List Bool)) : Prop := Rr RdxF w B A n Ls
theorem RrxF.below {w w' : World} {B : Nat} {A : Option Addr} {n : Nat} {Ls : List (List Bool)} (h : RrxF w B A n Ls) (hb : Below B w w') : RrxF w' B A n Ls :=
  h.map (Nat.le_refl _) (fun b i hlt => hb.cell (p := ⟨b, i, none⟩) hlt) fun _ _ _ hr => ⟨hr.1.below hb, hr.2⟩
theorem RrxF.fns {w : World} {B : Nat} {A : Option Addr} {n : Nat} {Ls : List (List Bool)} (h : RrxF w B A n Ls) (hn : n ≤ 1099511627776) (hs : ∀ k, k < n → (gtl Ls k).length ≤ 1099511627776) : Fns w B A n Ls :=
  ⟨h.map (Nat.le_refl _) (fun _ _ _ => rfl) fun _ _ _ hr => hr.1, hn, hs⟩
theorem GsF.fns {w : World} {lo m cap : Nat} {A : Option Addr} {d : List GVF} (h : GsF w lo (.slice A m cap) d) (hm : d.length = m) (hn : m ≤ 1099511627776) (hs : ∀ k, k < m → (gtl (gsCF d) k).length ≤ 1099511627776) : Fns w w.heap.size A m (gsCF d) := by
  refine ⟨⟨by rw [cnt_lenF, hm], fun h0 => ?_⟩, hn, hs⟩
  obtain ⟨g, A', c', rfl, _, _, hg, _⟩ := h.at_ (show 0 < d.length by omega)
  refine ⟨g, 0, rfl, hg, fun k hk => ?_⟩
  obtain ⟨g1, A1, c1, e1, _, _, _, hc, _, ho, _⟩ := h.at_ (show k < d.length by omega)
  cases e1
  exact ⟨A1, c1, by rw [Nat.zero_add]; exact hc, ho.rd⟩
/-- one element put, in a block of its own. -/
theorem GsF.put13 {w w3 : World} {lo g m cap k c3 : Nat} {d : List GVF} {A3 : Option Addr} {xs : List Bool} (h : GsF w lo (.slice (some ⟨g, 0, none⟩) m cap) d) (hm : d.length = m) (hk : k < d.length) (hb : Below w.heap.size w w3) (ho : OwF w3 w.heap.size A3 xs.length c3 xs) :
    GsF (w3.setCell ⟨g, k, none⟩ (.slice A3 xs.length c3)) lo (.slice (some ⟨g, 0, none⟩) m cap) (d.set k (.slice A3 xs.length c3, xs)) := by
  subst hm
  obtain ⟨g', A', c', e, -, hlo, hgw, -⟩ := h.at_ hk
  cases e
  have h3 := h.below hb
  obtain ⟨hst, hgr⟩ := World.ownsRow.stored h3.1 k (.slice A3 xs.length c3)
  have hnew : ∀ b, (Value.slice A3 xs.length c3).ownBlock = some b → w.heap.size ≤ b := ho.own_lo
  have hvb : (Value.slice (some ⟨g, 0, none⟩) d.length cap).ownBlock = some g := rfl
  have hold : ∀ x ∈ d, ∀ b, x.1.ownBlock = some b → b < w.heap.size := fun x hx => h.hi hx
  refine ⟨by rw [List.length_set, List.map_set]; exact hst, fun x hx => ?_, ?_⟩
  · rcases List.mem_or_eq_of_mem_set hx with hx | rfl
    · obtain ⟨⟨A, c, e, hx1⟩, hx2⟩ := h3.2.1 x hx
      exact ⟨⟨A, c, e, hx1.off hgr (fun b hb2 q => hx2 b (by rw [e]; exact hb2) (by rw [hvb]; exact q))⟩, hx2⟩
    · refine ⟨⟨A3, c3, rfl, (ho.off hgr (fun b hb2 q => ?_)).mono (by omega)⟩, fun b hb2 q => ?_⟩
      · have := hnew b hb2
        injection q with q
        omega
      · have := hnew b hb2
        rw [hvb] at q
        injection q with q
        omega
  · rw [List.pairwise_iff_getElem]
    have hp := List.pairwise_iff_getElem.1 h.2.2
    intro i j hi hj hij b h1 h2
    rw [List.length_set] at hi hj
    rw [List.getElem_set] at h1 h2
    by_cases e1 : k = i
    · rw [if_pos e1] at h1
      rw [if_neg (by omega)] at h2
      have := hnew b h1
      have := hold _ (List.getElem_mem hj) b h2
      omega
    · rw [if_neg e1] at h1
      by_cases e2 : k = j
      · rw [if_pos e2] at h2
        have := hnew b h2
        have := hold _ (List.getElem_mem hi) b h1
        omega
      · rw [if_neg e2] at h2
        exact hp i j hi hj hij b h1 h2
theorem GsF.zeros {w : World} {lo m : Nat} {A : Option Addr} (h : w.ownsRow lo 41 1 (.slice A m m) m (List.replicate m (.slice none 0 0))) : GsF w lo (.slice A m m) (List.replicate m (.slice none 0 0, [])) := by
  refine ⟨by rw [List.length_replicate, List.map_replicate]; exact h, fun x hx => ?_, ?_⟩
  · obtain ⟨_, rfl⟩ := List.mem_replicate.1 hx
    exact ⟨⟨none, 0, rfl, OwF.nil_ _ _⟩, fun g hg => by simp [Value.ownBlock] at hg⟩
  · rw [List.pairwise_iff_getElem]
    intro i j hi hj hij b h1
    rw [List.getElem_replicate] at h1
    simp [Value.ownBlock] at h1
theorem gtl_setF {d : List GVF} {k : Nat} {v : Value} {xs : List Bool} (hk : k < d.length) (j : Nat) : gtl (gsCF (d.set k (v, xs))) j = if j = k then xs else gtl (gsCF d) j := by
  unfold gtl gsCF
  rw [List.map_set, List.getD_eq_getElem?_getD, List.getD_eq_getElem?_getD, List.getElem?_set]
  by_cases e : k = j
  · subst e; simp [hk]
  · rw [if_neg e, if_neg (fun q => e q.symm)]
theorem gsC_allF {d : List GVF} {Ls : List (List Bool)} {m : Nat} (hd : d.length = m) (hl : Ls.length = m) (h : ∀ j, j < m → gtl (gsCF d) j = gtl Ls j) : gsCF d = Ls := by
  apply List.ext_getElem (by rw [cnt_lenF, hd, hl])
  intro i h1 h2
  have := h i (by omega)
  simpa [gtl, List.getD_eq_getElem?_getD, h1, h2] using this
theorem szBoolS_any13 (A : Option Addr) (c n : Nat) (l : Int) (w : World) (hm : n ≤ 9223372036854775807) (h0 : 0 ≤ l) (h1 : l ≤ 1099511627776) :
    Calls Try.prog 71 #[.slice A n c, .int .i64 l] w fun e w' => e = .returned (.int .i64 (if (n : Int) ≤ l then l - n else -1)) ∧ w = w' := by
  have e1 : wrap64 (l - n) = l - n := IntWalk.wrap64_in _ ⟨by omega, by omega⟩
  by_cases hn : (n : Int) ≤ l
  · go_enter Try.func71, Try.ntmps71
    go_wp2
    go_ret
    exact ⟨rfl, rfl⟩
  · go_enter Try.func71, Try.ntmps71
    go_wp2
    go_ret
    exact ⟨rfl, rfl⟩
set_option maxHeartbeats 1000000 in
theorem szBoolSS_any (A : Option Addr) (c n B : Nat) (Ls : List (List Bool)) (l : Int) (w : World) (h : RrxF w B A n Ls) (hB : B ≤ w.heap.size) (hm : n ≤ 9223372036854775807) (h0 : 0 ≤ l) (h1 : l ≤ 1099511627776) :
    Calls Try.prog 35 #[.slice A n c, .int .i64 l] w fun e w' => ∃ r : Int, e = .returned (.int .i64 r) ∧ Below w.heap.size w w' ∧ (r = -1 ∨ (0 ≤ r ∧ r ≤ l ∧ (n : Int) ≤ l ∧ ∀ i, i < n → ((gtl Ls i).length : Int) ≤ l)) := by
  have HR := Lib.hid (fun (w' : World) (hb : Below w.heap.size w w') => RrxF.below h (hb.mono hB))
  have e1 : wrap64 (l - n) = l - n := IntWalk.wrap64_in _ ⟨by omega, by omega⟩
  by_cases hn : (n : Int) ≤ l
  · have hq4 : ¬ l - (n : Int) < 0 := by omega
    have HQ := Lib.hid (show 0 ≤ l - (n : Int) ∧ l - (n : Int) ≤ l by omega)
    have HN := Lib.hid hn
    clear hn
    go_enter Try.func35, Try.ntmps35
    go_wp2
    go_loopw [1, 5] (fun lv i wr => ∃ (u : Nat) (q : Int), u ≤ n ∧ 0 ≤ q ∧ q ≤ l ∧ lv = .int .i64 q ∧ i = .int .i64 u ∧ Hid (∀ j, j < u → ((gtl Ls j).length : Int) ≤ l) ∧ Below w.heap.size w wr) (fun _ i _ => n - (intOf i).toNat)
    case atStart => exact ⟨0, _, Nat.zero_le _, HQ.out.1, HQ.out.2, rfl, rfl, Lib.hid (fun j hj => absurd hj (by omega)), Below.refl _ _⟩
    case round =>
      obtain ⟨u, q, hu, hq0', hq1', rfl, rfl, hall, hb⟩ := hrel
      by_cases hlt : u < n
      · obtain ⟨b, off, A', c', rfl, hbB, r1, r3⟩ := (HR.out _ hb).at_ hlt
        obtain ⟨rx, hrx⟩ : ∃ x, x = (gtl Ls u).length := ⟨_, rfl⟩
        rw [← hrx] at r1
        have r4 : rx ≤ 9223372036854775807 := by rw [hrx]; exact r3.2
        have HC := Lib.hid (szBoolS_any13 A' c' rx q wr r4 hq0' (by omega))
        have hin : (u : Int) < (n : Int) := by omega
        clear r3
        by_cases hfit : (rx : Int) ≤ q
        · obtain ⟨q2, hq2⟩ : ∃ z, q - (rx : Int) = z := ⟨_, rfl⟩
          rw [if_pos hfit, hq2] at HC
          have hq5 : ¬ q2 < 0 := by omega
          have Hall2 := Lib.hid (show ∀ j, j < u + 1 → ((gtl Ls j).length : Int) ≤ l from fun j hj => by
            by_cases e : j = u
            · subst e; rw [← hrx]; omega
            · exact hall.out j (by omega))
          have HQ := Lib.hid (show 0 ≤ q2 ∧ q2 ≤ l by omega)
          clear hq2 hfit hrx
          go_wp2_with (go_at_call 71; refine HC.out.mono ?_; rintro e w4 ⟨rfl, rfl⟩)
          go_roundw
          case rel => exact ⟨u + 1, q2, by omega, HQ.out.1, HQ.out.2, rfl, by go_num, Hall2, hb⟩
          case measure => simp [intOf]; omega
        · rw [if_neg hfit] at HC
          clear hrx
          go_wp2_with (go_at_call 71; refine HC.out.mono ?_; rintro e w4 ⟨rfl, rfl⟩)
          go_ret
          exact ⟨-1, rfl, hb, .inl rfl⟩
      · obtain rfl : u = n := by omega
        go_wp2
        go_ret
        exact ⟨q, rfl, hb, .inr ⟨hq0', hq1', HN.out, hall.out⟩⟩
  · have hq4 : l - (n : Int) < 0 := by omega
    go_enter Try.func35, Try.ntmps35
    go_wp2
    go_ret
    exact ⟨-1, rfl, Below.refl _ _, .inl rfl⟩
set_option maxHeartbeats 1000000 in
theorem toBoolSS_any (A : Option Addr) (c m B : Nat) (Ls : List (List Bool)) (w : World) (h : Fns w B A m Ls) (hB : B ≤ w.heap.size) :
    Calls Try.prog 36 #[.slice A m c] w fun e w' => ∃ d, e = .returned (.slice (some ⟨w.heap.size, 0, none⟩) m m) ∧ GsF w' w.heap.size (.slice (some ⟨w.heap.size, 0, none⟩) m m) d ∧ d.length = m ∧ gsCF d = Ls ∧ Below w.heap.size w w' := by
  obtain ⟨i0, hi, hz0, hz1, hz2⟩ := info_parts sl_infoF
  have hm := h.m
  have HR := Lib.hid (fun (w' : World) (hb : Below w.heap.size w w') => h.below (hb.mono hB))
  have HT := Lib.hid (fun (w' : World) (A' : Option Addr) (c' n : Nat) (xs : List Bool) => toBoolS_any A' c' n B xs w')
  have Hlen := Lib.hid h.len
  have Hms := Lib.hid h.ms
  clear h
  go_enter Try.func36, Try.ntmps36
  go_wp2_with (refine wpList_make_full _ rfl (.tmp 6) (.tmp 6) 31 rfl w.heap.size 41 i0 (.slice none 0 0) 1 Try.underlying31 hi hz0 hz1 .i64 .i64 m m m rfl rfl rfl rfl ?_ ?_ (Nat.le_refl _) ?_)
  · rw [hz2]; omega
  · simp only [maxLen]; omega
  · intro w1 hown hgr
    have hG1 : GsF w1 w.heap.size (.slice (some ⟨w.heap.size, 0, none⟩) m m) (List.replicate m (.slice none 0 0, [])) := GsF.zeros (by rw [← toList_madeCells_one]; exact hown)
    have hb1 : Below w.heap.size w w1 := (Below.refl _ _).grown hgr (Nat.le_refl _) (fun k hk => by cases hk)
    clear hown hgr
    go_wp2
    go_loopw [4] (fun i wr => ∃ (k : Nat) (d : List GVF), k ≤ m ∧ i = .int .i64 k ∧ Hid (d.length = m) ∧ Hid (GsF wr w.heap.size (.slice (some ⟨w.heap.size, 0, none⟩) m m) d) ∧ Hid (∀ j, j < k → gtl (gsCF d) j = gtl Ls j) ∧ Below w.heap.size w wr) (fun i _ => m - (intOf i).toNat)
    case atStart => exact ⟨0, _, Nat.zero_le _, rfl, Lib.hid (by simp), Lib.hid hG1, Lib.hid (fun j hj => absurd hj (by omega)), hb1⟩
    case round =>
      obtain ⟨k, d, hk, rfl, Hd, HG, Ha, hb⟩ := hrel
      by_cases hlt : k < m
      · obtain ⟨b, off, A', c', rfl, hbB, r1, r3⟩ := (HR.out _ hb).r.at_ hlt
        have hwB : B ≤ wr.heap.size := Nat.le_trans hB hb.size
        have HC := Lib.hid (HT.out wr A' c' _ _ r3 hwB (Hms.out k hlt))
        obtain ⟨q, hq⟩ : ∃ q, q = (gtl Ls k).length := ⟨_, rfl⟩
        rw [← hq] at r1 HC
        have Hq := Lib.hid hq
        have hG5 := HG.out
        obtain ⟨g', A5, c5, e5, -, hlo5, hgw5, -⟩ := HG.out.at_ (show k < d.length by rw [Hd.out]; exact hlt)
        have HP : Hid (∀ w3, Below wr.heap.size wr w3 → (∃ v, w3.cell? ⟨w.heap.size, k, none⟩ = some v) ∧ w3.frozen? ⟨w.heap.size, k, none⟩ = false) := Lib.hid fun w3 hb3 => by
          obtain ⟨g6, A6, c6, e6, -, -, -, hc6, hf6, -⟩ := (hG5.below hb3).at_ (show k < d.length by rw [Hd.out]; exact hlt)
          cases e6
          exact ⟨⟨_, hc6⟩, hf6⟩
        clear hq r3 hG5 e5
        go_wp2_with (go_at_call 72; refine HC.out.mono ?_; rintro e w3 ⟨rfl, ho3, hb3⟩; obtain ⟨⟨v3, hc3⟩, hf3⟩ := HP.out w3 hb3)
        have hG6 := HG.out.put13 Hd.out (show k < d.length by rw [Hd.out]; exact hlt) hb3 (A3 := some ⟨wr.heap.size, 0, none⟩) (c3 := q) (xs := gtl Ls k) (by rw [← Hq.out]; exact ho3)
        rw [← Hq.out] at hG6
        go_roundw
        case rel => exact ⟨k + 1, _, by omega, by go_num, Lib.hid (by rw [List.length_set, Hd.out]), Lib.hid hG6, Lib.hid (fun j hj => by
          rw [gtl_setF (by rw [Hd.out]; exact hlt)]
          by_cases e : j = k
          · rw [if_pos e, e]
          · rw [if_neg e]; exact Ha.out j (by omega)), (step hb hb3).setCell (Nat.le_refl _) _⟩
        case measure => simp [intOf]; omega
      · obtain rfl : k = m := by omega
        go_wp2
        go_ret
        exact ⟨d, rfl, HG.out, Hd.out, gsC_allF Hd.out Hlen.out Ha.out, hb⟩
/-- two that read the same. -/
theorem eqBoolSS_rd (A A' : Option Addr) (c c' m B B' : Nat) (Ls : List (List Bool)) (w : World) (h : Fns w B A m Ls) (h' : Fns w B' A' m Ls) (hB : B ≤ w.heap.size) (hB' : B' ≤ w.heap.size) :
    Calls Try.prog 37 #[.slice A m c, .slice A' m c'] w fun e w' => e = .returned (.bool true) ∧ Below w.heap.size w w' := by
  have hm := h.m
  have H1 := Lib.hid (fun (w' : World) (hb : Below w.heap.size w w') => h.below (hb.mono hB))
  have H2 := Lib.hid (fun (w' : World) (hb : Below w.heap.size w w') => h'.below (hb.mono hB'))
  have Hms := Lib.hid h.ms
  clear h h'
  go_enter Try.func37, Try.ntmps37
  go_wp2
  go_loopw [5] (fun i wr => ∃ k : Nat, k ≤ m ∧ i = .int .i64 k ∧ Below w.heap.size w wr) (fun i _ => m - (intOf i).toNat)
  case atStart => exact ⟨0, Nat.zero_le _, rfl, Below.refl _ _⟩
  case round =>
    obtain ⟨k, hk, rfl, hb⟩ := hrel
    by_cases hlt : k < m
    · have hltI : (k : Int) < (m : Int) := by omega
      obtain ⟨b, off, A3, c3, rfl, hbB, hck, ho3⟩ := (H1.out _ hb).r.at_ hlt
      obtain ⟨b', off', A4, c4, rfl, hbB', hck', ho4⟩ := (H2.out _ hb).r.at_ hlt
      have h16 := Hms.out k hlt
      obtain ⟨L, hL⟩ : ∃ L, gtl Ls k = L := ⟨_, rfl⟩
      rw [hL] at hck ho3 hck' ho4 h16
      obtain ⟨q, hq⟩ : ∃ q, L.length = q := ⟨_, rfl⟩
      rw [hq] at hck ho3 hck' ho4 h16
      clear hL hq
      have O3 := Lib.hid ho3
      have O4 := Lib.hid ho4
      clear ho3 ho4
      go_wp2_with fail
      go_region_with (go_at_call 73; refine (eqBoolS_same _ _ _ _ _ _ _ _ _ (O3.out.below (by first | exact Below.refl _ _ | exact (Below.refl _ _).drew)) (O4.out.below (by first | exact Below.refl _ _ | exact (Below.refl _ _).drew)) (by omega)).mono ?_; rintro e w3 ⟨rfl, hb3⟩)
      all_goals
        have hb3' := of_drew_below hb3
        go_wp2
        go_roundw
        case rel => exact ⟨k + 1, by omega, by go_num, step hb hb3'⟩
        case measure => simp [intOf]; omega
    · obtain rfl : k = m := by omega
      go_wp2
      go_ret
      exact ⟨rfl, hb⟩
end Go.Proofs.Ytgeedgljabdllaa
