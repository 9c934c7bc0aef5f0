import Derived.Test.YtlnmioijgclndaaFo
import Derived.Test.YtlnmioijgclndaaPushAll
import Derived.Deep.AppendLies
set_option maxRecDepth 8000
namespace Go.Proofs.Ytlnmioijgclndaa
open Go.ChangeShapes Go.WideShapes Go.ChangeAt Go.RowKit
/-! a slice of slices of ints of the call's own. -/
theorem sl_info : (Try.prog.info? 23).map (fun i => (i.zero, i.size, i.bytes)) = some (some (.slice none 0 0), 1, 24) := by kernel_rfl
abbrev GV := Value × List Int
theorem Ow.off {w w' : World} {lo : Nat} {A : Option Addr} {n c : Nat} {xs : List Int} {row : Option Nat} (h : Ow w lo A n c xs) (hg : w.grownBy w' row) (hne : ∀ g, (Value.slice A n c).ownBlock = some g → row ≠ some g) : Ow w' lo A n c xs := by
  refine World.ownsRow.kept h hg ?_
  cases e : (Value.slice A n c).ownBlock with
  | none => exact .inl rfl
  | some g => exact .inr (fun he => hne g e he.symm)
/-- the cells of each element lie in a block of its own. -/
def Gs (w : World) (lo : Nat) (v : Value) (d : List GV) : Prop :=
  w.ownsRow lo 23 1 v d.length (d.map Prod.fst) ∧ (∀ x ∈ d, (∃ A c, x.1 = .slice A x.2.length c ∧ Ow w lo A x.2.length c x.2) ∧ ∀ g, x.1.ownBlock = some g → v.ownBlock ≠ some g) ∧ d.Pairwise fun x y => ∀ g, x.1.ownBlock = some g → y.1.ownBlock ≠ some g
def cnt (d : List GV) : List (List Int) := d.map Prod.snd
def gat (Ls : List (List Int)) (k : Nat) : List Int := Ls.getD k []
theorem cnt_len (d : List GV) : (cnt d).length = d.length := by simp [cnt]
theorem gat_cnt {d : List GV} {k : Nat} (hk : k < d.length) : gat (cnt d) k = d[k].2 := by
  simp [gat, cnt, List.getD_eq_getElem?_getD, hk]
theorem Gs.below {w w' : World} {lo : Nat} {v : Value} {d : List GV} (h : Gs w lo v d) (hb : Below w.heap.size w w') : Gs w' lo v d := by
  refine ⟨World.ownsRow.kept h.1 (row := none) ⟨hb.os, hb.tape, hb.output, hb.size, fun k hk _ => hb.block k hk⟩ (by
    cases e : v.ownBlock
    · exact .inl rfl
    · exact .inr (by simp)), fun x hx => ?_, h.2.2⟩
  obtain ⟨⟨A, c, e, ho⟩, hs⟩ := h.2.1 x hx
  exact ⟨⟨A, c, e, ho.below hb⟩, hs⟩
theorem Gs.hi {w : World} {lo : Nat} {v : Value} {d : List GV} (h : Gs w lo v d) {x : GV} (hx : x ∈ d) : ∀ g, x.1.ownBlock = some g → g < w.heap.size := fun g hg => by
  obtain ⟨⟨A, c, e, ho⟩, _⟩ := h.2.1 x hx
  rw [e] at hg
  exact ho.own_hi g hg
theorem Gs.vhi {w : World} {lo : Nat} {v : Value} {d : List GV} (h : Gs w lo v d) : ∀ g, v.ownBlock = some g → g < w.heap.size := fun g hg => (World.ownsRow.lt h.1 g hg).2
theorem Gs.vlo {w : World} {lo : Nat} {v : Value} {d : List GV} (h : Gs w lo v d) : ∀ g, v.ownBlock = some g → lo ≤ g := fun g hg => (World.ownsRow.lt h.1 g hg).1
theorem Gs.mono {w : World} {lo lo' : Nat} {v : Value} {d : List GV} (h : Gs w lo v d) (hl : lo' ≤ lo) : Gs w lo' v d :=
  ⟨World.ownsRow.mono h.1 hl, fun x hx => by obtain ⟨⟨A, c, e, ho⟩, hs⟩ := h.2.1 x hx; exact ⟨⟨A, c, e, ho.mono hl⟩, hs⟩, h.2.2⟩
theorem Gs.at_ {w : World} {lo m cap : Nat} {A : Option Addr} {d : List GV} (h : Gs w lo (.slice A m cap) d) {k : Nat} (hk : k < d.length) :
    ∃ g A' c', A = some ⟨g, 0, none⟩ ∧ m = d.length ∧ lo ≤ g ∧ g < w.heap.size ∧ w.cell? ⟨g, k, none⟩ = some (.slice A' (gat (cnt d) k).length c') ∧ w.frozen? ⟨g, k, none⟩ = false ∧ Ow w lo A' (gat (cnt d) k).length c' (gat (cnt d) k) ∧ (∀ b, (Value.slice A' (gat (cnt d) k).length c').ownBlock = some b → b ≠ g) ∧ d[k].1 = .slice A' (gat (cnt d) k).length c' := by
  obtain ⟨g, cap', hv, h1, h2⟩ := World.ownsRow.form h.1 (by omega)
  injection hv with e1 e2 e3
  subst e1 e2 e3
  obtain ⟨⟨A', c', e, ho⟩, hs⟩ := h.2.1 d[k] (List.getElem_mem hk)
  rw [gat_cnt hk]
  refine ⟨g, A', c', rfl, rfl, h1, h2, ?_, World.ownsRow.frozenAt h.1 k, ho, fun b hb => ?_, e⟩
  · rw [World.ownsRow.cellAt h.1 k (by omega), List.getElem?_map, List.getElem?_eq_getElem hk]
    simp only [Option.map_some, e]
  · rw [← e] at hb
    have := hs b hb
    simp [Value.ownBlock] at this
    exact fun q => this q.symm
theorem Gs.nil_ {w : World} {lo : Nat} : Gs w lo (.slice none 0 0) [] := ⟨World.ownsRow_nil w lo _ _, fun x hx => by simp at hx, List.Pairwise.nil⟩
theorem Gs.made0 {w : World} {lo : Nat} (h : lo ≤ w.heap.size) : Gs (w.alloc (.cells #[] 23)) lo (.slice (some ⟨w.heap.size, 0, none⟩) 0 0) [] := ⟨World.ownsRow_made w #[] 0 h (by simp [maxLen]) rfl, fun x hx => by simp at hx, List.Pairwise.nil⟩
/-- one slice more, in a block of its own. -/
theorem Gs.push {w3 w5 : World} {lo lo3 : Nat} {v : Value} {d : List GV} {A3 : Option Addr} {c3 g' cap : Nat} {xs : List Int} (h : Gs w3 lo v d) (ho3 : Ow w3 lo3 A3 xs.length c3 xs) (hlo : lo ≤ lo3)
    (hsep : ∀ x ∈ d, ∀ g, x.1.ownBlock = some g → (Value.slice A3 xs.length c3).ownBlock ≠ some g) (hv : ∀ g, (Value.slice A3 xs.length c3).ownBlock = some g → v.ownBlock ≠ some g) {o : Obj}
    (h5 : w5.ownsRow lo 23 1 (.slice (some ⟨g', 0, none⟩) (d.length + 1) cap) (d.length + 1) (d.map Prod.fst ++ [.slice A3 xs.length c3])) (hg5 : (w3.alloc o).grownBy w5 v.ownBlock) (hl5 : v.ownBlock = some g' ∨ g' = (w3.alloc o).heap.size) :
    Gs w5 lo (.slice (some ⟨g', 0, none⟩) (d.length + 1) cap) (d ++ [(.slice A3 xs.length c3, xs)]) := by
  have hno : ∀ {lo2 : Nat} {A : Option Addr} {n c : Nat} {ys : List Int}, Ow w3 lo2 A n c ys → (∀ g, (Value.slice A n c).ownBlock = some g → v.ownBlock ≠ some g) → Ow w5 lo2 A n c ys := fun ho hne => Ow.off (World.ownsRow.alloc ho o) hg5 hne
  have hg' : (Value.slice (some ⟨g', 0, none⟩) (d.length + 1) cap).ownBlock = some g' := by simp [Value.ownBlock]
  have hfar : ∀ b, b < w3.heap.size → v.ownBlock ≠ some b → b ≠ g' := fun b hb hne e => by
    subst e
    rcases hl5 with q | q
    · exact hne q
    · rw [World.size_alloc] at q; omega
  refine ⟨by simpa using h5, fun x hx => ?_, ?_⟩
  · rw [List.mem_append] at hx
    rcases hx with hx | hx
    · obtain ⟨⟨A, c, e, ho⟩, hs⟩ := h.2.1 x hx
      refine ⟨⟨A, c, e, hno ho (fun g hg => hs g (by rw [e]; exact hg))⟩, fun g hg => ?_⟩
      rw [hg']
      intro q
      injection q with q
      exact hfar g (h.hi hx g hg) (hs g hg) q.symm
    · simp only [List.mem_singleton] at hx
      subst hx
      refine ⟨⟨A3, c3, rfl, (hno ho3 hv).mono hlo⟩, fun g hg => ?_⟩
      rw [hg']
      intro q
      injection q with q
      exact hfar g (ho3.own_hi g hg) (hv g hg) q.symm
  · rw [List.pairwise_append]
    exact ⟨h.2.2, List.pairwise_singleton _ _, fun x hx y hy g hg => by simp only [List.mem_singleton] at hy; subst hy; exact hsep x hx g hg⟩
/-- an element put into its place. -/
theorem Gs.put {w : World} {lo lo3 g m cap k : Nat} {d : List GV} {A3 : Option Addr} {c3 : Nat} {xs : List Int} (h : Gs w lo (.slice (some ⟨g, 0, none⟩) m cap) d) (hk : k < d.length) (ho3 : Ow w lo3 A3 xs.length c3 xs) (hlo : lo ≤ lo3)
    (hsep : ∀ x ∈ d, ∀ b, x.1.ownBlock = some b → (Value.slice A3 xs.length c3).ownBlock ≠ some b) (hv : ∀ b, (Value.slice A3 xs.length c3).ownBlock = some b → b ≠ g) :
    Gs (w.setCell ⟨g, k, none⟩ (.slice A3 xs.length c3)) lo (.slice (some ⟨g, 0, none⟩) m cap) (d.set k (.slice A3 xs.length c3, xs)) := by
  obtain ⟨g0, cap', hv0, _, _⟩ := World.ownsRow.form h.1 (by omega)
  injection hv0 with e1 e2 e3
  injection e1 with e1
  injection e1 with e1 _ _
  subst e1 e2 e3
  obtain ⟨h1, h2⟩ := World.ownsRow.stored h.1 k (.slice A3 xs.length c3)
  have hno : ∀ {lo2 : Nat} {A : Option Addr} {n c : Nat} {ys : List Int}, Ow w lo2 A n c ys → (∀ b, (Value.slice A n c).ownBlock = some b → b ≠ g) → Ow (w.setCell ⟨g, k, none⟩ (.slice A3 xs.length c3)) lo2 A n c ys := fun ho hne => Ow.off ho h2 (fun b hb e => hne b hb (by injection e with e; exact e.symm))
  have hg' : (Value.slice (some ⟨g, 0, none⟩) d.length cap).ownBlock = some g := by simp [Value.ownBlock]
  refine ⟨by rw [List.length_set, List.map_set]; exact h1, fun x hx => ?_, ?_⟩
  · rcases List.mem_or_eq_of_mem_set hx with hx | hx
    · obtain ⟨⟨A, c, e, ho⟩, hs⟩ := h.2.1 x hx
      refine ⟨⟨A, c, e, hno ho (fun b hb q => hs b (by rw [e]; exact hb) (by rw [hg', q]))⟩, hs⟩
    · subst hx
      exact ⟨⟨A3, c3, rfl, (hno ho3 hv).mono hlo⟩, fun b hb => by rw [hg']; intro q; injection q with q; exact hv b hb q.symm⟩
  · rw [List.pairwise_iff_getElem]
    have hp := List.pairwise_iff_getElem.1 h.2.2
    intro i j hi hj hij b hb
    rw [List.length_set] at hi hj
    rw [List.getElem_set] at hb ⊢
    by_cases e : k = i
    · rw [if_pos e] at hb
      rw [if_neg (by omega)]
      intro q
      exact hsep d[j] (List.getElem_mem hj) b q hb
    · rw [if_neg e] at hb
      by_cases e2 : k = j
      · rw [if_pos e2]
        exact hsep d[i] (List.getElem_mem hi) b hb
      · rw [if_neg e2]
        exact hp i j hi hj hij b hb
theorem cnt_set {d : List GV} {k : Nat} {x : GV} : cnt (d.set k x) = (cnt d).set k x.2 := by simp [cnt, List.map_set]
theorem gat_set {Ls : List (List Int)} {k j : Nat} {xs : List Int} (hk : k < Ls.length) : gat (Ls.set k xs) j = if j = k then xs else gat Ls j := by
  simp only [gat, List.getD_eq_getElem?_getD, List.getElem?_set]
  by_cases e : k = j
  · subst e; simp [hk]
  · rw [if_neg e, if_neg (fun q => e q.symm)]
/-- 'append(out, x)', x a slice that has been laid just ahead. -/
theorem push_sl {w : World} {ops : Array Oper} {rest : List Oper} {o : Oper} {a : Act} {Q : Exit → Act → World → Prop} (hgd : o.guard = none) (s x : Operand)
    (ho : o.op = .call { callee := .builtin .append, args := #[s, x], argTypes := #[31, 31] })
    (lo : Nat) (v : Value) (n : Nat) (vs : List Value) (g : Nat) (A : Option Addr) (m c : Nat) (hs : a.eval s = v) (hx : a.eval x = .slice (some ⟨g, 0, none⟩) 1 1)
    (hown : w.ownsRow lo 23 1 v n vs) (hrow : w.heap[g]? = some (.cells #[.slice A m c] 23)) (hn : n ≤ 1099511627776) (hlo : lo ≤ w.heap.size)
    (h : ∀ g' cap w', w'.ownsRow lo 23 1 (.slice (some ⟨g', 0, none⟩) (n + 1) cap) (n + 1) (vs ++ [.slice A m c]) → w.grownBy w' v.ownBlock → (v.ownBlock = some g' ∨ g' = w.heap.size) → wpList Try.prog ops Q rest (a.put o.dst (.slice (some ⟨g', 0, none⟩) (n + 1) cap)) w') :
    wpList Try.prog ops Q (o :: rest) a w := by
  refine wpList_plain hgd fun K hK => ?_
  obtain ⟨i0, hi, hz0, hz1, hz2⟩ := info_parts sl_info
  obtain ⟨g', cap, w', hrun, h1, h2, h3, h4⟩ := run_append_lies (P := Try.prog) w 31 o.type lo 23 i0 (.slice none 0 0) 1 24 Try.underlying31 hi hz0 hz1 hz2 rfl (by decide) v n vs hown ⟨g, 0, none⟩ 1 1 [.slice A m c] rfl (World.news_of_block (cs := #[.slice A m c]) hrow) (by simp [Value.oneCell']) (by decide) (by simp only [maxLen]; omega) (by omega) hlo _ rfl
  unfold Oper.wp
  simp [execOp, ho, resolve, invoke, builtin, hs, hx, hrun, Result.andThen]
  exact hK _ _ (h g' cap w' h1 h2 h3)
/-- 'append([]int{}, t...)', t whatever reads. -/
theorem push_copy {w : World} {ops : Array Oper} {rest : List Oper} {o : Oper} {a : Act} {Q : Exit → Act → World → Prop} (hgd : o.guard = none) (s x : Operand)
    (ho : o.op = .call { callee := .builtin .append, args := #[s, x], argTypes := #[23, 23] })
    (lo : Nat) (A : Option Addr) (A2 : Option Addr) (m c2 B : Nat) (ys : List Int) (hs : a.eval s = .slice A 0 0) (hx : a.eval x = .slice A2 m c2) (hown : Ow w lo A 0 0 []) (hr : Rd w B A2 m ys)
    (hm : m ≤ 1099511627776) (hlo : lo ≤ w.heap.size)
    (h : ∀ A' c' w', Ow w' lo A' m c' ys → w.grownBy w' (Value.slice A 0 0).ownBlock → wpList Try.prog ops Q rest (a.put o.dst (.slice A' m c')) w') :
    wpList Try.prog ops Q (o :: rest) a w := by
  refine wpList_plain hgd fun K hK => ?_
  obtain ⟨A', c', w', hrun, h1, h2, h3⟩ := run_push_all o.type lo A 0 0 [] A2 m c2 B ys hown hr (.inr rfl) (by omega) hm hlo
  rw [Nat.zero_add] at hrun h1
  rw [List.nil_append] at h1
  unfold Oper.wp
  simp [execOp, ho, resolve, invoke, builtin, hs, hx, hrun, Result.andThen]
  exact hK _ _ (h A' c' w' h1 h2)
/-- a slice of n ints of the call's own is handed back. -/
def RetN (w : World) (n : Nat) (xs : List Int) (e : Ending) (w' : World) : Prop := ∃ A c, e = .returned (.slice A n c) ∧ Ow w' w.heap.size A n c xs ∧ Below w.heap.size w w'
theorem retN_of {w w' : World} {n : Nat} {xs : List Int} {e : Ending} (h : RetSl w xs e w') (hl : xs.length = n) : RetN w n xs e w' := by
  obtain ⟨A, c, rfl, ho, hb⟩ := h
  rw [hl] at ho ⊢
  exact ⟨A, c, rfl, ho, hb⟩
def RetGs (w : World) (Ls : List (List Int)) (e : Ending) (w' : World) : Prop := ∃ A c d, e = .returned (.slice A Ls.length c) ∧ cnt d = Ls ∧ Gs w' w.heap.size (.slice A Ls.length c) d ∧ Below w.heap.size w w'
theorem retGs_mk {w w' : World} {A : Option Addr} {m c : Nat} {d : List GV} {Ls : List (List Int)} (hd : d.length = m) (hc : cnt d = Ls) (hG : Gs w' w.heap.size (.slice A m c) d) (hb : Below w.heap.size w w') : RetGs w Ls (.returned (.slice A m c)) w' := by
  have : Ls.length = m := by rw [← hc, cnt_len, hd]
  subst this
  exact ⟨A, c, d, rfl, hc, hG, hb⟩
/-- the forms of a grid. -/
def gfL (xs : List Int) (s : Int) (n : Nat) : List (List Int) := if gv xs s = true then (List.range 8).map (frm s n xs) else []
theorem gfL_f {xs : List Int} {s : Int} {n : Nat} (h : gv xs s = false) : gfL xs s n = [] := by simp [gfL, h]
theorem gfL_t {xs : List Int} {s : Int} {n : Nat} (h : gv xs s = true) : gfL xs s n = (List.range 8).map (frm s n xs) := by simp [gfL, h]
theorem gat_map {f : Nat → List Int} {m k : Nat} (h : k < m) : gat ((List.range m).map f) k = f k := by simp [gat, List.getD_eq_getElem?_getD, h]
set_option maxHeartbeats 2000000 in
theorem specGridForms (A : Option Addr) (c n B : Nat) (xs : List Int) (size : Int) (w : World) (h : Rd w B A n xs) (hB : B ≤ w.heap.size) (hm : n ≤ 1099511627776) :
    Calls Try.prog 23 #[.slice A n c, .int .i64 size] w (RetGs w (gfL xs size n)) := by
  have hlen := Lib.hid h.1
  have hb0 : Below w.heap.size w (w.alloc (.cells #[] 23)) := (Below.refl _ _).alloc (Nat.le_refl _) _
  have h1 := h.alloc hB (.cells #[] 23)
  have G0 : Gs (w.alloc (.cells #[] 23)) w.heap.size (.slice (some ⟨w.heap.size, 0, none⟩) 0 0) [] := Gs.made0 (Nat.le_refl _)
  cases hg : gv xs size
  · have HL := Lib.hid (gfL_f (n := n) hg)
    go_enter Try.func23, Try.ntmps23
    go_wp2_with (go_at_call 54; refine (specGridValid _ _ _ _ _ _ _ h1 hm).mono ?_; rintro e w' ⟨rfl, rfl⟩; rw [hg])
    go_ret
    rw [HL.out]
    exact ⟨_, _, [], rfl, rfl, G0, hb0⟩
  · obtain ⟨s, rfl, hs, hls⟩ := size_nat hg
    have hn : n = s * s := by have := hlen.out; omega
    have HL := Lib.hid (gfL_t (n := n) hg)
    have hs0 : (w.alloc (.cells #[] 23)).heap.size = w.heap.size + 1 := by simp
    have O1 : Ow ((w.alloc (.cells #[] 23)).alloc (.cells #[] 3)) (w.heap.size + 1) (some ⟨w.heap.size + 1, 0, none⟩) 0 0 [] := by
      have := Ow.made0 (w.alloc (.cells #[] 23)) (w.heap.size + 1) (by simp)
      rwa [hs0] at this
    have hb1 : Below w.heap.size w ((w.alloc (.cells #[] 23)).alloc (.cells #[] 3)) := hb0.alloc hb0.size _
    have h2 := h.below (hb1.mono hB)
    have Hlt : Hid (∀ k, (frm s n xs k).length = n ∧ gv (frm s n xs k) s = true) := Lib.hid fun k => ⟨frm_len hlen.out k, frm_gv hs hn hlen.out hg k⟩
    have HX : Hid (∀ k, (spX s n xs k).length = n) := Lib.hid fun k => spX_len hlen.out k
    have HM : Hid (∀ W, Below w.heap.size w W → Calls Try.prog 55 #[.slice A n c, .int .i64 s] W fun e w' => ∃ A' c', e = .returned (.slice A' n c') ∧ Ow w' W.heap.size A' n c' (frm s n xs 4) ∧ Below W.heap.size W w') := Lib.hid fun W hW => by
      have hl4 : (mirL xs s).length = n := by rw [mirL_frm hlen.out hg]; exact frm_len hlen.out 4
      refine (specGridMirror A c n B xs s W (h.below (hW.mono hB)) (Nat.le_trans hB hW.size) hm).mono ?_
      rintro e w' ⟨A', c', rfl, ho, hb⟩
      rw [hl4] at ho ⊢
      rw [mirL_frm hlen.out hg] at ho
      exact ⟨A', c', rfl, ho, hb⟩
    have HT : Hid (∀ k W A' c', Rd W W.heap.size A' n (frm s n xs k) → Calls Try.prog 56 #[.slice A' n c', .int .i64 s] W fun e w' => ∃ A'' c'', e = .returned (.slice A'' n c'') ∧ Ow w' W.heap.size A'' n c'' (spX s n xs (k + 1)) ∧ Below W.heap.size W w') := Lib.hid fun k W A' c' hr => by
      obtain ⟨l1, l2⟩ := Hlt.out k
      have e1 : turnL (frm s n xs k) s = spX s n xs (k + 1) := by rw [spX_succ]; exact turnL_pm l2 l1
      refine (specGridTurn A' c' n _ _ s W hr (Nat.le_refl _) hm).mono ?_
      rintro e w' ⟨A'', c'', rfl, ho, hb⟩
      rw [e1, HX.out] at ho ⊢
      exact ⟨A'', c'', rfl, ho, hb⟩
    have Hlen := hlen
    clear hn
    go_enter Try.func23, Try.ntmps23
    go_wp2_with (first
      | (go_at_call 54; refine (specGridValid _ _ _ _ _ _ _ h1 hm).mono ?_; rintro e w' ⟨rfl, rfl⟩; rw [hg])
      | (at_builtin; (refine push_copy rfl (.tmp 14) (.tmp 15) rfl (w.heap.size + 1) (some ⟨w.heap.size + 1, 0, none⟩) A n c B xs rfl rfl O1 h2 hm (by simp <;> omega) ?_); intro A1 c1 w1 ho1 hg1))
    have hbw1 : Below (w.heap.size + 1) (w.alloc (.cells #[] 23)) w1 := ((Below.refl _ _).alloc (by simp) _).grown hg1 (by simp) (fun g hg => by simp [Value.ownBlock] at hg; omega)
    have hb2 : Below w.heap.size w w1 := hb0.trans (hbw1.mono (by omega))
    have G1 : Gs w1 w.heap.size (.slice (some ⟨w.heap.size, 0, none⟩) 0 0) [] := G0.below (by rw [hs0]; exact hbw1)
    have Hlo := Lib.hid ho1.own_lo
    go_loopw [5, 6, 7] (fun v x i wr => ∃ (k : Nat) (d : List GV) (Av : Option Addr) (cv : Nat) (A' : Option Addr) (c' : Nat), k ≤ 8 ∧ i = .int .i64 k ∧ v = .slice Av k cv ∧ x = .slice A' n c' ∧ d.length = k ∧ Hid (cnt d = (List.range k).map (frm s n xs)) ∧ Gs wr w.heap.size (.slice Av k cv) d ∧ Ow wr w.heap.size A' n c' (spX s n xs k) ∧ Hid ((∀ y ∈ d, ∀ g, y.1.ownBlock = some g → (Value.slice A' n c').ownBlock ≠ some g) ∧ ∀ g, (Value.slice A' n c').ownBlock = some g → (Value.slice Av k cv).ownBlock ≠ some g) ∧ Below w.heap.size w wr) (fun _ _ i _ => 8 - (intOf i).toNat)
    case atStart =>
      refine ⟨0, [], _, _, A1, c1, Nat.zero_le _, rfl, rfl, rfl, rfl, Lib.hid rfl, G1, ho1.mono (by omega), Lib.hid ⟨fun y hy => by simp at hy, fun g hg e => ?_⟩, hb2⟩
      have := Hlo.out g hg
      simp [Value.ownBlock] at e
      omega
    case round =>
      obtain ⟨k, d, Av, cv, A', c', hk, rfl, rfl, rfl, hdl, HC, hG, ho, HS, hb⟩ := hrel
      by_cases hlt : k < 8
      · have hlt' : (k : Int) < 8 := by omega
        have hpush : ∀ (W w5 : World) (A3 : Option Addr) (c3 g5 cap5 : Nat), Below wr.heap.size wr W → Ow W w.heap.size A3 n c3 (frm s n xs k) → ((∀ y ∈ d, ∀ g, y.1.ownBlock = some g → (Value.slice A3 n c3).ownBlock ≠ some g) ∧ ∀ g, (Value.slice A3 n c3).ownBlock = some g → (Value.slice Av k cv).ownBlock ≠ some g) →
            w5.ownsRow w.heap.size 23 1 (.slice (some ⟨g5, 0, none⟩) (k + 1) cap5) (k + 1) (d.map Prod.fst ++ [.slice A3 n c3]) → (W.alloc (.cells #[.slice A3 n c3] 23)).grownBy w5 (Value.slice Av k cv).ownBlock → ((Value.slice Av k cv).ownBlock = some g5 ∨ g5 = (W.alloc (.cells #[.slice A3 n c3] 23)).heap.size) →
            Gs w5 w.heap.size (.slice (some ⟨g5, 0, none⟩) (k + 1) cap5) (d ++ [(.slice A3 n c3, frm s n xs k)]) ∧ Below w.heap.size w w5 ∧ Rd w5 w5.heap.size A3 n (frm s n xs k) ∧ cnt (d ++ [(.slice A3 n c3, frm s n xs k)]) = (List.range (k + 1)).map (frm s n xs) := by
          intro W w5 A3 c3 g5 cap5 hW ho3 hsep h5 hg5 hl5
          have hl := (Hlt.out k).1
          have hGW := hG.below hW
          have hP := Gs.push (xs := frm s n xs k) (A3 := A3) (c3 := c3) (o := .cells #[.slice A3 n c3] 23) (g' := g5) (cap := cap5) (w5 := w5) hGW (by rw [hl]; exact ho3) (Nat.le_refl _) (by rw [hl]; exact hsep.1) (by rw [hl]; exact hsep.2) (by rw [hl, hdl]; exact h5) hg5 hl5
          rw [hl, hdl] at hP
          have hbW : Below w.heap.size w W := hb.trans (hW.mono hb.size)
          refine ⟨hP, (hbW.alloc hbW.size _).grown hg5 (Nat.le_trans hbW.size (by simp)) (fun g hg => hG.vlo g hg), ?_, ?_⟩
          · exact (Ow.off (World.ownsRow.alloc ho3 _) hg5 hsep.2).rd
          · rw [List.range_succ, List.map_append, ← HC.out]
            simp [cnt]
        have HP := Lib.hid hpush
        clear hpush
        have HO : Hid (∀ W, Below wr.heap.size wr W → W.ownsRow w.heap.size 23 1 (.slice Av k cv) k (d.map Prod.fst)) := Lib.hid fun W hW => by
          have := (hG.below hW).1
          rwa [hdl] at this
        have hnew : ∀ (W W' : World) (A3 : Option Addr) (c3 g5 cap5 : Nat) (zs : List Int) (d' : List GV), Gs W w.heap.size (.slice (some ⟨g5, 0, none⟩) (k + 1) cap5) d' → Ow W' W.heap.size A3 n c3 zs → Hid ((∀ y ∈ d', ∀ g, y.1.ownBlock = some g → (Value.slice A3 n c3).ownBlock ≠ some g) ∧ ∀ g, (Value.slice A3 n c3).ownBlock = some g → (Value.slice (some ⟨g5, 0, none⟩) (k + 1) cap5).ownBlock ≠ some g) := fun W W' A3 c3 g5 cap5 zs d' hGW ho3 => Lib.hid ⟨fun y hy g hg q => by
            have := hGW.hi hy g hg
            have := ho3.own_lo g q
            omega, fun g hg q => by
            have := hGW.vhi g q
            have := ho3.own_lo g hg
            omega⟩
        have HN := Lib.hid hnew
        clear hnew
        have hk40 : k ≤ 1099511627776 := by omega
        by_cases h4 : k = 4
        · subst h4
          have h44 : ((4 : Nat) : Int) = 4 := rfl
          go_wp2_with (first
            | (go_at_call 55; refine (HM.out _ hb).mono ?_; rintro e w3 ⟨A3, c3, rfl, ho3, hb3⟩; have hs3 := Nat.le_trans hb.size hb3.size)
            | (at_builtin; (refine push_sl rfl (.tmp 26) (.tmp 28) rfl w.heap.size (.slice Av 4 cv) 4 (d.map Prod.fst) w3.heap.size A3 n c3 rfl rfl (World.ownsRow.alloc (HO.out _ hb3) _) (heap_alloc_new w3 _) hk40 (by simp <;> omega) ?_); intro g5 cap5 w5 ho5 hg5 hl5;
                obtain ⟨p1, p2, p3, p4⟩ := HP.out w3 w5 A3 c3 g5 cap5 hb3 (ho3.mono hb.size) ⟨fun y hy g hg q => by (have := hG.hi hy g hg); (have := ho3.own_lo g q); omega, fun g hg q => by (have := hG.vhi g q); (have := ho3.own_lo g hg); omega⟩ ho5 hg5 hl5)
            | (go_at_call 56; refine (HT.out 4 _ _ _ p3).mono ?_; rintro e w6 ⟨A6, c6, rfl, ho6, hb6⟩))
          have P4 := Lib.hid p4
          clear p4
          go_roundw
          case rel => exact ⟨5, _, _, _, A6, c6, by omega, by go_num, rfl, rfl, by simp [hdl], P4, p1.below hb6, ho6.mono p2.size, HN.out _ _ _ _ _ _ _ _ p1 ho6, step p2 hb6⟩
          case measure => simp [intOf]
        · have h4' : ¬ ((k : Int) = 4) := by omega
          have e0 := spX_frm (s := s) (n := n) (xs := xs) h4
          rw [e0] at ho
          have hO := Lib.hid ho
          clear ho e0
          have hwsz := hb.size
          go_wp2_with (first
            | (at_builtin; (refine push_sl rfl (.tmp 26) (.tmp 28) rfl w.heap.size (.slice Av k cv) k (d.map Prod.fst) wr.heap.size A' n c' rfl rfl (World.ownsRow.alloc (HO.out _ (Below.refl _ _)) _) (heap_alloc_new wr _) hk40 (by simp <;> omega) ?_); intro g5 cap5 w5 ho5 hg5 hl5;
                obtain ⟨p1, p2, p3, p4⟩ := HP.out wr w5 A' c' g5 cap5 (Below.refl _ _) hO.out HS.out ho5 hg5 hl5)
            | (go_at_call 56; refine (HT.out k _ _ _ p3).mono ?_; rintro e w6 ⟨A6, c6, rfl, ho6, hb6⟩))
          have P4 := Lib.hid p4
          clear p4
          go_roundw
          case rel => exact ⟨k + 1, _, _, _, A6, c6, by omega, by go_num, rfl, rfl, by simp [hdl], P4, p1.below hb6, ho6.mono p2.size, HN.out _ _ _ _ _ _ _ _ p1 ho6, step p2 hb6⟩
          case measure => simp [intOf]; omega
      · obtain rfl : k = 8 := by omega
        go_wp2
        go_ret
        rw [HL.out]
        exact ⟨_, _, d, rfl, HC.out, hG, hb⟩
end Go.Proofs.Ytlnmioijgclndaa
