import Derived.Test.YtgeedgljabdllaaOPxt
import Derived.Deep.Slices
import Derived.Deep.Fields
import Derived.Lib.SmallJoins
import Derived.ChangeSame
import Derived.Test.YtgeedgljabdllaaOPxb
import Derived.Test.YtgeedgljabdllaaMadeJ
import Derived.Test.YtgeedgljabdllaaLs
import Derived.Test.YtgeedgljabdllaaPp
import Derived.Test.YtgeedgljabdllaaIl
set_option maxRecDepth 8000
namespace Go.Proofs.Ytgeedgljabdllaa
open Go.ChangeShapes Go.WideShapes Go.ChangeAt Go.RowKit Go.Deep
/-! A slice of slices of numbers that came in, as it reads. -/
theorem row_max13 {k : IntKind} {w : World} {a : Option Addr} {len cap : Nat} {zs : List Int} (h : IsRow k w a len cap zs) : len ≤ 9223372036854775807 := by
  rcases h with ⟨_, rfl, _, _⟩ | ⟨x, _, hl, hm, _⟩
  · omega
  · simp only [maxLen] at hm; omega
theorem lists_of {P : Nat → List Int → Prop} : ∀ n, (∀ i, i < n → ∃ r, P i r) → ∃ rs : List (List Int), rs.length = n ∧ ∀ i, i < n → P i (gtl rs i) := by
  intro n
  induction n with
  | zero => intro _; exact ⟨[], rfl, fun i hi => absurd hi (by omega)⟩
  | succ n ih =>
    intro h
    obtain ⟨rs, hl, hp⟩ := ih (fun i hi => h i (by omega))
    obtain ⟨r, hr⟩ := h n (by omega)
    refine ⟨rs ++ [r], by simp [hl], fun i hi => ?_⟩
    by_cases e : i < n
    · have : gtl (rs ++ [r]) i = gtl rs i := by simp [gtl, List.getD_eq_getElem?_getD, List.getElem?_append_left (by omega : i < rs.length)]
      rw [this]; exact hp i e
    · obtain rfl : i = n := by omega
      have : gtl (rs ++ [r]) i = r := by simp [gtl, List.getD_eq_getElem?_getD, ← hl]
      rw [this]; exact hr
theorem add_plain13 (b off i : Nat) : (⟨b, off, none⟩ : Addr).add i = ⟨b, off + i, none⟩ := by unfold Addr.add; split <;> simp_all
theorem open_slices {H : Type} {enc : TypeId × Value → H} {W : World} {base : Nat} {held : Bool} {fuel : Nat} {v : Value} {x : DataW H × List MemPlace} (hC : Try.prog.cellsOf 28 = 1) (h1 : Try.prog.cellsOf 3 = 1)
    (h : DataW.trod enc Try.prog W base (fun _ => true) held fuel 23 [v] = some x) :
    ∃ A len cap Ls, v = .slice A len cap ∧ Rrx W W.heap.size A len Ls ∧ len ≤ 9223372036854775807 := by
  rcases open_slice Try.underlying23 h with ⟨hcs, _⟩ | ⟨a, len, cap, m, nf, D, Pl, hcs, hb, hl, hm, hmm, _, hi⟩
  · injection hcs with hcs
    exact ⟨none, 0, 0, [], hcs, ⟨rfl, fun hn => absurd hn (by omega)⟩, by omega⟩
  · injection hcs with hcs
    have hlm : len ≤ m := by rw [hmm]; simpa using hl
    have hmax : len ≤ 9223372036854775807 := by simp only [maxLen] at hm; omega
    have one : ∀ i, i < len → ∃ (A' : Option Addr) (l c : Nat) (zs : List Int), W.cell? (a.add i) = some (.slice A' l c) ∧ IsRow .i64 W A' l c zs := fun i hil => by
      obtain ⟨cs', hc, ht⟩ := hi i (by omega)
      rw [hC, Nat.mul_one] at hc
      obtain ⟨_, hcl, hat⟩ := World.cells?_some hc
      match cs', hcl with
      | [c0], _ =>
        have a0 := hat 0 (by omega)
        obtain ⟨A', l, c, zs, ez, hz⟩ : ∃ A' l c zs, c0 = .slice A' l c ∧ IsRow .i64 W A' l c zs := by
          rcases open_ints Try.underlying28 Try.underlying3 h1 ht with ⟨hcs, _⟩ | ⟨x, l, c, zs, hcs, _, hl, hm, hz, _, hcell, hwz⟩
          · injection hcs with hcs
            exact ⟨none, 0, 0, [], hcs, .inl ⟨rfl, rfl, rfl, rfl⟩⟩
          · injection hcs with hcs
            exact ⟨_, _, _, zs, hcs, .inr ⟨_, rfl, hl, hm, by simpa using hz, hcell, hwz⟩⟩
        exact ⟨A', l, c, zs, by rw [ez] at a0; simpa [Addr.add] using a0, hz⟩
    by_cases h0 : len = 0
    · subst h0
      exact ⟨some a, 0, cap, [], hcs, ⟨rfl, fun hn => absurd hn (by omega)⟩, hmax⟩
    · obtain ⟨A', l, c, zs, q0, q3⟩ := one 0 (by omega)
      obtain ⟨b, off, spot⟩ := a
      have hspot : spot = none := by simpa [Addr.add] using World.cell?_spot q0
      subst hspot
      obtain ⟨rs, hrl, hrs⟩ := lists_of (P := fun i r => ∃ A' c', W.cell? ⟨b, off + i, none⟩ = some (.slice A' r.length c') ∧ Rdx W W.heap.size A' r.length r) len (fun i hil => by
        obtain ⟨A', l, c, zs, q0, q3⟩ := one i hil
        have hrd := rd_of_row q3
        have hll := hrd.1
        rw [add_plain13] at q0
        exact ⟨zs.take l, A', c, by rw [hll]; exact q0, by rw [hll]; exact ⟨hrd, row_max13 q3, row_b64 q3⟩⟩)
      exact ⟨_, _, _, rs, hcs, ⟨hrl, fun _ => ⟨b, off, rfl, cell_lt q0, hrs⟩⟩, hmax⟩
end Go.Proofs.Ytgeedgljabdllaa
set_option maxRecDepth 8000
namespace Go.Proofs.Ytgeedgljabdllaa
open Go.ChangeShapes Go.WideShapes Go.ChangeAt Go.RowKit Go.Deep
/-! slices of slices of bools: marked; as they come in. -/
def KeepOutF (d : List GVF) (w w' : World) : Prop := ∀ b, b < w.heap.size → (∀ x ∈ d, x.1.ownBlock ≠ some b) → w'.heap[b]? = w.heap[b]?
set_option maxHeartbeats 1000000 in
theorem markBoolSS_any (A : Option Addr) (c m lo : Nat) (d : List GVF) (w : World) (h : GsF w lo (.slice A m c) d) (hm : d.length = m) (h8 : m ≤ 1048576) (hl : ∀ k (hk : k < d.length), (d[k]).2.length ≤ 1048576) (hlo : lo ≤ w.heap.size) :
    Calls Try.prog 38 #[.slice A m c, .int .i64 1] w fun e w' => ∃ r : Int, e = .returned (.int .i64 r) ∧ 0 ≤ r ∧ Below lo w w' ∧ KeepOutF d w w' := by
  have Hl := Lib.hid hl
  have H := Lib.hid h
  have Hm := Lib.hid hm
  have Hp := Lib.hid (List.pairwise_iff_getElem.1 h.2.2)
  have hrow0 : w.ownsRow lo 41 1 (.slice A m c) m (d.map Prod.fst) := by have := h.1; rwa [hm] at this
  clear hl h
  go_enter Try.func38, Try.ntmps38
  go_wp2
  go_loopw [1, 5] (fun y i wr => ∃ (k : Nat) (q : Int), k ≤ m ∧ i = .int .i64 k ∧ y = .int .i64 q ∧ 0 ≤ q ∧ q ≤ 1 + k * 1048576 ∧ Hid (wr.ownsRow lo 41 1 (.slice A m c) m (d.map Prod.fst)) ∧ Hid (∀ j (hj : j < d.length), k ≤ j → ∃ A' c', d[j].1 = .slice A' d[j].2.length c' ∧ OwF wr lo A' d[j].2.length c' d[j].2) ∧ Hid (Below lo w wr) ∧ Hid (w.heap.size ≤ wr.heap.size) ∧ Hid (KeepOutF d w wr)) (fun _ i _ => m - (intOf i).toNat)
  case atStart => exact ⟨0, 1, Nat.zero_le _, rfl, rfl, by omega, by omega, Lib.hid hrow0, Lib.hid (fun j hj _ => by
    obtain ⟨⟨A', c', e, ho⟩, _⟩ := H.out.2.1 d[j] (List.getElem_mem hj)
    exact ⟨A', c', e, ho⟩), Lib.hid (Below.refl _ _), Lib.hid (Nat.le_refl _), Lib.hid (fun _ _ _ => rfl)⟩
  case round =>
    obtain ⟨k, q, hk, rfl, rfl, hq0, hq1, hrow, hall, hb, hsz, hko⟩ := hrel
    by_cases hlt : k < m
    · have hltI : (k : Int) < (m : Int) := by omega
      have hkd : k < d.length := by rw [Hm.out]; exact hlt
      obtain ⟨A3, c3, he3, ho3⟩ := hall.out k hkd (Nat.le_refl _)
      obtain ⟨n, hn⟩ : ∃ n, n = d[k].2.length := ⟨_, rfl⟩
      have hn16 : n ≤ 1048576 := by rw [hn]; exact Hl.out k hkd
      rw [← hn] at he3 ho3
      obtain ⟨g, cap', hv, hg1, hg2⟩ := World.ownsRow.form hrow.out (by omega)
      injection hv with e1 e2 e3
      subst e1 e3
      have hck : wr.cell? ⟨g, k, none⟩ = some (.slice A3 n c3) := by
        rw [World.ownsRow.cellAt hrow.out k (by omega), List.getElem?_map, List.getElem?_eq_getElem hkd]
        simp only [Option.map_some, he3]
      have hsep : ∀ b, (Value.slice A3 n c3).ownBlock = some b → b ≠ g := fun b hb e => by
        have := (H.out.2.1 d[k] (List.getElem_mem hkd)).2 b (by rw [he3]; exact hb)
        exact this (by rw [e]; rfl)
      have HN : Hid (∀ w3, wr.grownBy w3 (Value.slice A3 n c3).ownBlock → w3.ownsRow lo 41 1 (.slice (some ⟨g, 0, none⟩) m c) m (d.map Prod.fst) ∧ (∀ j (hj : j < d.length), k + 1 ≤ j → ∃ A' c', d[j].1 = .slice A' d[j].2.length c' ∧ OwF w3 lo A' d[j].2.length c' d[j].2) ∧ Below lo w w3 ∧ w.heap.size ≤ w3.heap.size ∧ KeepOutF d w w3) := Lib.hid fun w3 hg => by
        refine ⟨World.ownsRow.kept hrow.out hg (.inr fun e => hsep g e.symm rfl), fun j hj hkj => ?_, hb.out.grown hg (Nat.le_trans hlo hb.out.size) (fun b hbb => ho3.own_lo b hbb), Nat.le_trans hsz.out hg.size, fun b hb2 hno => (hg.block b (by have := hsz.out; omega) (fun e => hno d[k] (List.getElem_mem hkd) (by rw [he3]; exact e.symm))).trans (hko.out b hb2 hno)⟩
        obtain ⟨A', c', e, ho⟩ := hall.out j hj (by omega)
        exact ⟨A', c', e, ho.off hg fun b hbb q => Hp.out k j hkd hj (by omega) b (by rw [he3]; exact q) (by rw [e]; exact hbb)⟩
      have O3 := Lib.hid ho3
      clear he3 hn ho3 hsep
      go_wp2_with (go_at_call 74; refine (markBoolS_any _ _ _ _ _ _ _ O3.out (by omega) (by omega) (by omega)).mono ?_; rintro e w3 ⟨rfl, hg4⟩)
      obtain ⟨z1, z2, z3, z4, z5⟩ := HN.out w3 hg4
      have Z1 := Lib.hid z1
      have Z2 := Lib.hid z2
      have Z3 := Lib.hid z3
      have Z4 := Lib.hid z4
      have Z5 := Lib.hid z5
      clear z1 z2 z3 z4 z5 hg4
      go_roundw
      case rel => exact ⟨k + 1, q + n, by omega, by go_num, by go_num, by omega, by push_cast; omega, Z1, Z2, Z3, Z4, Z5⟩
      case measure => simp [intOf]; omega
    · obtain rfl : k = m := by omega
      go_wp2
      go_ret
      exact ⟨q, rfl, hq0, hb.out, hko.out⟩
theorem flists_of {P : Nat → List Bool → Prop} : ∀ n, (∀ i, i < n → ∃ r, P i r) → ∃ rs : List (List Bool), rs.length = n ∧ ∀ i, i < n → P i (gtl rs i) := by
  intro n
  induction n with
  | zero => intro _; exact ⟨[], rfl, fun i hi => absurd hi (by omega)⟩
  | succ n ih =>
    intro h
    obtain ⟨rs, hl, hp⟩ := ih (fun i hi => h i (by omega))
    obtain ⟨r, hr⟩ := h n (by omega)
    refine ⟨rs ++ [r], by simp [hl], fun i hi => ?_⟩
    by_cases e : i < n
    · have : gtl (rs ++ [r]) i = gtl rs i := by simp [gtl, List.getD_eq_getElem?_getD, List.getElem?_append_left (by omega : i < rs.length)]
      rw [this]; exact hp i e
    · obtain rfl : i = n := by omega
      have : gtl (rs ++ [r]) i = r := by simp [gtl, List.getD_eq_getElem?_getD, ← hl]
      rw [this]; exact hr
theorem open_fslices {H : Type} {enc : TypeId × Value → H} {W : World} {base : Nat} {held : Bool} {fuel : Nat} {v : Value} {x : DataW H × List MemPlace} (hC : Try.prog.cellsOf 41 = 1) (h1 : Try.prog.cellsOf 4 = 1)
    (h : DataW.trod enc Try.prog W base (fun _ => true) held fuel 31 [v] = some x) :
    ∃ A len cap Ls, v = .slice A len cap ∧ RrxF W W.heap.size A len Ls ∧ len ≤ 9223372036854775807 := by
  rcases open_slice Try.underlying31 h with ⟨hcs, _⟩ | ⟨a, len, cap, m, nf, D, Pl, hcs, hb, hl, hm, hmm, _, hi⟩
  · injection hcs with hcs
    exact ⟨none, 0, 0, [], hcs, ⟨rfl, fun hn => absurd hn (by omega)⟩, by omega⟩
  · injection hcs with hcs
    have hlm : len ≤ m := by rw [hmm]; simpa using hl
    have hmax : len ≤ 9223372036854775807 := by simp only [maxLen] at hm; omega
    have one : ∀ i, i < len → ∃ (A' : Option Addr) (l c : Nat) (L : List Bool), W.cell? (a.add i) = some (.slice A' l c) ∧ RdF W W.heap.size A' l L ∧ l ≤ 9223372036854775807 := fun i hil => by
      obtain ⟨cs', hc, ht⟩ := hi i (by omega)
      rw [hC, Nat.mul_one] at hc
      obtain ⟨_, hcl, hat⟩ := World.cells?_some hc
      match cs', hcl with
      | [c0], _ =>
        have a0 := hat 0 (by omega)
        obtain ⟨A', l, c, L, ez, hz, hlm⟩ := open_flags Try.underlying41 Try.underlying4 h1 ht
        exact ⟨A', l, c, L, by rw [ez] at a0; simpa [Addr.add] using a0, hz, hlm⟩
    by_cases h0 : len = 0
    · subst h0
      exact ⟨some a, 0, cap, [], hcs, ⟨rfl, fun hn => absurd hn (by omega)⟩, hmax⟩
    · obtain ⟨A', l, c, zs, q0, q3, q4⟩ := one 0 (by omega)
      obtain ⟨b, off, spot⟩ := a
      have hspot : spot = none := by simpa [Addr.add] using World.cell?_spot q0
      subst hspot
      obtain ⟨rs, hrl, hrs⟩ := flists_of (P := fun i r => ∃ A' c', W.cell? ⟨b, off + i, none⟩ = some (.slice A' r.length c') ∧ RdxF W W.heap.size A' r.length r) len (fun i hil => by
        obtain ⟨A', l, c, L, q0, q3, q4⟩ := one i hil
        have hll := q3.1
        rw [add_plain13] at q0
        exact ⟨L, A', c, by rw [hll]; exact q0, by rw [hll]; exact ⟨q3, q4⟩⟩)
      exact ⟨_, _, _, rs, hcs, ⟨hrl, fun _ => ⟨b, off, rfl, cell_lt q0, hrs⟩⟩, hmax⟩
end Go.Proofs.Ytgeedgljabdllaa
set_option maxRecDepth 8000
namespace Go.Proofs.Ytgeedgljabdllaa
open Go.ChangeShapes Go.WideShapes Go.ChangeAt Go.RowKit
/-! A region that draws its order, of operations that only read (pl: place, slot, value, and the act that waits for it) and acts, each of which waits for the one before it. -/
def actAt (acts : List (Nat × Option Nat)) (k : Nat) : Nat × Option Nat := acts.getD k (0, none)
def KJ (pl : List (Nat × Nat × Value × Nat)) (acts : List (Nat × Option Nat)) (S : Nat → World → (Nat → Value) → Prop) (D : Nat → Bool) (e : Nat → Value) (w : World) : Prop :=
  (∀ x ∈ pl, D x.1 = true → e x.2.1 = x.2.2.1) ∧ ∃ k, k ≤ acts.length ∧ (∀ j, j < acts.length → D (actAt acts j).1 = decide (j < k)) ∧ (∀ x ∈ pl, x.2.2.2 < k → x.2.2.2 < acts.length → D x.1 = true) ∧ S k w e
theorem actAt_mem {acts : List (Nat × Option Nat)} {k : Nat} (h : k < acts.length) : actAt acts k ∈ acts := by
  unfold actAt
  rw [List.getD_eq_getElem?_getD, List.getElem?_eq_getElem h]
  exact List.getElem_mem h
theorem actAt_of {acts : List (Nat × Option Nat)} {x : Nat × Option Nat} (h : x ∈ acts) : ∃ k, k < acts.length ∧ actAt acts k = x := by
  obtain ⟨k, hk, e⟩ := List.mem_iff_getElem.1 h
  exact ⟨k, hk, by unfold actAt; rw [List.getD_eq_getElem?_getD, List.getElem?_eq_getElem hk]; exact e⟩
theorem actAt_inj {acts : List (Nat × Option Nat)} (h : (acts.map (·.1)).Nodup) {j k : Nat} (hj : j < acts.length) (hk : k < acts.length) (e : (actAt acts j).1 = (actAt acts k).1) : j = k := by
  unfold actAt at e
  rw [List.getD_eq_getElem?_getD, List.getD_eq_getElem?_getD, List.getElem?_eq_getElem hj, List.getElem?_eq_getElem hk] at e
  have h' := List.pairwise_iff_getElem.1 h
  rcases Nat.lt_trichotomy j k with q | q | q
  · exact absurd (by rw [List.getElem_map, List.getElem_map]; simpa using e) (h' j k (by simpa using hj) (by simpa using hk) q)
  · exact q
  · exact absurd (by rw [List.getElem_map, List.getElem_map]; simpa using e.symm) (h' k j (by simpa using hk) (by simpa using hj) q)
theorem pl_inj {l : List (Nat × Nat × Value × Nat)} (hn : (l.map (·.1)).Nodup) : ∀ y ∈ l, ∀ x ∈ l, y.1 = x.1 → y = x := by
  induction l with
  | nil => intro y hy; simp at hy
  | cons z t ih =>
    intro y hy x hx e
    rw [List.map_cons, List.nodup_cons] at hn
    rcases List.mem_cons.1 hy with rfl | hy' <;> rcases List.mem_cons.1 hx with rfl | hx'
    · rfl
    · exact (hn.1 (List.mem_map.2 ⟨x, hx', e.symm⟩)).elim
    · exact (hn.1 (List.mem_map.2 ⟨y, hy', e⟩)).elim
    · exact ih hn.2 y hy' x hx' e
theorem pl_injS {l : List (Nat × Nat × Value × Nat)} (hn : (l.map (·.2.1)).Nodup) : ∀ y ∈ l, ∀ x ∈ l, y.2.1 = x.2.1 → y = x := by
  induction l with
  | nil => intro y hy; simp at hy
  | cons z t ih =>
    intro y hy x hx e
    rw [List.map_cons, List.nodup_cons] at hn
    rcases List.mem_cons.1 hy with rfl | hy' <;> rcases List.mem_cons.1 hx with rfl | hx'
    · rfl
    · exact (hn.1 (List.mem_map.2 ⟨x, hx', e.symm⟩)).elim
    · exact (hn.1 (List.mem_map.2 ⟨y, hy', e⟩)).elim
    · exact ih hn.2 y hy' x hx' e
theorem wp_region_K {P : Program} {ops : Array Oper} {Q : Exit → Act → World → Prop} {id : Nat} {a0 : Act} {W : World} (ds : List Nat) (pl : List (Nat × Nat × Value × Nat)) (acts : List (Nat × Option Nat)) (S : Nat → World → (Nat → Value) → Prop)
    (hm : P.follows .mixedOrders = true) (hc : chkOpsJ ops = true) (hc2 : chkDst ops ds = true) (hlt : ∀ t ∈ ds, t < a0.tmps.size)
    (hn1 : (acts.map (·.1)).Nodup) (hn2 : (pl.map (·.1)).Nodup) (hn3 : ∀ x ∈ pl, ∀ y ∈ acts, x.1 ≠ y.1) (hn4 : (pl.map (·.2.1)).Nodup) (hn5 : ∀ x ∈ pl, ∀ y ∈ acts, y.2 ≠ some x.2.1)
    (hall : ∀ i, i < ops.size → (∃ y ∈ acts, y.1 = i) ∨ ∃ x ∈ pl, x.1 = i) (hrng : ∀ y ∈ acts, y.1 < ops.size)
    (hS : ∀ k w e e', (∀ y ∈ acts, ∀ s, y.2 = some s → e s = e' s) → S k w e → S k w e') (h0 : ∀ e, S 0 W.drew e)
    (hpure : ∀ x ∈ pl, ∀ o, ops[x.1]? = some o → ∀ (a : Act) (w : World), (∀ t, t ∉ ds → a.eval (.tmp t) = a0.eval (.tmp t)) → (∀ y ∈ pl, ∀ e ∈ o.after, Region.binds .any e = true → e.on = y.1 → a.eval (.tmp y.2.1) = y.2.2.1) → (∃ k, k ≤ x.2.2.2 ∧ S k w fun t => a.eval (.tmp t)) → o.dst = some x.2.1 ∧ (execOp a.eval o).run P w = .ok (.value x.2.2.1) w)
    (hwait : ∀ x ∈ pl, x.2.2.2 < acts.length → ∀ o, ops[(actAt acts x.2.2.2).1]? = some o → ∃ e ∈ o.after, Region.binds .any e = true ∧ e.on = x.1)
    (hchain : ∀ k, k + 1 < acts.length → ∀ o, ops[(actAt acts (k + 1)).1]? = some o → ∃ e ∈ o.after, Region.binds .any e = true ∧ e.on = (actAt acts k).1)
    (hact : ∀ k, k < acts.length → ∀ o, ops[(actAt acts k).1]? = some o → ∀ (a : Act) (w : World), (∀ t, t ∉ ds → a.eval (.tmp t) = a0.eval (.tmp t)) → (∀ y ∈ pl, ∀ e ∈ o.after, Region.binds .any e = true → e.on = y.1 → a.eval (.tmp y.2.1) = y.2.2.1) → S k w (fun t => a.eval (.tmp t)) →
      o.dst = (actAt acts k).2 ∧ match (actAt acts k).2 with
        | some s => (∃ v w', (execOp a.eval o).run P w = .ok (.value v) w' ∧ S (k + 1) w' fun t => if t = s then v else a.eval (.tmp t)) ∨ ∃ f args, (execOp a.eval o).run P w = .ok (.enter f args) w ∧ Calls P f args w fun e w' => ∃ v, e = .returned v ∧ S (k + 1) w' fun t => if t = s then v else a.eval (.tmp t)
        | none => ∃ w', (execOp a.eval o).run P w = .ok .skip w' ∧ S (k + 1) w' fun t => a.eval (.tmp t))
    (hfin : ∀ (a : Act) (w : World), a.defers = a0.defers → a.tmps = ds.foldl (fun tm t => tm.setIfInBounds t (a.tmps.getD t undef)) a0.tmps → S acts.length w (fun t => a.eval (.tmp t)) → Q .normal a w) :
    (Code.region id ops true).wp P Q a0 W := by
  refine wp_region_E ds (KJ pl acts S) hm hc hc2 hlt ⟨fun x _ h => (by cases h), 0, Nat.zero_le _, fun j _ => by simp, fun x _ h => by omega, h0 _⟩ ?step ?fin
  case fin =>
    intro D a w hD hdf htm hJ
    obtain ⟨_, k, hk, hacts, _, hs⟩ := hJ
    have : k = acts.length := by
      by_cases e : k < acts.length
      · have h1 := hacts k e
        rw [hD _ (hrng _ (actAt_mem e))] at h1
        simp at h1
      · omega
    subst this
    exact hfin a w hdf htm hs
  case step =>
    intro i o D a w K hi ho hDi hdep hoff hJ hK hKn
    obtain ⟨hpl, k, hk, hacts, hcons, hs⟩ := hJ
    have hprev : ∀ y ∈ pl, ∀ e ∈ o.after, Region.binds .any e = true → e.on = y.1 → a.eval (.tmp y.2.1) = y.2.2.1 := fun y hy e he hb hon => hpl y hy (by rw [← hon]; exact hdep e he hb)
    rcases hall i hi with ⟨y, hy, rfl⟩ | ⟨x, hx, rfl⟩
    · obtain ⟨j, hj, ej⟩ := actAt_of hy
      rw [← ej] at hi ho hDi hK hKn
      have hjk : k = j := by
        have h1 := hacts j hj
        rw [hDi] at h1
        have h2 : ¬ j < k := by simpa using h1.symm
        by_cases e : k = j
        · exact e
        · obtain ⟨j', rfl⟩ : ∃ j', j = j' + 1 := ⟨j - 1, by omega⟩
          obtain ⟨e', he', hb', hon'⟩ := hchain j' hj o ho
          have h3 := hdep e' he' hb'
          rw [hon', hacts j' (by omega)] at h3
          have : j' < k := by simpa using h3
          omega
      subst hjk
      have hcons' : ∀ x ∈ pl, x.2.2.2 < k + 1 → x.2.2.2 < acts.length → D x.1 = true := fun x hx h1 h2 => by
        by_cases e : x.2.2.2 < k
        · exact hcons x hx e h2
        · have e' : x.2.2.2 = k := by omega
          obtain ⟨e1, he1, hb1, hon1⟩ := hwait x hx h2 o (by rw [e']; exact ho)
          rw [← hon1]
          exact hdep e1 he1 hb1
      have hacts' : ∀ j, j < acts.length → (decide ((actAt acts j).1 = (actAt acts k).1) || D (actAt acts j).1) = decide (j < k + 1) := fun j hj' => by
        rw [hacts j hj']
        by_cases e : j = k
        · subst e; simp
        · have : (actAt acts j).1 ≠ (actAt acts k).1 := fun q => e (actAt_inj hn1 hj' hj q)
          simp only [this, decide_false, Bool.false_or, decide_eq_decide]
          omega
      have hne : ∀ x ∈ pl, x.1 ≠ (actAt acts k).1 := fun x hx => hn3 x hx _ (actAt_mem hj)
      obtain ⟨hd, hrest⟩ := hact k hj o ho a w hoff hprev hs
      cases e2 : (actAt acts k).2 with
      | some s =>
        rw [e2] at hd hrest
        have hnew : ∀ v w', S (k + 1) w' (fun t => if t = s then v else a.eval (.tmp t)) → KJ pl acts S (fun j => decide (j = (actAt acts k).1) || D j) (fun t => if t = s then v else a.eval (.tmp t)) w' := fun v w' h => by
          refine ⟨fun x hx hDx => ?_, k + 1, hj, hacts', fun x hx h1 h2 => by simp [hcons' x hx h1 h2], h⟩
          have : x.2.1 ≠ s := fun q => hn5 x hx _ (actAt_mem hj) (by rw [e2, q])
          dsimp only
          rw [if_neg this]
          refine hpl x hx ?_
          simpa [hne x hx] using hDx
        rcases hrest with ⟨v, w', hrun, h⟩ | ⟨f, args, hrun, hcl⟩
        · exact oper_valJ hrun (hK s v w' hd (hnew v w' h))
        · refine oper_callJ hrun hcl ?_
          rintro e w' ⟨v, rfl, h⟩
          exact ⟨v, rfl, hK s v w' hd (hnew v w' h)⟩
      | none =>
        rw [e2] at hd hrest
        obtain ⟨w', hrun, h⟩ := hrest
        refine oper_skipJ hrun hd ?_
        have hk := hKn w' hd ⟨fun x hx hDx => ?_, k + 1, hj, hacts', fun x hx h1 h2 => by simp [hcons' x hx h1 h2], h⟩
        · rw [show a.put o.dst undef = a by rw [hd]; rfl] at hk
          exact hk
        · refine hpl x hx ?_
          simpa [hne x hx] using hDx
    · have hkx : k ≤ x.2.2.2 ∨ ¬ x.2.2.2 < acts.length := by
        by_cases h1 : x.2.2.2 < acts.length
        · by_cases h2 : x.2.2.2 < k
          · have := hcons x hx h2 h1
            rw [hDi] at this
            cases this
          · exact .inl (by omega)
        · exact .inr h1
      obtain ⟨hd, hrun⟩ := hpure x hx o ho a w hoff hprev ⟨k, by omega, hs⟩
      refine oper_valJ hrun (hK x.2.1 x.2.2.1 w hd ⟨fun y hy hDy => ?_, k, hk, fun j hj => ?_, fun y hy h1 h2 => ?_, ?_⟩)
      · dsimp only
        by_cases e : y.2.1 = x.2.1
        · rw [if_pos e, pl_injS hn4 y hy x hx e]
        · rw [if_neg e]
          refine hpl y hy ?_
          have : y.1 ≠ x.1 := fun q => e (by rw [pl_inj hn2 y hy x hx q])
          simpa [this] using hDy
      · have : (actAt acts j).1 ≠ x.1 := fun q => hn3 x hx _ (actAt_mem hj) q.symm
        simp only [this, decide_false, Bool.false_or]
        exact hacts j hj
      · simp [hcons y hy h1 h2]
      · refine hS k w _ _ (fun y hy s hs' => ?_) hs
        have : s ≠ x.2.1 := fun q => hn5 x hx y hy (by rw [hs', q])
        rw [if_neg this]
end Go.Proofs.Ytgeedgljabdllaa
set_option maxRecDepth 8000
namespace Go.Proofs.Ytgeedgljabdllaa
open Go.ChangeShapes Go.WideShapes Go.ChangeAt Go.RowKit
/-! a picture puzzle in a block; 'p.f = append(p.f, F(..))' in a region that draws its order. -/
theorem pic_info (v1 v2 : Value) : (Try.prog.info? 25).map (·.size) = some (#[v1, v2] : Array Value).size := by
  show _ = some 2
  kernel_rfl
theorem pic_one (a b : Option Addr) (n c n' c' : Nat) : (#[Value.slice a n c, .slice b n' c'] : Array Value).all (·.oneCell') = true := by simp [Value.oneCell']
def PcR (w : World) (g : Nat) (v1 v2 : Value) : Prop := w.heap[g]? = some (.cells #[v1, v2] 25)
section
variable {w w' : World} {g : Nat} {v1 v2 : Value}
theorem PcR.lt (h : PcR w g v1 v2) : g < w.heap.size := (Array.getElem?_eq_some_iff.1 h).1
theorem PcR.c0 (h : PcR w g v1 v2) : w.cell? ⟨g, 0, none⟩ = some v1 := cell_of_row _ _ 0 _ _ (0, 0) h
theorem PcR.c1 (h : PcR w g v1 v2) : w.cell? ⟨g, 1, none⟩ = some v2 := cell_of_row _ _ 1 _ _ (0, 0) h
theorem PcR.fz (h : PcR w g v1 v2) (k : Nat) : w.frozen? ⟨g, k, none⟩ = false := frozen_of_row w g k _ _ h
theorem PcR.below {B : Nat} (h : PcR w g v1 v2) (hg : g < B) (hb : Below B w w') : PcR w' g v1 v2 := (hb.block g hg).trans h
theorem PcR.off {row : Option Nat} (h : PcR w g v1 v2) (hg : w.grownBy w' row) (hne : row ≠ some g) : PcR w' g v1 v2 := (hg.block g h.lt (fun e => hne e.symm)).trans h
theorem PcR.new (w : World) (v1 v2 : Value) : PcR (w.alloc (.cells #[v1, v2] 25)) w.heap.size v1 v2 := heap_alloc_new w _
end
/-- the field f put. -/
def fld (f : Nat) (v1 v2 v : Value) : Value × Value := if f = 0 then (v, v2) else (v1, v)
theorem PcR.set {w : World} {g f : Nat} {v1 v2 : Value} (h : PcR w g v1 v2) (hf : f < 2) (v : Value) : PcR (w.setCell ⟨g, f, none⟩ v) g (fld f v1 v2 v).1 (fld f v1 v2 v).2 := by
  unfold PcR
  rw [heap_setCell_same w g f _ _ v h]
  have : f = 0 ∨ f = 1 := by omega
  rcases this with rfl | rfl <;> rfl
theorem PcR.at_ {w : World} {g f : Nat} {v1 v2 : Value} (h : PcR w g v1 v2) (hf : f < 2) : ∃ v, w.cell? ⟨g, f, none⟩ = some v := by
  have : f = 0 ∨ f = 1 := by omega
  rcases this with rfl | rfl
  · exact ⟨_, h.c0⟩
  · exact ⟨_, h.c1⟩
/-- what is there behind the region. -/
def FdR (w0 wr : World) (lo0 LO PB f k : Nat) (v1 v2 : Value) (d : List GV) (L : List Int) (w : World) : Prop :=
  ∃ g5 cap5 x, PcR w PB (fld f v1 v2 (.slice (some ⟨g5, 0, none⟩) (k + 1) cap5)).1 (fld f v1 v2 (.slice (some ⟨g5, 0, none⟩) (k + 1) cap5)).2 ∧ Gs w LO (.slice (some ⟨g5, 0, none⟩) (k + 1) cap5) (d ++ [(x, L)]) ∧ Below lo0 w0 w ∧ wr.heap.size ≤ w.heap.size ∧ ∀ j, j < LO → j ≠ PB → w.heap[j]? = wr.heap[j]?
theorem wp_region_fld1 {ops : Array Oper} {Q : Exit → Act → World → Prop} {id : Nat} {a0 : Act} {W : World} (ds : List Nat) (pl : List (Nat × Nat × Value × Nat)) (iC iB iA iS sL sC sB sA : Nat)
    (hc : chkOpsJ ops = true) (hc2 : chkDst ops ds = true) (hlt : ∀ t ∈ ds, t < a0.tmps.size)
    (hn1 : ((([(iC, some sC), (iB, some sB), (iA, some sA), (iS, none)] : List (Nat × Option Nat))).map (·.1)).Nodup) (hn2 : (pl.map (·.1)).Nodup) (hn3 : ∀ x ∈ pl, ∀ y ∈ ([(iC, some sC), (iB, some sB), (iA, some sA), (iS, none)] : List (Nat × Option Nat)), x.1 ≠ y.1) (hn4 : (pl.map (·.2.1)).Nodup) (hn5 : ∀ x ∈ pl, ∀ y ∈ ([(iC, some sC), (iB, some sB), (iA, some sA), (iS, none)] : List (Nat × Option Nat)), y.2 ≠ some x.2.1) (hn6 : [sC, sB, sA].Nodup)
    (hall : ∀ i, i < ops.size → (∃ y ∈ ([(iC, some sC), (iB, some sB), (iA, some sA), (iS, none)] : List (Nat × Option Nat)), y.1 = i) ∨ ∃ x ∈ pl, x.1 = i) (hrng : ∀ y ∈ ([(iC, some sC), (iB, some sB), (iA, some sA), (iS, none)] : List (Nat × Option Nat)), y.1 < ops.size)
    (w0 wr : World) (lo0 LO PB f k cv m : Nat) (v1 v2 : Value) (Av : Option Addr) (d : List GV) (L : List Int) (fC : FuncId) (args : Array Value)
    (hWr : Below wr.heap.size wr W) (hb : Below lo0 w0 wr) (hlP : lo0 ≤ PB) (hPL : PB < LO) (hLO : LO ≤ wr.heap.size) (hf : f < 2) (hPc : PcR wr PB v1 v2) (hG : Gs wr LO (.slice Av k cv) d) (hd : d.length = k) (hm : L.length = m) (hk : k ≤ 1099511627776)
    (hpure : ∀ x ∈ pl, ∀ o, ops[x.1]? = some o → ∀ (a : Act) (w : World), (∀ t, t ∉ ds → a.eval (.tmp t) = a0.eval (.tmp t)) → (∀ y ∈ pl, ∀ e ∈ o.after, Region.binds .any e = true → e.on = y.1 → a.eval (.tmp y.2.1) = y.2.2.1) → (x.2.2.2 ≤ 2 → Below wr.heap.size wr w) → o.dst = some x.2.1 ∧ (execOp a.eval o).run Try.prog w = .ok (.value x.2.2.1) w)
    (hcall : ∀ o, ops[iC]? = some o → ∀ (a : Act) (w : World), (∀ t, t ∉ ds → a.eval (.tmp t) = a0.eval (.tmp t)) → (∀ y ∈ pl, ∀ e ∈ o.after, Region.binds .any e = true → e.on = y.1 → a.eval (.tmp y.2.1) = y.2.2.1) → o.dst = some sC ∧ (execOp a.eval o).run Try.prog w = .ok (.enter fC args) w)
    (hC : ∀ w, Below wr.heap.size wr w → Calls Try.prog fC args w fun e w' => ∃ A c, e = .returned (.slice A m c) ∧ Ow w' w.heap.size A m c L ∧ Below w.heap.size w w')
    (hbs : ∀ o, ops[iB]? = some o → ∀ (a : Act) (w : World) A c, a.eval (.tmp sC) = .slice A m c → o.dst = some sB ∧ (execOp a.eval o).run Try.prog w = .ok (.value (.slice (some ⟨w.heap.size, 0, none⟩) 1 1)) (w.alloc (.cells #[.slice A m c] 28)))
    (hap : ∀ o, ops[iA]? = some o → o.dst = some sA ∧ o.op = .call { callee := .builtin .append, args := #[.tmp sL, .tmp sB], argTypes := #[23, 23] } ∧ (∃ y ∈ pl, y.2.1 = sL ∧ y.2.2.1 = .slice Av k cv ∧ ∃ e ∈ o.after, Region.binds .any e = true ∧ e.on = y.1))
    (hst : ∀ o, ops[iS]? = some o → ∀ (a : Act) (w : World), (∀ y ∈ pl, ∀ e ∈ o.after, Region.binds .any e = true → e.on = y.1 → a.eval (.tmp y.2.1) = y.2.2.1) → (w.cell? ⟨PB, f, none⟩).isSome = true → w.frozen? ⟨PB, f, none⟩ = false → o.dst = none ∧ ∀ A n c, a.eval (.tmp sA) = .slice A n c → (execOp a.eval o).run Try.prog w = .ok .skip (w.setCell ⟨PB, f, none⟩ (.slice A n c)))
    (hwait : ∀ x ∈ pl, x.2.2.2 < 4 → ∀ o, ops[(actAt [(iC, some sC), (iB, some sB), (iA, some sA), (iS, none)] x.2.2.2).1]? = some o → ∃ e ∈ o.after, Region.binds .any e = true ∧ e.on = x.1)
    (hchain : ∀ k, k + 1 < 4 → ∀ o, ops[(actAt [(iC, some sC), (iB, some sB), (iA, some sA), (iS, none)] (k + 1)).1]? = some o → ∃ e ∈ o.after, Region.binds .any e = true ∧ e.on = (actAt [(iC, some sC), (iB, some sB), (iA, some sA), (iS, none)] k).1)
    (hfin : ∀ (a : Act) (w : World), a.defers = a0.defers → a.tmps = ds.foldl (fun tm t => tm.setIfInBounds t (a.tmps.getD t undef)) a0.tmps → FdR w0 wr lo0 LO PB f k v1 v2 d L w → Q .normal a w) :
    (Code.region id ops true).wp Try.prog Q a0 W := by
  have hsz := hb.size
  simp only [List.nodup_cons, List.mem_cons, List.not_mem_nil, or_false, not_or, List.nodup_nil, and_true, not_false_iff] at hn6
  obtain ⟨⟨q4, q5⟩, q6⟩ := hn6
  refine wp_region_K ds pl [(iC, some sC), (iB, some sB), (iA, some sA), (iS, none)] (fun n w e => match n with
      | 0 => Below wr.heap.size wr w
      | 1 => Below wr.heap.size wr w ∧ ∃ A c, e sC = .slice A m c ∧ Ow w wr.heap.size A m c L
      | 2 => ∃ w3 A c, e sB = .slice (some ⟨w3.heap.size, 0, none⟩) 1 1 ∧ w = w3.alloc (.cells #[.slice A m c] 28) ∧ Below wr.heap.size wr w3 ∧ Ow w3 wr.heap.size A m c L
      | 3 => ∃ g5 cap5 y, e sA = .slice (some ⟨g5, 0, none⟩) (k + 1) cap5 ∧ PcR w PB v1 v2 ∧ Gs w LO (.slice (some ⟨g5, 0, none⟩) (k + 1) cap5) (d ++ [(y, L)]) ∧ Below lo0 w0 w ∧ Below LO wr w
      | _ => FdR w0 wr lo0 LO PB f k v1 v2 d L w
      ) (by rfl) hc hc2 hlt hn1 hn2 hn3 hn4 hn5 hall hrng ?hS (fun _ => hWr.drew) ?hpure hwait hchain ?hact hfin
  case hS =>
    intro n w e e' he h
    match n, h with
    | 0, h => exact h
    | 1, h => exact ⟨h.1, by obtain ⟨A, c, h1, h2⟩ := h.2; exact ⟨A, c, by rw [← he (iC, some sC) (by simp) sC rfl]; exact h1, h2⟩⟩
    | 2, h => obtain ⟨w3, A, c, h1, h2⟩ := h; exact ⟨w3, A, c, by rw [← he (iB, some sB) (by simp) sB rfl]; exact h1, h2⟩
    | 3, h => obtain ⟨g5, cap5, y, h1, h2⟩ := h; exact ⟨g5, cap5, y, by rw [← he (iA, some sA) (by simp) sA rfl]; exact h1, h2⟩
    | n + 4, h => exact h
  case hpure =>
    intro x hx o ho a w hoff hpr ⟨n, hn, h⟩
    refine hpure x hx o ho a w hoff hpr (fun hle => ?_)
    match n, hn, h with
    | 0, _, h => exact h
    | 1, _, h => exact h.1
    | 2, _, h => obtain ⟨w3, A, c, _, rfl, h1, _⟩ := h; exact h1.alloc h1.size _
    | n + 3, hn, _ => omega
  case hact =>
    intro n hn o ho a w hoff hpr h
    match n, hn, ho, h with
    | 0, _, ho, h =>
      obtain ⟨h1, h2⟩ := hcall o ho a w hoff hpr
      refine ⟨h1, .inr ⟨fC, args, h2, (hC w h).mono ?_⟩⟩
      rintro e w' ⟨A, c, rfl, h3, h4⟩
      exact ⟨_, rfl, step h h4, A, c, if_pos rfl, h3.mono (Below.size h)⟩
    | 1, _, ho, ⟨h0, A, c, e, h3⟩ =>
      obtain ⟨h1, h2⟩ := hbs o ho a w A c e
      exact ⟨h1, .inl ⟨_, _, h2, w, A, c, if_pos rfl, rfl, h0, h3⟩⟩
    | 2, _, ho, ⟨w3, A, c, e2, hw, h3, h4⟩ =>
      subst hw
      obtain ⟨h1, h2, y, hy, ey, hL, e0, he0, hbn, hon⟩ := hap o ho
      have hL' := hpr y hy e0 he0 hbn hon
      rw [ey, hL] at hL'
      obtain ⟨i0, hi, hz0, hz1, hz2⟩ := info_parts sl_info
      obtain ⟨g5, cap5, w5, hrun, ho5, hg5, hl5, -⟩ := run_append_lies (P := Try.prog) (w3.alloc (.cells #[.slice A m c] 28)) 23 o.type LO 28 i0 (.slice none 0 0) 1 24 Try.underlying23 hi hz0 hz1 hz2 rfl (by decide) (.slice Av k cv) k (d.map Prod.fst) (World.ownsRow.alloc (hG.row hd h3) _) ⟨w3.heap.size, 0, none⟩ 1 1 [.slice A m c] rfl (World.news_of_block (cs := #[.slice A m c]) (heap_alloc_new w3 _)) (by simp [Value.oneCell']) (by omega) (by simp only [maxLen]; omega) (by omega) (Nat.le_trans hLO (Nat.le_trans h3.size (by simp))) _ rfl
      obtain ⟨p1, p2, p3, p4, p5⟩ := Gs.fresh hG hd hm hLO h3 h4 ho5 hg5 hl5 (Below.refl LO wr)
      refine ⟨h1, .inl ⟨_, w5, ?_, g5, cap5, _, if_pos rfl, ?_, p1, ?_, p2⟩⟩
      · simp only [execOp, h2, resolve, invoke, builtin, Sem.run_bind, Sem.run_pure, Result.andThen_ok, List.map_toArray, List.map_cons, List.map_nil]
        rw [show a.eval (.tmp sL) = .slice Av k cv from hL', show a.eval (.tmp sB) = _ from e2, hrun]
        rfl
      · exact hPc.below hPL p2
      · have hlW : lo0 ≤ wr.heap.size := by omega
        have hb3 : Below lo0 w0 w3 := hb.trans (h3.mono hlW)
        have hs3 := h3.size
        refine (hb3.alloc (Nat.le_trans hlW hs3) _).grown hg5 (by rw [World.size_alloc]; omega) (fun g hg => ?_)
        have := hG.vlo g hg
        omega
    | 3, _, ho, ⟨g5, cap5, y, e, hP, hG5, hb5, hb6⟩ =>
      obtain ⟨v, hv⟩ := hP.at_ hf
      obtain ⟨h1, h2⟩ := hst o ho a w hpr (by rw [hv]; rfl) (hP.fz f)
      refine ⟨h1, _, h2 _ _ _ e, g5, cap5, y, hP.set hf _, ?_, hb5.setCell (p := ⟨PB, f, none⟩) hlP _, by simpa [World.setCell] using Nat.le_trans hb6.size (Nat.le_refl _), fun j hj hne => (heap_setCell_other w ⟨PB, f, none⟩ j _ (fun e => hne (by rw [e]))).trans (hb6.block j hj)⟩
      exact hG5.off (row := some PB) grown_set13 (fun g hg => by have := Option.some.inj hg; omega)
    | n + 4, hn, _, _ => exact absurd hn (by simp)
theorem wp_region_fld2 {ops : Array Oper} {Q : Exit → Act → World → Prop} {id : Nat} {a0 : Act} {W : World} (ds : List Nat) (pl : List (Nat × Nat × Value × Nat)) (iD iC iB iA iS sL sD sC sB sA : Nat)
    (hc : chkOpsJ ops = true) (hc2 : chkDst ops ds = true) (hlt : ∀ t ∈ ds, t < a0.tmps.size)
    (hn1 : ((([(iD, some sD), (iC, some sC), (iB, some sB), (iA, some sA), (iS, none)] : List (Nat × Option Nat))).map (·.1)).Nodup) (hn2 : (pl.map (·.1)).Nodup) (hn3 : ∀ x ∈ pl, ∀ y ∈ ([(iD, some sD), (iC, some sC), (iB, some sB), (iA, some sA), (iS, none)] : List (Nat × Option Nat)), x.1 ≠ y.1) (hn4 : (pl.map (·.2.1)).Nodup) (hn5 : ∀ x ∈ pl, ∀ y ∈ ([(iD, some sD), (iC, some sC), (iB, some sB), (iA, some sA), (iS, none)] : List (Nat × Option Nat)), y.2 ≠ some x.2.1) (hn6 : [sD, sC, sB, sA].Nodup)
    (hall : ∀ i, i < ops.size → (∃ y ∈ ([(iD, some sD), (iC, some sC), (iB, some sB), (iA, some sA), (iS, none)] : List (Nat × Option Nat)), y.1 = i) ∨ ∃ x ∈ pl, x.1 = i) (hrng : ∀ y ∈ ([(iD, some sD), (iC, some sC), (iB, some sB), (iA, some sA), (iS, none)] : List (Nat × Option Nat)), y.1 < ops.size)
    (w0 wr : World) (lo0 LO PB f k cv m : Nat) (v1 v2 : Value) (Av : Option Addr) (d : List GV) (L : List Int) (fC : FuncId) (fD : FuncId) (argD : Array Value) (mD : Nat) (LD : List Bool)
    (hWr : Below wr.heap.size wr W) (hb : Below lo0 w0 wr) (hlP : lo0 ≤ PB) (hPL : PB < LO) (hLO : LO ≤ wr.heap.size) (hf : f < 2) (hPc : PcR wr PB v1 v2) (hG : Gs wr LO (.slice Av k cv) d) (hd : d.length = k) (hm : L.length = m) (hk : k ≤ 1099511627776)
    (hpure : ∀ x ∈ pl, ∀ o, ops[x.1]? = some o → ∀ (a : Act) (w : World), (∀ t, t ∉ ds → a.eval (.tmp t) = a0.eval (.tmp t)) → (∀ y ∈ pl, ∀ e ∈ o.after, Region.binds .any e = true → e.on = y.1 → a.eval (.tmp y.2.1) = y.2.2.1) → (x.2.2.2 ≤ 3 → Below wr.heap.size wr w) → o.dst = some x.2.1 ∧ (execOp a.eval o).run Try.prog w = .ok (.value x.2.2.1) w)
    (hcallD : ∀ o, ops[iD]? = some o → ∀ (a : Act) (w : World), (∀ t, t ∉ ds → a.eval (.tmp t) = a0.eval (.tmp t)) → (∀ y ∈ pl, ∀ e ∈ o.after, Region.binds .any e = true → e.on = y.1 → a.eval (.tmp y.2.1) = y.2.2.1) → o.dst = some sD ∧ (execOp a.eval o).run Try.prog w = .ok (.enter fD argD) w)
    (hD : ∀ w, Below wr.heap.size wr w → Calls Try.prog fD argD w fun e w' => ∃ A c, e = .returned (.slice A mD c) ∧ OwF w' w.heap.size A mD c LD ∧ Below w.heap.size w w')
    (hcall : ∀ o, ops[iC]? = some o → ∀ (a : Act) (w : World) A c, a.eval (.tmp sD) = .slice A mD c → o.dst = some sC ∧ (execOp a.eval o).run Try.prog w = .ok (.enter fC #[.slice A mD c]) w)
    (hC : ∀ w A c, Below wr.heap.size wr w → OwF w wr.heap.size A mD c LD → Calls Try.prog fC #[.slice A mD c] w fun e w' => ∃ A c, e = .returned (.slice A m c) ∧ Ow w' w.heap.size A m c L ∧ Below w.heap.size w w')
    (hbs : ∀ o, ops[iB]? = some o → ∀ (a : Act) (w : World) A c, a.eval (.tmp sC) = .slice A m c → o.dst = some sB ∧ (execOp a.eval o).run Try.prog w = .ok (.value (.slice (some ⟨w.heap.size, 0, none⟩) 1 1)) (w.alloc (.cells #[.slice A m c] 28)))
    (hap : ∀ o, ops[iA]? = some o → o.dst = some sA ∧ o.op = .call { callee := .builtin .append, args := #[.tmp sL, .tmp sB], argTypes := #[23, 23] } ∧ (∃ y ∈ pl, y.2.1 = sL ∧ y.2.2.1 = .slice Av k cv ∧ ∃ e ∈ o.after, Region.binds .any e = true ∧ e.on = y.1))
    (hst : ∀ o, ops[iS]? = some o → ∀ (a : Act) (w : World), (∀ y ∈ pl, ∀ e ∈ o.after, Region.binds .any e = true → e.on = y.1 → a.eval (.tmp y.2.1) = y.2.2.1) → (w.cell? ⟨PB, f, none⟩).isSome = true → w.frozen? ⟨PB, f, none⟩ = false → o.dst = none ∧ ∀ A n c, a.eval (.tmp sA) = .slice A n c → (execOp a.eval o).run Try.prog w = .ok .skip (w.setCell ⟨PB, f, none⟩ (.slice A n c)))
    (hwait : ∀ x ∈ pl, x.2.2.2 < 5 → ∀ o, ops[(actAt [(iD, some sD), (iC, some sC), (iB, some sB), (iA, some sA), (iS, none)] x.2.2.2).1]? = some o → ∃ e ∈ o.after, Region.binds .any e = true ∧ e.on = x.1)
    (hchain : ∀ k, k + 1 < 5 → ∀ o, ops[(actAt [(iD, some sD), (iC, some sC), (iB, some sB), (iA, some sA), (iS, none)] (k + 1)).1]? = some o → ∃ e ∈ o.after, Region.binds .any e = true ∧ e.on = (actAt [(iD, some sD), (iC, some sC), (iB, some sB), (iA, some sA), (iS, none)] k).1)
    (hfin : ∀ (a : Act) (w : World), a.defers = a0.defers → a.tmps = ds.foldl (fun tm t => tm.setIfInBounds t (a.tmps.getD t undef)) a0.tmps → FdR w0 wr lo0 LO PB f k v1 v2 d L w → Q .normal a w) :
    (Code.region id ops true).wp Try.prog Q a0 W := by
  have hsz := hb.size
  simp only [List.nodup_cons, List.mem_cons, List.not_mem_nil, or_false, not_or, List.nodup_nil, and_true, not_false_iff] at hn6
  obtain ⟨⟨q1, q2, q3⟩, ⟨q4, q5⟩, q6⟩ := hn6
  refine wp_region_K ds pl [(iD, some sD), (iC, some sC), (iB, some sB), (iA, some sA), (iS, none)] (fun n w e => match n with
      | 0 => Below wr.heap.size wr w
      | 1 => Below wr.heap.size wr w ∧ ∃ A c, e sD = .slice A mD c ∧ OwF w wr.heap.size A mD c LD
      | 2 => Below wr.heap.size wr w ∧ ∃ A c, e sC = .slice A m c ∧ Ow w wr.heap.size A m c L
      | 3 => ∃ w3 A c, e sB = .slice (some ⟨w3.heap.size, 0, none⟩) 1 1 ∧ w = w3.alloc (.cells #[.slice A m c] 28) ∧ Below wr.heap.size wr w3 ∧ Ow w3 wr.heap.size A m c L
      | 4 => ∃ g5 cap5 y, e sA = .slice (some ⟨g5, 0, none⟩) (k + 1) cap5 ∧ PcR w PB v1 v2 ∧ Gs w LO (.slice (some ⟨g5, 0, none⟩) (k + 1) cap5) (d ++ [(y, L)]) ∧ Below lo0 w0 w ∧ Below LO wr w
      | _ => FdR w0 wr lo0 LO PB f k v1 v2 d L w
      ) (by rfl) hc hc2 hlt hn1 hn2 hn3 hn4 hn5 hall hrng ?hS (fun _ => hWr.drew) ?hpure hwait hchain ?hact hfin
  case hS =>
    intro n w e e' he h
    match n, h with
    | 0, h => exact h
    | 1, h => exact ⟨h.1, by obtain ⟨A, c, h1, h2⟩ := h.2; exact ⟨A, c, by rw [← he (iD, some sD) (by simp) sD rfl]; exact h1, h2⟩⟩
    | 2, h => exact ⟨h.1, by obtain ⟨A, c, h1, h2⟩ := h.2; exact ⟨A, c, by rw [← he (iC, some sC) (by simp) sC rfl]; exact h1, h2⟩⟩
    | 3, h => obtain ⟨w3, A, c, h1, h2⟩ := h; exact ⟨w3, A, c, by rw [← he (iB, some sB) (by simp) sB rfl]; exact h1, h2⟩
    | 4, h => obtain ⟨g5, cap5, y, h1, h2⟩ := h; exact ⟨g5, cap5, y, by rw [← he (iA, some sA) (by simp) sA rfl]; exact h1, h2⟩
    | n + 5, h => exact h
  case hpure =>
    intro x hx o ho a w hoff hpr ⟨n, hn, h⟩
    refine hpure x hx o ho a w hoff hpr (fun hle => ?_)
    match n, hn, h with
    | 0, _, h => exact h
    | 1, _, h => exact h.1
    | 2, _, h => exact h.1
    | 3, _, h => obtain ⟨w3, A, c, _, rfl, h1, _⟩ := h; exact h1.alloc h1.size _
    | n + 4, hn, _ => omega
  case hact =>
    intro n hn o ho a w hoff hpr h
    match n, hn, ho, h with
    | 0, _, ho, h =>
      obtain ⟨h1, h2⟩ := hcallD o ho a w hoff hpr
      refine ⟨h1, .inr ⟨fD, argD, h2, (hD w h).mono ?_⟩⟩
      rintro e w' ⟨A, c, rfl, h3, h4⟩
      exact ⟨_, rfl, step h h4, A, c, if_pos rfl, h3.mono (Below.size h)⟩
    | 1, _, ho, ⟨h0, A, c, e, h3⟩ =>
      obtain ⟨h1, h2⟩ := hcall o ho a w A c e
      refine ⟨h1, .inr ⟨fC, _, h2, (hC w A c h0 h3).mono ?_⟩⟩
      rintro e w' ⟨A, c, rfl, h3, h4⟩
      exact ⟨_, rfl, step h0 h4, A, c, if_pos rfl, h3.mono h0.size⟩
    | 2, _, ho, ⟨h0, A, c, e, h3⟩ =>
      obtain ⟨h1, h2⟩ := hbs o ho a w A c e
      exact ⟨h1, .inl ⟨_, _, h2, w, A, c, if_pos rfl, rfl, h0, h3⟩⟩
    | 3, _, ho, ⟨w3, A, c, e2, hw, h3, h4⟩ =>
      subst hw
      obtain ⟨h1, h2, y, hy, ey, hL, e0, he0, hbn, hon⟩ := hap o ho
      have hL' := hpr y hy e0 he0 hbn hon
      rw [ey, hL] at hL'
      obtain ⟨i0, hi, hz0, hz1, hz2⟩ := info_parts sl_info
      obtain ⟨g5, cap5, w5, hrun, ho5, hg5, hl5, -⟩ := run_append_lies (P := Try.prog) (w3.alloc (.cells #[.slice A m c] 28)) 23 o.type LO 28 i0 (.slice none 0 0) 1 24 Try.underlying23 hi hz0 hz1 hz2 rfl (by decide) (.slice Av k cv) k (d.map Prod.fst) (World.ownsRow.alloc (hG.row hd h3) _) ⟨w3.heap.size, 0, none⟩ 1 1 [.slice A m c] rfl (World.news_of_block (cs := #[.slice A m c]) (heap_alloc_new w3 _)) (by simp [Value.oneCell']) (by omega) (by simp only [maxLen]; omega) (by omega) (Nat.le_trans hLO (Nat.le_trans h3.size (by simp))) _ rfl
      obtain ⟨p1, p2, p3, p4, p5⟩ := Gs.fresh hG hd hm hLO h3 h4 ho5 hg5 hl5 (Below.refl LO wr)
      refine ⟨h1, .inl ⟨_, w5, ?_, g5, cap5, _, if_pos rfl, ?_, p1, ?_, p2⟩⟩
      · simp only [execOp, h2, resolve, invoke, builtin, Sem.run_bind, Sem.run_pure, Result.andThen_ok, List.map_toArray, List.map_cons, List.map_nil]
        rw [show a.eval (.tmp sL) = .slice Av k cv from hL', show a.eval (.tmp sB) = _ from e2, hrun]
        rfl
      · exact hPc.below hPL p2
      · have hlW : lo0 ≤ wr.heap.size := by omega
        have hb3 : Below lo0 w0 w3 := hb.trans (h3.mono hlW)
        have hs3 := h3.size
        refine (hb3.alloc (Nat.le_trans hlW hs3) _).grown hg5 (by rw [World.size_alloc]; omega) (fun g hg => ?_)
        have := hG.vlo g hg
        omega
    | 4, _, ho, ⟨g5, cap5, y, e, hP, hG5, hb5, hb6⟩ =>
      obtain ⟨v, hv⟩ := hP.at_ hf
      obtain ⟨h1, h2⟩ := hst o ho a w hpr (by rw [hv]; rfl) (hP.fz f)
      refine ⟨h1, _, h2 _ _ _ e, g5, cap5, y, hP.set hf _, ?_, hb5.setCell (p := ⟨PB, f, none⟩) hlP _, by simpa [World.setCell] using Nat.le_trans hb6.size (Nat.le_refl _), fun j hj hne => (heap_setCell_other w ⟨PB, f, none⟩ j _ (fun e => hne (by rw [e]))).trans (hb6.block j hj)⟩
      exact hG5.off (row := some PB) grown_set13 (fun g hg => by have := Option.some.inj hg; omega)
    | n + 5, hn, _, _ => exact absurd hn (by simp)
end Go.Proofs.Ytgeedgljabdllaa
set_option maxRecDepth 8000
namespace Go.Proofs.Ytgeedgljabdllaa
open Go.ChangeShapes Go.WideShapes Go.ChangeAt Go.RowKit
/-! the reference's copies of rows, and a column of rows. -/
set_option maxHeartbeats 1000000 in
theorem specOwnRowsBool (A : Option Addr) (n c B : Nat) (Ls : List (List Bool)) (w : World) (h : Fns w B A n Ls) (hB : B ≤ w.heap.size) :
    Calls Try.prog 54 #[.slice A n c] w (RetGsF w Ls) := by
  have Hl := Lib.hid h.len
  have hm := h.m
  have Hms := Lib.hid h.ms
  have hb0 : Below w.heap.size w (w.alloc (.cells #[] 41)) := (Below.refl _ _).alloc (Nat.le_refl _) _
  have G0 : GsF (w.alloc (.cells #[] 41)) w.heap.size (.slice (some ⟨w.heap.size, 0, none⟩) 0 0) [] := GsF.made0 (Nat.le_refl _)
  go_enter Try.func54, Try.ntmps54
  go_wp2
  go_loopw [3, 4] (fun v i wr => ∃ (k : Nat) (d : List (Value × List Bool)) (Av : Option Addr) (cv : Nat), k ≤ n ∧ i = .int .i64 k ∧ v = .slice Av k cv ∧ d.length = k ∧ Hid (gsCF d = Ls.take k) ∧ GsF wr w.heap.size (.slice Av k cv) d ∧ Below w.heap.size w wr) (fun _ i _ => n - (intOf i).toNat)
  case atStart => exact ⟨0, [], _, _, Nat.zero_le _, rfl, rfl, rfl, Lib.hid rfl, G0, hb0⟩
  case round =>
    obtain ⟨k, d, Av, cv, hk, rfl, rfl, hd, hC, hG, hb⟩ := hrel
    by_cases hlt : k < n
    · have hkI : (k : Int) < (n : Int) := by omega
      obtain ⟨b, off, A', c', rfl, hbB, hck, hr⟩ := (h.below (hb.mono hB)).r.at_ hlt
      have hmq := Hms.out k hlt
      obtain ⟨q, hq⟩ : ∃ q, (gtl Ls k).length = q := ⟨_, rfl⟩
      rw [hq] at hck hr hmq
      have HOr := Lib.hid (fun W (hW : Below wr.heap.size wr W) => GsF.row hG hd hW)
      have O1 := OwF.made0 wr wr.heap.size (Nat.le_refl _)
      have hbO : Below wr.heap.size wr (wr.alloc (.cells #[] 4)) := (Below.refl _ _).alloc (Nat.le_refl _) _
      have HR := Lib.hid (hr.alloc (Nat.le_trans hB hb.size) (.cells #[] 4))
      have hck2 := (hbO.cell (p := ⟨b, off + k, none⟩) (Nat.lt_of_lt_of_le hbB (Nat.le_trans hB hb.size))).trans hck
      have hsz := hb.size
      have hk40 : k ≤ 1099511627776 := by omega
      have Hq := Lib.hid hq
      have HG := Lib.hid hG
      have Hd := Lib.hid hd
      have Hb := Lib.hid hb
      clear hq hG hd hr hb
      go_wp2_with (first
        | (at_builtin; (refine push_copyF rfl (.tmp 13) (.tmp 17) rfl wr.heap.size (some ⟨wr.heap.size, 0, none⟩) A' q c' B (gtl Ls k) rfl rfl O1 HR.out hmq (by simp) ?_); intro A1 c1 w1 ho1 hg1; have hw1 := hbO.grown hg1 hbO.size (fun g hg => O1.own_lo g hg); have hsz1 := hw1.size)
        | (at_builtin; (refine push_slF rfl (.tmp 12) (.tmp 19) rfl w.heap.size (.slice Av k cv) k (d.map Prod.fst) w1.heap.size A1 q c1 rfl rfl (World.ownsRow.alloc (HOr.out _ hw1) _) (heap_alloc_new w1 _) hk40 (by simp <;> omega) ?_); intro g5 cap5 w5 ho5 hg5 hl5))
      obtain ⟨p1, p2, p3, p4, p5⟩ := GsF.fresh HG.out Hd.out Hq.out hsz hw1 ho1 ho5 hg5 hl5 Hb.out
      have P4 := Lib.hid p4
      clear p4
      go_roundw
      case rel => exact ⟨k + 1, _, _, _, by omega, by go_num, rfl, p3, Lib.hid (by rw [P4.out, hC.out, gtl_take (by rw [Hl.out]; exact hlt)]), p1, p2⟩
      case measure => simp [intOf]; omega
    · obtain rfl : k = n := by omega
      have HL := Lib.hid (show gsCF d = Ls by rw [hC.out, List.take_of_length_le (by rw [Hl.out]; exact Nat.le_refl _)])
      go_wp2
      go_ret
      exact retGsF_mk' hd HL.out hG hb

set_option maxHeartbeats 1000000 in
theorem specOwnRowsInt (A : Option Addr) (n c B : Nat) (Ls : List (List Int)) (w : World) (h : Lns w B A n Ls) (hB : B ≤ w.heap.size) :
    Calls Try.prog 97 #[.slice A n c] w (RetGs w Ls) := by
  have Hl := Lib.hid h.len
  have hm := h.m
  have Hms := Lib.hid h.ms
  have hb0 : Below w.heap.size w (w.alloc (.cells #[] 28)) := (Below.refl _ _).alloc (Nat.le_refl _) _
  have G0 : Gs (w.alloc (.cells #[] 28)) w.heap.size (.slice (some ⟨w.heap.size, 0, none⟩) 0 0) [] := Gs.made0 (Nat.le_refl _)
  go_enter Try.func97, Try.ntmps97
  go_wp2
  go_loopw [3, 4] (fun v i wr => ∃ (k : Nat) (d : List (Value × List Int)) (Av : Option Addr) (cv : Nat), k ≤ n ∧ i = .int .i64 k ∧ v = .slice Av k cv ∧ d.length = k ∧ Hid (gsC d = Ls.take k) ∧ Gs wr w.heap.size (.slice Av k cv) d ∧ Below w.heap.size w wr) (fun _ i _ => n - (intOf i).toNat)
  case atStart => exact ⟨0, [], _, _, Nat.zero_le _, rfl, rfl, rfl, Lib.hid rfl, G0, hb0⟩
  case round =>
    obtain ⟨k, d, Av, cv, hk, rfl, rfl, hd, hC, hG, hb⟩ := hrel
    by_cases hlt : k < n
    · have hkI : (k : Int) < (n : Int) := by omega
      obtain ⟨b, off, A', c', rfl, hbB, hck, hr⟩ := (h.below (hb.mono hB)).r.at_ hlt
      have hmq := Hms.out k hlt
      obtain ⟨q, hq⟩ : ∃ q, (gtl Ls k).length = q := ⟨_, rfl⟩
      rw [hq] at hck hr hmq
      have HOr := Lib.hid (fun W (hW : Below wr.heap.size wr W) => Gs.row hG hd hW)
      have O1 := Ow.made0 wr wr.heap.size (Nat.le_refl _)
      have hbO : Below wr.heap.size wr (wr.alloc (.cells #[] 3)) := (Below.refl _ _).alloc (Nat.le_refl _) _
      have HR := Lib.hid (hr.alloc (Nat.le_trans hB hb.size) (.cells #[] 3))
      have hck2 := (hbO.cell (p := ⟨b, off + k, none⟩) (Nat.lt_of_lt_of_le hbB (Nat.le_trans hB hb.size))).trans hck
      have hsz := hb.size
      have hk40 : k ≤ 1099511627776 := by omega
      have Hq := Lib.hid hq
      have HG := Lib.hid hG
      have Hd := Lib.hid hd
      have Hb := Lib.hid hb
      clear hq hG hd hr hb
      go_wp2_with (first
        | (at_builtin; (refine push_copy rfl (.tmp 13) (.tmp 17) rfl wr.heap.size (some ⟨wr.heap.size, 0, none⟩) A' q c' B (gtl Ls k) rfl rfl O1 HR.out hmq (by simp) ?_); intro A1 c1 w1 ho1 hg1; have hw1 := hbO.grown hg1 hbO.size (fun g hg => O1.own_lo g hg); have hsz1 := hw1.size)
        | (at_builtin; (refine push_sl rfl (.tmp 12) (.tmp 19) rfl w.heap.size (.slice Av k cv) k (d.map Prod.fst) w1.heap.size A1 q c1 rfl rfl (World.ownsRow.alloc (HOr.out _ hw1) _) (heap_alloc_new w1 _) hk40 (by simp <;> omega) ?_); intro g5 cap5 w5 ho5 hg5 hl5))
      obtain ⟨p1, p2, p3, p4, p5⟩ := Gs.fresh HG.out Hd.out Hq.out hsz hw1 ho1 ho5 hg5 hl5 Hb.out
      have P4 := Lib.hid p4
      clear p4
      go_roundw
      case rel => exact ⟨k + 1, _, _, _, by omega, by go_num, rfl, p3, Lib.hid (by rw [P4.out, hC.out, gtl_take (by rw [Hl.out]; exact hlt)]), p1, p2⟩
      case measure => simp [intOf]; omega
    · obtain rfl : k = n := by omega
      have HL := Lib.hid (show gsC d = Ls by rw [hC.out, List.take_of_length_le (by rw [Hl.out]; exact Nat.le_refl _)])
      go_wp2
      go_ret
      exact retGs_mk' hd HL.out hG hb

/-- the first k cells of a column. -/
def clmT (Ls : List (List Bool)) (c k : Nat) : List Bool := (List.range k).map fun j => nb (gtl Ls j) c
theorem clmT_succ (Ls : List (List Bool)) (c k : Nat) : clmT Ls c (k + 1) = clmT Ls c k ++ [nb (gtl Ls k) c] := by simp [clmT, List.range_succ]
theorem clmT_all (Ls : List (List Bool)) (c : Nat) : clmT Ls c Ls.length = clm Ls c := by
  refine List.ext_getElem (by simp [clmT, clm]) fun i h1 h2 => ?_
  simp [clmT, clm] at h1 h2
  simp [clmT, clm, gtl, List.getD_eq_getElem?_getD, h2]
theorem clm_length (Ls : List (List Bool)) (c : Nat) : (clm Ls c).length = Ls.length := by simp [clm]
set_option maxHeartbeats 1000000 in
theorem specColumn (A : Option Addr) (n cA B : Nat) (Ls : List (List Bool)) (col : Nat) (w : World) (h : Fns w B A n Ls) (hB : B ≤ w.heap.size) (hc : ∀ k, k < n → col < (gtl Ls k).length) :
    Calls Try.prog 56 #[.slice A n cA, .int .i64 (col : Nat)] w (fun e w' => ∃ A' c', e = .returned (.slice A' n c') ∧ OwF w' w.heap.size A' n c' (clm Ls col) ∧ Below w.heap.size w w') := by
  have Hl := Lib.hid h.len
  have hm := h.m
  have hb0 : Below w.heap.size w (w.alloc (.cells #[] 4)) := (Below.refl _ _).alloc (Nat.le_refl _) _
  have O0 := OwF.made0 w w.heap.size (Nat.le_refl _)
  have Hc := Lib.hid hc
  clear hc
  go_enter Try.func56, Try.ntmps56
  go_wp2
  go_loopw [5, 6] (fun v i wr => ∃ (k : Nat) (Av : Option Addr) (cv : Nat), k ≤ n ∧ i = .int .i64 k ∧ v = .slice Av k cv ∧ OwF wr w.heap.size Av k cv (clmT Ls col k) ∧ Below w.heap.size w wr) (fun _ i _ => n - (intOf i).toNat)
  case atStart => exact ⟨0, _, _, Nat.zero_le _, rfl, rfl, O0, hb0⟩
  case round =>
    obtain ⟨k, Av, cv, hk, rfl, rfl, ho, hb⟩ := hrel
    by_cases hlt : k < n
    · have hkI : (k : Int) < (n : Int) := by omega
      obtain ⟨b, off, A', c', rfl, hbB, hck, hr⟩ := (h.below (hb.mono hB)).r.at_ hlt
      have hcl := Hc.out k hlt
      obtain ⟨b2, off2, rfl, hbB2, hcc⟩ := hr.at_ hcl
      have hclI : (col : Int) < ((gtl Ls k).length : Int) := by omega
      obtain ⟨q, hq⟩ : ∃ q, (gtl Ls k).length = q := ⟨_, rfl⟩
      rw [hq] at hck hcl hclI
      obtain ⟨v, hv⟩ : ∃ v, nb (gtl Ls k) col = v := ⟨_, rfl⟩
      rw [hv] at hcc
      have HS := Lib.hid (clmT_succ Ls col k)
      have Hv := Lib.hid hv
      have hsz := hb.size
      have hk40 : k ≤ 1099511627776 := by omega
      have Hb := Lib.hid hb
      have Ho := Lib.hid ho
      clear hq hr hv hb ho
      go_wp2_with (at_builtin; (refine push_flag rfl (.tmp 14) (.tmp 22) rfl w.heap.size Av k cv (clmT Ls col k) v rfl rfl Ho.out hk40 hsz ?_); intro A5 c5 w5 ho5 hg5)
      have hb5 := push_belowF Hb.out Ho.out (Nat.le_refl _) hsz hg5
      go_roundw
      case rel => exact ⟨k + 1, _, _, by omega, by go_num, rfl, by rw [HS.out, Hv.out]; exact ho5, hb5⟩
      case measure => simp [intOf]; omega
    · obtain rfl : k = n := by omega
      have HL := Lib.hid (show clmT Ls col k = clm Ls col by rw [← clmT_all, Hl.out])
      go_wp2
      go_ret
      exact ⟨Av, cv, rfl, by rw [← HL.out]; exact ho, hb⟩
end Go.Proofs.Ytgeedgljabdllaa
set_option maxRecDepth 8000
namespace Go.Proofs.Ytgeedgljabdllaa
open Go.ChangeShapes Go.WideShapes Go.ChangeAt Go.RowKit
/-! PictureValid, of both. -/
theorem sideValid_any (n : Int) (w : World) : Calls Try.prog 80 #[.int .i64 n] w fun e w' => e = .returned (.bool (inr n 1 5)) ∧ w = w' := by
  by_cases h1 : 1 ≤ n
  · by_cases h8 : n ≤ 5
    · have Hr := Lib.hid (show inr n 1 5 = true by simp [inr, h1, h8])
      go_enter Try.func80, Try.ntmps80
      go_wp2
      go_ret
      exact ⟨by rw [Hr.out]; rfl, rfl⟩
    · have Hr := Lib.hid (show inr n 1 5 = false by simp [inr, h8])
      go_enter Try.func80, Try.ntmps80
      go_wp2
      go_ret
      exact ⟨by rw [Hr.out]; rfl, rfl⟩
  · have Hr := Lib.hid (show inr n 1 5 = false by simp [inr, h1])
    go_enter Try.func80, Try.ntmps80
    go_wp2
    go_ret
    exact ⟨by rw [Hr.out]; rfl, rfl⟩
theorem cluesValid_any (A : Option Addr) (n c B : Nat) (Ls : List (List Int)) (cells : Int) (w : World) (h : Lns w B A n Ls) :
    Calls Try.prog 81 #[.slice A n c, .int .i64 cells] w fun e w' => e = .returned (.bool (clsB Ls cells)) ∧ w = w' := by
  have hl := Lib.hid h.len
  have hm := h.m
  go_enter Try.func81, Try.ntmps81
  go_wp2
  go_loop [9] (fun i => ∃ k : Nat, k ≤ n ∧ i = .int .i64 k ∧ csB Ls cells k) (fun i => n - (intOf i).toNat)
  case atStart => exact ⟨0, Nat.zero_le _, rfl, fun j hj => by omega⟩
  case round =>
    obtain ⟨k, hk, rfl, hall⟩ := hrel
    have Hall := Lib.hid hall
    clear hall
    by_cases hlt : k < n
    · obtain ⟨b, off, A', c', rfl, hbB, hck, hr⟩ := h.r.at_ hlt
      have hkI : (k : Int) < (n : Int) := by omega
      have HC := implClueValid A' _ c' _ (gtl Ls k) cells w hr (h.ms k hlt) (h.b k hlt)
      obtain ⟨q, hq⟩ : ∃ q, (gtl Ls k).length = q := ⟨_, rfl⟩
      rw [hq] at hck HC
      clear hr hq
      cases hv : cvB (gtl Ls k) cells
      · have Hv := Lib.hid (clsB_f (by rw [hl.out]; exact hlt) hv)
        rw [hv] at HC
        have HC := Lib.hid HC
        clear hv
        go_wp2_with (go_at_call 100; refine HC.out.mono ?_; rintro e w' ⟨rfl, rfl⟩)
        go_ret
        exact ⟨by rw [Hv.out]; rfl, rfl⟩
      · rw [hv] at HC
        have HC := Lib.hid HC
        have Hv := Lib.hid hv
        clear hv
        go_wp2_with (go_at_call 100; refine HC.out.mono ?_; rintro e w' ⟨rfl, rfl⟩)
        go_round
        case rel => exact ⟨k + 1, by omega, by go_num, fun j hj => by
          by_cases e : j = k
          · subst e; exact Hv.out
          · exact Hall.out j (by omega)⟩
        case measure => simp [intOf]; omega
    · obtain rfl : k = n := by omega
      have Hv := Lib.hid (clsB_t hl.out Hall.out)
      go_wp2
      go_ret
      exact ⟨by rw [Hv.out]; rfl, rfl⟩
set_option maxHeartbeats 1000000 in
theorem picValid_any (RA : Option Addr) (nr cr : Nat) (rc : List (List Int)) (CA : Option Addr) (nc c2 : Nat) (cc : List (List Int)) (B : Nat) (w : World) (hp : PicR w B RA nr rc CA nc cc) (hB : B ≤ w.heap.size) :
    Calls Try.prog 47 #[.agg #[.slice RA nr cr, .slice CA nc c2]] w fun e w' => e = .returned (.bool (pcB rc cc)) ∧ Below w.heap.size w w' := by
  have hx0 := pcbox_new w RA nr cr CA nc c2 25
  have hb0 : Below w.heap.size w (w.alloc (.cells #[.slice RA nr cr, .slice CA nc c2] 25)) := (Below.refl _ _).alloc (Nat.le_refl _) _
  have hl1 := hp.r.len
  have hl2 := hp.c.len
  have hp' := hp.below (hb0.mono hB)
  have H1 := cluesValid_any RA nr cr B rc (nc : Nat) _ hp'.r
  have H2 := cluesValid_any CA nc c2 B cc (nr : Nat) _ hp'.c
  have HE : pcB rc cc = ((inr (nr : Int) 1 5 && inr (nc : Int) 1 5) && (clsB rc (nc : Int) && clsB cc (nr : Int))) := by simp only [pcB, hl1, hl2]
  have m1 := hp.r.m
  have m2 := hp.c.m
  clear hp hp' hl1 hl2
  cases h1 : inr (nr : Int) 1 5
  · have He := Lib.hid (show pcB rc cc = false by rw [HE, h1]; rfl)
    clear HE
    go_enter Try.func47, Try.ntmps47
    go_wp2_with (go_at_call 80; refine (sideValid_any _ _).mono ?_; rintro e w' ⟨rfl, rfl⟩; rw [h1])
    go_ret
    exact ⟨by rw [He.out]; rfl, hb0⟩
  · cases h2 : inr (nc : Int) 1 5
    · have He := Lib.hid (show pcB rc cc = false by rw [HE, h1, h2]; rfl)
      clear HE
      go_enter Try.func47, Try.ntmps47
      go_wp2_with (go_at_call 80; refine (sideValid_any _ _).mono ?_; rintro e w' ⟨rfl, rfl⟩; first | rw [h1] | rw [h2])
      go_ret
      exact ⟨by rw [He.out]; rfl, hb0⟩
    · cases h3 : clsB rc (nc : Int)
      · have He := Lib.hid (show pcB rc cc = false by rw [HE, h1, h2, h3]; rfl)
        rw [h3] at H1
        have H1 := Lib.hid H1
        clear HE H2
        go_enter Try.func47, Try.ntmps47
        go_wp2_with (first
          | (go_at_call 80; refine (sideValid_any _ _).mono ?_; rintro e w' ⟨rfl, rfl⟩; first | rw [h1] | rw [h2])
          | (go_at_call 81; refine H1.out.mono ?_; rintro e w' ⟨rfl, rfl⟩))
        go_ret
        exact ⟨by rw [He.out]; rfl, hb0⟩
      · have He := Lib.hid (show pcB rc cc = clsB cc (nr : Int) by rw [HE, h1, h2, h3]; rfl)
        rw [h3] at H1
        have H1 := Lib.hid H1
        have H2 := Lib.hid H2
        clear HE
        go_enter Try.func47, Try.ntmps47
        go_wp2_with (first
          | (go_at_call 80; refine (sideValid_any _ _).mono ?_; rintro e w' ⟨rfl, rfl⟩; first | rw [h1] | rw [h2])
          | (go_at_call 81; with_reducible refine H1.out.mono ?_; rintro e w' ⟨rfl, rfl⟩)
          | (go_at_call 81; refine H2.out.mono ?_; rintro e w' ⟨rfl, rfl⟩))
        go_ret
        exact ⟨by rw [He.out]; rfl, hb0⟩
theorem implPictureValid (RA : Option Addr) (nr cr : Nat) (rc : List (List Int)) (CA : Option Addr) (nc c2 : Nat) (cc : List (List Int)) (B : Nat) (w : World) (hp : PicR w B RA nr rc CA nc cc) (hB : B ≤ w.heap.size) :
    Calls Try.prog 15 #[.agg #[.slice RA nr cr, .slice CA nc c2]] w fun e w' => e = .returned (.bool (pcB rc cc)) ∧ Below w.heap.size w w' := by
  have hx0 := pcbox_new w RA nr cr CA nc c2 25
  have hb0 : Below w.heap.size w (w.alloc (.cells #[.slice RA nr cr, .slice CA nc c2] 25)) := (Below.refl _ _).alloc (Nat.le_refl _) _
  obtain ⟨d0, d1⟩ := hx0
  have H := Lib.hid (picValid_any RA nr cr rc CA nc c2 cc B _ (hp.below (hb0.mono hB)) (Nat.le_trans hB hb0.size))
  clear hp
  go_enter Try.func15, Try.ntmps15
  go_wp2_with (go_at_call 47; refine H.out.mono ?_; rintro e w1 ⟨rfl, hb1⟩)
  go_ret
  exact ⟨rfl, step hb0 hb1⟩
set_option maxHeartbeats 2000000 in
theorem specPictureValid (RA : Option Addr) (nr cr : Nat) (rc : List (List Int)) (CA : Option Addr) (nc c2 : Nat) (cc : List (List Int)) (B : Nat) (w : World) (hp : PicR w B RA nr rc CA nc cc) (hB : B ≤ w.heap.size) :
    Calls Try.prog 16 #[.agg #[.slice RA nr cr, .slice CA nc c2]] w fun e w' => e = .returned (.bool (pcB rc cc)) ∧ Below w.heap.size w w' := by
  have hx0 := pcbox_new w RA nr cr CA nc c2 25
  have hb0 : Below w.heap.size w (w.alloc (.cells #[.slice RA nr cr, .slice CA nc c2] 25)) := (Below.refl _ _).alloc (Nat.le_refl _) _
  have hs0 : w.heap.size < (w.alloc (.cells #[.slice RA nr cr, .slice CA nc c2] 25)).heap.size := by simp
  have Hl1 := Lib.hid hp.r.len
  have Hl2 := Lib.hid hp.c.len
  have HE : Hid (pcB rc cc = ((inr (nr : Int) 1 5 && inr (nc : Int) 1 5) && (clsB rc (nc : Int) && clsB cc (nr : Int)))) := Lib.hid (by simp only [pcB, Hl1.out, Hl2.out])
  have m1 := hp.r.m
  have m2 := hp.c.m
  have HP := Lib.hid hp
  obtain ⟨d0, d1⟩ := id hx0
  have Hx0 := Lib.hid hx0
  clear hp hx0
  go_enter Try.func16, Try.ntmps16
  go_wp2
  go_loopw [3] (fun i wr => ∃ k : Nat, k ≤ nr ∧ i = .int .i64 k ∧ Hid (csB rc nc k) ∧ Below (w.alloc (.cells #[.slice RA nr cr, .slice CA nc c2] 25)).heap.size (w.alloc (.cells #[.slice RA nr cr, .slice CA nc c2] 25)) wr) (fun i _ => nr - (intOf i).toNat)
  case atStart => exact ⟨0, Nat.zero_le _, rfl, Lib.hid (fun j hj => absurd hj (by omega)), Below.refl _ _⟩
  case round =>
    clear d0 d1
    obtain ⟨k, hk, rfl, hall, hb⟩ := hrel
    obtain ⟨d0, d1⟩ := Hx0.out.below hs0 hb
    have hB1 := step hb0 hb
    have Hb := Lib.hid hb
    clear hb
    by_cases hlt : k < nr
    · have hkI : (k : Int) < (nr : Int) := by omega
      obtain ⟨b, off, A', c', rfl, hbB, hck, hr⟩ := (HP.out.below (hB1.mono hB)).r.r.at_ hlt
      have HC : ∀ q, Calls Try.prog 48 #[.slice A' (gtl rc k).length c', .int .i64 (nc : Nat)] (wr.drewN q) fun e w' => e = .returned (.bool (cvB (gtl rc k) (nc : Nat))) ∧ w' = wr.drewN q := fun q => (specClueValid A' _ c' _ (gtl rc k) (nc : Nat) (wr.drewN q) hr (HP.out.r.ms k hlt)).mono fun _ _ h => ⟨h.1, h.2.symm⟩
      obtain ⟨q, hq⟩ : ∃ q, (gtl rc k).length = q := ⟨_, rfl⟩
      rw [hq] at hck HC
      clear hr hq
      cases hv : cvB (gtl rc k) (nc : Int)
      · have Hv := Lib.hid (clsB_f (by rw [Hl1.out]; exact hlt) hv)
        rw [hv] at HC
        have HC := Lib.hid HC
        clear hv
        go_wp2
        go_quiet ((go_at_call 48; exact Calls.quiet_of_same (HC.out _)))
        go_wp2
        go_ret
        exact ⟨by rw [HE.out, Hv.out]; simp, below_drewN hB1 _⟩
      · rw [hv] at HC
        have HC := Lib.hid HC
        have Hv := Lib.hid hv
        clear hv
        go_wp2
        go_quiet ((go_at_call 48; exact Calls.quiet_of_same (HC.out _)))
        go_wp2
        go_roundw
        case rel => exact ⟨k + 1, by omega, by go_num, Lib.hid fun j hj => by
          by_cases e : j = k
          · subst e; exact Hv.out
          · exact hall.out j (by omega), below_drewN Hb.out _⟩
        case measure => simp [intOf]; omega
    · have hkI : ¬ (k : Int) < (nr : Int) := by omega
      have Hr := Lib.hid (clsB_t Hl1.out (by have : k = nr := by omega
                                             rw [← this]; exact hall.out))
      go_wp2
      go_loopw [4] (fun i wr => ∃ k : Nat, k ≤ nc ∧ i = .int .i64 k ∧ Hid (csB cc nr k) ∧ Below (w.alloc (.cells #[.slice RA nr cr, .slice CA nc c2] 25)).heap.size (w.alloc (.cells #[.slice RA nr cr, .slice CA nc c2] 25)) wr) (fun i _ => nc - (intOf i).toNat)
      case atStart => exact ⟨0, Nat.zero_le _, rfl, Lib.hid (fun j hj => absurd hj (by omega)), Hb.out⟩
      case round =>
        clear d0 d1 hB1 hall hkI hk Hb
        obtain ⟨k, hk, rfl, hall, hb⟩ := hrel
        obtain ⟨d0, d1⟩ := Hx0.out.below hs0 hb
        have hB1 := step hb0 hb
        have Hb := Lib.hid hb
        clear hb
        by_cases hlt : k < nc
        · have hkI : (k : Int) < (nc : Int) := by omega
          obtain ⟨b, off, A', c', rfl, hbB, hck, hr⟩ := (HP.out.below (hB1.mono hB)).c.r.at_ hlt
          rename World => wr2
          have HC : ∀ q, Calls Try.prog 48 #[.slice A' (gtl cc k).length c', .int .i64 (nr : Nat)] (wr2.drewN q) fun e w' => e = .returned (.bool (cvB (gtl cc k) (nr : Nat))) ∧ w' = wr2.drewN q := fun q => (specClueValid A' _ c' _ (gtl cc k) (nr : Nat) (wr2.drewN q) hr (HP.out.c.ms k hlt)).mono fun _ _ h => ⟨h.1, h.2.symm⟩
          obtain ⟨q, hq⟩ : ∃ q, (gtl cc k).length = q := ⟨_, rfl⟩
          rw [hq] at hck HC
          clear hr hq
          cases hv : cvB (gtl cc k) (nr : Int)
          · have Hv := Lib.hid (clsB_f (by rw [Hl2.out]; exact hlt) hv)
            rw [hv] at HC
            have HC := Lib.hid HC
            clear hv
            go_wp2
            go_quiet ((go_at_call 48; exact Calls.quiet_of_same (HC.out _)))
            go_wp2
            go_ret
            exact ⟨by rw [HE.out, Hv.out]; simp, below_drewN hB1 _⟩
          · rw [hv] at HC
            have HC := Lib.hid HC
            have Hv := Lib.hid hv
            clear hv
            go_wp2
            go_quiet ((go_at_call 48; exact Calls.quiet_of_same (HC.out _)))
            go_wp2
            go_roundw
            case rel => exact ⟨k + 1, by omega, by go_num, Lib.hid fun j hj => by
              by_cases e : j = k
              · subst e; exact Hv.out
              · exact hall.out j (by omega), below_drewN Hb.out _⟩
            case measure => simp [intOf]; omega
        · have hkI : ¬ (k : Int) < (nc : Int) := by omega
          have Hc := Lib.hid (clsB_t Hl2.out (by have : k = nc := by omega
                                                 rw [← this]; exact hall.out))
          cases h1 : inr (nr : Int) 1 5
          · go_wp2_with (go_at_call 49; refine (l1In_any _ _ _ _).mono ?_; rintro e wq ⟨rfl, rfl⟩; rw [h1])
            go_ret
            exact ⟨by rw [HE.out, h1]; rfl, hB1⟩
          · go_wp2_with (go_at_call 49; refine (l1In_any _ _ _ _).mono ?_; rintro e wq ⟨rfl, rfl⟩; first | rw [h1] | skip)
            go_ret
            exact ⟨by rw [HE.out, h1, Hr.out, Hc.out]; simp, hB1⟩
end Go.Proofs.Ytgeedgljabdllaa
