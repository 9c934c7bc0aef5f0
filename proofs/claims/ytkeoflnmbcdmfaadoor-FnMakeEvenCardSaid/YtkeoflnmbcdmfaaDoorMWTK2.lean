import Derived.Test.YtkeoflnmbcdmfaaDoorMPInB
import Derived.Test.YtkeoflnmbcdmfaaDoorMMadeA
import Derived.Test.YtkeoflnmbcdmfaaDoorMTenB
import Derived.Test.YtkeoflnmbcdmfaaDoorMSa
import Derived.Test.YtkeoflnmbcdmfaaDoorPz
import Derived.Deep.RegionWith
import Derived.Test.YtkeoflnmbcdmfaaDoorMR21
import Derived.Test.YtkeoflnmbcdmfaaDoorP5
import Derived.Test.YtkeoflnmbcdmfaaDoorMW1F
import Derived.Deep.RegionHeld3
import Derived.Test.YtkeoflnmbcdmfaaDoorMHo
import Derived.BigQuiet
set_option maxRecDepth 8000
namespace Go.Proofs.YtkeoflnmbcdmfaaDoor
open Go.ChangeShapes Go.WideShapes Go.ChangeAt Go.RowKit
/-! marks written into a puzzle of the call's own, and found again. -/
/-- n rules' cells in a slice of the call's own, the first u filled; the cells of different rules lie in different blocks, all of them with Q. -/
def OwRd (w : World) (lo : Nat) (g n : Nat) (rs : List RuleM) (Q : Nat → Prop) (u : Nat) : Prop :=
  ∃ vs, w.ownsRow lo 63 3 (.slice (some ⟨g, 0, none⟩) n n) n vs ∧ (∀ i, i < u → ∃ A' c', vs[i * 3]? = some (.int .i64 (rat rs i).k) ∧ vs[i * 3 + 1]? = some (.slice A' (rat rs i).xs.length c') ∧ vs[i * 3 + 2]? = some (.int .i64 (rat rs i).v) ∧ Ow w lo A' (rat rs i).xs.length c' (rat rs i).xs ∧ (rat rs i).xs.length ≤ 1099511627776 ∧ ∀ b, (Value.slice A' (rat rs i).xs.length c').ownBlock = some b → (Value.slice (some ⟨g, 0, none⟩) n n).ownBlock ≠ some b ∧ Q b) ∧
    ∀ i j, i < u → j < u → i ≠ j → ∀ A m c A' m' c', vs[i * 3 + 1]? = some (.slice A m c) → vs[j * 3 + 1]? = some (.slice A' m' c') → ∀ b, (Value.slice A m c).ownBlock = some b → (Value.slice A' m' c').ownBlock ≠ some b
theorem OwRd.rp {w : World} {lo g n : Nat} {rs : List RuleM} {Q : Nat → Prop} {u : Nat} (h : OwRd w lo g n rs Q u) : OwRp w lo g n rs u := by
  obtain ⟨vs, a, b, _⟩ := h
  exact ⟨vs, a, fun i hi => by obtain ⟨A', c', e0, e1, e2, e3, e4, e5⟩ := b i hi; exact ⟨A', c', e0, e1, e2, e3, e4, fun x hx => (e5 x hx).1⟩⟩
theorem OwRd.below {w w' : World} {lo g n : Nat} {rs : List RuleM} {Q : Nat → Prop} {k : Nat} (h : OwRd w lo g n rs Q k) (hb : Below w.heap.size w w') : OwRd w' lo g n rs Q k := by
  obtain ⟨vs, hown, hin, hs⟩ := h
  refine ⟨vs, World.ownsRow.kept hown (row := none) ⟨hb.os, hb.tape, hb.output, hb.size, fun k hk _ => hb.block k hk⟩ (by
    cases e : (Value.slice (some ⟨g, 0, none⟩) n n).ownBlock
    · exact .inl rfl
    · exact .inr (by simp)), fun i hi => ?_, hs⟩
  obtain ⟨A', c', e0, e1, e2, e3, e4, e5⟩ := hin i hi
  exact ⟨A', c', e0, e1, e2, e3.below hb, e4, e5⟩
theorem OwRd.zero_ {w : World} {lo g n : Nat} {rs : List RuleM} {Q : Nat → Prop} {vs : List Value} (h : w.ownsRow lo 63 3 (.slice (some ⟨g, 0, none⟩) n n) n vs) : OwRd w lo g n rs Q 0 := ⟨vs, h, fun i hi => absurd hi (by omega), fun i j hi => absurd hi (by omega)⟩
theorem OwRd.put {w w3 : World} {lo g n u c3 : Nat} {rs : List RuleM} {Q : Nat → Prop} {A3 : Option Addr} (h : OwRd w lo g n rs Q u) (hlo : lo ≤ w.heap.size) (hu : u < n) (hb : Below w.heap.size w w3)
    (ho3 : Ow w3 w.heap.size A3 (rat rs u).xs.length c3 (rat rs u).xs) (hm : (rat rs u).xs.length ≤ 1099511627776) (hQ : ∀ b, w.heap.size ≤ b → Q b) :
    OwRd (w3.setCells g (u * 3) [.int .i64 (rat rs u).k, .slice A3 (rat rs u).xs.length c3, .int .i64 (rat rs u).v]) lo g n rs Q (u + 1) := by
  have hgw : g < w.heap.size := by
    obtain ⟨vs, hown, _⟩ := h
    exact (World.ownsRow.lt hown g (by simp [Value.ownBlock])).2
  have hold : ∀ i, i < u → ∀ vs, w.ownsRow lo 63 3 (.slice (some ⟨g, 0, none⟩) n n) n vs → True := fun _ _ _ _ => trivial
  obtain ⟨vs, hown0, hin0, hsp⟩ := h
  have hlt0 : ∀ i, i < u → ∀ A m c, vs[i * 3 + 1]? = some (.slice A m c) → ∀ b, (Value.slice A m c).ownBlock = some b → b < w.heap.size := fun i hi A m c e b hbb => by
    obtain ⟨A', c', _, e1, _, e3, _⟩ := hin0 i hi
    rw [e] at e1
    injection e1 with e1
    rw [e1] at hbb
    exact e3.own_hi b hbb
  obtain ⟨hvl, hcase⟩ := World.ownsRow.kept hown0 (row := none) ⟨hb.os, hb.tape, hb.output, hb.size, fun k hk _ => hb.block k hk⟩ (by
    cases e : (Value.slice (some ⟨g, 0, none⟩) n n).ownBlock
    · exact .inl rfl
    · exact .inr (by simp))
  rcases hcase with ⟨h1, _⟩ | ⟨g', cap, cur, hv, h2, h3, h4, h5, h6, h7⟩
  · cases h1
  · injection hv with e1 _ e2
    injection e1 with e1
    injection e1 with e1 _ _
    subst e1 e2
    have hvl3 : u * 3 + 2 < vs.length := by rw [hvl]; omega
    refine ⟨((vs.set (u * 3) (.int .i64 (rat rs u).k)).set (u * 3 + 1) (.slice A3 (rat rs u).xs.length c3)).set (u * 3 + 2) (.int .i64 (rat rs u).v), ⟨by simp [hvl], .inr ⟨g, n, _, rfl, h2, row_setCells3 _ _ _ h3, h4, h5, by simp [h6], ?_⟩⟩, fun i hi => ?_, fun i j hi hj hne A m c A' m' c' ei ej b hbb => ?_⟩
    · simp only [Array.toList_setIfInBounds, List.take_set, h7]
    · by_cases e : i = u
      · subst e
        refine ⟨A3, c3, ?_, ?_, ?_, ?_, hm, fun b hbb => ⟨fun e => ?_, hQ b (ho3.own_lo b hbb)⟩⟩
        · rw [List.getElem?_set_ne (by omega), List.getElem?_set_ne (by omega), List.getElem?_set_self (by omega)]
        · rw [List.getElem?_set_ne (by omega), List.getElem?_set_self (by simp; omega)]
        · rw [List.getElem?_set_self (by simp; omega)]
        · exact (Ow.far ho3 (row := some g) grown_setCells3 (fun b hbb e => by have := ho3.own_lo b hbb; injection e with e; omega)).mono hlo
        · have h8 := ho3.own_lo b hbb
          simp [Value.ownBlock] at e
          omega
      · obtain ⟨A', c', e0, e1, e2, e3, e4, e5⟩ := hin0 i (by omega)
        refine ⟨A', c', ?_, ?_, ?_, ?_, e4, e5⟩
        · rw [List.getElem?_set_ne (by omega), List.getElem?_set_ne (by omega), List.getElem?_set_ne (by omega)]; exact e0
        · rw [List.getElem?_set_ne (by omega), List.getElem?_set_ne (by omega), List.getElem?_set_ne (by omega)]; exact e1
        · rw [List.getElem?_set_ne (by omega), List.getElem?_set_ne (by omega), List.getElem?_set_ne (by omega)]; exact e2
        · exact Ow.far (e3.below hb) (row := some g) grown_setCells3 (fun b hbb e => (e5 b hbb).1 (by have := Option.some.inj e; simp [Value.ownBlock, this]))
    · have hnew : ∀ x, x < u → ∀ A m c, (((vs.set (u * 3) (.int .i64 (rat rs u).k)).set (u * 3 + 1) (.slice A3 (rat rs u).xs.length c3)).set (u * 3 + 2) (.int .i64 (rat rs u).v))[x * 3 + 1]? = some (.slice A m c) → vs[x * 3 + 1]? = some (.slice A m c) := fun x hx A m c e => by
        rw [List.getElem?_set_ne (by omega), List.getElem?_set_ne (by omega), List.getElem?_set_ne (by omega)] at e; exact e
      have hlast : ∀ A m c, (((vs.set (u * 3) (.int .i64 (rat rs u).k)).set (u * 3 + 1) (.slice A3 (rat rs u).xs.length c3)).set (u * 3 + 2) (.int .i64 (rat rs u).v))[u * 3 + 1]? = some (.slice A m c) → ∀ b, (Value.slice A m c).ownBlock = some b → w.heap.size ≤ b := fun A m c e b hb => by
        rw [List.getElem?_set_ne (by omega), List.getElem?_set_self (by simp; omega)] at e
        injection e with e
        rw [← e] at hb
        exact ho3.own_lo b hb
      by_cases ei' : i = u
      · subst ei'
        have q1 := hlast _ _ _ ei b hbb
        intro hbb'
        have q2 := hlt0 j (by omega) _ _ _ (hnew j (by omega) _ _ _ ej) b hbb'
        omega
      · by_cases ej' : j = u
        · subst ej'
          intro hbb'
          have q1 := hlast _ _ _ ej b hbb'
          have q2 := hlt0 i (by omega) _ _ _ (hnew i (by omega) _ _ _ ei) b hbb
          omega
        · exact hsp i j (by omega) (by omega) hne _ _ _ _ _ _ (hnew i (by omega) _ _ _ ei) (hnew j (by omega) _ _ _ ej) b hbb
/-- the numbers at which the rules' marks begin. -/
def xN (m : Int) (rs : List RuleM) : Nat → Int
  | 0 => m
  | i + 1 => xN m rs i + (rat rs i).xs.length + 2
theorem xN_bd {m : Int} {rs : List RuleM} {n : Nat} (hL : ∀ i, i < n → (rat rs i).xs.length ≤ 1048576) (h0 : 0 ≤ m) : ∀ {i : Nat}, i ≤ n → 0 ≤ xN m rs i ∧ xN m rs i ≤ m + i * 1048578 := by
  intro i
  induction i with
  | zero => intro _; simp [xN]; exact h0
  | succ i ih =>
    intro hi
    obtain ⟨a, b⟩ := ih (by omega)
    have := hL i (by omega)
    simp only [xN]
    push_cast
    omega
structure MkR (w : World) (lo g n : Nat) (rs : List RuleM) (Q : Nat → Prop) (m : Int) (u : Nat) (cur : Array Value) : Prop where
  row : w.heap[g]? = some (.cells cur 63)
  sz : n * 3 ≤ cur.size
  at_ : ∀ i, i < n → ∃ A' c', cur[i * 3 + 1]? = some (.slice A' (rat rs i).xs.length c') ∧ Ow w lo A' (rat rs i).xs.length c' (if i < u then seqI (xN m rs i + 1) (rat rs i).xs.length else (rat rs i).xs) ∧ ∀ b, (Value.slice A' (rat rs i).xs.length c').ownBlock = some b → Q b
  done : ∀ i, i < u → cur[i * 3]? = some (.int .i64 (xN m rs i)) ∧ cur[i * 3 + 2]? = some (.int .i64 (xN m rs i + 1 + (rat rs i).xs.length))
  sep : ∀ i j, i < n → j < n → i ≠ j → ∀ A k c A' k' c', cur[i * 3 + 1]? = some (.slice A k c) → cur[j * 3 + 1]? = some (.slice A' k' c') → ∀ b, (Value.slice A k c).ownBlock = some b → (Value.slice A' k' c').ownBlock ≠ some b
theorem Ow.blk_int {w : World} {lo n c : Nat} {A : Option Addr} {xs : List Int} (h : Ow w lo A n c xs) {b : Nat} (hb : (Value.slice A n c).ownBlock = some b) : ∃ cs, w.heap[b]? = some (.cells cs 3) := by
  rcases h.2 with ⟨h1, _⟩ | ⟨g, cap, cur, hv, _, hg, _⟩
  · injection h1 with e1 _ _
    subst e1
    simp [Value.ownBlock] at hb
  · injection hv with e1 _ e3
    subst e1
    simp only [Value.ownBlock, Option.some.injEq] at hb
    subst hb
    exact ⟨cur, hg⟩
theorem Ow.not_rule {w : World} {lo n c g : Nat} {A : Option Addr} {xs : List Int} {cur : Array Value} (h : Ow w lo A n c xs) (hg : w.heap[g]? = some (.cells cur 63)) : ∀ b, (Value.slice A n c).ownBlock = some b → b ≠ g := fun b hb e => by
  obtain ⟨cs, hcs⟩ := h.blk_int hb
  subst e
  rw [hcs] at hg
  injection hg with hg
  injection hg with _ h2 _
  exact absurd h2 (by decide)
theorem OwRd.mk0 {w : World} {lo g n : Nat} {rs : List RuleM} {Q : Nat → Prop} (h : OwRd w lo g n rs Q n) (m : Int) : ∃ cur, MkR w lo g n rs Q m 0 cur := by
  obtain ⟨vs, ⟨hvl, hcase⟩, hin, hsp⟩ := h
  rcases hcase with ⟨h1, _⟩ | ⟨g', cap, cur, hv, h2, h3, h4, h5, h6, h7⟩
  · cases h1
  · injection hv with e1 _ e2
    injection e1 with e1
    injection e1 with e1 _ _
    subst e1 e2
    have hcv : ∀ i, i < n → ∀ k, k < 3 → cur[i * 3 + k]? = vs[i * 3 + k]? := fun i hi k hk => by
      rw [← h7, List.getElem?_take, if_pos (by omega)]
      simp
    refine ⟨cur, h3, by omega, fun i hi => ?_, fun i hi => absurd hi (by omega), fun i j hi hj hne A k c A' k' c' ei ej => ?_⟩
    · obtain ⟨A', c', e0, e1, e2, e3, e4, e5⟩ := hin i hi
      exact ⟨A', c', (hcv i hi 1 (by omega)).trans e1, by rw [if_neg (by omega)]; exact e3, fun b hb => (e5 b hb).2⟩
    · rw [hcv i hi 1 (by omega)] at ei
      rw [hcv j hj 1 (by omega)] at ej
      exact hsp i j hi hj hne _ _ _ _ _ _ ei ej
theorem MkR.next {w w2 : World} {lo g n u c' : Nat} {rs : List RuleM} {Q : Nat → Prop} {m : Int} {cur : Array Value} {A' : Option Addr} (h : MkR w lo g n rs Q m u cur) (hu : u < n) (hA : cur[u * 3 + 1]? = some (.slice A' (rat rs u).xs.length c'))
    (ho2 : Ow w2 lo A' (rat rs u).xs.length c' (seqI (xN m rs u + 1) (rat rs u).xs.length)) (hg : (w.setCell ⟨g, u * 3, none⟩ (.int .i64 (xN m rs u))).grownBy w2 (Value.slice A' (rat rs u).xs.length c').ownBlock) :
    w2.heap[g]? = some (.cells (cur.setIfInBounds (u * 3) (.int .i64 (xN m rs u))) 63) ∧ MkR (w2.setCell ⟨g, u * 3 + 2, none⟩ (.int .i64 (xN m rs u + 1 + (rat rs u).xs.length))) lo g n rs Q m (u + 1) ((cur.setIfInBounds (u * 3) (.int .i64 (xN m rs u))).setIfInBounds (u * 3 + 2) (.int .i64 (xN m rs u + 1 + (rat rs u).xs.length))) := by
  have hgs : g < w.heap.size := (Array.getElem?_eq_some_iff.1 h.row).1
  have hsz := h.sz
  obtain ⟨Au, cu, eu, hou, hQu⟩ := h.at_ u hu
  rw [hA] at eu
  injection eu with eu
  injection eu with eA _ ec
  subst eA ec
  have hne : ∀ b, (Value.slice A' (rat rs u).xs.length c').ownBlock = some b → b ≠ g := hou.not_rule h.row
  have hr2 : w2.heap[g]? = some (.cells (cur.setIfInBounds (u * 3) (.int .i64 (xN m rs u))) 63) := by
    rw [hg.block g (by simpa using hgs) (fun e => hne g e.symm rfl)]
    exact heap_setCell_same w g (u * 3) _ _ _ h.row
  have hkeep : ∀ i, ((cur.setIfInBounds (u * 3) (.int .i64 (xN m rs u))).setIfInBounds (u * 3 + 2) (.int .i64 (xN m rs u + 1 + (rat rs u).xs.length)))[i * 3 + 1]? = cur[i * 3 + 1]? := fun i => by
    rw [Array.getElem?_setIfInBounds_ne (by omega), Array.getElem?_setIfInBounds_ne (by omega)]
  refine ⟨hr2, ⟨heap_setCell_same w2 g (u * 3 + 2) _ _ _ hr2, by simp; omega, fun i hi => ?_, fun i hi => ?_, fun i j hi hj hne' A k c A'' k' c'' ei ej => ?_⟩⟩
  · by_cases e : i = u
    · subst e
      exact ⟨A', c', (hkeep i).trans hA, by rw [if_pos (by omega)]; exact Ow.far ho2 (row := some g) grown_set (fun b hb e => hne b hb (Option.some.inj e).symm), hQu⟩
    · obtain ⟨Ai, ci, ei, hoi, hQi⟩ := h.at_ i hi
      refine ⟨Ai, ci, (hkeep i).trans ei, ?_, hQi⟩
      have e2 : (i < u + 1) = (i < u) := by simp; omega
      simp only [e2]
      have f1 : ∀ b, (Value.slice Ai (rat rs i).xs.length ci).ownBlock = some b → b ≠ g := hoi.not_rule h.row
      have o1 := Ow.far hoi (row := some g) (grown_set (w := w) (G := g) (i := u * 3) (v := .int .i64 (xN m rs u))) (fun b hb e => f1 b hb (Option.some.inj e).symm)
      have o2 := Ow.far o1 hg (fun b hb e3 => h.sep i u hi hu e _ _ _ _ _ _ ei hA b hb e3)
      exact Ow.far o2 (row := some g) grown_set (fun b hb e => f1 b hb (Option.some.inj e).symm)
  · by_cases e : i = u
    · subst e
      constructor
      · rw [Array.getElem?_setIfInBounds_ne (by omega), Array.getElem?_setIfInBounds_self_of_lt (by omega)]
      · rw [Array.getElem?_setIfInBounds_self_of_lt (by simp; omega)]
    · obtain ⟨d1, d2⟩ := h.done i (by omega)
      constructor
      · rw [Array.getElem?_setIfInBounds_ne (by omega), Array.getElem?_setIfInBounds_ne (by omega)]; exact d1
      · rw [Array.getElem?_setIfInBounds_ne (by omega), Array.getElem?_setIfInBounds_ne (by omega)]; exact d2
  · rw [hkeep] at ei ej
    exact h.sep i j hi hj hne' _ _ _ _ _ _ ei ej
/-- only the row of rules and blocks with Q have changed. -/
def ChR (g : Nat) (Q : Nat → Prop) (w w' : World) : Prop := w'.os = w.os ∧ w'.tape = w.tape ∧ w'.output = w.output ∧ w.heap.size ≤ w'.heap.size ∧ ∀ k, k < w.heap.size → k ≠ g → ¬ Q k → w'.heap[k]? = w.heap[k]?
theorem ChR.refl (g : Nat) (Q : Nat → Prop) (w : World) : ChR g Q w w := ⟨rfl, rfl, rfl, Nat.le_refl _, fun _ _ _ _ => rfl⟩
theorem ChR.trans {g : Nat} {Q : Nat → Prop} {a b c : World} (h : ChR g Q a b) (h' : ChR g Q b c) : ChR g Q a c :=
  ⟨h'.1.trans h.1, h'.2.1.trans h.2.1, h'.2.2.1.trans h.2.2.1, Nat.le_trans h.2.2.2.1 h'.2.2.2.1, fun k hk h1 h2 => (h'.2.2.2.2 k (Nat.lt_of_lt_of_le hk h.2.2.2.1) h1 h2).trans (h.2.2.2.2 k hk h1 h2)⟩
theorem ChR.of {g : Nat} {Q : Nat → Prop} {a b : World} {r : Option Nat} (h : a.grownBy b r) (hr : ∀ k, r = some k → k = g ∨ Q k) : ChR g Q a b :=
  ⟨h.os, h.tape, h.output, h.size, fun k hk h1 h2 => h.block k hk (fun e => (hr k e.symm).elim h1 h2)⟩
set_option maxHeartbeats 1000000 in
theorem markRuleS_own (g n lo : Nat) (rs : List RuleM) (Q : Nat → Prop) (m : Int) (w : World) (h : OwRd w lo g n rs Q n) (hL : ∀ i, i < n → (rat rs i).xs.length ≤ 1048576) (hn : n ≤ 1000) (h0 : 0 ≤ m) (h1 : m ≤ 1048577) :
    Calls Tryd.prog 73 #[.slice (some ⟨g, 0, none⟩) n n, .int .i64 m] w fun e w' => e = .returned (.int .i64 (xN m rs n)) ∧ (∃ cur, MkR w' lo g n rs Q m n cur) ∧ ChR g Q w w' := by
  have HL := Lib.hid hL
  have HX := Lib.hid (fun i (hi : i ≤ n) => xN_bd (m := m) hL h0 hi)
  obtain ⟨cur0, hM0⟩ := h.mk0 m
  go_enter Tryd.func73, Tryd.ntmps73
  go_wp2
  go_loopw [1, 5] (fun q i wr => ∃ (k : Nat) (x : Int), k ≤ n ∧ i = .int .i64 k ∧ q = .int .i64 x ∧ Hid (xN m rs k = x) ∧ ChR g Q w wr ∧ ∃ cur, MkR wr lo g n rs Q m k cur) (fun _ i _ => n - (intOf i).toNat)
  case atStart => exact ⟨0, m, Nat.zero_le _, rfl, rfl, Lib.hid rfl, ChR.refl _ _ _, _, hM0⟩
  case round =>
    obtain ⟨k, x, hk, rfl, rfl, hx, hch, cur, hM⟩ := hrel
    have hx := hx.out
    by_cases hlt : k < n
    · obtain ⟨A', c', e1, ho, hQ⟩ := hM.at_ k hlt
      rw [if_neg (by omega)] at ho
      have hsz := hM.sz
      have hLk := HL.out k hlt
      obtain ⟨x0, x1⟩ := HX.out k hk
      obtain ⟨x0', x1'⟩ := HX.out (k + 1) hlt
      have hc0 : wr.cell? ⟨g, k * 3, none⟩ = some (cur[k * 3]'(by omega)) := by rw [cell_of_row wr g _ cur _ (0, 0) hM.row]; exact Array.getElem?_eq_getElem _
      have hc1 : (wr.setCell ⟨g, k * 3, none⟩ (.int .i64 (xN m rs k))).cell? ⟨g, k * 3 + 1, none⟩ = some (.slice A' (rat rs k).xs.length c') := by
        rw [cell_of_row _ g _ _ _ (0, 0) (heap_setCell_same wr g (k * 3) _ _ _ hM.row), Array.getElem?_setIfInBounds_ne (by omega)]; exact e1
      have hf0 := frozen_of_row wr g (k * 3) _ _ hM.row
      have o1 := Ow.far ho (row := some g) (grown_set (w := wr) (G := g) (i := k * 3) (v := .int .i64 (xN m rs k))) (fun b hb e => ho.not_rule hM.row b hb (Option.some.inj e).symm)
      have HC := Lib.hid (markIntS_any A' c' (rat rs k).xs.length lo (rat rs k).xs (xN m rs k + 1) _ o1 (by omega) (by omega) (by omega))
      have HN := Lib.hid (fun w2 ho2 hg => hM.next (w2 := w2) hlt e1 ho2 hg)
      have HQ := Lib.hid hQ
      have Hch := Lib.hid hch
      have hx1 : xN m rs (k + 1) = xN m rs k + (rat rs k).xs.length + 2 := rfl
      have hsz3 : k * 3 + 2 < cur.size := by omega
      obtain ⟨l, hl⟩ : ∃ l, (rat rs k).xs.length = l := ⟨_, rfl⟩
      obtain ⟨y, hy⟩ : ∃ y, xN m rs (k + 1) = y := ⟨_, rfl⟩
      rw [hx, hl] at HC HN hx1
      rw [hx] at hc1 x0 x1
      rw [hl] at hc1 HQ hLk
      rw [hy] at hx1 x0' x1'
      have Hx := Lib.hid hx
      have Hy := Lib.hid hy
      have Hx1 := Lib.hid hx1
      have hX9 : x ≤ 2000000000 := by omega
      have hL9 : (l : Int) ≤ 1048576 := by omega
      clear hx hl hy ho o1 e1 hM hQ hch hM0 h hx1
      go_wp2_with (go_at_call 72; refine HC.out.mono ?_; rintro e w5 ⟨rfl, ho5, hg5⟩; rw [marked_all] at ho5; obtain ⟨hrow5, hM5⟩ := HN.out w5 ho5 hg5; have hc5 : w5.cell? ⟨g, k * 3 + 2, none⟩ = some ((cur.setIfInBounds (k * 3) (.int .i64 x))[k * 3 + 2]'(by simp; omega)) := (by rw [cell_of_row w5 g _ _ _ (0, 0) hrow5]; exact Array.getElem?_eq_getElem _); have hf5 := frozen_of_row w5 g (k * 3 + 2) _ _ hrow5)
      go_roundw
      case rel =>
        refine ⟨k + 1, y, hlt, by go_num, by rw [Hx1.out]; go_num, Hy, ?_, _, hM5⟩
        exact Hch.out.trans ((ChR.of (grown_set (w := wr) (G := g) (i := k * 3) (v := .int .i64 x)) (fun b e => .inl (Option.some.inj e).symm)).trans ((ChR.of hg5 (fun b e => .inr (HQ.out b e))).trans (ChR.of grown_set (fun b e => .inl (Option.some.inj e).symm))))
      case measure => simp [intOf]; omega
    · obtain rfl : k = n := by omega
      have Hx := Lib.hid hx
      clear hx
      go_wp2
      go_ret
      exact ⟨by rw [Hx.out]; rfl, ⟨_, hM⟩, hch⟩
/-- what the marks are when they are looked at. -/
def MkS (w : World) (g n : Nat) (rs : List RuleM) (m : Int) : Prop := ∃ cur : Array Value, w.heap[g]? = some (.cells cur 63) ∧ ∀ i, i < n → ∃ A' c', cur[i * 3]? = some (.int .i64 (xN m rs i)) ∧ cur[i * 3 + 1]? = some (.slice A' (rat rs i).xs.length c') ∧ cur[i * 3 + 2]? = some (.int .i64 (xN m rs i + 1 + (rat rs i).xs.length)) ∧ Rd w w.heap.size A' (rat rs i).xs.length (seqI (xN m rs i + 1) (rat rs i).xs.length)
theorem MkR.mks {w : World} {lo g n : Nat} {rs : List RuleM} {Q : Nat → Prop} {m : Int} {cur : Array Value} (h : MkR w lo g n rs Q m n cur) : MkS w g n rs m := ⟨cur, h.row, fun i hi => by
  obtain ⟨A', c', e1, ho, _⟩ := h.at_ i hi
  rw [if_pos hi] at ho
  obtain ⟨d1, d2⟩ := h.done i hi
  exact ⟨A', c', d1, e1, d2, ho.rd⟩⟩
theorem MkS.below {w w' : World} {g n : Nat} {rs : List RuleM} {m : Int} (h : MkS w g n rs m) (hb : Below w.heap.size w w') : MkS w' g n rs m := by
  obtain ⟨cur, hg, hin⟩ := h
  refine ⟨cur, (hb.block g (Array.getElem?_eq_some_iff.1 hg).1).trans hg, fun i hi => ?_⟩
  obtain ⟨A', c', e0, e1, e2, e3⟩ := hin i hi
  exact ⟨A', c', e0, e1, e2, (e3.below hb).more hb.size⟩
set_option maxHeartbeats 400000 in
theorem heldRuleS_own (g n : Nat) (rs : List RuleM) (m : Int) (w : World) (h : MkS w g n rs m) (hL : ∀ i, i < n → (rat rs i).xs.length ≤ 1048576) (hn : n ≤ 1000) (h0 : 0 ≤ m) (h1 : m ≤ 1048577) :
    Calls Tryd.prog 75 #[.slice (some ⟨g, 0, none⟩) n n, .int .i64 m] w fun e w' => e = .returned (.int .i64 (xN m rs n)) ∧ w = w' := by
  have HL := Lib.hid hL
  have HX := Lib.hid (fun i (hi : i ≤ n) => xN_bd (m := m) hL h0 hi)
  obtain ⟨cur, hrow, hin⟩ := h
  have HI := Lib.hid hin
  clear hin
  go_enter Tryd.func75, Tryd.ntmps75
  go_wp2
  go_loop [1, 5] (fun q i => ∃ (k : Nat) (x : Int), k ≤ n ∧ i = .int .i64 k ∧ q = .int .i64 x ∧ Hid (xN m rs k = x)) (fun _ i => n - (intOf i).toNat)
  case atStart => exact ⟨0, m, Nat.zero_le _, rfl, rfl, Lib.hid rfl⟩
  case round =>
    obtain ⟨k, x, hk, rfl, rfl, hx⟩ := hrel
    have hx := hx.out
    by_cases hlt : k < n
    · obtain ⟨A', c', e0, e1, e2, e3⟩ := HI.out k hlt
      have hLk := HL.out k hlt
      obtain ⟨x0, x1⟩ := HX.out k hk
      obtain ⟨x0', x1'⟩ := HX.out (k + 1) hlt
      have hx1 : xN m rs (k + 1) = xN m rs k + (rat rs k).xs.length + 2 := rfl
      have hc0 := (cell_of_row w g (k * 3) cur _ (0, 0) hrow).trans e0
      have hc1 := (cell_of_row w g (k * 3 + 1) cur _ (0, 0) hrow).trans e1
      have hc2 := (cell_of_row w g (k * 3 + 2) cur _ (0, 0) hrow).trans e2
      have HH := Lib.hid (heldIntS_seq A' c' (rat rs k).xs.length w.heap.size (xN m rs k + 1) w e3 (by omega) (by omega) (by omega))
      obtain ⟨l, hl⟩ : ∃ l, (rat rs k).xs.length = l := ⟨_, rfl⟩
      obtain ⟨y, hy⟩ : ∃ y, xN m rs (k + 1) = y := ⟨_, rfl⟩
      rw [hx, hl] at HH hx1 hc2
      rw [hx] at hc0 x0 x1
      rw [hl] at hc1 hLk
      rw [hy] at hx1 x0' x1'
      have Hx := Lib.hid hx
      have Hy := Lib.hid hy
      have Hx1 := Lib.hid hx1
      have hne1 : (x != x) = false := by simp
      have hX9 : x ≤ 2000000000 := by omega
      have hL9 : (l : Int) ≤ 1048576 := by omega
      have hne2 : (x + 1 + (l : Int) != x + 1 + (l : Int)) = false := by simp
      clear hx hl hy e0 e1 e2 e3 hrow hx1
      go_wp2_with (go_at_call 74; refine HH.out.mono ?_; rintro e w5 ⟨rfl, rfl⟩)
      go_round
      case rel => exact ⟨k + 1, y, hlt, by go_num, by rw [Hx1.out]; go_num, Hy⟩
      case measure => simp [intOf]; omega
    · obtain rfl : k = n := by omega
      have Hx := Lib.hid hx
      clear hx
      go_wp2
      go_ret
      exact ⟨by rw [Hx.out]; rfl, rfl⟩
end Go.Proofs.YtkeoflnmbcdmfaaDoor
set_option maxRecDepth 8000
namespace Go.Proofs.YtkeoflnmbcdmfaaDoor
open Go.ChangeShapes Go.WideShapes Go.ChangeAt Go.RowKit
/-! a puzzle in memory of its own. -/
theorem OwRd.bound {w : World} {lo g n u : Nat} {rs : List RuleM} {Q : Nat → Prop} (h : OwRd w lo g n rs Q u) : OwRd w lo g n rs (fun b => Q b ∧ b < w.heap.size) u := by
  obtain ⟨vs, a, b, c⟩ := h
  refine ⟨vs, a, fun i hi => ?_, c⟩
  obtain ⟨A', c', e0, e1, e2, e3, e4, e5⟩ := b i hi
  exact ⟨A', c', e0, e1, e2, e3, e4, fun x hx => ⟨(e5 x hx).1, (e5 x hx).2, e3.own_hi x hx⟩⟩
theorem OwRd.there {w : World} {lo g n : Nat} {rs : List RuleM} {Q : Nat → Prop} {k u : Nat} (h : OwRd w lo g n rs Q k) (hu : u < n) : w.there g (u * 3) 3 := h.rp.there hu
theorem OwRd.mono {w : World} {lo lo' g n : Nat} {rs : List RuleM} {Q : Nat → Prop} {k : Nat} (h : OwRd w lo g n rs Q k) (hl : lo' ≤ lo) : OwRd w lo' g n rs Q k := by
  obtain ⟨vs, a, b, c⟩ := h
  refine ⟨vs, World.ownsRow.mono a hl, fun i hi => ?_, c⟩
  obtain ⟨A', c', e0, e1, e2, e3, e4, e5⟩ := b i hi
  exact ⟨A', c', e0, e1, e2, e3.mono hl, e4, e5⟩
theorem OwRd.imp {w : World} {lo g n : Nat} {rs : List RuleM} {Q Q' : Nat → Prop} {k : Nat} (h : OwRd w lo g n rs Q k) (hq : ∀ b, Q b → Q' b) : OwRd w lo g n rs Q' k := by
  obtain ⟨vs, a, b, c⟩ := h
  refine ⟨vs, a, fun i hi => ?_, c⟩
  obtain ⟨A', c', e0, e1, e2, e3, e4, e5⟩ := b i hi
  exact ⟨A', c', e0, e1, e2, e3, e4, fun x hx => ⟨(e5 x hx).1, hq x (e5 x hx).2⟩⟩
theorem OwRd.far {w w' : World} {lo g n X : Nat} {rs : List RuleM} {Q : Nat → Prop} {k : Nat} (h : OwRd w lo g n rs Q k) (hg : w.grownBy w' (some X)) (hX : X < lo) : OwRd w' lo g n rs Q k := by
  obtain ⟨vs, a, b, c⟩ := h
  refine ⟨vs, World.ownsRow.kept a hg (.inr (fun e => by have := (World.ownsRow.lt a g (by simp [Value.ownBlock])).1; simp [Value.ownBlock] at e; omega)), fun i hi => ?_, c⟩
  obtain ⟨A', c', e0, e1, e2, e3, e4, e5⟩ := b i hi
  exact ⟨A', c', e0, e1, e2, Ow.far e3 hg (fun b hb e => by have := e3.own_lo b hb; have := Option.some.inj e; omega), e4, e5⟩
/-- the values of 'Rule{rule.Kind, slices.Clone(rule.Cells), rule.Value}' and of where it goes. -/
def CrG (X g n u lo l C' : Nat) (k v : Int) (A' : Option Addr) (xs : List Int) : Nat → Value → World → Prop
  | 0, x, _ => x = .slice (some ⟨g, 0, none⟩) n n
  | 1, x, _ => x = .int .i64 (u : Nat)
  | 2, x, _ => x = .pointer (some ⟨X, 0, none⟩)
  | 3, x, _ => x = .int .i64 k
  | 4, x, _ => x = .pointer (some ⟨X, 1, none⟩)
  | 5, x, _ => x = .slice A' l C'
  | 6, x, w => ∃ A3 c3, x = .slice A3 l c3 ∧ Ow w lo A3 l c3 xs
  | 7, x, _ => x = .pointer (some ⟨X, 2, none⟩)
  | 8, x, _ => x = .int .i64 v
  | 9, x, w => ∃ A3 c3, x = .agg #[.int .i64 k, .slice A3 l c3, .int .i64 v] ∧ Ow w lo A3 l c3 xs
  | 10, x, _ => x = .pointer (some ⟨g, u * 3, none⟩)
  | _, _, _ => True
theorem crG_below {X g n u lo l C' : Nat} {k v : Int} {A' : Option Addr} {xs : List Int} (j : Nat) (x : Value) (w w' : World) (hb : Below w.heap.size w w') (h : CrG X g n u lo l C' k v A' xs j x w) : CrG X g n u lo l C' k v A' xs j x w' := by
  match j, h with
  | 0, h => exact h
  | 1, h => exact h
  | 2, h => exact h
  | 3, h => exact h
  | 4, h => exact h
  | 5, h => exact h
  | 6, ⟨A3, c3, e, h⟩ => exact ⟨A3, c3, e, h.below hb⟩
  | 7, h => exact h
  | 8, h => exact h
  | 9, ⟨A3, c3, e, h⟩ => exact ⟨A3, c3, e, h.below hb⟩
  | 10, h => exact h
  | _ + 11, h => exact h
set_option maxHeartbeats 2000000 in
theorem copiedRules_any (A : Option Addr) (c n B : Nat) (rs : List RuleM) (w : World) (h : RdRs w B A n rs) (hB : B ≤ w.heap.size) (hm : n ≤ 1048576) (hL : ∀ i, i < n → 0 < (rat rs i).xs.length) :
    Calls Tryd.prog 103 #[.slice A n c] w fun e w' => ∃ g, e = .returned (.slice (some ⟨g, 0, none⟩) n n) ∧ OwRd w' w.heap.size g n rs (fun b => w.heap.size ≤ b ∧ b < w'.heap.size) n ∧ Below w.heap.size w w' := by
  obtain ⟨i0, hi, hz0, hz1, hz2⟩ := info_parts rule_parts
  have HR := Lib.hid (fun (w' : World) (hb : Below w.heap.size w w') => h.below (hb.mono hB))
  have Hi : Hid (∀ k A m c v, (Tryd.prog.info? 63).map (·.size) = some (#[Value.int .i64 k, .slice A m c, .int .i64 v] : Array Value).size) := Lib.hid (fun _ _ _ _ _ => by rw [hi]; simpa using hz1)
  have Hone : Hid (∀ k A m c v, ((#[Value.int .i64 k, .slice A m c, .int .i64 v] : Array Value).all (·.oneCell')) = true) := Lib.hid (fun _ _ _ _ _ => by simp [Value.oneCell'])
  have HLen := Lib.hid hL
  clear hL
  go_enter Tryd.func103, Tryd.ntmps103
  go_wp2_with (refine wpList_make_full _ rfl (.tmp 7) (.tmp 7) 24 rfl w.heap.size 63 i0 (.agg #[.int .i64 0, .slice none 0 0, .int .i64 0]) 3 Tryd.underlying24 hi hz0 hz1 .i64 .i64 n n n rfl rfl rfl rfl (by rw [hz2]; omega) (by simp only [maxLen]; omega) (Nat.le_refl _) ?_; intro w3 hown hgr; have hb3 := made_below hgr (Nat.le_refl _); have ho3 := OwRd.zero_ (rs := rs) (Q := fun b => w.heap.size ≤ b) hown)
  go_loopw [11] (fun i wr => ∃ u : Nat, u ≤ n ∧ i = .int .i64 u ∧ OwRd wr w.heap.size w.heap.size n rs (fun b => w.heap.size ≤ b) u ∧ Below w.heap.size w wr) (fun i _ => n - (intOf i).toNat)
  case atStart => exact ⟨0, Nat.zero_le _, rfl, ho3, hb3⟩
  case round =>
    obtain ⟨u, hu, rfl, ho, hb⟩ := hrel
    by_cases hlt : u < n
    · obtain ⟨b, off, rfl, hbB, hcc⟩ := (HR.out _ hb).2 (by omega)
      obtain ⟨A', c', r0, r1, r2, r3, r4⟩ := hcc u hlt
      have hL := HLen.out u hlt
      obtain ⟨rk, hrk⟩ : ∃ x, x = (rat rs u).k := ⟨_, rfl⟩
      obtain ⟨rx, hrx⟩ : ∃ x, x = (rat rs u).xs := ⟨_, rfl⟩
      obtain ⟨rvv, hrv⟩ : ∃ x, x = (rat rs u).v := ⟨_, rfl⟩
      have hb1 : Below wr.heap.size wr (wr.alloc (.cells #[.int .i64 rk, .slice A' rx.length c', .int .i64 rvv] 63)) := (Below.refl _ _).alloc (Nat.le_refl _) _
      have hs1 : (wr.alloc (.cells #[.int .i64 rk, .slice A' rx.length c', .int .i64 rvv] 63)).heap.size = wr.heap.size + 1 := by simp
      have hy := rbox_new wr rk A' rx.length c' rvv 63
      obtain ⟨W, hW⟩ : ∃ W, wr.alloc (.cells #[.int .i64 rk, .slice A' rx.length c', .int .i64 rvv] 63) = W := ⟨_, rfl⟩
      rw [hW] at hb1 hs1 hy
      have hbW : wr.heap.size ≤ W.heap.size := hb1.size
      have Hput := Lib.hid (fun (w3 : World) (A3 : Option Addr) (c3 : Nat) (hb' : Below wr.heap.size wr w3) (ho3 : Ow w3 wr.heap.size A3 (rat rs u).xs.length c3 (rat rs u).xs) => ho.put (Nat.le_trans (Nat.le_refl _) hb.size) hlt hb' ho3 r4 (fun b hb'' => Nat.le_trans hb.size hb''))
      have Hth := Lib.hid (fun (w3 : World) (hb' : Below wr.heap.size wr w3) => (ho.below hb').there hlt)
      rw [← hrk] at r0 Hput
      rw [← hrx] at r1 r3 r4 Hput hL
      rw [← hrv] at r2 Hput
      have HC := Lib.hid (fun (w' : World) (hb' : Below W.heap.size W w') => clone_any A' rx.length c' B rx w' (r3.below ((hb1.trans (hb'.mono hbW)).mono (Nat.le_trans hB hb.size))) (Nat.le_trans (Nat.le_trans hB hb.size) (Nat.le_trans hbW hb'.size)) hL r4)
      have HY := Lib.hid (fun (w' : World) (hb' : Below W.heap.size W w') => hy.below (by omega : wr.heap.size < W.heap.size) hb')
      have hin : (u : Int) < (n : Int) := by omega
      have HW := Lib.hid hW
      have Hbb := Lib.hid hb
      have Hb1 := Lib.hid hb1
      obtain ⟨l, hl⟩ : ∃ l, l = rx.length := ⟨_, rfl⟩
      rw [← hl] at r1 HC HY Hput hL HW
      clear hrk hrx hrv hcc hW ho hb r3 hb1 hy hl h
      go_wp2
      rw [HW.out]
      refine wp_region_dsR [16, 17, 18, 19, 20, 21, 22, 23, 24, 25, 26] (CrG wr.heap.size w.heap.size n u wr.heap.size l c' rk rvv A' rx) (fun w1 w2 => Below w1.heap.size w1 w2) (fun _ w1 w2 => Below w1.heap.size w1 w2) (fun _ _ => True) (fun _ => trivial) ((Below.refl _ _).drew) (fun _ _ h h' => step h h') (by kernel_rfl) (by kernel_rfl) (by simp) (fun j i v w w' _ _ he hg => crG_below j v w w' he hg) ?step ?last
      case step =>
        intro i o a w' K hi hoo hrel hfr hpre hC hK
        have e3 : a.eval (.tmp 3) = .slice (some ⟨w.heap.size, 0, none⟩) n n := hfr 3 (by simp)
        have e4 : a.eval (.tmp 4) = .int .i64 (u : Nat) := hfr 4 (by simp)
        have e5 : a.eval (.tmp 5) = .pointer (some ⟨wr.heap.size, 0, none⟩) := hfr 5 (by simp)
        obtain ⟨y0, y1, y2⟩ := HY.out _ hrel
        have hkeep : ∀ (v : Value), CrG wr.heap.size w.heap.size n u wr.heap.size l c' rk rvv A' rx i v w' → K (a.put o.dst v) w' := fun v hv => hK v w' (Below.refl _ _) (Below.refl _ _) (fun _ _ h => h) hv
        have hi12 : i < 11 := hi
        have : i = 0 ∨ i = 1 ∨ i = 2 ∨ i = 3 ∨ i = 4 ∨ i = 5 ∨ i = 6 ∨ i = 7 ∨ i = 8 ∨ i = 9 ∨ i = 10 := by omega
        rcases this with rfl | rfl | rfl | rfl | rfl | rfl | rfl | rfl | rfl | rfl | rfl
        all_goals
          simp only [List.getElem?_toArray, List.getElem?_cons_zero, List.getElem?_cons_succ, Option.some.injEq] at hoo
          subst hoo
        · refine oper_val (v := .slice (some ⟨w.heap.size, 0, none⟩) n n) (w' := w') ?_ (hkeep _ rfl)
          unfold execOp
          simp only [e3]
          go_simp
        · refine oper_val (v := .int .i64 (u : Nat)) (w' := w') ?_ (hkeep _ rfl)
          unfold execOp
          simp only [e4]
          go_simp
        · refine oper_val (v := .pointer (some ⟨wr.heap.size, 0, none⟩)) (w' := w') ?_ (hkeep _ rfl)
          unfold execOp
          simp only [e5]
          go_simp
        · have p0 : a.eval (.tmp 18) = .pointer (some ⟨wr.heap.size, 0, none⟩) := hpre ⟨2, .data⟩ (by simp) rfl
          refine oper_val (v := .int .i64 rk) (w' := w') ?_ (hkeep _ rfl)
          unfold execOp
          simp only [p0]
          go_simp
        · refine oper_val (v := .pointer (some ⟨wr.heap.size, 1, none⟩)) (w' := w') ?_ (hkeep _ rfl)
          unfold execOp
          simp only [e5]
          go_simp
        · have p0 : a.eval (.tmp 20) = .pointer (some ⟨wr.heap.size, 1, none⟩) := hpre ⟨4, .data⟩ (by simp) rfl
          refine oper_val (v := .slice A' l c') (w' := w') ?_ (hkeep _ rfl)
          unfold execOp
          simp only [p0]
          go_simp
        · have p0 : a.eval (.tmp 21) = .slice A' l c' := hpre ⟨5, .data⟩ (by simp) rfl
          refine oper_call (f := 50) (args := #[.slice A' l c']) ?_ (HC.out w' hrel) ?_
          · unfold execOp
            go_simp
            first | exact (by simpa [Act.eval] using p0) | (simpa [Act.eval] using p0)
          · rintro e w5 ⟨A3, c3, rfl, ho3, hb3⟩
            exact ⟨_, rfl, hK _ _ hb3 hb3 (fun _ _ h => h) ⟨A3, c3, rfl, ho3.mono (Nat.le_trans hbW hrel.size)⟩⟩
        · refine oper_val (v := .pointer (some ⟨wr.heap.size, 2, none⟩)) (w' := w') ?_ (hkeep _ rfl)
          unfold execOp
          simp only [e5]
          go_simp
        · have p0 : a.eval (.tmp 23) = .pointer (some ⟨wr.heap.size, 2, none⟩) := hpre ⟨7, .data⟩ (by simp) rfl
          refine oper_val (v := .int .i64 rvv) (w' := w') ?_ (hkeep _ rfl)
          unfold execOp
          simp only [p0]
          go_simp
        · have p0 : a.eval (.tmp 19) = .int .i64 rk := hpre ⟨3, .data⟩ (by simp) rfl
          obtain ⟨A3, c3, p1, q1⟩ : ∃ A3 c3, a.eval (.tmp 22) = .slice A3 l c3 ∧ Ow w' wr.heap.size A3 l c3 rx := hpre ⟨6, .data⟩ (by simp) rfl
          have p2 : a.eval (.tmp 24) = .int .i64 rvv := hpre ⟨8, .data⟩ (by simp) rfl
          refine oper_val (v := .agg #[.int .i64 rk, .slice A3 l c3, .int .i64 rvv]) (w' := w') ?_ (hkeep _ ⟨A3, c3, rfl, q1⟩)
          unfold execOp
          simp only [List.map_toArray, List.map_cons, List.map_nil, p0, p1, p2]
          go_simp
        · have p0 : a.eval (.tmp 16) = .slice (some ⟨w.heap.size, 0, none⟩) n n := hpre ⟨0, .data⟩ (by simp) rfl
          have p1 : a.eval (.tmp 17) = .int .i64 (u : Nat) := hpre ⟨1, .data⟩ (by simp) rfl
          refine oper_val (v := .pointer (some ⟨w.heap.size, u * 3, none⟩)) (w' := w') ?_ (hkeep _ rfl)
          unfold execOp
          simp only [p0, p1]
          go_simp
      case last =>
        intro o a w5 hoo hb5 hdef htm hfr hpre
        simp only [List.length_cons, List.length_nil, Nat.reduceAdd, List.getElem?_toArray, List.getElem?_cons_zero, List.getElem?_cons_succ, Option.some.injEq] at hoo
        subst hoo
        have g0 : a.tmps.getD 16 undef = .slice (some ⟨w.heap.size, 0, none⟩) n n := hpre 0 (by simp)
        have g1 : a.tmps.getD 17 undef = .int .i64 (u : Nat) := hpre 1 (by simp)
        have g2 : a.tmps.getD 18 undef = .pointer (some ⟨wr.heap.size, 0, none⟩) := hpre 2 (by simp)
        have g3 : a.tmps.getD 19 undef = .int .i64 rk := hpre 3 (by simp)
        have g4 : a.tmps.getD 20 undef = .pointer (some ⟨wr.heap.size, 1, none⟩) := hpre 4 (by simp)
        have g5 : a.tmps.getD 21 undef = .slice A' l c' := hpre 5 (by simp)
        obtain ⟨A6, c6, g6, _⟩ : ∃ A3 c3, a.tmps.getD 22 undef = .slice A3 l c3 ∧ _ := hpre 6 (by simp)
        have g7 : a.tmps.getD 23 undef = .pointer (some ⟨wr.heap.size, 2, none⟩) := hpre 7 (by simp)
        have g8 : a.tmps.getD 24 undef = .int .i64 rvv := hpre 8 (by simp)
        obtain ⟨A3, c3, g9, ho9⟩ : ∃ A3 c3, a.tmps.getD 25 undef = .agg #[.int .i64 rk, .slice A3 l c3, .int .i64 rvv] ∧ Ow w5 wr.heap.size A3 l c3 rx := hpre 9 (by simp)
        have g10 : a.tmps.getD 26 undef = .pointer (some ⟨w.heap.size, u * 3, none⟩) := hpre 10 (by simp)
        have h25 : a.eval (.tmp 25) = .agg #[.int .i64 rk, .slice A3 l c3, .int .i64 rvv] := g9
        have h26 : a.eval (.tmp 26) = .pointer (some ⟨w.heap.size, u * 3, none⟩) := g10
        have hb15 : Below wr.heap.size wr w5 := Hb1.out.trans (hb5.mono hbW)
        refine ⟨w5.setCells w.heap.size (u * 3) [.int .i64 rk, .slice A3 l c3, .int .i64 rvv], ?_, ?_⟩
        · have hst := run_storeVar_mid (P := Tryd.prog) w5 w.heap.size (u * 3) 63 #[.int .i64 rk, .slice A3 l c3, .int .i64 rvv] (Hth.out _ hb15) (Hi.out _ _ _ _ _) (Hone.out _ _ _ _ _)
          unfold execOp
          simp only [h25, h26, Instr.storeAt, Instr.sureAddr, Sem.run_bind, Sem.run_pure, Result.andThen_ok, hst]
        · have key := htm
          simp only [List.foldl_cons, List.foldl_nil, g0, g1, g2, g3, g4, g5, g6, g7, g8, g9, g10, List.setIfInBounds_toArray, List.set_cons_succ, List.set_cons_zero] at key
          clear htm hfr hpre g0 g1 g2 g3 g4 g5 g6 g7 g8 g9 g10 h25 h26
          obtain ⟨tm, df⟩ := a
          dsimp only at key hdef
          subst key hdef
          have hP := Hput.out _ _ _ hb15 ho9
          go_wp2
          go_roundw
          case rel => exact ⟨u + 1, by omega, by go_num, hP, below_setCells3 (Hbb.out.trans (hb15.mono Hbb.out.size)) (Nat.le_refl _)⟩
          case measure => simp [intOf]; omega
    · obtain rfl : u = n := by omega
      go_wp2
      go_ret
      exact ⟨_, rfl, ho.bound, hb⟩
end Go.Proofs.YtkeoflnmbcdmfaaDoor
set_option maxRecDepth 8000
namespace Go.Proofs.YtkeoflnmbcdmfaaDoor
open Go.ChangeShapes Go.WideShapes Go.ChangeAt Go.RowKit
/-- a puzzle of the call's own, what is given and the rules' cells apart. -/
def OwnP (w : World) (lo : Nat) (A1 : Option Addr) (n c1 : Nat) (gi : List Int) (g nr : Nat) (rs : List RuleM) : Prop :=
  Ow w lo A1 n c1 gi ∧ ∃ Q : Nat → Prop, OwRd w lo g nr rs Q nr ∧ (∀ b, Q b → b < w.heap.size) ∧ ∀ b, (Value.slice A1 n c1).ownBlock = some b → ¬ Q b
set_option maxHeartbeats 4000000 in
theorem copied_any (s : Int) (Ag : Option Addr) (n cg Bg : Nat) (gi : List Int) (Ar : Option Addr) (nr cr Br : Nat) (rs : List RuleM) (w : World) (hp : PGs w s Ag n cg Bg gi Ar nr cr Br rs) (hn : 0 < n) (hnr : nr ≤ 1048576) (hL : ∀ i, i < nr → 0 < (rat rs i).xs.length) :
    Calls Tryd.prog 67 #[.agg #[.int .i64 s, .slice Ag n cg, .slice Ar nr cr]] w fun e w' => ∃ A1 c1 g, e = .returned (.agg #[.int .i64 s, .slice A1 n c1, .slice (some ⟨g, 0, none⟩) nr nr]) ∧ OwnP w' w.heap.size A1 n c1 gi g nr rs ∧ Below w.heap.size w w' := by
  have hx0 := pbox_new w s Ag n cg Ar nr cr 26
  have hb0 : Below w.heap.size w (w.alloc (.cells #[.int .i64 s, .slice Ag n cg, .slice Ar nr cr] 26)) := (Below.refl _ _).alloc (Nat.le_refl _) _
  have hs0 : w.heap.size < (w.alloc (.cells #[.int .i64 s, .slice Ag n cg, .slice Ar nr cr] 26)).heap.size := by simp
  obtain ⟨V, hV⟩ : ∃ V, V = (w.alloc (.cells #[.int .i64 s, .slice Ag n cg, .slice Ar nr cr] 26)).alloc (.cells #[.int .i64 0, .slice none 0 0, .slice none 0 0] 26) := ⟨_, rfl⟩
  have hbV : Below w.heap.size w V := by rw [hV]; exact hb0.alloc hb0.size _
  have hsV : V.heap.size = w.heap.size + 1 + 1 := by rw [hV]; simp
  have hxV : PBox V w.heap.size s Ag n cg Ar nr cr := by
    rw [hV]
    exact hx0.below hs0 ((Below.refl _ _).alloc (Nat.le_refl _) _)
  have hrow : V.heap[w.heap.size + 1]? = some (.cells #[.int .i64 0, .slice none 0 0, .slice none 0 0] 26) := by rw [hV]; exact heap_alloc2_new w _ _
  have Hi := Lib.hid puz_info
  have HCl := Lib.hid (fun (w' : World) (hb : Below V.heap.size V w') => clone_any Ag n cg Bg gi w' ((hp.below (hbV.trans (hb.mono hbV.size))).g) ((hp.below (hbV.trans (hb.mono hbV.size))).gB) hn hp.gm)
  have HCR := Lib.hid (fun (w' : World) (hb : Below V.heap.size V w') => copiedRules_any Ar cr nr Br rs w' ((hp.below (hbV.trans (hb.mono hbV.size))).r) ((hp.below (hbV.trans (hb.mono hbV.size))).rB) hnr hL)
  have HX := Lib.hid (fun (w' : World) (hb : Below V.heap.size V w') => (⟨hxV.below (by omega) hb, (hb.block (w.heap.size + 1) (by omega)).trans hrow⟩ : PBox w' w.heap.size s Ag n cg Ar nr cr ∧ w'.heap[w.heap.size + 1]? = some (.cells #[.int .i64 0, .slice none 0 0, .slice none 0 0] 26)))
  have HV := Lib.hid hV
  have HbV := Lib.hid hbV
  have hVd : Below V.heap.size V V.drew := (Below.refl _ _).drew
  obtain ⟨z0, z1, z2⟩ := id hxV
  clear hV hx0 hb0 hs0 hp hxV hrow hL hbV
  go_enter Tryd.func67, Tryd.ntmps67
  go_wp2
  rw [← HV.out]
  go_region_with (first
    | (go_at_call 50; (with_reducible refine (HCl.out _ ?hd).mono ?_); (case hd => exact hVd); rintro e w1 ⟨A1, c1, rfl, ho1, hb1d⟩; have hb1 := below_undrew hb1d; clear hb1d; obtain ⟨⟨y0, y1, y2⟩, _⟩ := HX.out _ hb1)
    | (go_at_call 103; (with_reducible refine (HCR.out _ ?hd2).mono ?_); (case hd2 => exact hb1); rintro e w2 ⟨g, rfl, hrd2, hb2⟩; have h2 := step hb1 hb2; obtain ⟨⟨x0, x1, x2⟩, hr2⟩ := HX.out _ h2; have d0 := cell_of_row _ _ 0 _ _ (0, 0) hr2; have d1 := cell_of_row _ _ 1 _ _ (0, 0) hr2; have d2 := cell_of_row _ _ 2 _ _ (0, 0) hr2; have f0 := frozen_of_row _ _ 0 _ _ hr2; have f1 := frozen_of_row _ _ 1 _ _ hr2; have f2 := frozen_of_row _ _ 2 _ _ hr2))
  all_goals
    go_wp2
    have e0 := heap_setCell_same w2 (w.heap.size + 1) 0 _ _ (.int .i64 s) hr2
    have e1 := heap_setCell_same _ (w.heap.size + 1) 1 _ _ (.slice A1 n c1) e0
    have e2 := heap_setCell_same _ (w.heap.size + 1) 2 _ _ (.slice (some ⟨g, 0, none⟩) nr nr) e1
    have hbV := HbV.out
    have h2s := h2.size
    have hbY : Below V.heap.size w2 (((w2.setCell ⟨w.heap.size + 1, 0, none⟩ (.int .i64 s)).setCell ⟨w.heap.size + 1, 1, none⟩ (.slice A1 n c1)).setCell ⟨w.heap.size + 1, 2, none⟩ (.slice (some ⟨g, 0, none⟩) nr nr)) → True := fun _ => trivial
    have hgY : w2.grownBy (((w2.setCell ⟨w.heap.size + 1, 0, none⟩ (.int .i64 s)).setCell ⟨w.heap.size + 1, 1, none⟩ (.slice A1 n c1)).setCell ⟨w.heap.size + 1, 2, none⟩ (.slice (some ⟨g, 0, none⟩) nr nr)) (some (w.heap.size + 1)) := (grown_set.trans grown_set).trans grown_set
    have hB2 : Below w.heap.size w w2 := hbV.trans (h2.mono hbV.size)
    have hBe : Below w.heap.size w (((w2.setCell ⟨w.heap.size + 1, 0, none⟩ (.int .i64 s)).setCell ⟨w.heap.size + 1, 1, none⟩ (.slice A1 n c1)).setCell ⟨w.heap.size + 1, 2, none⟩ (.slice (some ⟨g, 0, none⟩) nr nr)) := ((hB2.setCell (p := ⟨w.heap.size + 1, 0, none⟩) (Nat.le_succ _) _).setCell (p := ⟨w.heap.size + 1, 1, none⟩) (Nat.le_succ _) _).setCell (p := ⟨w.heap.size + 1, 2, none⟩) (Nat.le_succ _) _
    have ho2 := ho1.below hb2
    have hA1 : ∀ b, (Value.slice A1 n c1).ownBlock = some b → w.heap.size + 1 < b ∧ b < w1.heap.size := fun b hb => ⟨by have := ho1.own_lo b hb; have e : V.drew.heap.size = V.heap.size := rfl; omega, ho1.own_hi b hb⟩
    have hV1 := hb1.size
    refine bodyPost_ret (v := .agg #[.int .i64 s, .slice A1 n c1, .slice (some ⟨g, 0, none⟩) nr nr]) (results_cell_row (by rfl) _ _ (w.heap.size + 1) 26 _ (0, 0) _ rfl e2 Tryd.underlying26 rfl (Hi.out _ _ _ _ _ _ _)) rfl ⟨_, _, _, rfl, ⟨?_, fun b => w1.heap.size ≤ b ∧ b < w2.heap.size, ?_, fun b hb => ?_, fun b hb hq => ?_⟩, hBe⟩
    · exact (Ow.far ho2 hgY (fun b hb e => by have := (hA1 b hb).1; have := Option.some.inj e; omega)).mono (by have e : V.drew.heap.size = V.heap.size := rfl; omega)
    · exact (hrd2.far hgY (by omega)).mono (by omega)
    · have := hgY.size; omega
    · have := (hA1 b hb).2; omega
end Go.Proofs.YtkeoflnmbcdmfaaDoor
set_option maxRecDepth 8000
namespace Go.Proofs.YtkeoflnmbcdmfaaDoor
/-! what is given, less what is redundant. -/
/-- a puzzle with exactly one solution, of which gi is told. -/
structure Mk1 (s n : Nat) (rs : List RuleM) (g gi : List Int) : Prop where
  v : pvB s g rs = true
  o : oneB s n g rs = true
  l : Le0 g gi
theorem minL_inv {s n : Nat} {gi : List Int} {rs : List RuleM} (hv : pvB s gi rs = true) (ho : oneB s n gi rs = true) (k : Nat) : Mk1 s n rs (minL s n rs gi k) gi := by
  induction k with
  | zero => exact ⟨hv, ho, Le0.refl _⟩
  | succ k ih =>
    unfold minL
    split
    · next h =>
      refine ⟨pv_put ih.v k, ?_, (Le0.set _ k).trans ih.l⟩
      simp only [redB, Bool.and_eq_true, Int.toNat_natCast] at h
      exact h.2
    · exact ih
theorem minL_step {s n : Nat} {gi : List Int} {rs : List RuleM} (k : Nat) : Le0 (minL s n rs gi (k + 1)) (minL s n rs gi k) := by
  rw [minL]
  split
  · exact Le0.set _ k
  · exact Le0.refl _
theorem minL_le {s n : Nat} {gi : List Int} {rs : List RuleM} {i : Nat} : ∀ {j : Nat}, i ≤ j → Le0 (minL s n rs gi j) (minL s n rs gi i) := by
  intro j
  induction j with
  | zero => intro h; obtain rfl : i = 0 := by omega
            exact Le0.refl _
  | succ j ih =>
    intro h
    by_cases e : i = j + 1
    · subst e; exact Le0.refl _
    · exact (minL_step j).trans (ih (by omega))
theorem minL_none {s n : Nat} {gi : List Int} {rs : List RuleM} (hl : gi.length = n) (hn : n = s * s) (hv : pvB s gi rs = true) (ho : oneB s n gi rs = true) {k : Nat} (hk : k < n) : redB s n (minL s n rs gi n) rs k = false := by
  have hx := minL_inv hv ho n
  have hg := minL_inv hv ho k
  have hxl := hx.l.1.trans hl
  have hgl := hg.l.1.trans hl
  have hxg := minL_le (s := s) (n := n) (gi := gi) (rs := rs) (show k ≤ n by omega)
  rw [red_iff hxl hx.v hx.o hk]
  by_cases h0 : nth (minL s n rs gi n) k = 0
  · rw [h0]; rfl
  · cases h1 : oneB s n ((minL s n rs gi n).set k 0) rs
    · rw [Bool.and_false]
    · exfalso
      have e1 : nth (minL s n rs gi n) k = nth (minL s n rs gi k) k := by
        rcases hxg.2 k with e | e
        · exact e
        · exact absurd e h0
      have h2 := one_mid (rs := rs) hgl (pv_put hx.v k) (pv_put hg.v k) hg.v hn (hxg.set2 k) (Le0.set _ k) h1 hg.o
      have h3 : redB s n (minL s n rs gi k) rs k = true := by
        rw [red_iff hgl hg.v hg.o hk, h2, ← e1, Bool.and_true, bne_iff_ne]; exact h0
      have h4 : minL s n rs gi (k + 1) = (minL s n rs gi k).set k 0 := by rw [minL, if_pos h3]
      have h5 := (minL_le (s := s) (n := n) (gi := gi) (rs := rs) (show k + 1 ≤ n by omega)).2 k
      rw [h4, nth_setM (by omega), if_pos rfl] at h5
      rcases h5 with e | e <;> exact h0 e
theorem minL_minB {s n : Nat} {gi : List Int} {rs : List RuleM} (hl : gi.length = n) (hn : n = s * s) (hv : pvB s gi rs = true) (ho : oneB s n gi rs = true) : minB s n (minL s n rs gi n) rs = true := by
  have hx := minL_inv hv ho n
  unfold minB
  rw [hx.v, hx.o, redTo_none (fun k hk => minL_none hl hn hv ho hk)]; rfl
theorem minL_self {s n : Nat} {gi : List Int} {rs : List RuleM} (h : ∀ k : Nat, k < n → redB s n gi rs k = false) : ∀ {j : Nat}, j ≤ n → minL s n rs gi j = gi := by
  intro j
  induction j with
  | zero => intro _; rfl
  | succ j ih => intro hj; rw [minL, ih (by omega), h j (by omega)]; simp
theorem minL_again {s n : Nat} {gi : List Int} {rs : List RuleM} (hl : gi.length = n) (hn : n = s * s) (hv : pvB s gi rs = true) (ho : oneB s n gi rs = true) : minL s n rs (minL s n rs gi n) n = minL s n rs gi n :=
  minL_self (fun _ hk => minL_none hl hn hv ho hk) (Nat.le_refl _)
end Go.Proofs.YtkeoflnmbcdmfaaDoor
set_option maxRecDepth 8000
namespace Go.Proofs.YtkeoflnmbcdmfaaDoor
open Go.ChangeShapes Go.WideShapes Go.ChangeAt Go.RowKit
theorem OwnP.below {w w' : World} {lo n c1 g nr : Nat} {A1 : Option Addr} {gi : List Int} {rs : List RuleM} (h : OwnP w lo A1 n c1 gi g nr rs) (hb : Below w.heap.size w w') : OwnP w' lo A1 n c1 gi g nr rs := by
  obtain ⟨h1, Q, h2, h3, h4⟩ := h
  exact ⟨h1.below hb, Q, h2.below hb, fun b hq => Nat.lt_of_lt_of_le (h3 b hq) hb.size, h4⟩
theorem OwnP.fresh {w w' : World} {lo n c1 c2 g nr : Nat} {A1 A2 : Option Addr} {gi gi' : List Int} {rs : List RuleM} (h : OwnP w lo A1 n c1 gi g nr rs) (hb : Below w.heap.size w w') (ho : Ow w' w.heap.size A2 n c2 gi') (hlo : lo ≤ w.heap.size) : OwnP w' lo A2 n c2 gi' g nr rs := by
  obtain ⟨_, Q, h2, h3, _⟩ := h
  exact ⟨ho.mono hlo, Q, h2.below hb, fun b hq => Nat.lt_of_lt_of_le (h3 b hq) hb.size, fun b hbb hq => by have := ho.own_lo b hbb; have := h3 b hq; omega⟩
theorem OwRd.setX {w : World} {lo g n X : Nat} {rs : List RuleM} {Q : Nat → Prop} {k : Nat} {cs cs' : Array Value} (h : OwRd w lo g n rs Q k) (hX : w.heap[X]? = some (.cells cs 26)) : OwRd (w.setRow X cs') lo g n rs Q k := by
  obtain ⟨vs, a, b, c⟩ := h
  refine ⟨vs, ownsRow_setX a hX (by decide), fun i hi => ?_, c⟩
  obtain ⟨A', c', e0, e1, e2, e3, e4, e5⟩ := b i hi
  exact ⟨A', c', e0, e1, e2, e3.setX hX, e4, e5⟩
theorem OwnP.setX {w : World} {lo n c1 g nr X : Nat} {A1 : Option Addr} {gi : List Int} {rs : List RuleM} {cs cs' : Array Value} (h : OwnP w lo A1 n c1 gi g nr rs) (hX : w.heap[X]? = some (.cells cs 26)) : OwnP (w.setRow X cs') lo A1 n c1 gi g nr rs := by
  obtain ⟨h1, Q, h2, h3, h4⟩ := h
  exact ⟨h1.setX hX, Q, h2.setX hX, fun b hq => by have := h3 b hq; simpa using this, h4⟩
theorem OwnP.mono {w : World} {lo lo' n c1 g nr : Nat} {A1 : Option Addr} {gi : List Int} {rs : List RuleM} (h : OwnP w lo A1 n c1 gi g nr rs) (hl : lo' ≤ lo) : OwnP w lo' A1 n c1 gi g nr rs := by
  obtain ⟨h1, Q, h2, h3, h4⟩ := h
  exact ⟨h1.mono hl, Q, h2.mono hl, h3, h4⟩
theorem OwnP.pgc {w : World} {s : Int} {lo n c1 g nr : Nat} {A1 : Option Addr} {gi : List Int} {rs : List RuleM} (h : OwnP w lo A1 n c1 gi g nr rs) (hm : n ≤ 1099511627776) (hl : rs.length = nr) (hr : nr ≤ 1099511627776) : PGc w s A1 n c1 w.heap.size gi (some ⟨g, 0, none⟩) nr nr w.heap.size rs := by
  obtain ⟨h1, Q, h2, _⟩ := h
  exact ⟨h1.rd, Nat.le_refl _, hm, OwR.rdc hl h2.rp.full, Nat.le_refl _, hr⟩
/-- the zero value and false, or a puzzle of the call's own and true. -/
def MkPost (ok : Bool) (s : Int) (n : Nat) (L : List Int) (nr : Nat) (rs : List RuleM) (w : World) (e : Ending) (w' : World) : Prop :=
  Below w.heap.size w w' ∧ ((ok = false ∧ e = .returned (.tuple #[.agg #[.int .i64 0, .slice none 0 0, .slice none 0 0], .bool false])) ∨
    (ok = true ∧ ∃ A1 c1 g, e = .returned (.tuple #[.agg #[.int .i64 s, .slice A1 n c1, .slice (some ⟨g, 0, none⟩) nr nr], .bool true]) ∧ OwnP w' w.heap.size A1 n c1 L g nr rs))
set_option maxHeartbeats 4000000 in
theorem implMakeMinimal (s : Int) (Ag : Option Addr) (n cg Bg : Nat) (gi : List Int) (Ar : Option Addr) (nr cr Br : Nat) (rs : List RuleM) (w : World) (hp : PGc w s Ag n cg Bg gi Ar nr cr Br rs) (hT : Tz w) :
    Calls Tryd.prog 34 #[.agg #[.int .i64 s, .slice Ag n cg, .slice Ar nr cr]] w (MkPost (pvB s gi rs && oneB s n gi rs) s n (minL s n rs gi n) nr rs w) := by
  have hx0 := pbox_new w s Ag n cg Ar nr cr 26
  have hb0 : Below w.heap.size w (w.alloc (.cells #[.int .i64 s, .slice Ag n cg, .slice Ar nr cr] 26)) := (Below.refl _ _).alloc (Nat.le_refl _) _
  have hs0 : w.heap.size < (w.alloc (.cells #[.int .i64 s, .slice Ag n cg, .slice Ar nr cr] 26)).heap.size := by simp
  obtain ⟨V, hV⟩ : ∃ V, V = (w.alloc (.cells #[.int .i64 s, .slice Ag n cg, .slice Ar nr cr] 26)).alloc (.cells #[.int .i64 0, .slice none 0 0, .slice none 0 0] 26) := ⟨_, rfl⟩
  have hbV : Below w.heap.size w V := by rw [hV]; exact hb0.alloc hb0.size _
  have hsV : V.heap.size = w.heap.size + 1 + 1 := by rw [hV]; simp
  have hxV : PBox V w.heap.size s Ag n cg Ar nr cr := by
    rw [hV]
    exact hx0.below hs0 ((Below.refl _ _).alloc (Nat.le_refl _) _)
  have hrow : V.heap[w.heap.size + 1]? = some (.cells #[.int .i64 0, .slice none 0 0, .slice none 0 0] 26) := by rw [hV]; exact heap_alloc2_new w _ _
  have Hone := Lib.hid puz_one
  have Hi := Lib.hid puz_info
  have HM := Lib.hid (makeable_any s Ag n cg Bg gi Ar nr cr Br rs V (hp.below hbV) (hT.below hT.lt hbV))
  have HX := Lib.hid (fun (w' : World) (hb : Below V.heap.size V w') => (⟨hxV.below (by omega) hb, (hb.block (w.heap.size + 1) (by omega)).trans hrow⟩ : PBox w' w.heap.size s Ag n cg Ar nr cr ∧ w'.heap[w.heap.size + 1]? = some (.cells #[.int .i64 0, .slice none 0 0, .slice none 0 0] 26)))
  have HV := Lib.hid hV
  have HbV := Lib.hid hbV
  obtain ⟨z0, z1, z2⟩ := id hxV
  cases hok : (pvB s gi rs && oneB s n gi rs)
  · rw [hok] at HM
    clear hV hx0 hb0 hs0 hp hT hxV hrow hok hbV
    go_enter Tryd.func34, Tryd.ntmps34
    go_wp2_with (first
      | (go_at_call 63; rw [← HV.out]; refine HM.out.mono ?_; rintro e w1 ⟨rfl, hb1⟩; obtain ⟨_, hr1⟩ := HX.out _ hb1)
      | (refine wpList_store_row rfl 26 _ _ rfl (w.heap.size + 1) #[.int .i64 0, .slice none 0 0, .slice none 0 0] rfl rfl 26 #[.int .i64 0, .slice none 0 0, .slice none 0 0] hr1 (Hi.out _ _ _ _ _ _ _) rfl (Hone.out _ _ _ _ _ _ _) ?_))
    have hBe : Below w.heap.size w (w1.setRow (w.heap.size + 1) #[.int .i64 0, .slice none 0 0, .slice none 0 0]) := setRow_below5 (HbV.out.trans (hb1.mono HbV.out.size)) (by omega)
    exact bodyPost_ret (v := .tuple #[.agg #[.int .i64 0, .slice none 0 0, .slice none 0 0], .bool false]) (results_row_tmp (by rfl) _ _ (w.heap.size + 1) 26 _ (0, 0) _ _ rfl rfl (setRow_heap _ _ _ _ _ _ hr1) Tryd.underlying26 rfl (Hi.out _ _ _ _ _ _ _)) rfl ⟨hBe, .inl ⟨by trivial, rfl⟩⟩
  · rw [hok] at HM
    rw [Bool.and_eq_true] at hok
    obtain ⟨hv, ho1⟩ := hok
    obtain ⟨t, rfl, hs, hnn, hn16, _⟩ := pv_grid hv hp.g.1
    have hn : n = t * t := by simp at hs; rcases hs with rfl | rfl | rfl <;> omega
    have hn0 : 0 < n := by simp at hs; rcases hs with rfl | rfl | rfl <;> omega
    have hgl := hp.g.1
    have hrl := hp.r.1
    have hnr : nr ≤ 20 := by have := (pv_gv hv).2.1; omega
    have hL : ∀ i, i < nr → 0 < (rat rs i).xs.length := fun i hi => (rv_cells ((pv_gv hv).2.2 i (by omega))).1
    have HC := Lib.hid (fun (w' : World) (hb : Below w.heap.size w w') => copied_any (t : Int) Ag n cg Bg gi Ar nr cr Br rs w' (hp.below hb).rd hn0 (by omega) hL)
    have HInv := Lib.hid (fun k => minL_inv (s := t) (n := n) hv ho1 k)
    have HTz := Lib.hid (fun (w' : World) (hb : Below w.heap.size w w') => hT.below hT.lt hb)
    have HGl := Lib.hid hgl
    have HRl := Lib.hid hrl
    clear hV hx0 hb0 hs0 hp hT hxV hrow hbV hL hs hnn hn hgl hrl hv ho1
    go_enter Tryd.func34, Tryd.ntmps34
    go_wp2_with (first
      | (go_at_call 63; rw [← HV.out]; refine HM.out.mono ?_; rintro e w1 ⟨rfl, hb1⟩; obtain ⟨⟨y0, y1, y2⟩, _⟩ := HX.out _ hb1; have h01 := HbV.out.trans (hb1.mono HbV.out.size))
      | (go_at_call 67; refine (HC.out _ h01).mono ?_; rintro e w3 ⟨A3, c3, g, rfl, hown, hb3⟩; have hb13 := step hb1 hb3; have hbX : Below V.heap.size V (w3.alloc (.cells #[.int .i64 (t : Int), .slice A3 n c3, .slice (some ⟨g, 0, none⟩) nr nr] 26)) := hb13.alloc hb13.size _; obtain ⟨⟨x0, x1, x2⟩, _⟩ := HX.out _ hbX))
    have hrX := heap_alloc_new w3 (.cells #[.int .i64 (t : Int), .slice A3 n c3, .slice (some ⟨g, 0, none⟩) nr nr] 26)
    have hownX := hown.below ((Below.refl w3.heap.size w3).alloc (Nat.le_refl _) (.cells #[.int .i64 (t : Int), .slice A3 n c3, .slice (some ⟨g, 0, none⟩) nr nr] 26))
    have hV1 := hb1.size
    have hV3 := hb3.size
    have hbX3 : Below w3.heap.size w3 (w3.alloc (.cells #[.int .i64 (t : Int), .slice A3 n c3, .slice (some ⟨g, 0, none⟩) nr nr] 26)) := (Below.refl _ _).alloc (Nat.le_refl _) _
    have Hb13 := Lib.hid hb13
    clear x0 x1 x2 y0 y1 y2 z0 z1 z2 hbX hown hb3 hb1 h01 hb13
    go_loopw [15] (fun i wr => ∃ (k : Nat) (A7 : Option Addr) (c7 : Nat), k ≤ n ∧ i = .int .i64 k ∧ wr.heap[w3.heap.size]? = some (.cells #[.int .i64 (t : Int), .slice A7 n c7, .slice (some ⟨g, 0, none⟩) nr nr] 26) ∧ OwnP wr w1.heap.size A7 n c7 (minL (t : Int) n rs gi k) g nr rs ∧ Below w3.heap.size w3 wr) (fun i _ => n - (intOf i).toNat)
    case atStart => exact ⟨0, A3, c3, Nat.zero_le _, rfl, hrX, hownX, hbX3⟩
    case round =>
      obtain ⟨k, A7, c7, hk, rfl, hr7, ho7, hb7⟩ := hrel
      obtain ⟨x0, x1, x2⟩ : PBox wr w3.heap.size (t : Int) A7 n c7 (some ⟨g, 0, none⟩) nr nr := ⟨cell_of_row _ _ 0 _ _ (0, 0) hr7, cell_of_row _ _ 1 _ _ (0, 0) hr7, cell_of_row _ _ 2 _ _ (0, 0) hr7⟩
      have hsX : w3.heap.size < wr.heap.size := (Array.getElem?_eq_some_iff.1 hr7).1
      by_cases hlt : k < n
      · have hltI : (k : Int) < (n : Int) := by omega
        have hbk : Below wr.heap.size wr (wr.alloc (.cells #[.int .i64 (k : Int)] 3)) := (Below.refl _ _).alloc (Nat.le_refl _) _
        have hpk := (ho7.pgc (s := (t : Int)) (by omega) HRl.out (by omega)).below hbk
        have hbw : Below w.heap.size w (wr.alloc (.cells #[.int .i64 (k : Int)] 3)) := HbV.out.trans ((Hb13.out.trans ((step hb7 hbk).mono Hb13.out.size)).mono HbV.out.size)
        have HRb := Lib.hid (reducedBy_any (t : Int) A7 n c7 wr.heap.size (minL (t : Int) n rs gi k) (some ⟨g, 0, none⟩) nr nr wr.heap.size rs (some ⟨wr.heap.size, 0, none⟩) 1 1 (wr.heap.size + 1) [(k : Int)] (wr.alloc (.cells #[.int .i64 (k : Int)] 3)) hpk (HInv.out k).v (by omega) (HTz.out _ hbw) rd_one (by simp) (by omega) (fun i hi => by
          obtain rfl : i = 0 := by omega
          show 0 ≤ (k : Int) ∧ (k : Int) < n
          omega))
        have hlk : (minL (t : Int) n rs gi k).length = n := (minL_length _ _ _ _ k).trans HGl.out
        have HRed := Lib.hid (show redB (t : Int) n (minL (t : Int) n rs gi k) rs k = redC (t : Int) n (minL (t : Int) n rs gi k) rs [(k : Int)] 1 from (red_iff hlk (HInv.out k).v (HInv.out k).o hlt).trans (redC_one rfl).symm)
        have Hbk := Lib.hid hbk
        have Ho7 := Lib.hid ho7
        have Hb7 := Lib.hid hb7
        clear hpk hbw hlk ho7 hb7 hbk
        go_wp2_with (first
          | (go_at_call 68; refine HRb.out.mono ?_; rintro e w8 ⟨⟨A8, c8, rfl, hcase⟩, hb8⟩; have hb78 := step Hbk.out hb8; have hr8 := (hb78.block w3.heap.size hsX).trans hr7)
          | (refine wpList_store_row rfl 26 _ _ rfl w3.heap.size #[.int .i64 (t : Int), .slice A8 n c8, .slice (some ⟨g, 0, none⟩) nr nr] rfl rfl 26 #[.int .i64 (t : Int), .slice A7 n c7, .slice (some ⟨g, 0, none⟩) nr nr] hr8 (Hi.out _ _ _ _ _ _ _) rfl (Hone.out _ _ _ _ _ _ _) ?_))
        have hB8 := step Hb7.out hb78
        have hfin : OwnP w8 w1.heap.size A8 n c8 (minL (t : Int) n rs gi (k + 1)) g nr rs := by
          rcases hcase with ⟨h1, rfl, rfl⟩ | ⟨h1, h2⟩
          · have : minL (t : Int) n rs gi (k + 1) = minL (t : Int) n rs gi k := by rw [minL, HRed.out, h1]; simp
            rw [this]; exact Ho7.out.below hb78
          · have : minL (t : Int) n rs gi (k + 1) = (minL (t : Int) n rs gi k).set k 0 := by rw [minL, HRed.out, h1]; simp
            rw [this]
            exact Ho7.out.fresh hb78 (h2.mono Hbk.out.size) (Nat.le_trans hV3 (Nat.le_of_lt hsX))
        go_roundw
        case rel => exact ⟨k + 1, A8, c8, hlt, by go_num, setRow_heap _ _ _ _ _ _ hr8, hfin.setX hr8, setRow_below5 hB8 (Nat.le_refl _)⟩
        case measure => simp [intOf]; omega
      · obtain rfl : k = n := by omega
        have hbV7 : Below V.heap.size V wr := step Hb13.out hb7
        have hq7 := (HX.out _ hbV7).2
        have Ho7 := Lib.hid ho7
        have Hb7 := Lib.hid hbV7
        clear ho7 hb7 hbV7
        go_wp2_with (refine wpList_store_row rfl 26 _ _ rfl (w.heap.size + 1) #[.int .i64 (t : Int), .slice A7 k c7, .slice (some ⟨g, 0, none⟩) nr nr] rfl rfl 26 #[.int .i64 0, .slice none 0 0, .slice none 0 0] hq7 (Hi.out _ _ _ _ _ _ _) rfl (Hone.out _ _ _ _ _ _ _) ?_)
        have hBe : Below w.heap.size w (wr.setRow (w.heap.size + 1) #[.int .i64 (t : Int), .slice A7 k c7, .slice (some ⟨g, 0, none⟩) nr nr]) := setRow_below5 (HbV.out.trans (Hb7.out.mono HbV.out.size)) (by omega)
        exact bodyPost_ret (v := .tuple #[.agg #[.int .i64 (t : Int), .slice A7 k c7, .slice (some ⟨g, 0, none⟩) nr nr], .bool true]) (results_row_tmp (by rfl) _ _ (w.heap.size + 1) 26 _ (0, 0) _ _ rfl rfl (setRow_heap _ _ _ _ _ _ hq7) Tryd.underlying26 rfl (Hi.out _ _ _ _ _ _ _)) rfl ⟨hBe, .inr ⟨by trivial, A7, c7, g, rfl, (Ho7.out.setX hq7).mono (by omega)⟩⟩
end Go.Proofs.YtkeoflnmbcdmfaaDoor
set_option maxRecDepth 8000
namespace Go.Proofs.YtkeoflnmbcdmfaaDoor
open Go.ChangeShapes Go.WideShapes Go.ChangeAt Go.RowKit
set_option maxHeartbeats 2000000 in
theorem samePuzzle_any (s : Int) (Ag Ag2 : Option Addr) (cg cg2 n Bg Bg2 : Nat) (g : List Int) (Ar Ar2 : Option Addr) (cr cr2 nr B B2 : Nat) (rs : List RuleM) (w : World) (hg : Rd w Bg Ag n g) (hBg : Bg ≤ w.heap.size) (hmg : n ≤ 1099511627776) (hg2 : Rd w Bg2 Ag2 n g) (hBg2 : Bg2 ≤ w.heap.size) (h : RdRs w B Ar nr rs) (h2 : RdRs w B2 Ar2 nr rs) (hB : B ≤ w.heap.size) (hB2 : B2 ≤ w.heap.size) (hm : nr ≤ 1099511627776) :
    Calls Tryd.prog 36 #[.agg #[.int .i64 s, .slice Ag n cg, .slice Ar nr cr], .agg #[.int .i64 s, .slice Ag2 n cg2, .slice Ar2 nr cr2]] w fun e w' => e = .returned (.bool true) ∧ Below w.heap.size w w' := by
  have hx0 := pbox_new w s Ag n cg Ar nr cr 26
  have hb0 : Below w.heap.size w (w.alloc (.cells #[.int .i64 s, .slice Ag n cg, .slice Ar nr cr] 26)) := (Below.refl _ _).alloc (Nat.le_refl _) _
  have hs0 : (w.alloc (.cells #[.int .i64 s, .slice Ag n cg, .slice Ar nr cr] 26)).heap.size = w.heap.size + 1 := by simp
  obtain ⟨U, hU⟩ : ∃ U, w.alloc (.cells #[.int .i64 s, .slice Ag n cg, .slice Ar nr cr] 26) = U := ⟨_, rfl⟩
  rw [hU] at hx0 hb0 hs0
  have hy0 := pbox_new U s Ag2 n cg2 Ar2 nr cr2 26
  have hbU : Below U.heap.size U (U.alloc (.cells #[.int .i64 s, .slice Ag2 n cg2, .slice Ar2 nr cr2] 26)) := (Below.refl _ _).alloc (Nat.le_refl _) _
  have hs1 : (U.alloc (.cells #[.int .i64 s, .slice Ag2 n cg2, .slice Ar2 nr cr2] 26)).heap.size = U.heap.size + 1 := by simp
  obtain ⟨V, hV⟩ : ∃ V, U.alloc (.cells #[.int .i64 s, .slice Ag2 n cg2, .slice Ar2 nr cr2] 26) = V := ⟨_, rfl⟩
  rw [hV] at hy0 hbU hs1
  rw [hs0] at hy0
  have hbV : Below w.heap.size w V := step hb0 hbU
  have hxV := hx0.below (by omega : w.heap.size < U.heap.size) hbU
  have HX := Lib.hid (fun (w' : World) (hb : Below V.heap.size V w') => (⟨hxV.below (by omega) hb, hy0.below (by omega) hb⟩ : PBox w' w.heap.size s Ag n cg Ar nr cr ∧ PBox w' (w.heap.size + 1) s Ag2 n cg2 Ar2 nr cr2))
  have HS := Lib.hid (sameInts_any Ag Ag2 cg cg2 n n Bg Bg2 g g V (hg.below (hbV.mono hBg)) (hg2.below (hbV.mono hBg2)) hmg)
  have HR := Lib.hid (fun (w' : World) (hb : Below w.heap.size w w') => h.below (hb.mono hB))
  have HR2 := Lib.hid (fun (w' : World) (hb : Below w.heap.size w w') => h2.below (hb.mono hB2))
  have hsame := same_refl g
  have hne0 : (s != s) = false := by simp
  have hnn : ((nr : Int) != (nr : Int)) = false := by simp
  have HVe : Hid ((w.alloc (.cells #[.int .i64 s, .slice Ag n cg, .slice Ar nr cr] 26)).alloc (.cells #[.int .i64 s, .slice Ag2 n cg2, .slice Ar2 nr cr2] 26) = V) := Lib.hid (by rw [hU, hV])
  obtain ⟨z0, z1, z2⟩ := id hxV
  obtain ⟨y0, y1, y2⟩ := id hy0
  have HbV := Lib.hid hbV
  clear hg hg2 h h2 hx0 hy0 hxV hb0 hbU hbV hU hV hs0 hs1
  go_enter Tryd.func36, Tryd.ntmps36
  go_wp2_with fail
  rw [HVe.out]
  refine HS.out.mono ?_
  rintro e w1 ⟨rfl, hb1⟩
  rw [hsame]
  obtain ⟨⟨p0, p1, p2⟩, ⟨q0, q1, q2⟩⟩ := HX.out _ hb1
  clear z0 z1 z2 y0 y1 y2 hsame
  go_wp2
  go_loopw [5] (fun i wr => ∃ u : Nat, u ≤ nr ∧ i = .int .i64 u ∧ Below V.heap.size V wr) (fun i _ => nr - (intOf i).toNat)
  case atStart => exact ⟨0, Nat.zero_le _, rfl, hb1⟩
  case round =>
    obtain ⟨u, hu, rfl, hb⟩ := hrel
    obtain ⟨⟨c0, c1, c2⟩, ⟨d0, d1, d2⟩⟩ := HX.out _ hb
    have hbw0 := step HbV.out hb
    by_cases hlt : u < nr
    · obtain ⟨b, off, rfl, hbB, hcc⟩ := (HR.out _ hbw0).2 (by omega)
      obtain ⟨b2, off2, rfl, hbB2, hcc2⟩ := (HR2.out _ hbw0).2 (by omega)
      obtain ⟨A', c', r0, r1, r2, r3, r4⟩ := hcc u hlt
      obtain ⟨A'', c'', t0, t1, t2, t3, t4⟩ := hcc2 u hlt
      obtain ⟨rk, hrk⟩ : ∃ x, x = (rat rs u).k := ⟨_, rfl⟩
      obtain ⟨rx, hrx⟩ : ∃ x, x = (rat rs u).xs := ⟨_, rfl⟩
      obtain ⟨rvv, hrv⟩ : ∃ x, x = (rat rs u).v := ⟨_, rfl⟩
      rw [← hrk] at r0 t0
      rw [← hrx] at r1 r3 r4 t1 t3
      rw [← hrv] at r2 t2
      have hbw : b < wr.heap.size := cell_lt r0
      have hbw2 : b2 < wr.heap.size := cell_lt t0
      have HC := Lib.hid (fun w' (hbb : Below wr.heap.size wr w') => sameInts_any A' A'' c' c'' rx.length rx.length B B2 rx rx w' (r3.below (hbb.mono (Nat.le_trans hB hbw0.size))) (t3.below (hbb.mono (Nat.le_trans hB2 hbw0.size))) r4)
      have hsr := same_refl rx
      have hin : (u : Int) < (nr : Int) := by omega
      have Hlt := Lib.hid hlt
      have hk1 : (rk != rk) = false := by simp
      have hk2 : (rvv != rvv) = false := by simp
      have HK : Hid (∀ w', Below wr.heap.size wr w' → PBox w' w.heap.size s Ag n cg (some ⟨b, off, none⟩) nr cr ∧ PBox w' (w.heap.size + 1) s Ag2 n cg2 (some ⟨b2, off2, none⟩) nr cr2 ∧ w'.cell? ⟨b, off + u * 3, none⟩ = some (.int .i64 rk) ∧ w'.cell? ⟨b, off + u * 3 + 1, none⟩ = some (.slice A' rx.length c') ∧ w'.cell? ⟨b, off + u * 3 + 2, none⟩ = some (.int .i64 rvv) ∧ w'.cell? ⟨b2, off2 + u * 3, none⟩ = some (.int .i64 rk) ∧ w'.cell? ⟨b2, off2 + u * 3 + 1, none⟩ = some (.slice A'' rx.length c'') ∧ w'.cell? ⟨b2, off2 + u * 3 + 2, none⟩ = some (.int .i64 rvv)) :=
        Lib.hid (fun w' hb' => ⟨(HX.out _ (step hb hb')).1, (HX.out _ (step hb hb')).2, (hb'.cell (p := ⟨b, off + u * 3, none⟩) hbw).trans r0, (hb'.cell (p := ⟨b, off + u * 3 + 1, none⟩) hbw).trans r1, (hb'.cell (p := ⟨b, off + u * 3 + 2, none⟩) hbw).trans r2, (hb'.cell (p := ⟨b2, off2 + u * 3, none⟩) hbw2).trans t0, (hb'.cell (p := ⟨b2, off2 + u * 3 + 1, none⟩) hbw2).trans t1, (hb'.cell (p := ⟨b2, off2 + u * 3 + 2, none⟩) hbw2).trans t2⟩)
      clear hrk hrx hrv hcc hcc2 p0 p1 p2 q0 q1 q2
      go_wp2
      go_region_held3 (fun w' => (w'.cell? ⟨w.heap.size, 0, none⟩ = some (.int .i64 s) ∧ w'.cell? ⟨w.heap.size, 1, none⟩ = some (.slice Ag n cg) ∧ w'.cell? ⟨w.heap.size, 2, none⟩ = some (.slice (some ⟨b, off, none⟩) nr cr)) ∧ (w'.cell? ⟨w.heap.size + 1, 0, none⟩ = some (.int .i64 s) ∧ w'.cell? ⟨w.heap.size + 1, 1, none⟩ = some (.slice Ag2 n cg2) ∧ w'.cell? ⟨w.heap.size + 1, 2, none⟩ = some (.slice (some ⟨b2, off2, none⟩) nr cr2)) ∧ w'.cell? ⟨b, off + u * 3, none⟩ = some (.int .i64 rk) ∧ w'.cell? ⟨b, off + u * 3 + 1, none⟩ = some (.slice A' rx.length c') ∧ w'.cell? ⟨b, off + u * 3 + 2, none⟩ = some (.int .i64 rvv) ∧ w'.cell? ⟨b2, off2 + u * 3, none⟩ = some (.int .i64 rk) ∧ w'.cell? ⟨b2, off2 + u * 3 + 1, none⟩ = some (.slice A'' rx.length c'') ∧ w'.cell? ⟨b2, off2 + u * 3 + 2, none⟩ = some (.int .i64 rvv))
        (first | go_keep | exact HK.out _ hb5)
        ((go_simp; go_at_call 19; refine (HC.out _ (Below.refl _ _).drew).mono ?_; rintro e w5 ⟨rfl, hb4⟩; have hb5 : Below wr.heap.size wr w5 := ((Below.refl _ _).drew).trans hb4))
      all_goals
        go_wp2
        go_roundw
        case rel => exact ⟨u + 1, Hlt.out, by go_num, step hb hb5⟩
        case measure => have := Hlt.out; simp [intOf]; omega
    · obtain rfl : u = nr := by omega
      go_wp2
      go_ret
      exact ⟨rfl, hbw0⟩
end Go.Proofs.YtkeoflnmbcdmfaaDoor
set_option maxRecDepth 8000
namespace Go.Proofs.YtkeoflnmbcdmfaaDoor
open Go.ChangeShapes Go.WideShapes Go.ChangeAt Go.RowKit
theorem MkPost.no {s : Int} {n nr : Nat} {L : List Int} {rs : List RuleM} {w w' : World} {e : Ending} (h : MkPost false s n L nr rs w e w') : Below w.heap.size w w' ∧ e = .returned (.tuple #[.agg #[.int .i64 0, .slice none 0 0, .slice none 0 0], .bool false]) := by
  obtain ⟨h1, h2 | h2⟩ := h
  · exact ⟨h1, h2.2⟩
  · exact absurd h2.1 (by simp)
theorem MkPost.yes {s : Int} {n nr : Nat} {L : List Int} {rs : List RuleM} {w w' : World} {e : Ending} (h : MkPost true s n L nr rs w e w') : Below w.heap.size w w' ∧ ∃ A1 c1 g, e = .returned (.tuple #[.agg #[.int .i64 s, .slice A1 n c1, .slice (some ⟨g, 0, none⟩) nr nr], .bool true]) ∧ OwnP w' w.heap.size A1 n c1 L g nr rs := by
  obtain ⟨h1, h2 | h2⟩ := h
  · exact absurd h2.1 (by simp)
  · exact ⟨h1, h2.2⟩
theorem rd_nil {w : World} : Rd w 0 none 0 [] := ⟨rfl, fun h => absurd h (by omega)⟩
theorem rdrs_nil {w : World} : RdRs w 0 none 0 [] := ⟨rfl, fun h => absurd h (by omega)⟩
theorem same_nil (w : World) : Calls Tryd.prog 36 #[.agg #[.int .i64 0, .slice none 0 0, .slice none 0 0], .agg #[.int .i64 0, .slice none 0 0, .slice none 0 0]] w fun e w' => e = .returned (.bool true) ∧ Below w.heap.size w w' :=
  samePuzzle_any 0 none none 0 0 0 0 0 [] none none 0 0 0 0 0 [] w rd_nil (Nat.zero_le _) (by omega) rd_nil (Nat.zero_le _) rdrs_nil rdrs_nil (Nat.zero_le _) (Nat.zero_le _) (by omega)
theorem MinPost.no {s : Int} {n nr : Nat} {gi : List Int} {rs : List RuleM} {w w' : World} {e : Ending} (h : MinPost s n gi nr rs w e w') (hf : (pvB s gi rs && oneB s n gi rs) = false) : Below w.heap.size w w' ∧ e = .returned (.tuple #[.agg #[.int .i64 0, .slice none 0 0, .slice none 0 0], .bool false]) := by
  obtain ⟨h1, h2 | h2⟩ := h
  · exact ⟨h1, h2.1⟩
  · rw [hf] at h2; exact absurd h2.1 (by simp)
theorem MinPost.yes {s : Int} {n nr : Nat} {gi : List Int} {rs : List RuleM} {w w' : World} {e : Ending} (h : MinPost s n gi nr rs w e w') (hf : (pvB s gi rs && oneB s n gi rs) = true) : Below w.heap.size w w' ∧ ∃ A1 c1 A2 c2, e = .returned (.tuple #[.agg #[.int .i64 s, .slice A1 n c1, .slice A2 nr c2], .bool true]) ∧ Rd w' w'.heap.size A1 n (minL s n rs gi n) ∧ OwR w' w.heap.size (.slice A2 nr c2) rs nr := by
  obtain ⟨h1, h2 | h2⟩ := h
  · rw [hf] at h2; exact absurd h2.2 (by simp)
  · obtain ⟨_, A1, c1, A2, c2, K, e, a, b, c, d⟩ := h2
    exact ⟨h1, A1, c1, A2, c2, e, a.rd, c⟩
set_option maxHeartbeats 4000000 in
theorem minimalAgain_walk (A : Option Addr) (c n : Nat) (bs : List Int) (w : World) (h : Code_ w A n c bs) (hT : Tz w) :
    Calls Tryd.prog 13 #[.slice A n c] w fun e w' => e = .returned (.bool true) ∧ Below w.heap.size w w' := by
  by_cases hn : n ≤ 1048576
  · go_enter Tryd.func13, Tryd.ntmps13
    go_wp2_with fail
    refine (draw_DrawMakeMinimal _ _ _ _ _ h).mono ?_
    rintro e w1 ⟨s, A1, n1, c1, gi, A2, nr, c2, rs, rfl, s2, s4, hrd, hn16, hR, hl, hnr, hb1⟩
    have hx0 := pbox_new w1 s A1 n1 c1 A2 nr c2 26
    have hbA : Below w1.heap.size w1 (w1.alloc (.cells #[.int .i64 s, .slice A1 n1 c1, .slice A2 nr c2] 26)) := (Below.refl _ _).alloc (Nat.le_refl _) _
    have hpc0 : PGc w1 s A1 n1 c1 w1.heap.size gi A2 nr c2 w1.heap.size rs := ⟨hrd, Nat.le_refl _, by omega, hR.rdc hl, Nat.le_refl _, by omega⟩
    have hpcA := hpc0.below hbA
    have hsA : w1.heap.size < (w1.alloc (.cells #[.int .i64 s, .slice A1 n1 c1, .slice A2 nr c2] 26)).heap.size := by simp
    obtain ⟨W, hW⟩ : ∃ W, w1.alloc (.cells #[.int .i64 s, .slice A1 n1 c1, .slice A2 nr c2] 26) = W := ⟨_, rfl⟩
    rw [hW] at hx0 hbA hpcA hsA
    have hb0W : Below w.heap.size w W := step hb1 hbA
    have HX := Lib.hid (fun w' (hb : Below W.heap.size W w') => hx0.below (by omega : w1.heap.size < W.heap.size) hb)
    have HTz := Lib.hid (fun w' (hb : Below W.heap.size W w') => hT.below hT.lt (step hb0W hb))
    have HB := Lib.hid (fun w' (hb : Below W.heap.size W w') => step hb0W hb)
    have HI := Lib.hid (implMakeMinimal _ _ _ _ _ _ _ _ _ _ _ _ hpcA (HTz.out _ (Below.refl _ _)))
    have HS := Lib.hid (fun w' (hb : Below W.heap.size W w') => specMakeMinimal _ _ _ _ _ _ _ _ _ _ _ _ (hpcA.below hb).rd (by omega))
    have HW := Lib.hid hW
    obtain ⟨z0, z1, z2⟩ := id hx0
    have hgl := hrd.1
    clear hW hpc0 hpcA hbA hx0 hR hrd h hT
    cases hok : (pvB s gi rs && oneB s n1 gi rs)
    · have Hok := Lib.hid hok
      rw [hok] at HI
      clear hok
      go_wp2_with fail
      rw [HW.out]
      refine HI.out.mono ?_
      rintro e w2 h2
      obtain ⟨hb2, rfl⟩ := h2.no
      have hb2a : Below w2.heap.size w2 (w2.alloc (.cells #[.int .i64 0, .slice none 0 0, .slice none 0 0] 26)) := (Below.refl _ _).alloc (Nat.le_refl _) _
      have hs2a : w2.heap.size < (w2.alloc (.cells #[.int .i64 0, .slice none 0 0, .slice none 0 0] 26)).heap.size := by simp
      have hxx := pbox_new w2 0 none 0 0 none 0 0 26
      have h2a := step hb2 hb2a
      obtain ⟨y0, y1, y2⟩ := HX.out _ h2a
      clear z0 z1 z2
      go_wp2_with fail
      refine (HS.out _ h2a).mono ?_
      rintro e w3 h3
      obtain ⟨hb3, rfl⟩ := h3.no Hok.out
      have hb3a : Below w3.heap.size w3 (w3.alloc (.cells #[.int .i64 0, .slice none 0 0, .slice none 0 0] 26)) := (Below.refl _ _).alloc (Nat.le_refl _) _
      have h3a := step h2a (step hb3 hb3a)
      obtain ⟨x0, x1, x2⟩ := hxx.below hs2a (step hb3 hb3a)
      clear y0 y1 y2
      go_wp2_with fail
      refine (same_nil _).mono ?_
      rintro e w4 ⟨rfl, hb4⟩
      have h4 := step h3a hb4
      go_wp2_with (go_at_call 21; (with_reducible refine (alive_any _).mono ?_); rintro e w6 ⟨rfl, hb6⟩)
      go_ret
      exact ⟨rfl, HB.out _ (step h4 hb6)⟩
    · have Hok := Lib.hid hok
      rw [hok] at HI
      rw [Bool.and_eq_true] at hok
      obtain ⟨hv, ho⟩ := hok
      obtain ⟨t, rfl, hs, hnn, _, _⟩ := pv_grid hv hgl
      have hnn2 : n1 = t * t := by simp at hs; rcases hs with rfl | rfl | rfl <;> omega
      have hinv := minL_inv (s := t) (n := n1) hv ho n1
      have hag := minL_again (s := t) hgl hnn2 hv ho
      have hXl : (minL (t : Int) n1 rs gi n1).length = n1 := (minL_length _ _ _ _ _).trans hgl
      obtain ⟨X, hX⟩ : ∃ X, X = minL (t : Int) n1 rs gi n1 := ⟨_, rfl⟩
      rw [← hX] at HI hinv hag hXl
      have HSy := Lib.hid (fun w' e w'' (h : MinPost (t : Int) n1 gi nr rs w' e w'') => by
        have := h.yes Hok.out
        rw [← hX] at this
        exact this)
      have Hag := Lib.hid hag
      have Hok2 : Hid ((pvB (t : Int) X rs && oneB (t : Int) n1 X rs) = true) := Lib.hid (by rw [hinv.v, hinv.o]; rfl)
      have Hrl := Lib.hid hl
      have hnr2 : nr ≤ 1099511627776 := by omega
      have hgm : n1 ≤ 1099511627776 := by omega
      clear hX hinv hag hv ho hs hnn hnn2 hgl hXl
      go_wp2_with fail
      rw [HW.out]
      refine HI.out.mono ?_
      rintro e w2 h2
      obtain ⟨hb2, A3, c3, g3, rfl, hown⟩ := h2.yes
      have hb2a : Below w2.heap.size w2 (w2.alloc (.cells #[.int .i64 (t : Int), .slice A3 n1 c3, .slice (some ⟨g3, 0, none⟩) nr nr] 26)) := (Below.refl _ _).alloc (Nat.le_refl _) _
      have hs2a : w2.heap.size < (w2.alloc (.cells #[.int .i64 (t : Int), .slice A3 n1 c3, .slice (some ⟨g3, 0, none⟩) nr nr] 26)).heap.size := by simp
      have hxx := pbox_new w2 (t : Int) A3 n1 c3 (some ⟨g3, 0, none⟩) nr nr 26
      have h2a := step hb2 hb2a
      have hpx := (hown.pgc (s := (t : Int)) hgm Hrl.out hnr2).below hb2a
      have HPx := Lib.hid (fun w' (hb : Below (w2.alloc (.cells #[.int .i64 (t : Int), .slice A3 n1 c3, .slice (some ⟨g3, 0, none⟩) nr nr] 26)).heap.size (w2.alloc (.cells #[.int .i64 (t : Int), .slice A3 n1 c3, .slice (some ⟨g3, 0, none⟩) nr nr] 26)) w') => (⟨hpx.below hb, hxx.below hs2a hb⟩ : PGc w' (t : Int) A3 n1 c3 w2.heap.size X (some ⟨g3, 0, none⟩) nr nr w2.heap.size rs ∧ PBox w' w2.heap.size (t : Int) A3 n1 c3 (some ⟨g3, 0, none⟩) nr nr))
      obtain ⟨y0, y1, y2⟩ := HX.out _ h2a
      clear z0 z1 z2 hown hpx hxx
      go_wp2_with fail
      refine (HS.out _ h2a).mono ?_
      rintro e w3 h3
      obtain ⟨hb3, A5, c5, A6, c6, rfl, hr5, hor6⟩ := HSy.out _ _ _ h3
      have hb3a : Below w3.heap.size w3 (w3.alloc (.cells #[.int .i64 (t : Int), .slice A5 n1 c5, .slice A6 nr c6] 26)) := (Below.refl _ _).alloc (Nat.le_refl _) _
      have h23a := step hb3 hb3a
      have h3a := step h2a h23a
      obtain ⟨hpx3, x0, x1, x2⟩ := HPx.out _ h23a
      have HSP := Lib.hid (samePuzzle_any (t : Int) A3 A5 c3 c5 n1 w2.heap.size w3.heap.size X (some ⟨g3, 0, none⟩) A6 nr c6 nr w2.heap.size w3.heap.size rs (w3.alloc (.cells #[.int .i64 (t : Int), .slice A5 n1 c5, .slice A6 nr c6] 26)) hpx3.g hpx3.gB hgm (hr5.below hb3a) hb3a.size hpx3.r.rd ((hor6.rd Hrl.out).below hb3a) hpx3.rB hb3a.size hnr2)
      clear y0 y1 y2 hpx3 hr5 hor6
      go_wp2_with fail
      refine HSP.out.mono ?_
      rintro e w4 ⟨rfl, hb4⟩
      have h24 := step h23a hb4
      obtain ⟨hpx4, u0, u1, u2⟩ := HPx.out _ h24
      have HI4 := implMakeMinimal _ _ _ _ _ _ _ _ _ _ _ _ hpx4 (HTz.out _ (step h2a h24))
      rw [Hok2.out, Hag.out] at HI4
      have HI4 := Lib.hid HI4
      clear x0 x1 x2 hpx4
      go_wp2_with fail
      refine HI4.out.mono ?_
      rintro e w5 h5
      obtain ⟨hb5, A7, c7, g7, rfl, hown7⟩ := h5.yes
      have hb5a : Below w5.heap.size w5 (w5.alloc (.cells #[.int .i64 (t : Int), .slice A7 n1 c7, .slice (some ⟨g7, 0, none⟩) nr nr] 26)) := (Below.refl _ _).alloc (Nat.le_refl _) _
      have h25a := step h24 (step hb5 hb5a)
      obtain ⟨hpx5, v0, v1, v2⟩ := HPx.out _ h25a
      have hp7 := (hown7.pgc (s := (t : Int)) hgm Hrl.out hnr2).below hb5a
      have HSP5 := Lib.hid (samePuzzle_any (t : Int) A7 A3 c7 c3 n1 w5.heap.size w2.heap.size X (some ⟨g7, 0, none⟩) (some ⟨g3, 0, none⟩) nr nr nr w5.heap.size w2.heap.size rs (w5.alloc (.cells #[.int .i64 (t : Int), .slice A7 n1 c7, .slice (some ⟨g7, 0, none⟩) nr nr] 26)) hp7.g hp7.gB hgm hpx5.g hpx5.gB hp7.r.rd hpx5.r.rd hp7.rB hpx5.rB hnr2)
      clear u0 u1 u2 hpx5 hp7 hown7
      go_wp2_with (go_at_call 36; refine HSP5.out.mono ?_; rintro e w6 ⟨rfl, hb6⟩)
      go_ret
      exact ⟨rfl, HB.out _ (step (step h2a h25a) hb6)⟩
  · go_enter Tryd.func13, Tryd.ntmps13
    go_wp2
    go_ret
    exact ⟨rfl, Below.refl _ _⟩
end Go.Proofs.YtkeoflnmbcdmfaaDoor
set_option maxRecDepth 8000
namespace Go.Proofs.YtkeoflnmbcdmfaaDoor
open Go.ChangeShapes Go.WideShapes Go.ChangeAt Go.RowKit
set_option maxHeartbeats 1000000 in
theorem makeMinimal_walk (A : Option Addr) (c n : Nat) (bs : List Int) (w : World) (h : Code_ w A n c bs) (hT : Tz w) :
    Calls Tryd.prog 7 #[.slice A n c] w fun e w' => e = .returned (.bool true) ∧ Below w.heap.size w w' := by
  by_cases hn : n ≤ 1048576
  · go_enter Tryd.func7, Tryd.ntmps7
    go_wp2_with fail
    refine (draw_DrawMakeMinimal _ _ _ _ _ h).mono ?_
    rintro e w1 ⟨s, A1, n1, c1, gi, A2, nr, c2, rs, rfl, s2, s4, hrd, hn16, hR, hl, hnr, hb1⟩
    have hx0 := pbox_new w1 s A1 n1 c1 A2 nr c2 26
    have hbA : Below w1.heap.size w1 (w1.alloc (.cells #[.int .i64 s, .slice A1 n1 c1, .slice A2 nr c2] 26)) := (Below.refl _ _).alloc (Nat.le_refl _) _
    have hpc0 : PGc w1 s A1 n1 c1 w1.heap.size gi A2 nr c2 w1.heap.size rs := ⟨hrd, Nat.le_refl _, by omega, hR.rdc hl, Nat.le_refl _, by omega⟩
    have hpcA := hpc0.below hbA
    have hsA : w1.heap.size < (w1.alloc (.cells #[.int .i64 s, .slice A1 n1 c1, .slice A2 nr c2] 26)).heap.size := by simp
    obtain ⟨W, hW⟩ : ∃ W, w1.alloc (.cells #[.int .i64 s, .slice A1 n1 c1, .slice A2 nr c2] 26) = W := ⟨_, rfl⟩
    rw [hW] at hx0 hbA hpcA hsA
    have hb0W : Below w.heap.size w W := step hb1 hbA
    have HX := Lib.hid (fun w' (hb : Below W.heap.size W w') => hx0.below (by omega : w1.heap.size < W.heap.size) hb)
    have HPc := Lib.hid (fun w' (hb : Below W.heap.size W w') => hpcA.below hb)
    have HTz := Lib.hid (fun w' (hb : Below W.heap.size W w') => hT.below hT.lt (step hb0W hb))
    have HB := Lib.hid (fun w' (hb : Below W.heap.size W w') => step hb0W hb)
    have HI := Lib.hid (implMakeMinimal _ _ _ _ _ _ _ _ _ _ _ _ hpcA (HTz.out _ (Below.refl _ _)))
    have HS := Lib.hid (fun w' (hb : Below W.heap.size W w') => specMakeMinimal _ _ _ _ _ _ _ _ _ _ _ _ (hpcA.below hb).rd (by omega))
    have HW := Lib.hid hW
    obtain ⟨z0, z1, z2⟩ := id hx0
    have hgl := hrd.1
    clear hW hpc0 hpcA hbA hx0 hR hrd h hT
    cases hok : (pvB s gi rs && oneB s n1 gi rs)
    · have Hok := Lib.hid hok
      rw [hok] at HI
      clear hok
      go_wp2_with fail
      rw [HW.out]
      refine HI.out.mono ?_
      rintro e w2 h2
      obtain ⟨hb2, rfl⟩ := h2.no
      have hb2a : Below w2.heap.size w2 (w2.alloc (.cells #[.int .i64 0, .slice none 0 0, .slice none 0 0] 26)) := (Below.refl _ _).alloc (Nat.le_refl _) _
      have hs2a : w2.heap.size < (w2.alloc (.cells #[.int .i64 0, .slice none 0 0, .slice none 0 0] 26)).heap.size := by simp
      have hxx := pbox_new w2 0 none 0 0 none 0 0 26
      have h2a := step hb2 hb2a
      obtain ⟨y0, y1, y2⟩ := HX.out _ h2a
      clear z0 z1 z2
      go_wp2_with fail
      refine (HS.out _ h2a).mono ?_
      rintro e w3 h3
      obtain ⟨hb3, rfl⟩ := h3.no Hok.out
      have hb3a : Below w3.heap.size w3 (w3.alloc (.cells #[.int .i64 0, .slice none 0 0, .slice none 0 0] 26)) := (Below.refl _ _).alloc (Nat.le_refl _) _
      have h3a := step h2a (step hb3 hb3a)
      obtain ⟨x0, x1, x2⟩ := hxx.below hs2a (step hb3 hb3a)
      clear y0 y1 y2
      go_wp2_with fail
      refine (same_nil _).mono ?_
      rintro e w4 ⟨rfl, hb4⟩
      have h4 := step h3a hb4
      obtain ⟨u0, u1, u2⟩ := hxx.below hs2a (step (step hb3 hb3a) hb4)
      clear x0 x1 x2
      go_wp2_with (go_at_call 21; (with_reducible refine (alive_any _).mono ?_); rintro e w6 ⟨rfl, hb6⟩)
      go_ret
      exact ⟨rfl, HB.out _ (step h4 hb6)⟩
    · have Hok := Lib.hid hok
      rw [hok] at HI
      rw [Bool.and_eq_true] at hok
      obtain ⟨hv, ho⟩ := hok
      obtain ⟨t, rfl, hs, hnn, _, _⟩ := pv_grid hv hgl
      have hnn2 : n1 = t * t := by simp at hs; rcases hs with rfl | rfl | rfl <;> omega
      have hinv := minL_inv (s := t) (n := n1) hv ho n1
      have hXl : (minL (t : Int) n1 rs gi n1).length = n1 := (minL_length _ _ _ _ _).trans hgl
      obtain ⟨X, hX⟩ : ∃ X, X = minL (t : Int) n1 rs gi n1 := ⟨_, rfl⟩
      rw [← hX] at HI hinv hXl
      have HSy := Lib.hid (fun w' e w'' (h : MinPost (t : Int) n1 gi nr rs w' e w'') => by
        have := h.yes Hok.out
        rw [← hX] at this
        exact this)
      have HSf := Lib.hid (sf_same (s := t) hgl hv hinv.v hnn2 hinv.l ho hinv.o)
      have HMb := Lib.hid (show minB (t : Int) n1 X rs = true by rw [hX]; exact minL_minB hgl hnn2 hv ho)
      have HLe := Lib.hid hinv.l.2
      have HSb := Lib.hid (show sfB (t : Int) n1 gi rs = true by
        obtain ⟨y, hy⟩ := List.length_eq_one_iff.1 ((one_iff hgl hv hnn2).1 ho)
        exact (sf_cons hgl hv hnn2 hy).2)
      have hn0 : 0 < n1 := by simp at hs; rcases hs with rfl | rfl | rfl <;> omega
      have Hrl := Lib.hid hl
      have hnr2 : nr ≤ 1099511627776 := by omega
      have hgm : n1 ≤ 1099511627776 := by omega
      clear hX hinv hv ho hs hnn hnn2 hgl hXl
      go_wp2_with fail
      rw [HW.out]
      refine HI.out.mono ?_
      rintro e w2 h2
      obtain ⟨hb2, A3, c3, g3, rfl, hown⟩ := h2.yes
      have hb2a : Below w2.heap.size w2 (w2.alloc (.cells #[.int .i64 (t : Int), .slice A3 n1 c3, .slice (some ⟨g3, 0, none⟩) nr nr] 26)) := (Below.refl _ _).alloc (Nat.le_refl _) _
      have hs2a : w2.heap.size < (w2.alloc (.cells #[.int .i64 (t : Int), .slice A3 n1 c3, .slice (some ⟨g3, 0, none⟩) nr nr] 26)).heap.size := by simp
      have hxx := pbox_new w2 (t : Int) A3 n1 c3 (some ⟨g3, 0, none⟩) nr nr 26
      have h2a := step hb2 hb2a
      have hpx := (hown.pgc (s := (t : Int)) hgm Hrl.out hnr2).below hb2a
      have HPx := Lib.hid (fun w' (hb : Below (w2.alloc (.cells #[.int .i64 (t : Int), .slice A3 n1 c3, .slice (some ⟨g3, 0, none⟩) nr nr] 26)).heap.size (w2.alloc (.cells #[.int .i64 (t : Int), .slice A3 n1 c3, .slice (some ⟨g3, 0, none⟩) nr nr] 26)) w') => (⟨hpx.below hb, hxx.below hs2a hb⟩ : PGc w' (t : Int) A3 n1 c3 w2.heap.size X (some ⟨g3, 0, none⟩) nr nr w2.heap.size rs ∧ PBox w' w2.heap.size (t : Int) A3 n1 c3 (some ⟨g3, 0, none⟩) nr nr))
      obtain ⟨y0, y1, y2⟩ := HX.out _ h2a
      clear z0 z1 z2 hown hpx hxx
      go_wp2_with fail
      refine (HS.out _ h2a).mono ?_
      rintro e w3 h3
      obtain ⟨hb3, A5, c5, A6, c6, rfl, hr5, hor6⟩ := HSy.out _ _ _ h3
      have hb3a : Below w3.heap.size w3 (w3.alloc (.cells #[.int .i64 (t : Int), .slice A5 n1 c5, .slice A6 nr c6] 26)) := (Below.refl _ _).alloc (Nat.le_refl _) _
      have h23a := step hb3 hb3a
      have h3a := step h2a h23a
      obtain ⟨hpx3, x0, x1, x2⟩ := HPx.out _ h23a
      have HSP := Lib.hid (samePuzzle_any (t : Int) A3 A5 c3 c5 n1 w2.heap.size w3.heap.size X (some ⟨g3, 0, none⟩) A6 nr c6 nr w2.heap.size w3.heap.size rs (w3.alloc (.cells #[.int .i64 (t : Int), .slice A5 n1 c5, .slice A6 nr c6] 26)) hpx3.g hpx3.gB hgm (hr5.below hb3a) hb3a.size hpx3.r.rd ((hor6.rd Hrl.out).below hb3a) hpx3.rB hb3a.size hnr2)
      clear y0 y1 y2 hpx3 hr5 hor6
      go_wp2_with fail
      refine HSP.out.mono ?_
      rintro e w4 ⟨rfl, hb4⟩
      have h24 := step h23a hb4
      obtain ⟨hpx4, u0, u1, u2⟩ := HPx.out _ h24
      have HPx4 := Lib.hid (fun w' (hb : Below w4.heap.size w4 w') => HPx.out _ (step h24 hb))
      have HP4 := Lib.hid (fun w' (hb : Below w4.heap.size w4 w') => HPc.out _ (step h2a (step h24 hb)))
      have HXp := Lib.hid (fun w' (hb : Below w4.heap.size w4 w') => HX.out _ (step h2a (step h24 hb)))
      obtain ⟨bp, op_, rfl, hbp, _⟩ := (HP4.out _ (Below.refl _ _)).g.at_ hn0
      obtain ⟨bx, ox, rfl, hbx, _⟩ := hpx4.g.at_ hn0
      clear x0 x1 x2 hpx4 u0 u1 u2
      go_wp2
      go_loopw [8] (fun i wr => ∃ k : Nat, k ≤ n1 ∧ i = .int .i64 k ∧ Below w4.heap.size w4 wr) (fun i _ => n1 - (intOf i).toNat)
      case atStart => exact ⟨0, Nat.zero_le _, rfl, Below.refl _ _⟩
      case round =>
        obtain ⟨k, hk, rfl, hR⟩ := hrel
        obtain ⟨hpk, v0, v1, v2⟩ := HPx4.out _ hR
        obtain ⟨q0, q1, q2⟩ := HXp.out _ hR
        by_cases hlt : k < n1
        · obtain ⟨b9, o9, e9, _, hcx⟩ := hpk.g.at_ hlt
          injection e9 with e9
          injection e9 with e91 e92 _
          subst e91 e92
          obtain ⟨b8, o8, e8, _, hcp⟩ := (HP4.out _ hR).g.at_ hlt
          injection e8 with e8
          injection e8 with e81 e82 _
          subst e81 e82
          have hltI : (k : Int) < (n1 : Int) := by omega
          have Hlt := Lib.hid hlt
          have hk2 := Lib.hid hk
          obtain ⟨x, hx⟩ : ∃ x, nth X k = x := ⟨_, rfl⟩
          by_cases hz : x = 0
          · rw [hx, hz] at hcx
            clear hx hz hpk
            go_wp2
            go_quiet (fail)
            go_wp2
            go_roundw
            case rel => exact ⟨k + 1, Hlt.out, by go_num, below_drewN hR _⟩
            case measure => have := Hlt.out; simp [intOf]; omega
          · have hxp : nth gi k = x := by
              rcases HLe.out k with e | e
              · rw [← e, hx]
              · rw [hx] at e; exact absurd e hz
            rw [hx] at hcx
            rw [hxp] at hcp
            have hnz : (x != 0) = true := by rw [bne_iff_ne]; exact hz
            have hne : (x != x) = false := by simp
            clear hx hz hpk hxp
            go_wp2
            go_quiet (fail)
            go_wp2
            go_roundw
            case rel => exact ⟨k + 1, Hlt.out, by go_num, below_drewN hR _⟩
            case measure => have := Hlt.out; simp [intOf]; omega
        · obtain rfl : k = n1 := by omega
          have HA := Lib.hid (implSolveFirst _ _ _ _ _ _ _ _ _ _ _ wr (HP4.out _ hR) (HTz.out _ (step h2a (step h24 hR))))
          have hsb := HSb.out
          rw [hsb] at HA
          obtain ⟨FL, hFL⟩ : ∃ FL, FL = sfL (t : Int) k gi rs := ⟨_, rfl⟩
          rw [← hFL] at HA
          have HBx := Lib.hid (fun w' (hb : Below w4.heap.size w4 w') => by
            have := implSolveFirst _ _ _ _ _ _ _ _ _ _ _ w' (HPx4.out _ hb).1 (HTz.out _ (step h2a (step h24 hb)))
            rw [HSf.out.1, HSf.out.2, hsb, ← hFL] at this
            exact this)
          have HMi := Lib.hid (fun w' (hb : Below w4.heap.size w4 w') => by
            have := implIsMinimal _ _ _ _ _ _ _ _ _ _ _ w' (HPx4.out _ hb).1 (HTz.out _ (step h2a (step h24 hb)))
            rw [HMb.out] at this
            exact this)
          have hsame := same_refl FL
          clear hFL hsb hpk
          go_wp2_with (first
            | (go_at_call 17; (with_reducible refine (HBx.out _ hR7).mono ?_); rintro e w8 ⟨Ay, my, cy, rfl, hmy, hoy, hb8⟩; have hm8 : my = k := hmy (by trivial); rw [hm8] at hoy ⊢; have hR8 := step hR7 hb8; have hox8 := hox.rd.below hb8; have hs8 := hb8.size; obtain ⟨_, r0, r1, r2⟩ := HPx4.out _ hR8)
            | (go_at_call 17; (with_reducible refine HA.out.mono ?_); (rintro e w7 ⟨Ax, mx, cx, rfl, hmx, hox, hb7⟩; have hm7 : mx = k := hmx (by trivial); rw [hm7] at hox ⊢; have hR7 := step hR hb7; obtain ⟨_, u0, u1, u2⟩ := HPx4.out _ hR7))
            | (go_at_call 31; refine (HMi.out _ hR8).mono ?_; rintro e w9 ⟨rfl, hb9⟩; have hR9 := step hR8 hb9)
            | (go_at_call 19; refine (sameInts_any _ _ _ _ _ _ _ _ FL FL _ (hox8.below (hb9.mono hs8)) (hoy.rd.below hb9) (by omega)).mono ?_; rintro e wa ⟨rfl, hba⟩; rw [hsame]))
          go_ret
          exact ⟨by trivial, HB.out _ (step h2a (step h24 (step hR9 hba)))⟩
  · go_enter Tryd.func7, Tryd.ntmps7
    go_wp2
    go_ret
    exact ⟨rfl, Below.refl _ _⟩
end Go.Proofs.YtkeoflnmbcdmfaaDoor
