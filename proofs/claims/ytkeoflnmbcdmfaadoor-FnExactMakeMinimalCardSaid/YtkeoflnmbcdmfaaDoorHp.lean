import Derived.Test.YtkeoflnmbcdmfaaDoorPInB
set_option maxRecDepth 8000
namespace Go.Proofs.YtkeoflnmbcdmfaaDoor
open Go.ChangeShapes Go.WideShapes Go.ChangeAt Go.RowKit
/-! marks written into a puzzle of the call's own, and found again. -/
/-- n rules' cells in a slice of the call's own, the first u filled; the cells of different rules lie in different blocks, all of them with Q. -/
def OwRd (w : World) (lo : Nat) (g n : Nat) (rs : List RuleM) (Q : Nat → Prop) (u : Nat) : Prop :=
  ∃ vs, w.ownsRow lo 63 3 (.slice (some ⟨g, 0, none⟩) n n) n vs ∧ (∀ i, i < u → ∃ A' c', vs[i * 3]? = some (.int .i64 (rat rs i).k) ∧ vs[i * 3 + 1]? = some (.slice A' (rat rs i).xs.length c') ∧ vs[i * 3 + 2]? = some (.int .i64 (rat rs i).v) ∧ Ow w lo A' (rat rs i).xs.length c' (rat rs i).xs ∧ (rat rs i).xs.length ≤ 1099511627776 ∧ ∀ b, (Value.slice A' (rat rs i).xs.length c').ownBlock = some b → (Value.slice (some ⟨g, 0, none⟩) n n).ownBlock ≠ some b ∧ Q b) ∧
    ∀ i j, i < u → j < u → i ≠ j → ∀ A m c A' m' c', vs[i * 3 + 1]? = some (.slice A m c) → vs[j * 3 + 1]? = some (.slice A' m' c') → ∀ b, (Value.slice A m c).ownBlock = some b → (Value.slice A' m' c').ownBlock ≠ some b
theorem OwRd.rp {w : World} {lo g n : Nat} {rs : List RuleM} {Q : Nat → Prop} {u : Nat} (h : OwRd w lo g n rs Q u) : OwRp w lo g n rs u := by
  obtain ⟨vs, a, b, _⟩ := h
  exact ⟨vs, a, fun i hi => by obtain ⟨A', c', e0, e1, e2, e3, e4, e5⟩ := b i hi; exact ⟨A', c', e0, e1, e2, e3, e4, fun x hx => (e5 x hx).1⟩⟩
theorem OwRd.below {w w' : World} {lo g n : Nat} {rs : List RuleM} {Q : Nat → Prop} {k : Nat} (h : OwRd w lo g n rs Q k) (hb : Below w.heap.size w w') : OwRd w' lo g n rs Q k := by
  obtain ⟨vs, hown, hin, hs⟩ := h
  refine ⟨vs, World.ownsRow.kept hown (row := none) ⟨hb.os, hb.tape, hb.output, hb.size, fun k hk _ => hb.block k hk⟩ (by
    cases e : (Value.slice (some ⟨g, 0, none⟩) n n).ownBlock
    · exact .inl rfl
    · exact .inr (by simp)), fun i hi => ?_, hs⟩
  obtain ⟨A', c', e0, e1, e2, e3, e4, e5⟩ := hin i hi
  exact ⟨A', c', e0, e1, e2, e3.below hb, e4, e5⟩
theorem OwRd.zero_ {w : World} {lo g n : Nat} {rs : List RuleM} {Q : Nat → Prop} {vs : List Value} (h : w.ownsRow lo 63 3 (.slice (some ⟨g, 0, none⟩) n n) n vs) : OwRd w lo g n rs Q 0 := ⟨vs, h, fun i hi => absurd hi (by omega), fun i j hi => absurd hi (by omega)⟩
theorem OwRd.put {w w3 : World} {lo g n u c3 : Nat} {rs : List RuleM} {Q : Nat → Prop} {A3 : Option Addr} (h : OwRd w lo g n rs Q u) (hlo : lo ≤ w.heap.size) (hu : u < n) (hb : Below w.heap.size w w3)
    (ho3 : Ow w3 w.heap.size A3 (rat rs u).xs.length c3 (rat rs u).xs) (hm : (rat rs u).xs.length ≤ 1099511627776) (hQ : ∀ b, w.heap.size ≤ b → Q b) :
    OwRd (w3.setCells g (u * 3) [.int .i64 (rat rs u).k, .slice A3 (rat rs u).xs.length c3, .int .i64 (rat rs u).v]) lo g n rs Q (u + 1) := by
  have hgw : g < w.heap.size := by
    obtain ⟨vs, hown, _⟩ := h
    exact (World.ownsRow.lt hown g (by simp [Value.ownBlock])).2
  have hold : ∀ i, i < u → ∀ vs, w.ownsRow lo 63 3 (.slice (some ⟨g, 0, none⟩) n n) n vs → True := fun _ _ _ _ => trivial
  obtain ⟨vs, hown0, hin0, hsp⟩ := h
  have hlt0 : ∀ i, i < u → ∀ A m c, vs[i * 3 + 1]? = some (.slice A m c) → ∀ b, (Value.slice A m c).ownBlock = some b → b < w.heap.size := fun i hi A m c e b hbb => by
    obtain ⟨A', c', _, e1, _, e3, _⟩ := hin0 i hi
    rw [e] at e1
    injection e1 with e1
    rw [e1] at hbb
    exact e3.own_hi b hbb
  obtain ⟨hvl, hcase⟩ := World.ownsRow.kept hown0 (row := none) ⟨hb.os, hb.tape, hb.output, hb.size, fun k hk _ => hb.block k hk⟩ (by
    cases e : (Value.slice (some ⟨g, 0, none⟩) n n).ownBlock
    · exact .inl rfl
    · exact .inr (by simp))
  rcases hcase with ⟨h1, _⟩ | ⟨g', cap, cur, hv, h2, h3, h4, h5, h6, h7⟩
  · cases h1
  · injection hv with e1 _ e2
    injection e1 with e1
    injection e1 with e1 _ _
    subst e1 e2
    have hvl3 : u * 3 + 2 < vs.length := by rw [hvl]; omega
    refine ⟨((vs.set (u * 3) (.int .i64 (rat rs u).k)).set (u * 3 + 1) (.slice A3 (rat rs u).xs.length c3)).set (u * 3 + 2) (.int .i64 (rat rs u).v), ⟨by simp [hvl], .inr ⟨g, n, _, rfl, h2, row_setCells3 _ _ _ h3, h4, h5, by simp [h6], ?_⟩⟩, fun i hi => ?_, fun i j hi hj hne A m c A' m' c' ei ej b hbb => ?_⟩
    · simp only [Array.toList_setIfInBounds, List.take_set, h7]
    · by_cases e : i = u
      · subst e
        refine ⟨A3, c3, ?_, ?_, ?_, ?_, hm, fun b hbb => ⟨fun e => ?_, hQ b (ho3.own_lo b hbb)⟩⟩
        · rw [List.getElem?_set_ne (by omega), List.getElem?_set_ne (by omega), List.getElem?_set_self (by omega)]
        · rw [List.getElem?_set_ne (by omega), List.getElem?_set_self (by simp; omega)]
        · rw [List.getElem?_set_self (by simp; omega)]
        · exact (Ow.far ho3 (row := some g) grown_setCells3 (fun b hbb e => by have := ho3.own_lo b hbb; injection e with e; omega)).mono hlo
        · have h8 := ho3.own_lo b hbb
          simp [Value.ownBlock] at e
          omega
      · obtain ⟨A', c', e0, e1, e2, e3, e4, e5⟩ := hin0 i (by omega)
        refine ⟨A', c', ?_, ?_, ?_, ?_, e4, e5⟩
        · rw [List.getElem?_set_ne (by omega), List.getElem?_set_ne (by omega), List.getElem?_set_ne (by omega)]; exact e0
        · rw [List.getElem?_set_ne (by omega), List.getElem?_set_ne (by omega), List.getElem?_set_ne (by omega)]; exact e1
        · rw [List.getElem?_set_ne (by omega), List.getElem?_set_ne (by omega), List.getElem?_set_ne (by omega)]; exact e2
        · exact Ow.far (e3.below hb) (row := some g) grown_setCells3 (fun b hbb e => (e5 b hbb).1 (by have := Option.some.inj e; simp [Value.ownBlock, this]))
    · have hnew : ∀ x, x < u → ∀ A m c, (((vs.set (u * 3) (.int .i64 (rat rs u).k)).set (u * 3 + 1) (.slice A3 (rat rs u).xs.length c3)).set (u * 3 + 2) (.int .i64 (rat rs u).v))[x * 3 + 1]? = some (.slice A m c) → vs[x * 3 + 1]? = some (.slice A m c) := fun x hx A m c e => by
        rw [List.getElem?_set_ne (by omega), List.getElem?_set_ne (by omega), List.getElem?_set_ne (by omega)] at e; exact e
      have hlast : ∀ A m c, (((vs.set (u * 3) (.int .i64 (rat rs u).k)).set (u * 3 + 1) (.slice A3 (rat rs u).xs.length c3)).set (u * 3 + 2) (.int .i64 (rat rs u).v))[u * 3 + 1]? = some (.slice A m c) → ∀ b, (Value.slice A m c).ownBlock = some b → w.heap.size ≤ b := fun A m c e b hb => by
        rw [List.getElem?_set_ne (by omega), List.getElem?_set_self (by simp; omega)] at e
        injection e with e
        rw [← e] at hb
        exact ho3.own_lo b hb
      by_cases ei' : i = u
      · subst ei'
        have q1 := hlast _ _ _ ei b hbb
        intro hbb'
        have q2 := hlt0 j (by omega) _ _ _ (hnew j (by omega) _ _ _ ej) b hbb'
        omega
      · by_cases ej' : j = u
        · subst ej'
          intro hbb'
          have q1 := hlast _ _ _ ej b hbb'
          have q2 := hlt0 i (by omega) _ _ _ (hnew i (by omega) _ _ _ ei) b hbb
          omega
        · exact hsp i j (by omega) (by omega) hne _ _ _ _ _ _ (hnew i (by omega) _ _ _ ei) (hnew j (by omega) _ _ _ ej) b hbb
/-- the numbers at which the rules' marks begin. -/
def xN (m : Int) (rs : List RuleM) : Nat → Int
  | 0 => m
  | i + 1 => xN m rs i + (rat rs i).xs.length + 2
theorem xN_bd {m : Int} {rs : List RuleM} {n : Nat} (hL : ∀ i, i < n → (rat rs i).xs.length ≤ 1048576) (h0 : 0 ≤ m) : ∀ {i : Nat}, i ≤ n → 0 ≤ xN m rs i ∧ xN m rs i ≤ m + i * 1048578 := by
  intro i
  induction i with
  | zero => intro _; simp [xN]; exact h0
  | succ i ih =>
    intro hi
    obtain ⟨a, b⟩ := ih (by omega)
    have := hL i (by omega)
    simp only [xN]
    push_cast
    omega
structure MkR (w : World) (lo g n : Nat) (rs : List RuleM) (Q : Nat → Prop) (m : Int) (u : Nat) (cur : Array Value) : Prop where
  row : w.heap[g]? = some (.cells cur 63)
  sz : n * 3 ≤ cur.size
  at_ : ∀ i, i < n → ∃ A' c', cur[i * 3 + 1]? = some (.slice A' (rat rs i).xs.length c') ∧ Ow w lo A' (rat rs i).xs.length c' (if i < u then seqI (xN m rs i + 1) (rat rs i).xs.length else (rat rs i).xs) ∧ ∀ b, (Value.slice A' (rat rs i).xs.length c').ownBlock = some b → Q b
  done : ∀ i, i < u → cur[i * 3]? = some (.int .i64 (xN m rs i)) ∧ cur[i * 3 + 2]? = some (.int .i64 (xN m rs i + 1 + (rat rs i).xs.length))
  sep : ∀ i j, i < n → j < n → i ≠ j → ∀ A k c A' k' c', cur[i * 3 + 1]? = some (.slice A k c) → cur[j * 3 + 1]? = some (.slice A' k' c') → ∀ b, (Value.slice A k c).ownBlock = some b → (Value.slice A' k' c').ownBlock ≠ some b
theorem Ow.blk_int {w : World} {lo n c : Nat} {A : Option Addr} {xs : List Int} (h : Ow w lo A n c xs) {b : Nat} (hb : (Value.slice A n c).ownBlock = some b) : ∃ cs, w.heap[b]? = some (.cells cs 3) := by
  rcases h.2 with ⟨h1, _⟩ | ⟨g, cap, cur, hv, _, hg, _⟩
  · injection h1 with e1 _ _
    subst e1
    simp [Value.ownBlock] at hb
  · injection hv with e1 _ e3
    subst e1
    simp only [Value.ownBlock, Option.some.injEq] at hb
    subst hb
    exact ⟨cur, hg⟩
theorem Ow.not_rule {w : World} {lo n c g : Nat} {A : Option Addr} {xs : List Int} {cur : Array Value} (h : Ow w lo A n c xs) (hg : w.heap[g]? = some (.cells cur 63)) : ∀ b, (Value.slice A n c).ownBlock = some b → b ≠ g := fun b hb e => by
  obtain ⟨cs, hcs⟩ := h.blk_int hb
  subst e
  rw [hcs] at hg
  injection hg with hg
  injection hg with _ h2 _
  exact absurd h2 (by decide)
theorem OwRd.mk0 {w : World} {lo g n : Nat} {rs : List RuleM} {Q : Nat → Prop} (h : OwRd w lo g n rs Q n) (m : Int) : ∃ cur, MkR w lo g n rs Q m 0 cur := by
  obtain ⟨vs, ⟨hvl, hcase⟩, hin, hsp⟩ := h
  rcases hcase with ⟨h1, _⟩ | ⟨g', cap, cur, hv, h2, h3, h4, h5, h6, h7⟩
  · cases h1
  · injection hv with e1 _ e2
    injection e1 with e1
    injection e1 with e1 _ _
    subst e1 e2
    have hcv : ∀ i, i < n → ∀ k, k < 3 → cur[i * 3 + k]? = vs[i * 3 + k]? := fun i hi k hk => by
      rw [← h7, List.getElem?_take, if_pos (by omega)]
      simp
    refine ⟨cur, h3, by omega, fun i hi => ?_, fun i hi => absurd hi (by omega), fun i j hi hj hne A k c A' k' c' ei ej => ?_⟩
    · obtain ⟨A', c', e0, e1, e2, e3, e4, e5⟩ := hin i hi
      exact ⟨A', c', (hcv i hi 1 (by omega)).trans e1, by rw [if_neg (by omega)]; exact e3, fun b hb => (e5 b hb).2⟩
    · rw [hcv i hi 1 (by omega)] at ei
      rw [hcv j hj 1 (by omega)] at ej
      exact hsp i j hi hj hne _ _ _ _ _ _ ei ej
theorem MkR.next {w w2 : World} {lo g n u c' : Nat} {rs : List RuleM} {Q : Nat → Prop} {m : Int} {cur : Array Value} {A' : Option Addr} (h : MkR w lo g n rs Q m u cur) (hu : u < n) (hA : cur[u * 3 + 1]? = some (.slice A' (rat rs u).xs.length c'))
    (ho2 : Ow w2 lo A' (rat rs u).xs.length c' (seqI (xN m rs u + 1) (rat rs u).xs.length)) (hg : (w.setCell ⟨g, u * 3, none⟩ (.int .i64 (xN m rs u))).grownBy w2 (Value.slice A' (rat rs u).xs.length c').ownBlock) :
    w2.heap[g]? = some (.cells (cur.setIfInBounds (u * 3) (.int .i64 (xN m rs u))) 63) ∧ MkR (w2.setCell ⟨g, u * 3 + 2, none⟩ (.int .i64 (xN m rs u + 1 + (rat rs u).xs.length))) lo g n rs Q m (u + 1) ((cur.setIfInBounds (u * 3) (.int .i64 (xN m rs u))).setIfInBounds (u * 3 + 2) (.int .i64 (xN m rs u + 1 + (rat rs u).xs.length))) := by
  have hgs : g < w.heap.size := (Array.getElem?_eq_some_iff.1 h.row).1
  have hsz := h.sz
  obtain ⟨Au, cu, eu, hou, hQu⟩ := h.at_ u hu
  rw [hA] at eu
  injection eu with eu
  injection eu with eA _ ec
  subst eA ec
  have hne : ∀ b, (Value.slice A' (rat rs u).xs.length c').ownBlock = some b → b ≠ g := hou.not_rule h.row
  have hr2 : w2.heap[g]? = some (.cells (cur.setIfInBounds (u * 3) (.int .i64 (xN m rs u))) 63) := by
    rw [hg.block g (by simpa using hgs) (fun e => hne g e.symm rfl)]
    exact heap_setCell_same w g (u * 3) _ _ _ h.row
  have hkeep : ∀ i, ((cur.setIfInBounds (u * 3) (.int .i64 (xN m rs u))).setIfInBounds (u * 3 + 2) (.int .i64 (xN m rs u + 1 + (rat rs u).xs.length)))[i * 3 + 1]? = cur[i * 3 + 1]? := fun i => by
    rw [Array.getElem?_setIfInBounds_ne (by omega), Array.getElem?_setIfInBounds_ne (by omega)]
  refine ⟨hr2, ⟨heap_setCell_same w2 g (u * 3 + 2) _ _ _ hr2, by simp; omega, fun i hi => ?_, fun i hi => ?_, fun i j hi hj hne' A k c A'' k' c'' ei ej => ?_⟩⟩
  · by_cases e : i = u
    · subst e
      exact ⟨A', c', (hkeep i).trans hA, by rw [if_pos (by omega)]; exact Ow.far ho2 (row := some g) grown_set (fun b hb e => hne b hb (Option.some.inj e).symm), hQu⟩
    · obtain ⟨Ai, ci, ei, hoi, hQi⟩ := h.at_ i hi
      refine ⟨Ai, ci, (hkeep i).trans ei, ?_, hQi⟩
      have e2 : (i < u + 1) = (i < u) := by simp; omega
      simp only [e2]
      have f1 : ∀ b, (Value.slice Ai (rat rs i).xs.length ci).ownBlock = some b → b ≠ g := hoi.not_rule h.row
      have o1 := Ow.far hoi (row := some g) (grown_set (w := w) (G := g) (i := u * 3) (v := .int .i64 (xN m rs u))) (fun b hb e => f1 b hb (Option.some.inj e).symm)
      have o2 := Ow.far o1 hg (fun b hb e3 => h.sep i u hi hu e _ _ _ _ _ _ ei hA b hb e3)
      exact Ow.far o2 (row := some g) grown_set (fun b hb e => f1 b hb (Option.some.inj e).symm)
  · by_cases e : i = u
    · subst e
      constructor
      · rw [Array.getElem?_setIfInBounds_ne (by omega), Array.getElem?_setIfInBounds_self_of_lt (by omega)]
      · rw [Array.getElem?_setIfInBounds_self_of_lt (by simp; omega)]
    · obtain ⟨d1, d2⟩ := h.done i (by omega)
      constructor
      · rw [Array.getElem?_setIfInBounds_ne (by omega), Array.getElem?_setIfInBounds_ne (by omega)]; exact d1
      · rw [Array.getElem?_setIfInBounds_ne (by omega), Array.getElem?_setIfInBounds_ne (by omega)]; exact d2
  · rw [hkeep] at ei ej
    exact h.sep i j hi hj hne' _ _ _ _ _ _ ei ej
/-- only the row of rules and blocks with Q have changed. -/
def ChR (g : Nat) (Q : Nat → Prop) (w w' : World) : Prop := w'.os = w.os ∧ w'.tape = w.tape ∧ w'.output = w.output ∧ w.heap.size ≤ w'.heap.size ∧ ∀ k, k < w.heap.size → k ≠ g → ¬ Q k → w'.heap[k]? = w.heap[k]?
theorem ChR.refl (g : Nat) (Q : Nat → Prop) (w : World) : ChR g Q w w := ⟨rfl, rfl, rfl, Nat.le_refl _, fun _ _ _ _ => rfl⟩
theorem ChR.trans {g : Nat} {Q : Nat → Prop} {a b c : World} (h : ChR g Q a b) (h' : ChR g Q b c) : ChR g Q a c :=
  ⟨h'.1.trans h.1, h'.2.1.trans h.2.1, h'.2.2.1.trans h.2.2.1, Nat.le_trans h.2.2.2.1 h'.2.2.2.1, fun k hk h1 h2 => (h'.2.2.2.2 k (Nat.lt_of_lt_of_le hk h.2.2.2.1) h1 h2).trans (h.2.2.2.2 k hk h1 h2)⟩
theorem ChR.of {g : Nat} {Q : Nat → Prop} {a b : World} {r : Option Nat} (h : a.grownBy b r) (hr : ∀ k, r = some k → k = g ∨ Q k) : ChR g Q a b :=
  ⟨h.os, h.tape, h.output, h.size, fun k hk h1 h2 => h.block k hk (fun e => (hr k e.symm).elim h1 h2)⟩
set_option maxHeartbeats 1000000 in
theorem markRuleS_own (g n lo : Nat) (rs : List RuleM) (Q : Nat → Prop) (m : Int) (w : World) (h : OwRd w lo g n rs Q n) (hL : ∀ i, i < n → (rat rs i).xs.length ≤ 1048576) (hn : n ≤ 1000) (h0 : 0 ≤ m) (h1 : m ≤ 1048577) :
    Calls Tryd.prog 73 #[.slice (some ⟨g, 0, none⟩) n n, .int .i64 m] w fun e w' => e = .returned (.int .i64 (xN m rs n)) ∧ (∃ cur, MkR w' lo g n rs Q m n cur) ∧ ChR g Q w w' := by
  have HL := Lib.hid hL
  have HX := Lib.hid (fun i (hi : i ≤ n) => xN_bd (m := m) hL h0 hi)
  obtain ⟨cur0, hM0⟩ := h.mk0 m
  go_enter Tryd.func73, Tryd.ntmps73
  go_wp2
  go_loopw [1, 5] (fun q i wr => ∃ (k : Nat) (x : Int), k ≤ n ∧ i = .int .i64 k ∧ q = .int .i64 x ∧ Hid (xN m rs k = x) ∧ ChR g Q w wr ∧ ∃ cur, MkR wr lo g n rs Q m k cur) (fun _ i _ => n - (intOf i).toNat)
  case atStart => exact ⟨0, m, Nat.zero_le _, rfl, rfl, Lib.hid rfl, ChR.refl _ _ _, _, hM0⟩
  case round =>
    obtain ⟨k, x, hk, rfl, rfl, hx, hch, cur, hM⟩ := hrel
    have hx := hx.out
    by_cases hlt : k < n
    · obtain ⟨A', c', e1, ho, hQ⟩ := hM.at_ k hlt
      rw [if_neg (by omega)] at ho
      have hsz := hM.sz
      have hLk := HL.out k hlt
      obtain ⟨x0, x1⟩ := HX.out k hk
      obtain ⟨x0', x1'⟩ := HX.out (k + 1) hlt
      have hc0 : wr.cell? ⟨g, k * 3, none⟩ = some (cur[k * 3]'(by omega)) := by rw [cell_of_row wr g _ cur _ (0, 0) hM.row]; exact Array.getElem?_eq_getElem _
      have hc1 : (wr.setCell ⟨g, k * 3, none⟩ (.int .i64 (xN m rs k))).cell? ⟨g, k * 3 + 1, none⟩ = some (.slice A' (rat rs k).xs.length c') := by
        rw [cell_of_row _ g _ _ _ (0, 0) (heap_setCell_same wr g (k * 3) _ _ _ hM.row), Array.getElem?_setIfInBounds_ne (by omega)]; exact e1
      have hf0 := frozen_of_row wr g (k * 3) _ _ hM.row
      have o1 := Ow.far ho (row := some g) (grown_set (w := wr) (G := g) (i := k * 3) (v := .int .i64 (xN m rs k))) (fun b hb e => ho.not_rule hM.row b hb (Option.some.inj e).symm)
      have HC := Lib.hid (markIntS_any A' c' (rat rs k).xs.length lo (rat rs k).xs (xN m rs k + 1) _ o1 (by omega) (by omega) (by omega))
      have HN := Lib.hid (fun w2 ho2 hg => hM.next (w2 := w2) hlt e1 ho2 hg)
      have HQ := Lib.hid hQ
      have Hch := Lib.hid hch
      have hx1 : xN m rs (k + 1) = xN m rs k + (rat rs k).xs.length + 2 := rfl
      have hsz3 : k * 3 + 2 < cur.size := by omega
      obtain ⟨l, hl⟩ : ∃ l, (rat rs k).xs.length = l := ⟨_, rfl⟩
      obtain ⟨y, hy⟩ : ∃ y, xN m rs (k + 1) = y := ⟨_, rfl⟩
      rw [hx, hl] at HC HN hx1
      rw [hx] at hc1 x0 x1
      rw [hl] at hc1 HQ hLk
      rw [hy] at hx1 x0' x1'
      have Hx := Lib.hid hx
      have Hy := Lib.hid hy
      have Hx1 := Lib.hid hx1
      have hX9 : x ≤ 2000000000 := by omega
      have hL9 : (l : Int) ≤ 1048576 := by omega
      clear hx hl hy ho o1 e1 hM hQ hch hM0 h hx1
      go_wp2_with (go_at_call 72; refine HC.out.mono ?_; rintro e w5 ⟨rfl, ho5, hg5⟩; rw [marked_all] at ho5; obtain ⟨hrow5, hM5⟩ := HN.out w5 ho5 hg5; have hc5 : w5.cell? ⟨g, k * 3 + 2, none⟩ = some ((cur.setIfInBounds (k * 3) (.int .i64 x))[k * 3 + 2]'(by simp; omega)) := (by rw [cell_of_row w5 g _ _ _ (0, 0) hrow5]; exact Array.getElem?_eq_getElem _); have hf5 := frozen_of_row w5 g (k * 3 + 2) _ _ hrow5)
      go_roundw
      case rel =>
        refine ⟨k + 1, y, hlt, by go_num, by rw [Hx1.out]; go_num, Hy, ?_, _, hM5⟩
        exact Hch.out.trans ((ChR.of (grown_set (w := wr) (G := g) (i := k * 3) (v := .int .i64 x)) (fun b e => .inl (Option.some.inj e).symm)).trans ((ChR.of hg5 (fun b e => .inr (HQ.out b e))).trans (ChR.of grown_set (fun b e => .inl (Option.some.inj e).symm))))
      case measure => simp [intOf]; omega
    · obtain rfl : k = n := by omega
      have Hx := Lib.hid hx
      clear hx
      go_wp2
      go_ret
      exact ⟨by rw [Hx.out]; rfl, ⟨_, hM⟩, hch⟩
/-- what the marks are when they are looked at. -/
def MkS (w : World) (g n : Nat) (rs : List RuleM) (m : Int) : Prop := ∃ cur : Array Value, w.heap[g]? = some (.cells cur 63) ∧ ∀ i, i < n → ∃ A' c', cur[i * 3]? = some (.int .i64 (xN m rs i)) ∧ cur[i * 3 + 1]? = some (.slice A' (rat rs i).xs.length c') ∧ cur[i * 3 + 2]? = some (.int .i64 (xN m rs i + 1 + (rat rs i).xs.length)) ∧ Rd w w.heap.size A' (rat rs i).xs.length (seqI (xN m rs i + 1) (rat rs i).xs.length)
theorem MkR.mks {w : World} {lo g n : Nat} {rs : List RuleM} {Q : Nat → Prop} {m : Int} {cur : Array Value} (h : MkR w lo g n rs Q m n cur) : MkS w g n rs m := ⟨cur, h.row, fun i hi => by
  obtain ⟨A', c', e1, ho, _⟩ := h.at_ i hi
  rw [if_pos hi] at ho
  obtain ⟨d1, d2⟩ := h.done i hi
  exact ⟨A', c', d1, e1, d2, ho.rd⟩⟩
theorem MkS.below {w w' : World} {g n : Nat} {rs : List RuleM} {m : Int} (h : MkS w g n rs m) (hb : Below w.heap.size w w') : MkS w' g n rs m := by
  obtain ⟨cur, hg, hin⟩ := h
  refine ⟨cur, (hb.block g (Array.getElem?_eq_some_iff.1 hg).1).trans hg, fun i hi => ?_⟩
  obtain ⟨A', c', e0, e1, e2, e3⟩ := hin i hi
  exact ⟨A', c', e0, e1, e2, (e3.below hb).more hb.size⟩
set_option maxHeartbeats 400000 in
theorem heldRuleS_own (g n : Nat) (rs : List RuleM) (m : Int) (w : World) (h : MkS w g n rs m) (hL : ∀ i, i < n → (rat rs i).xs.length ≤ 1048576) (hn : n ≤ 1000) (h0 : 0 ≤ m) (h1 : m ≤ 1048577) :
    Calls Tryd.prog 75 #[.slice (some ⟨g, 0, none⟩) n n, .int .i64 m] w fun e w' => e = .returned (.int .i64 (xN m rs n)) ∧ w = w' := by
  have HL := Lib.hid hL
  have HX := Lib.hid (fun i (hi : i ≤ n) => xN_bd (m := m) hL h0 hi)
  obtain ⟨cur, hrow, hin⟩ := h
  have HI := Lib.hid hin
  clear hin
  go_enter Tryd.func75, Tryd.ntmps75
  go_wp2
  go_loop [1, 5] (fun q i => ∃ (k : Nat) (x : Int), k ≤ n ∧ i = .int .i64 k ∧ q = .int .i64 x ∧ Hid (xN m rs k = x)) (fun _ i => n - (intOf i).toNat)
  case atStart => exact ⟨0, m, Nat.zero_le _, rfl, rfl, Lib.hid rfl⟩
  case round =>
    obtain ⟨k, x, hk, rfl, rfl, hx⟩ := hrel
    have hx := hx.out
    by_cases hlt : k < n
    · obtain ⟨A', c', e0, e1, e2, e3⟩ := HI.out k hlt
      have hLk := HL.out k hlt
      obtain ⟨x0, x1⟩ := HX.out k hk
      obtain ⟨x0', x1'⟩ := HX.out (k + 1) hlt
      have hx1 : xN m rs (k + 1) = xN m rs k + (rat rs k).xs.length + 2 := rfl
      have hc0 := (cell_of_row w g (k * 3) cur _ (0, 0) hrow).trans e0
      have hc1 := (cell_of_row w g (k * 3 + 1) cur _ (0, 0) hrow).trans e1
      have hc2 := (cell_of_row w g (k * 3 + 2) cur _ (0, 0) hrow).trans e2
      have HH := Lib.hid (heldIntS_seq A' c' (rat rs k).xs.length w.heap.size (xN m rs k + 1) w e3 (by omega) (by omega) (by omega))
      obtain ⟨l, hl⟩ : ∃ l, (rat rs k).xs.length = l := ⟨_, rfl⟩
      obtain ⟨y, hy⟩ : ∃ y, xN m rs (k + 1) = y := ⟨_, rfl⟩
      rw [hx, hl] at HH hx1 hc2
      rw [hx] at hc0 x0 x1
      rw [hl] at hc1 hLk
      rw [hy] at hx1 x0' x1'
      have Hx := Lib.hid hx
      have Hy := Lib.hid hy
      have Hx1 := Lib.hid hx1
      have hne1 : (x != x) = false := by simp
      have hX9 : x ≤ 2000000000 := by omega
      have hL9 : (l : Int) ≤ 1048576 := by omega
      have hne2 : (x + 1 + (l : Int) != x + 1 + (l : Int)) = false := by simp
      clear hx hl hy e0 e1 e2 e3 hrow hx1
      go_wp2_with (go_at_call 74; refine HH.out.mono ?_; rintro e w5 ⟨rfl, rfl⟩)
      go_round
      case rel => exact ⟨k + 1, y, hlt, by go_num, by rw [Hx1.out]; go_num, Hy⟩
      case measure => simp [intOf]; omega
    · obtain rfl : k = n := by omega
      have Hx := Lib.hid hx
      clear hx
      go_wp2
      go_ret
      exact ⟨by rw [Hx.out]; rfl, rfl⟩
end Go.Proofs.YtkeoflnmbcdmfaaDoor
