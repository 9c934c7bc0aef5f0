import Derived.Test.YtgeedgljabdllaaIm2
import Derived.Test.YtgeedgljabdllaaRev
import Derived.Test.YtgeedgljabdllaaCln
import Derived.Test.YtgeedgljabdllaaMadeJ
set_option maxRecDepth 8000
namespace Go.Proofs.Ytgeedgljabdllaa
open Go.ChangeShapes Go.WideShapes Go.ChangeAt Go.RowKit
/-- slices.Clone, of a slice that may be nil. -/
theorem clone_all (A : Option Addr) (n c B : Nat) (xs : List Int) (w : World) (h : Rd w B A n xs) (hB : B ≤ w.heap.size) (hm : n ≤ 1099511627776) :
    Calls Try.prog 62 #[.slice A n c] w fun e w' => ∃ A' c', e = .returned (.slice A' n c') ∧ Ow w' w.heap.size A' n c' xs ∧ Below w.heap.size w w' := by
  have hb0 : Below w.heap.size w (w.alloc (.cells #[] 3)) := (Below.refl _ _).alloc (Nat.le_refl _) _
  have HO := Lib.hid (Ow.made0 w w.heap.size (Nat.le_refl _))
  have HR := Lib.hid (h.below (hb0.mono hB))
  have hsO : w.heap.size ≤ (w.alloc (.cells #[] 3)).heap.size := by simp
  have hcmp := fun w' => Lib.run_eql_slice_nil (P := Try.prog) w' 28 3 A n c 0 0 Try.underlying28
  cases A with
  | none =>
    go_enter Try.func62, Try.ntmps62
    obtain rfl : n = 0 := by
      rcases Nat.eq_zero_or_pos n with h0 | h0
      · exact h0
      · obtain ⟨b, off, e, _⟩ := h.2 h0
        cases e
    have hx : xs = [] := List.length_eq_zero_iff.1 h.1
    subst hx
    go_wp2
    go_ret
    exact ⟨none, 0, rfl, Ow.nil_ _ _, Below.refl _ _⟩
  | some a =>
    go_enter Try.func62, Try.ntmps62
    go_wp2_with (at_builtin; (refine push_new rfl (.tmp 5) (.tmp 6) rfl w.heap.size (some ⟨w.heap.size, 0, none⟩) (some a) n c B xs rfl rfl HO.out HR.out hm hsO ?_); intro A1 c1 w1 ho1 hg1; have hb1 := hb0.grown hg1 hb0.size (fun k hk => HO.out.own_lo k hk))
    go_ret
    exact ⟨_, _, rfl, ho1, hb1⟩
theorem Ow.neT {w : World} {lo n c X : Nat} {A : Option Addr} {xs : List Int} {cs : Array Value} {t : TypeId} (h : Ow w lo A n c xs) (hX : w.heap[X]? = some (.cells cs t)) (hne : t ≠ 3) : (Value.slice A n c).ownBlock ≠ some X := by
  rcases h.2 with ⟨e0, _⟩ | ⟨g, cap, cur, e0, hb, hg, _⟩
  · rw [e0]; nofun
  · rw [e0]
    intro e2
    have e3 : g = X := by simpa [Value.ownBlock] using e2
    subst e3
    rw [hX] at hg
    injection hg with hg
    injection hg with _ h2 _
    exact hne h2
theorem Ow.setT {w : World} {lo n c X : Nat} {A : Option Addr} {xs : List Int} {cs cs' : Array Value} {t : TypeId} (h : Ow w lo A n c xs) (hX : w.heap[X]? = some (.cells cs t)) (hne : t ≠ 3) : Ow (w.setRow X cs') lo A n c xs :=
  World.ownsRow.kept h (row := some X) ⟨rfl, rfl, rfl, by simp, fun k _ hk => by unfold World.setRow; simp only [Array.getElem?_modify]; rw [if_neg (fun e => hk (by rw [e]))]⟩ (.inr (h.neT hX hne))
structure RvJ (V : World) (x : Nat) (A : Option Addr) (m c : Nat) (A' : Option Addr) (n c' : Nat) (cs ks : List Int) (D : Nat → Bool) (e : Nat → Value) (w : World) : Prop where
  bel : Below V.heap.size V w
  c0 : D 0 = true → e 4 = .pointer (some ⟨x, 0, none⟩)
  c1 : D 1 = true → e 5 = .slice A m c
  c2 : D 2 = true → ∃ A1 c1, e 6 = .slice A1 m c1 ∧ Ow w V.heap.size A1 m c1 cs
  c3 : D 3 = true → e 7 = .pointer (some ⟨x, 1, none⟩)
  c4 : D 4 = true → e 8 = .slice A' n c'
  c5 : D 5 = true → ∃ A1 c1 A2 c2 L, e 6 = .slice A1 m c1 ∧ e 9 = .slice A2 n c2 ∧ Ow w V.heap.size A1 m c1 cs ∧ Ow w L A2 n c2 ks ∧ V.heap.size ≤ L ∧ ∀ g, (Value.slice A1 m c1).ownBlock = some g → g < L
  c6 : D 6 = true → e 10 = .agg #[e 6, e 9]
  c7 : D 7 = true → ∃ g, e 3 = .pointer (some ⟨g, 0, none⟩) ∧ V.heap.size ≤ g ∧ g < w.heap.size ∧ (D 8 = false → w.heap[g]? = some (.cells #[.slice none 0 0, .slice none 0 0] 124 (0, 0)))
  c8 : D 8 = true → D 2 = true ∧ D 5 = true ∧ D 6 = true ∧ D 7 = true ∧ ∃ g, e 3 = .pointer (some ⟨g, 0, none⟩) ∧ V.heap.size ≤ g ∧ g < w.heap.size ∧ w.heap[g]? = some (.cells #[e 6, e 9] 124 (0, 0))
  c9 : (D 5 = true → D 2 = true) ∧ (D 6 = true → D 5 = true)
set_option maxHeartbeats 2000000 in
theorem reversed_any (A : Option Addr) (m c B : Nat) (cs : List Int) (A' : Option Addr) (n c' B' : Nat) (ks : List Int) (w : World) (h : Rd w B A m cs) (hB : B ≤ w.heap.size) (hm : m ≤ 1099511627776) (h' : Rd w B' A' n ks) (hB' : B' ≤ w.heap.size) (hn : n ≤ 1099511627776) :
    Calls Try.prog 120 #[.agg #[.slice A m c, .slice A' n c']] w fun e w' => ∃ A1 c1 A2 c2, e = .returned (.agg #[.slice A1 m c1, .slice A2 n c2]) ∧ Ow w' w.heap.size A1 m c1 cs.reverse ∧ Ow w' w.heap.size A2 n c2 ks.reverse ∧ Below w.heap.size w w' := by
  have hb0 : Below w.heap.size w (w.alloc (.cells #[.slice A m c, .slice A' n c'] 124)) := (Below.refl _ _).alloc (Nat.le_refl _) _
  obtain ⟨V, hV⟩ : ∃ V, V = (w.alloc (.cells #[.slice A m c, .slice A' n c'] 124)).alloc (.cells #[.slice none 0 0, .slice none 0 0] 124) := ⟨_, rfl⟩
  have hbV : Below w.heap.size w V := by rw [hV]; exact hb0.alloc hb0.size _
  have hsV : V.heap.size = w.heap.size + 1 + 1 := by rw [hV]; simp
  have hx0 : LBox V w.heap.size A m c A' n c' := by rw [hV]; exact (heap_alloc_old _ _ (by simp)).trans (heap_alloc_new w _)
  have hx1 : LBox V (w.heap.size + 1) none 0 0 none 0 0 := by
    rw [hV]
    have := heap_alloc_new (w.alloc (.cells #[.slice A m c, .slice A' n c'] 124)) (.cells #[.slice none 0 0, .slice none 0 0] 124)
    rwa [World.size_alloc] at this
  have HV := Lib.hid hV
  have HC1 := Lib.hid (fun (w' : World) (hb : Below V.heap.size V w') => clone_all A m c B cs w' (h.below ((hbV.trans (hb.mono hbV.size)).mono hB)) (Nat.le_trans hB (Nat.le_trans hbV.size hb.size)) hm)
  have HC2 := Lib.hid (fun (w' : World) (hb : Below V.heap.size V w') => clone_all A' n c' B' ks w' (h'.below ((hbV.trans (hb.mono hbV.size)).mono hB')) (Nat.le_trans hB' (Nat.le_trans hbV.size hb.size)) hn)
  have HX := Lib.hid (fun (w' : World) (hb : Below V.heap.size V w') => (⟨(hb.block w.heap.size (by omega)).trans hx0, (hb.block (w.heap.size + 1) (by omega)).trans hx1⟩ : LBox w' w.heap.size A m c A' n c' ∧ LBox w' (w.heap.size + 1) none 0 0 none 0 0))
  clear hV hb0
  go_enter Try.func120, Try.ntmps120
  go_wp2_with fail
  rw [← HV.out]
  refine wp_region_E [4, 5, 6, 7, 8, 9, 10, 3] (RvJ V w.heap.size A m c A' n c' cs ks) (by rfl) (by kernel_rfl) (by kernel_rfl) (by simp) ?init ?step ?fin
  case init => exact ⟨(Below.refl _ _).drew, nofun, nofun, nofun, nofun, nofun, nofun, nofun, nofun, nofun, ⟨nofun, nofun⟩⟩
  case step =>
    intro i o D a w1 K hi hoo hDi hdep hoff hJ hK hKn
    have hsz := hJ.bel.size
    obtain ⟨hl, _⟩ := HX.out w1 hJ.bel
    have z0 : w1.cell? ⟨w.heap.size, 0, none⟩ = some (.slice A m c) := (cell_of_row _ _ 0 _ _ (0, 0) hl).trans rfl
    have z1 : w1.cell? ⟨w.heap.size, 1, none⟩ = some (.slice A' n c') := (cell_of_row _ _ 1 _ _ (0, 0) hl).trans rfl
    have e1 : a.eval (.tmp 1) = .pointer (some ⟨w.heap.size, 0, none⟩) := hoff 1 (by decide)
    have hiN : i < 9 := hi
    have : i = 0 ∨ i = 1 ∨ i = 2 ∨ i = 3 ∨ i = 4 ∨ i = 5 ∨ i = 6 ∨ i = 7 ∨ i = 8 := by omega
    rcases this with rfl | rfl | rfl | rfl | rfl | rfl | rfl | rfl | rfl
    all_goals
      simp only [List.getElem?_toArray, List.getElem?_cons_zero, List.getElem?_cons_succ, Option.some.injEq] at hoo
      subst hoo
    · refine oper_valJ (v := .pointer (some ⟨w.heap.size, 0, none⟩)) (w' := w1) ?_ (hK _ _ _ rfl ?_)
      · unfold execOp
        simp only [e1]
        go_simp
      · exact ⟨hJ.bel, fun _ => rfl, hJ.c1, hJ.c2, hJ.c3, hJ.c4, hJ.c5, hJ.c6, hJ.c7, hJ.c8, hJ.c9⟩
    · have p0 := hJ.c0 (hdep ⟨0, .data⟩ (by simp) rfl)
      refine oper_valJ (v := .slice A m c) (w' := w1) ?_ (hK _ _ _ rfl ?_)
      · unfold execOp
        simp only [p0]
        go_simp
      · exact ⟨hJ.bel, hJ.c0, fun _ => rfl, hJ.c2, hJ.c3, hJ.c4, hJ.c5, hJ.c6, hJ.c7, hJ.c8, hJ.c9⟩
    · have p1 := hJ.c1 (hdep ⟨1, .data⟩ (by simp) rfl)
      have d5 : D 5 = false := by cases e : D 5; rfl; rw [hJ.c9.1 e] at hDi; cases hDi
      have d6 : D 6 = false := by cases e : D 6; rfl; rw [hJ.c9.2 e] at d5; cases d5
      have d8 : D 8 = false := by cases e : D 8; rfl; rw [(hJ.c8 e).1] at hDi; cases hDi
      refine oper_callJ (f := 62) (args := #[.slice A m c]) ?_ (HC1.out w1 hJ.bel) ?_
      · unfold execOp
        go_simp
        exact by simpa [Act.eval] using p1
      · rintro e w2 ⟨A1, c1, rfl, ho, hb⟩
        refine ⟨_, rfl, hK _ _ _ rfl ⟨hJ.bel.trans (hb.mono hJ.bel.size), hJ.c0, hJ.c1, fun _ => ⟨A1, c1, rfl, ho.mono hJ.bel.size⟩, hJ.c3, hJ.c4, fun hd => ?_, fun hd => ?_, fun hd => ?_, fun hd => ?_, ⟨fun _ => rfl, fun hd => ?_⟩⟩⟩
        · rw [show D 5 = true from hd] at d5; cases d5
        · rw [show D 6 = true from hd] at d6; cases d6
        · obtain ⟨g, q1, q2, q3, q4⟩ := hJ.c7 hd
          have := hb.size
          exact ⟨g, q1, q2, by omega, fun e => (hb.block g q3).trans (q4 d8)⟩
        · rw [show D 8 = true from hd] at d8; cases d8
        · rw [show D 6 = true from hd] at d6; cases d6
    · refine oper_valJ (v := .pointer (some ⟨w.heap.size, 1, none⟩)) (w' := w1) ?_ (hK _ _ _ rfl ?_)
      · unfold execOp
        simp only [e1]
        go_simp
      · exact ⟨hJ.bel, hJ.c0, hJ.c1, hJ.c2, fun _ => rfl, hJ.c4, hJ.c5, hJ.c6, hJ.c7, hJ.c8, hJ.c9⟩
    · have p0 := hJ.c3 (hdep ⟨3, .data⟩ (by simp) rfl)
      refine oper_valJ (v := .slice A' n c') (w' := w1) ?_ (hK _ _ _ rfl ?_)
      · unfold execOp
        simp only [p0]
        go_simp
      · exact ⟨hJ.bel, hJ.c0, hJ.c1, hJ.c2, hJ.c3, fun _ => rfl, hJ.c5, hJ.c6, hJ.c7, hJ.c8, hJ.c9⟩
    · have p1 := hJ.c4 (hdep ⟨4, .data⟩ (by simp) rfl)
      have d2 := hdep ⟨2, .chain⟩ (by simp) rfl
      have d6 : D 6 = false := by cases e : D 6; rfl; rw [hJ.c9.2 e] at hDi; cases hDi
      have d8 : D 8 = false := by cases e : D 8; rfl; rw [(hJ.c8 e).2.1] at hDi; cases hDi
      refine oper_callJ (f := 62) (args := #[.slice A' n c']) ?_ (HC2.out w1 hJ.bel) ?_
      · unfold execOp
        go_simp
        exact by simpa [Act.eval] using p1
      · rintro e w2 ⟨A2, c2, rfl, ho, hb⟩
        obtain ⟨A1, c1, q1, q2⟩ := hJ.c2 d2
        refine ⟨_, rfl, hK _ _ _ rfl ⟨hJ.bel.trans (hb.mono hJ.bel.size), hJ.c0, hJ.c1, fun _ => ⟨A1, c1, q1, q2.below hb⟩, hJ.c3, hJ.c4, fun hd => ⟨A1, c1, A2, c2, w1.heap.size, q1, rfl, q2.below hb, ho, hJ.bel.size, q2.own_hi⟩, fun hd => ?_, fun hd => ?_, fun hd => ?_, ⟨fun _ => d2, fun hd => ?_⟩⟩⟩
        · rw [show D 6 = true from hd] at d6; cases d6
        · obtain ⟨g, q1, q2, q3, q4⟩ := hJ.c7 hd
          have := hb.size
          exact ⟨g, q1, q2, by omega, fun e => (hb.block g q3).trans (q4 d8)⟩
        · rw [show D 8 = true from hd] at d8; cases d8
        · rw [show D 6 = true from hd] at d6; cases d6
    · obtain ⟨A1, c1, A2, c2, L, q1, q2, _⟩ := hJ.c5 (hdep ⟨5, .data⟩ (by simp) rfl)
      have d5 := hdep ⟨5, .data⟩ (by simp) rfl
      refine oper_valJ (v := .agg #[.slice A1 m c1, .slice A2 n c2]) (w' := w1) ?_ (hK _ _ _ rfl ?_)
      · unfold execOp
        have q1' : a.tmps[6]?.getD undef = .slice A1 m c1 := by rw [← Array.getD_eq_getD_getElem?]; exact q1
        have q2' : a.tmps[9]?.getD undef = .slice A2 n c2 := by rw [← Array.getD_eq_getD_getElem?]; exact q2
        go_simp
      · exact ⟨hJ.bel, hJ.c0, hJ.c1, hJ.c2, hJ.c3, hJ.c4, hJ.c5, fun _ => (by rw [← q1, ← q2]; rfl), hJ.c7, fun hd => (by obtain ⟨a1, a2, a3, a4, a5⟩ := hJ.c8 hd; exact ⟨a1, a2, rfl, a4, a5⟩), ⟨hJ.c9.1, fun _ => d5⟩⟩
    · have d8 : D 8 = false := by cases e : D 8; rfl; rw [(hJ.c8 e).2.2.2.1] at hDi; cases hDi
      have hb : Below w1.heap.size w1 (w1.alloc (.cells #[.slice none 0 0, .slice none 0 0] 124)) := (Below.refl _ _).alloc (Nat.le_refl _) _
      refine oper_valJ (v := .pointer (some ⟨w1.heap.size, 0, none⟩)) (w' := w1.alloc (.cells #[.slice none 0 0, .slice none 0 0] 124)) ?_ (hK _ _ _ rfl ?_)
      · unfold execOp
        go_simp
      · refine ⟨hJ.bel.trans (hb.mono hJ.bel.size), hJ.c0, hJ.c1, fun hd => ?_, hJ.c3, hJ.c4, fun hd => ?_, hJ.c6, fun _ => ⟨w1.heap.size, rfl, hJ.bel.size, by simp, fun _ => heap_alloc_new _ _⟩, fun hd => ?_, hJ.c9⟩
        · obtain ⟨A1, c1, q1, q2⟩ := hJ.c2 hd
          exact ⟨A1, c1, q1, q2.below hb⟩
        · obtain ⟨A1, c1, A2, c2, L, q1, q2, q3, q4, q5⟩ := hJ.c5 hd
          exact ⟨A1, c1, A2, c2, L, q1, q2, q3.below hb, q4.below hb, q5⟩
        · rw [show D 8 = true from hd] at d8; cases d8
    · have d6 := hdep ⟨6, .data⟩ (by simp) rfl
      have d7 := hdep ⟨7, .data⟩ (by simp) rfl
      have d5 := hJ.c9.2 d6
      obtain ⟨g, g1, g2, g3, g4⟩ := hJ.c7 d7
      obtain ⟨A1, c1, A2, c2, L, q1, q2, q3, q4, q5⟩ := hJ.c5 d5
      have q6 := hJ.c6 d6
      rw [q1, q2] at q6
      refine wp_store_row 124 (.tmp 3) (.tmp 10) rfl g #[.slice A1 m c1, .slice A2 n c2] g1 q6 124 _ (g4 hDi) (line_info _ _ _ _ _ _) rfl (by simp [Value.oneCell']) (hKn _ rfl ?_)
      have hb : Below V.heap.size w1 (w1.setRow g #[.slice A1 m c1, .slice A2 n c2]) := ⟨rfl, rfl, rfl, by simp, fun k hk => by unfold World.setRow; simp only [Array.getElem?_modify]; rw [if_neg (by omega)]⟩
      refine ⟨hJ.bel.trans hb, hJ.c0, hJ.c1, fun hd => ?_, hJ.c3, hJ.c4, fun _ => ⟨A1, c1, A2, c2, L, q1, q2, q3.setT (g4 hDi) (by decide), q4.setT (g4 hDi) (by decide), q5⟩, hJ.c6, fun _ => ⟨g, g1, g2, by simpa using g3, nofun⟩, fun _ => ⟨hJ.c9.1 d5, d5, d6, d7, g, g1, g2, by simpa using g3, ?_⟩, hJ.c9⟩
      · obtain ⟨A1', c1', r1, r2⟩ := hJ.c2 hd
        exact ⟨A1', c1', r1, r2.setT (g4 hDi) (by decide)⟩
      · show (w1.setRow g #[.slice A1 m c1, .slice A2 n c2]).heap[g]? = some (.cells #[a.eval (.tmp 6), a.eval (.tmp 9)] 124 (0, 0))
        rw [q1, q2]
        exact setRow_heap w1 g _ _ _ _ (g4 hDi)
  case fin =>
    intro D a w1 hall hdf htm hJ
    obtain ⟨A1, c1, A2, c2, L, q1, q2, q3, q4, q5, q6⟩ := hJ.c5 (hall 5 (by decide))
    obtain ⟨_, _, _, _, g, g1, g2, g3, g4⟩ := hJ.c8 (hall 8 (by decide))
    rw [q1, q2] at g4
    have hbl := hJ.bel
    have r3 : a.tmps.getD 3 undef = .pointer (some ⟨g, 0, none⟩) := g1
    obtain ⟨v4, r4⟩ : ∃ v, a.tmps.getD 4 undef = v := ⟨_, rfl⟩
    obtain ⟨v5, r5⟩ : ∃ v, a.tmps.getD 5 undef = v := ⟨_, rfl⟩
    obtain ⟨v6, r6⟩ : ∃ v, a.tmps.getD 6 undef = v := ⟨_, rfl⟩
    obtain ⟨v7, r7⟩ : ∃ v, a.tmps.getD 7 undef = v := ⟨_, rfl⟩
    obtain ⟨v8, r8⟩ : ∃ v, a.tmps.getD 8 undef = v := ⟨_, rfl⟩
    obtain ⟨v9, r9⟩ : ∃ v, a.tmps.getD 9 undef = v := ⟨_, rfl⟩
    obtain ⟨v10, r10⟩ : ∃ v, a.tmps.getD 10 undef = v := ⟨_, rfl⟩
    simp only [List.foldl_cons, List.foldl_nil, r3, r4, r5, r6, r7, r8, r9, r10, List.setIfInBounds_toArray, List.set_cons_succ, List.set_cons_zero] at htm
    clear hJ hall r3 r4 r5 r6 r7 r8 r9 r10 q1 q2 g1
    obtain ⟨tm, df⟩ := a
    dsimp only at htm hdf
    subst htm hdf
    obtain ⟨_, hx1'⟩ := HX.out w1 hbl
    have z0 : w1.cell? ⟨g, 0, none⟩ = some (.slice A1 m c1) := (cell_of_row _ _ 0 _ _ (0, 0) g4).trans rfl
    have H1 := Lib.hid (reverse_any A1 c1 m V.heap.size cs w1 q3 hm)
    have H2 := Lib.hid (fun (w2 : World) (hg2 : w1.grownBy w2 (Value.slice A1 m c1).ownBlock) => reverse_any A2 c2 n L ks w2 (q4.kept hg2 (fun b e => q6 b e)) hn)
    have HG := Lib.hid (fun (w2 : World) (hg2 : w1.grownBy w2 (Value.slice A1 m c1).ownBlock) => show w2.heap[g]? = some (.cells #[.slice A1 m c1, .slice A2 n c2] 124 (0, 0)) ∧ LBox w2 (w.heap.size + 1) none 0 0 none 0 0 from ⟨(hg2.block g g3 (fun e => q3.neT g4 (by decide) e.symm)).trans g4, (hg2.block _ (by have := hbl.size; omega) (fun e => by have := q3.own_lo _ e.symm; omega)).trans hx1'⟩)
    have HE := Lib.hid (fun (w2 w3 : World) (hg2 : w1.grownBy w2 (Value.slice A1 m c1).ownBlock) (hg3 : w2.grownBy w3 (Value.slice A2 n c2).ownBlock) (o1 : Ow w2 V.heap.size A1 m c1 cs.reverse) => show w3.heap[g]? = some (.cells #[.slice A1 m c1, .slice A2 n c2] 124 (0, 0)) ∧ LBox w3 (w.heap.size + 1) none 0 0 none 0 0 ∧ Ow w3 V.heap.size A1 m c1 cs.reverse ∧ Below w.heap.size w w3 from by
      have hq4 : Ow w2 L A2 n c2 ks := q4.kept hg2 (fun b e => q6 b e)
      obtain ⟨x1, x2⟩ := HG.out w2 hg2
      have s2 := hg2.size
      have s1 := hbl.size
      refine ⟨(hg3.block g (by omega) (fun e => hq4.neT x1 (by decide) e.symm)).trans x1, (hg3.block _ (by omega) (fun e => by have := hq4.own_lo _ e.symm; omega)).trans x2, World.ownsRow.kept o1 hg3 ?_, ?_⟩
      · cases e : (Value.slice A1 m c1).ownBlock with
        | none => exact .inl rfl
        | some b => exact .inr (fun e2 => by have h1 := q6 b e; have h2 := hq4.own_lo b e2.symm; omega)
      · have b1 : Below w.heap.size w w1 := hbV.trans (hbl.mono hbV.size)
        have b2 : Below w.heap.size w w2 := b1.grown hg2 b1.size (fun k hk => by have := q3.own_lo k hk; omega)
        exact b2.grown hg3 b2.size (fun k hk => by have := hq4.own_lo k hk; omega))
    have Hi := Lib.hid (line_info A1 m c1 A2 n c2)
    have HL : V.heap.size ≤ L := q5
    clear q3 q4 q5 q6 g2 g3 g4 hx1' hbl hx0 hx1
    go_wp2_with (first
      | (go_at_call 122; (with_reducible refine H1.out.mono ?_); rintro e w2 ⟨rfl, o1, hg2⟩; obtain ⟨x1, _⟩ := HG.out w2 hg2; have y1 : w2.cell? ⟨g, 1, none⟩ = some (.slice A2 n c2) := (cell_of_row _ _ 1 _ _ (0, 0) x1).trans rfl)
      | (go_at_call 122; (with_reducible refine (H2.out w2 hg2).mono ?_); rintro e w3 ⟨rfl, o2, hg3⟩; obtain ⟨v1, v2, v3, v4⟩ := HE.out w2 w3 hg2 hg3 o1)
      | (refine wpList_load_row rfl 124 (.tmp 3) rfl g rfl 124 #[.slice A1 m c1, .slice A2 n c2] (0, 0) _ v1 Try.underlying124 rfl Hi.out ?_; clear v1)
      | (refine wpList_store_row rfl 124 (.tmp 2) (.tmp 17) rfl (w.heap.size + 1) #[.slice A1 m c1, .slice A2 n c2] rfl rfl 124 #[.slice none 0 0, .slice none 0 0] v2 Hi.out rfl (by simp [Value.oneCell']) ?_))
    refine bodyPost_ret (v := .agg #[.slice A1 m c1, .slice A2 n c2]) (results_cell_row (by rfl) _ _ (w.heap.size + 1) 124 _ (0, 0) _ rfl (setRow_heap _ _ _ _ _ _ v2) Try.underlying124 rfl Hi.out) rfl ⟨A1, c1, A2, c2, rfl, (v3.setT v2 (by decide)).mono (by omega), (o2.setT v2 (by decide)).mono (by omega), ?_⟩
    exact v4.trans ⟨rfl, rfl, rfl, by simp, fun k hk => by unfold World.setRow; simp only [Array.getElem?_modify]; rw [if_neg (by omega)]⟩
end Go.Proofs.Ytgeedgljabdllaa
