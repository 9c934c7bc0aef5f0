import Derived.Test.YtchcmgaohcldjaaGreatDoorYNr
import Derived.Test.YtchcmgaohcldjaaGreatDoorYVl
import Derived.Test.YtchcmgaohcldjaaGreatDoorYSF
import Derived.Test.YtchcmgaohcldjaaGreatDoorYMin
import Derived.Test.YtchcmgaohcldjaaGreatDoorC1
import Derived.Test.YtchcmgaohcldjaaGreatDoorYM3
import Derived.Deep.RegionHeld3
import Derived.Test.YtchcmgaohcldjaaGreatDoorYU64
import Derived.Test.YtchcmgaohcldjaaGreatDoorSix
import Derived.Deep.QuietTactic
import Derived.BigQuiet
import Derived.Test.YtchcmgaohcldjaaGreatDoorYPInD
import Derived.Test.YtchcmgaohcldjaaGreatDoorYPuzB
import Derived.Deep.RegionWith
import Derived.Test.YtchcmgaohcldjaaGreatDoorYTb
set_option maxRecDepth 8000
namespace Go.Proofs.YtchcmgaohcldjaaGreatDoor
open Go.ChangeShapes Go.WideShapes Go.ChangeAt Go.RowKit
/-! The solutions of a puzzle are those of the numbered squares that pass PuzzleSolved, in their order. -/
/-- all solved squares, in rising order. -/
def sqL (s : Nat) : List (List Int) := sols s (s * s) (zeros (s * s)) 0
theorem clash_ext {s : Nat} {g y : List Int} (hs : s ∈ [2, 3, 4]) (h : ∀ i, i < s * s → nth g i = nth y i ∨ nth g i = 0) (hc : clash g s = true) : clash y s = true := by
  obtain ⟨i, j, hi, hj, ha, e, h0⟩ := (clash_iff hs).1 hc
  have ej : nth g j = nth y j := (h j hj).resolve_right (by omega)
  have ei : nth g i = nth y i := (h i hi).resolve_right (by omega)
  exact (clash_iff hs).2 ⟨i, j, hi, hj, ha, by rw [← ei, ← ej, e], by rw [← ej]; exact h0⟩
/-- all numbered squares: of all full grids those without clashes. -/
theorem sols_enS {s : Nat} (hs : s ∈ [2, 3, 4]) : ∀ (f p : Nat) (z : List Int), p + f = s * s → z.length = s * s → 0 < f → (∀ i, p ≤ i → nth z i = 0) → sols s f z p = (enS s f z p).filter fun y => !clash y s := by
  intro f
  induction f with
  | zero => intro p z _ _ h; omega
  | succ f ih =>
    intro p z hp hl _ hz
    have hs4 : s ≤ 4 := by simp at hs; omega
    simp only [sols, enS]
    rw [if_neg (by rw [hz p (Nat.le_refl _)]; omega), List.filter_flatMap, Int.toNat_natCast]
    unfold rep
    have one : ∀ v : Nat, (if clash (z.set p (v : Int)) s = true then [] else sols s f (z.set p (v : Int)) (p + 1)) = (enS s f (z.set p (v : Int)) (p + 1)).filter fun y => !clash y s := fun v => by
      have hzs : ∀ i, p + 1 ≤ i → nth (z.set p (v : Int)) i = 0 := fun i hi => by
        have : nth (z.set p (v : Int)) i = nth z i := by simp only [nth, List.getD_eq_getElem?_getD, List.getElem?_set]; rw [if_neg (by omega)]
        rw [this]; exact hz i (by omega)
      by_cases hc : clash (z.set p (v : Int)) s = true
      · rw [if_pos hc]
        symm
        rw [List.filter_eq_nil_iff]
        intro y hy hn
        obtain ⟨a, b, c⟩ := enS_in f _ _ y hy (by rw [List.length_set]; omega)
        have := clash_ext (g := z.set p (v : Int)) (y := y) hs (fun i hi => by
          by_cases h : i < p + 1
          · exact .inl (b i h).symm
          · exact .inr (hzs i (by omega))) hc
        rw [this] at hn; cases hn
      · rw [if_neg hc]
        by_cases hf : 0 < f
        · exact ih (p + 1) _ (by omega) (by rw [List.length_set]; exact hl) hf hzs
        · obtain rfl : f = 0 := by omega
          simp only [sols, enS]
          rw [List.filter_cons_of_pos (by simpa using hc), List.filter_nil]
    have key : ∀ r v, solsFrom (fun ys => sols s f ys (p + 1)) z s p r v = (seqN v r).flatMap fun x => (enS s f (z.set p x) (p + 1)).filter fun y => !clash y s := by
      intro r
      induction r with
      | zero => intro v; rfl
      | succ r ihr =>
        intro v
        simp only [solsFrom, seqN, List.flatMap_cons]
        rw [ihr (v + 1), one v]
    exact key s 1
theorem sqL_is {s : Nat} (hs : s ∈ [2, 3, 4]) : sqL s = (enS s (s * s) (zeros (s * s)) 0).filter fun y => !clash y s :=
  sols_enS hs (s * s) 0 _ (by omega) (zeros_length _) (by simp at hs; rcases hs with rfl | rfl | rfl <;> decide) (fun i _ => zeros_nth _ i)
theorem flat_one {α β : Type} {L : List α} {f : α → List β} {a : α} (hn : L.Nodup) (ha : a ∈ L) (h : ∀ x ∈ L, x ≠ a → f x = []) : L.flatMap f = f a := by
  induction L with
  | nil => cases ha
  | cons b L ih =>
    rw [List.flatMap_cons]
    rw [List.nodup_cons] at hn
    rcases List.mem_cons.1 ha with rfl | h2
    · rw [flat_none (fun x hx => h x (List.mem_cons_of_mem _ hx) (fun e => hn.1 (by rw [← e]; exact hx))), List.append_nil]
    · rw [h b (List.mem_cons_self ..) (fun e => hn.1 (by rw [e]; exact h2)), List.nil_append]
      exact ih hn.2 h2 (fun x hx => h x (List.mem_cons_of_mem _ hx))
theorem seqN_nodup : ∀ r v, (seqN v r).Nodup := by
  intro r
  induction r with
  | zero => intro v; simp [seqN]
  | succ r ih =>
    intro v
    simp only [seqN, List.nodup_cons]
    refine ⟨fun h => ?_, ih (v + 1)⟩
    obtain ⟨u, e, h1, _⟩ := seqN_mem.1 h
    omega
/-- a grid has all that is given, from cell p on. -/
def agF (g y : List Int) (p m : Nat) : Bool := (List.range m).all fun i => decide (i < p) || !(decide (0 < nth g i)) || (nth y i == nth g i)
theorem agF_iff {g y : List Int} {p m : Nat} : agF g y p m = true ↔ ∀ i, p ≤ i → i < m → 0 < nth g i → nth y i = nth g i := by
  simp only [agF, List.all_eq_true, List.mem_range, Bool.or_eq_true, decide_eq_true_eq, Bool.not_eq_true', decide_eq_false_iff_not, beq_iff_eq]
  constructor
  · intro h i h1 h2 h3
    rcases h i h2 with (h | h) | h
    · omega
    · exact absurd h3 h
    · exact h
  · intro h i hi
    by_cases h1 : i < p
    · exact .inl (.inl h1)
    · by_cases h2 : 0 < nth g i
      · exact .inr (h i (by omega) hi h2)
      · exact .inl (.inr h2)
theorem enS_agree {s : Nat} : ∀ (f p : Nat) (g z : List Int), p + f = z.length → g.length = z.length → (∀ i, i < p → nth g i = nth z i) → (∀ i, p ≤ i → nth z i = 0) → (∀ i, p ≤ i → i < p + f → 0 < nth g i → nth g i ∈ rep s) → enS s f g p = (enS s f z p).filter fun y => agF g y p (p + f) := by
  intro f
  induction f with
  | zero =>
    intro p g z hp hl hpre hz hin
    obtain rfl : g = z := ext_nth hl (fun k hk => hpre k (by omega))
    simp only [enS]
    rw [List.filter_cons_of_pos (by exact agF_iff.2 (fun i h1 h2 => by omega)), List.filter_nil]
  | succ f ih =>
    intro p g z hp hl hpre hz hin
    have hset : ∀ (x : Int) (i : Nat), p + 1 ≤ i → nth (z.set p x) i = 0 := fun x i hi => by
      rw [nth_set (by omega), if_neg (by omega)]; exact hz i (by omega)
    have hq : ∀ (x : Int) y, y ∈ enS s f (z.set p x) (p + 1) → nth y p = x := fun x y hy => by
      obtain ⟨_, b, _⟩ := enS_in f _ _ y hy (by rw [List.length_set]; omega)
      rw [b p (by omega), nth_set (by omega), if_pos rfl]
    simp only [enS]
    rw [if_neg (show ¬ 0 < nth z p by rw [hz p (Nat.le_refl _)]; omega), List.filter_flatMap]
    by_cases h0 : 0 < nth g p
    · rw [if_pos h0, flat_one (a := nth g p) (show (rep s).Nodup from seqN_nodup s 1) (hin p (Nat.le_refl _) (by omega) h0)]
      · rw [ih (p + 1) g (z.set p (nth g p)) (by rw [List.length_set]; omega) (by rw [List.length_set]; exact hl) (fun i hi => by
          rw [nth_set (by omega)]
          by_cases e : p = i
          · subst e; rw [if_pos rfl]
          · rw [if_neg e]; exact hpre i (by omega)) (hset _) (fun i h1 h2 => hin i (by omega) (by omega))]
        apply List.filter_congr
        intro y hy
        rw [Bool.eq_iff_iff, agF_iff, agF_iff]
        constructor
        · intro h i h1 h2 h3
          by_cases e : i = p
          · subst e; exact hq _ y hy
          · exact h i (by omega) (by omega) h3
        · intro h i h1 h2 h3; exact h i (by omega) (by omega) h3
      · intro x _ hne
        rw [List.filter_eq_nil_iff]
        intro y hy hag
        have := agF_iff.1 hag p (Nat.le_refl _) (by omega) h0
        rw [hq x y hy] at this
        exact hne this
    · rw [if_neg h0]
      apply flat_congr
      intro x hx
      rw [ih (p + 1) (g.set p x) (z.set p x) (by rw [List.length_set]; omega) (by rw [List.length_set, List.length_set]; exact hl) (fun i hi => by
          rw [nth_set (by omega), nth_set (by omega)]
          split
          · rfl
          · exact hpre i (by omega)) (hset x) (fun i h1 h2 h3 => by
            rw [nth_set (by omega), if_neg (by omega)] at h3 ⊢
            exact hin i (by omega) (by omega) h3)]
      apply List.filter_congr
      intro y hy
      rw [Bool.eq_iff_iff, agF_iff, agF_iff]
      constructor
      · intro h i h1 h2 h3
        by_cases e : i = p
        · subst e; exact absurd h3 h0
        · have := h i (by omega) (by omega) (by rw [nth_set (by omega), if_neg (by omega)]; exact h3)
          rw [nth_set (by omega), if_neg (by omega)] at this
          exact this
      · intro h i h1 h2 h3
        rw [nth_set (by omega), if_neg (by omega)] at h3 ⊢
        exact h i (by omega) (by omega) h3
/-- the solutions: of the numbered squares those that pass. -/
theorem solL_is {s : Nat} {gi : List Int} {rs : List RuleM} (hv : pvB s gi rs = true) : solL s gi rs = (sqL s).filter (psB s gi rs) := by
  obtain ⟨t, ht, hs, hn, _, hok⟩ := pv_grid hv rfl
  obtain rfl : s = t := by omega
  obtain ⟨hgi, _, hr⟩ := pv_gv hv
  have hl : gi.length = s * s := by
    simp at hs
    rcases hs with rfl | rfl | rfl <;> omega
  rw [hl] at hok
  have hzl := zeros_length (s * s)
  unfold solL
  rw [hl, sqL_is hs, enS_agree (s * s) 0 gi (zeros (s * s)) (by omega) (by omega) (fun i hi => absurd hi (by omega)) (fun i _ => zeros_nth _ i) (fun i _ h2 h3 => by
    have := hok i (by omega)
    exact rep_mem.2 ⟨(nth gi i).toNat, by omega, by omega, by omega⟩), List.filter_filter, List.filter_filter]
  apply List.filter_congr
  intro y hy
  obtain ⟨a, _, c⟩ := enS_in _ _ _ y hy (by omega)
  rw [hzl] at a c
  have hfull : ∀ i, i < s * s → 1 ≤ nth y i ∧ nth y i ≤ (s : Int) := fun i hi => by
    obtain ⟨u, e, u1, u2⟩ := rep_mem.1 ((c i (by omega) hi).2 (by rw [zeros_nth]; omega))
    omega
  have hgy : gv y s = true := okAll_gv' hs a (fun i hi => by have := hfull i hi; omega)
  have hps : psB s gi rs y = fpB s gi rs y := by
    unfold psB
    have : gf y s = (y.length : Int) := by
      unfold gf
      rw [if_pos hgy]
      have := cnz_full.2 (fun k (hk : k < y.length) => show nth y k ≠ 0 by have := hfull k (by omega); omega)
      rw [this]
    rw [this]; simp
  rw [hps, Bool.eq_iff_iff, Bool.and_eq_true, Bool.and_eq_true, agF_iff, fp_parts]
  simp only [fitB, Bool.and_eq_true, List.all_eq_true, List.mem_range, Bool.not_eq_true']
  constructor
  · rintro ⟨⟨⟨f1, f2⟩, f3⟩, ag⟩
    exact ⟨⟨hv, hgy, f1, f2, f3⟩, f3⟩
  · rintro ⟨⟨_, _, f1, f2, f3⟩, _⟩
    refine ⟨⟨⟨f1, f2⟩, f3⟩, fun i h1 h2 h3 => ?_⟩
    have := f1 i (by omega)
    have hy1 := hfull i (by omega)
    unfold giveOk at this
    simp only [Bool.not_eq_true', Bool.and_eq_false_iff, decide_eq_false_iff_not, bne_eq_false_iff_eq] at this
    rcases this with (h | h) | h
    · exact absurd h3 h
    · omega
    · exact h
end Go.Proofs.YtchcmgaohcldjaaGreatDoor
set_option maxRecDepth 8000
namespace Go.Proofs.YtchcmgaohcldjaaGreatDoor
open Go.ChangeShapes Go.WideShapes Go.ChangeAt Go.RowKit Go.Shelf
attribute [local go_sem] Oper.semAt_some
theorem RdRc.more {w : World} {B B' : Nat} {A : Option Addr} {n : Nat} {rs : List RuleM} (h : RdRc w B A n rs) (hB : B ≤ B') : RdRc w B' A n rs := by
  refine ⟨h.1, fun hn => ?_⟩
  obtain ⟨b, off, e, hb, hc⟩ := h.2 hn
  exact ⟨b, off, e, Nat.lt_of_lt_of_le hb hB, fun i hi => by
    obtain ⟨A', c', e0, e1, e2, e3, e4⟩ := hc i hi
    exact ⟨A', c', e0, e1, e2, e3.more hB, e4⟩⟩
/-- the program's list of solutions is the reference's. -/
theorem allS_cv {s : Nat} {gi : List Int} {rs : List RuleM} {most n : Nat} (hl : gi.length = n) (hv : pvB s gi rs = true) (h0 : 0 < most) (hn : n = s * s) : allS s most n gi rs = (cv s gi rs (s * s) []).take most := by
  rw [allS_is hl hv h0, ← cv_is hv, hl, hn]
set_option maxRecDepth 8000
attribute [local go_sem] Oper.semAt_some
/-- how many solutions, but at most most. -/
def csI (s : Int) (n : Nat) (gi : List Int) (rs : List RuleM) (most : Int) : Int := if (pvB s gi rs && inr most 1 600) = true then ((allS s most.toNat n gi rs).length : Nat) else -1
end Go.Proofs.YtchcmgaohcldjaaGreatDoor
set_option maxRecDepth 8000
set_option maxRecDepth 8000
set_option maxRecDepth 8000
set_option maxRecDepth 8000
set_option maxRecDepth 8000
namespace Go.Proofs.YtchcmgaohcldjaaGreatDoor
open Go.ChangeShapes Go.WideShapes Go.ChangeAt Go.RowKit
theorem nbL_lenR {s t : Int} {gi m : List Int} {rs : List RuleM} : (nbL s gi rs m t).length ≤ m.length := by
  by_cases h : (pvB s gi rs && mvd m s) = true
  · simp only [Bool.and_eq_true] at h
    by_cases ht : 1 ≤ t ∧ t ≤ 4
    · rw [(nb_sub h.1 h.2 ht.1 ht.2).1]; exact Nat.le_refl _
    · have h1 : ¬ t = 1 := by omega
      have h2 : ¬ t = 2 := by omega
      have h3 : ¬ t = 3 := by omega
      have h4 : ¬ t = 4 := by omega
      unfold nbL
      simp [h1, h2, h3, h4]
  · unfold nbL; rw [if_neg h]; simp
set_option maxHeartbeats 8000000 in
theorem narrowBy_walk (A : Option Addr) (c n : Nat) (bs : List Int) (w : World) (h : Code_ w A n c bs) (hT : Tz w) :
    Calls Tryz.prog 4 #[.slice A n c] w fun e w' => e = .returned (.bool true) ∧ Below w.heap.size w w' := by
  by_cases hn : n ≤ 1048576
  · go_enter Tryz.func4, Tryz.ntmps4
    go_wp2_with fail
    refine (draw_DrawNarrowBy _ _ _ _ _ h).mono ?_
    rintro e w1 ⟨s, A1, n1, c1, gi, A2, nr, c2, rs, A3, k, c3, m, t, rfl, s2, s4, hrd, hn16, hR, hl, hnr, ho, hk, hsm, t0, t6, hb1⟩
    have hx0 := pbox_new w1 s A1 n1 c1 A2 nr c2 26
    have hbA : Below w1.heap.size w1 (w1.alloc (.cells #[.int .i64 s, .slice A1 n1 c1, .slice A2 nr c2] 26)) := (Below.refl _ _).alloc (Nat.le_refl _) _
    have hpc0 : PGc w1 s A1 n1 c1 w1.heap.size gi A2 nr c2 w1.heap.size rs := ⟨hrd, Nat.le_refl _, by omega, hR.rdc hl, Nat.le_refl _, by omega⟩
    have hpcA := hpc0.below hbA
    have hsA : w1.heap.size < (w1.alloc (.cells #[.int .i64 s, .slice A1 n1 c1, .slice A2 nr c2] 26)).heap.size := by simp
    have hm64 := smallM_b64 hsm.out ho.len
    obtain ⟨W, hW⟩ : ∃ W, w1.alloc (.cells #[.int .i64 s, .slice A1 n1 c1, .slice A2 nr c2] 26) = W := ⟨_, rfl⟩
    rw [hW] at hx0 hbA hpcA hsA
    have hmW := ho.rd.below hbA
    have hb0W : Below w.heap.size w W := step hb1 hbA
    have hsb : -9223372036854775808 ≤ s ∧ s ≤ 9223372036854775807 := by omega
    have HX := Lib.hid (fun w' (hb : Below W.heap.size W w') => hx0.below (by omega : w1.heap.size < W.heap.size) hb)
    have HPc := Lib.hid (fun w' (hb : Below W.heap.size W w') => hpcA.below hb)
    have HTz := Lib.hid (fun w' (hb : Below W.heap.size W w') => hT.below hT.lt (step hb0W hb))
    have HB := Lib.hid (fun w' (hb : Below W.heap.size W w') => step hb0W hb)
    have HM := Lib.hid (fun w' (hb : Below W.heap.size W w') => (⟨hmW.below (hb.mono (Nat.le_of_lt hsA)), Nat.le_trans (Nat.le_of_lt hsA) hb.size⟩ : Rd w' w1.heap.size A3 k m ∧ w1.heap.size ≤ w'.heap.size))
    obtain ⟨X, hX⟩ : ∃ X, X = nbL s gi rs m t := ⟨_, rfl⟩
    have hgl := hrd.1
    have hml := ho.len
    have hX17 : X.length ≤ 17 := by rw [hX]; have := nbL_lenR (s := s) (t := t) (gi := gi) (rs := rs) (m := m); omega
    have HI0 := implNarrowBy _ _ _ _ _ _ _ _ _ _ _ _ c3 _ _ _ t _ hpcA hmW (Nat.le_of_lt hsA) hm64 (by omega) (hT.below hT.lt hb0W) hsb
    rw [← hX] at HI0
    have HI0 := Lib.hid HI0
    have HS := Lib.hid (fun w' (hb : Below W.heap.size W w') => by
      have := specNarrowBy _ _ _ _ _ _ _ _ _ _ _ _ c3 _ _ _ t _ (hpcA.below hb).rd (HM.out _ hb).1 (HM.out _ hb).2 (by omega) hsb
      rw [← hX] at this
      exact this)
    have HPV := Lib.hid (fun w' (hb : Below W.heap.size W w') => specPuzzleValid s A1 n1 c1 w1.heap.size gi A2 nr c2 w1.heap.size rs w' (hpcA.below hb).rd.g (hpcA.below hb).rd.gB (hpcA.below hb).rd.gm (hpcA.below hb).rd.r (hpcA.below hb).rd.rB (hpcA.below hb).rd.rm)
    have HMV := Lib.hid (fun w' (hb : Below W.heap.size W w') => specMasksValid A3 c3 k w1.heap.size m s w' (HM.out _ hb).1 (HM.out _ hb).2 (by omega) hsb)
    have HW := Lib.hid hW
    obtain ⟨z0, z1, z2⟩ := id hx0
    clear hW hpc0 hpcA hbA hx0 hR hrd hmW ho hsm
    have hsame : same X X = true := by simp [same]
    cases hv : pvB s gi rs
    · have hX0 : X = [] := by rw [hX]; simp [nbL, hv]
      subst hX0
      clear hX
      go_wp2_with (first
        | (go_at_call 29; rw [HW.out]; refine HI0.out.mono ?_; rintro e w2 ⟨Ax, cx, rfl, hox, hb2⟩; obtain ⟨y0, y1, y2⟩ := HX.out _ hb2)
        | (go_at_call 30; refine (HS.out _ hb2).mono ?_; rintro e w3 ⟨Ay, cy, rfl, hoy, hb3⟩; have h23 := step hb2 hb3; have hox3 := hox.rd.below hb3; have hB3 := hb3.size)
        | (go_at_call 20; refine (sameInts_any _ _ _ _ _ _ _ _ [] [] _ hox3 hoy.rd (by simp)).mono ?_; rintro e w4 ⟨rfl, hb4⟩; rw [hsame]; have h24 := step h23 hb4; obtain ⟨v0, v1, v2⟩ := HX.out _ h24)
        | (go_at_call 22; refine (HPV.out _ h24).mono ?_; rintro e w5 ⟨rfl, hb5⟩; rw [hv]; have h25 := step h24 hb5)
        | (go_at_call 24; (with_reducible refine (alive_any _).mono ?_); rintro e w6 ⟨rfl, hb6⟩))
      go_ret
      exact ⟨rfl, HB.out _ (step h25 hb6)⟩
    · cases hmv : mvd m s
      · have hX0 : X = [] := by rw [hX]; simp [nbL, hmv]
        subst hX0
        clear hX
        go_wp2_with (first
          | (go_at_call 29; rw [HW.out]; refine HI0.out.mono ?_; rintro e w2 ⟨Ax, cx, rfl, hox, hb2⟩; obtain ⟨y0, y1, y2⟩ := HX.out _ hb2)
          | (go_at_call 30; refine (HS.out _ hb2).mono ?_; rintro e w3 ⟨Ay, cy, rfl, hoy, hb3⟩; have h23 := step hb2 hb3; have hox3 := hox.rd.below hb3; have hB3 := hb3.size)
          | (go_at_call 20; refine (sameInts_any _ _ _ _ _ _ _ _ [] [] _ hox3 hoy.rd (by simp)).mono ?_; rintro e w4 ⟨rfl, hb4⟩; rw [hsame]; have h24 := step h23 hb4; obtain ⟨v0, v1, v2⟩ := HX.out _ h24)
          | (go_at_call 22; refine (HPV.out _ h24).mono ?_; rintro e w5 ⟨rfl, hb5⟩; rw [hv]; have h25 := step h24 hb5; obtain ⟨u0, u1, u2⟩ := HX.out _ h25)
          | (go_at_call 23; refine (HMV.out _ h25).mono ?_; rintro e w5b ⟨rfl, hb5b⟩; rw [hmv]; have h25b := step h25 hb5b)
          | (go_at_call 24; (with_reducible refine (alive_any _).mono ?_); rintro e w6 ⟨rfl, hb6⟩))
        go_ret
        exact ⟨rfl, HB.out _ (step h25b hb6)⟩
      · have hXm := Lib.hid hml
        have ht : t = 0 ∨ t = 1 ∨ t = 2 ∨ t = 3 ∨ t = 4 ∨ t = 5 := by omega
        have hk40 : k ≤ 1099511627776 := by omega
        rcases ht with rfl | rfl | rfl | rfl | rfl | rfl
        · have hX0 : X = [] := by rw [hX]; simp [nbL]
          subst hX0
          clear hX
          go_wp2_with (first
            | (go_at_call 29; rw [HW.out]; refine HI0.out.mono ?_; rintro e w2 ⟨Ax, cx, rfl, hox, hb2⟩; obtain ⟨y0, y1, y2⟩ := HX.out _ hb2)
            | (go_at_call 30; refine (HS.out _ hb2).mono ?_; rintro e w3 ⟨Ay, cy, rfl, hoy, hb3⟩; have h23 := step hb2 hb3; have hox3 := hox.rd.below hb3; have hB3 := hb3.size)
            | (go_at_call 20; (first | (refine (sameInts_any _ _ _ _ _ _ _ _ [] [] _ hox3 hoy.rd (by simp)).mono ?_; rintro e w4 ⟨rfl, hb4⟩; rw [hsame]; have h24 := step h23 hb4; obtain ⟨v0, v1, v2⟩ := HX.out _ h24)))
            | (go_at_call 22; refine (HPV.out _ h24).mono ?_; rintro e w5 ⟨rfl, hb5⟩; rw [hv]; have h25 := step h24 hb5; obtain ⟨u0, u1, u2⟩ := HX.out _ h25)
            | (go_at_call 23; refine (HMV.out _ h25).mono ?_; rintro e w5b ⟨rfl, hb5b⟩; rw [hmv]; have h25b := step h25 hb5b; obtain ⟨x0, x1, x2⟩ := HX.out _ h25b))
          go_ret
          exact ⟨by trivial, HB.out _ h25b⟩
        · have HE := Lib.hid (show nsL m s k = X by rw [hX]; unfold nbL; rw [hv, hmv, Bool.true_and, if_pos rfl, if_pos rfl, hml])
          have HT2 := Lib.hid (fun w' (hb : Below W.heap.size W w') => by
            have := implNarrowSingles A3 c3 k w1.heap.size m s w' (HM.out _ hb).1 hm64 (HTz.out _ hb) (HM.out _ hb).2 hk40 hsb
            rw [HE.out] at this
            exact this)
          clear hX
          go_wp2_with (first
            | (go_at_call 29; rw [HW.out]; refine HI0.out.mono ?_; rintro e w2 ⟨Ax, cx, rfl, hox, hb2⟩; obtain ⟨y0, y1, y2⟩ := HX.out _ hb2)
            | (go_at_call 30; refine (HS.out _ hb2).mono ?_; rintro e w3 ⟨Ay, cy, rfl, hoy, hb3⟩; have h23 := step hb2 hb3; have hox3 := hox.rd.below hb3; have hB3 := hb3.size)
            | (go_at_call 20; (first | (refine (sameInts_any _ _ _ _ _ _ _ _ X X _ hox6 ho6.rd (by omega)).mono ?_; rintro e w7 ⟨rfl, hb7⟩; rw [hsame]) | (refine (sameInts_any _ _ _ _ _ _ _ _ X X _ hox3 hoy.rd (by omega)).mono ?_; rintro e w4 ⟨rfl, hb4⟩; rw [hsame]; have h24 := step h23 hb4; obtain ⟨v0, v1, v2⟩ := HX.out _ h24)))
            | (go_at_call 22; refine (HPV.out _ h24).mono ?_; rintro e w5 ⟨rfl, hb5⟩; rw [hv]; have h25 := step h24 hb5; obtain ⟨u0, u1, u2⟩ := HX.out _ h25)
            | (go_at_call 23; refine (HMV.out _ h25).mono ?_; rintro e w5b ⟨rfl, hb5b⟩; rw [hmv]; have h25b := step h25 hb5b; obtain ⟨x0, x1, x2⟩ := HX.out _ h25b)
            | (go_at_call 31; refine (HT2.out _ h25b).mono ?_; rintro e w6 ⟨A6, c6, rfl, ho6, hb6⟩; have hox6 := ((((hox3.below (hb4.mono hB3)).below (hb5.mono (Nat.le_trans hB3 hb4.size))).below (hb5b.mono (Nat.le_trans hB3 (Nat.le_trans hb4.size hb5.size)))).below (hb6.mono (Nat.le_trans hB3 (Nat.le_trans hb4.size (Nat.le_trans hb5.size hb5b.size)))))))
          go_ret
          exact ⟨by trivial, HB.out _ (step h25b (step hb6 hb7))⟩
        · have HE := Lib.hid (show nhL m s = X by rw [hX]; unfold nbL; rw [hv, hmv, Bool.true_and, if_pos rfl, if_neg (by omega), if_pos rfl])
          have HT2 := Lib.hid (fun w' (hb : Below W.heap.size W w') => by
            have := implNarrowHidden A3 c3 k w1.heap.size m s w' (HM.out _ hb).1 hm64 (HM.out _ hb).2 hk40 hsb
            rw [HE.out] at this
            exact this)
          clear hX
          go_wp2_with (first
            | (go_at_call 29; rw [HW.out]; refine HI0.out.mono ?_; rintro e w2 ⟨Ax, cx, rfl, hox, hb2⟩; obtain ⟨y0, y1, y2⟩ := HX.out _ hb2)
            | (go_at_call 30; refine (HS.out _ hb2).mono ?_; rintro e w3 ⟨Ay, cy, rfl, hoy, hb3⟩; have h23 := step hb2 hb3; have hox3 := hox.rd.below hb3; have hB3 := hb3.size)
            | (go_at_call 20; (first | (refine (sameInts_any _ _ _ _ _ _ _ _ X X _ hox6 ho6.rd (by omega)).mono ?_; rintro e w7 ⟨rfl, hb7⟩; rw [hsame]) | (refine (sameInts_any _ _ _ _ _ _ _ _ X X _ hox3 hoy.rd (by omega)).mono ?_; rintro e w4 ⟨rfl, hb4⟩; rw [hsame]; have h24 := step h23 hb4; obtain ⟨v0, v1, v2⟩ := HX.out _ h24)))
            | (go_at_call 22; refine (HPV.out _ h24).mono ?_; rintro e w5 ⟨rfl, hb5⟩; rw [hv]; have h25 := step h24 hb5; obtain ⟨u0, u1, u2⟩ := HX.out _ h25)
            | (go_at_call 23; refine (HMV.out _ h25).mono ?_; rintro e w5b ⟨rfl, hb5b⟩; rw [hmv]; have h25b := step h25 hb5b; obtain ⟨x0, x1, x2⟩ := HX.out _ h25b)
            | (go_at_call 32; refine (HT2.out _ h25b).mono ?_; rintro e w6 ⟨A6, c6, rfl, ho6, hb6⟩; have hox6 := ((((hox3.below (hb4.mono hB3)).below (hb5.mono (Nat.le_trans hB3 hb4.size))).below (hb5b.mono (Nat.le_trans hB3 (Nat.le_trans hb4.size hb5.size)))).below (hb6.mono (Nat.le_trans hB3 (Nat.le_trans hb4.size (Nat.le_trans hb5.size hb5b.size)))))))
          go_ret
          exact ⟨by trivial, HB.out _ (step h25b (step hb6 hb7))⟩
        · have HE := Lib.hid (show npL m s = X by rw [hX]; unfold nbL; rw [hv, hmv, Bool.true_and, if_pos rfl, if_neg (by omega), if_neg (by omega), if_pos rfl])
          have HT2 := Lib.hid (fun w' (hb : Below W.heap.size W w') => by
            have := implNarrowPairs A3 c3 k w1.heap.size m s w' (HM.out _ hb).1 hm64 (HM.out _ hb).2 hk40 hsb
            rw [HE.out] at this
            exact this)
          clear hX
          go_wp2_with (first
            | (go_at_call 29; rw [HW.out]; refine HI0.out.mono ?_; rintro e w2 ⟨Ax, cx, rfl, hox, hb2⟩; obtain ⟨y0, y1, y2⟩ := HX.out _ hb2)
            | (go_at_call 30; refine (HS.out _ hb2).mono ?_; rintro e w3 ⟨Ay, cy, rfl, hoy, hb3⟩; have h23 := step hb2 hb3; have hox3 := hox.rd.below hb3; have hB3 := hb3.size)
            | (go_at_call 20; (first | (refine (sameInts_any _ _ _ _ _ _ _ _ X X _ hox6 ho6.rd (by omega)).mono ?_; rintro e w7 ⟨rfl, hb7⟩; rw [hsame]) | (refine (sameInts_any _ _ _ _ _ _ _ _ X X _ hox3 hoy.rd (by omega)).mono ?_; rintro e w4 ⟨rfl, hb4⟩; rw [hsame]; have h24 := step h23 hb4; obtain ⟨v0, v1, v2⟩ := HX.out _ h24)))
            | (go_at_call 22; refine (HPV.out _ h24).mono ?_; rintro e w5 ⟨rfl, hb5⟩; rw [hv]; have h25 := step h24 hb5; obtain ⟨u0, u1, u2⟩ := HX.out _ h25)
            | (go_at_call 23; refine (HMV.out _ h25).mono ?_; rintro e w5b ⟨rfl, hb5b⟩; rw [hmv]; have h25b := step h25 hb5b; obtain ⟨x0, x1, x2⟩ := HX.out _ h25b)
            | (go_at_call 33; refine (HT2.out _ h25b).mono ?_; rintro e w6 ⟨A6, c6, rfl, ho6, hb6⟩; have hox6 := ((((hox3.below (hb4.mono hB3)).below (hb5.mono (Nat.le_trans hB3 hb4.size))).below (hb5b.mono (Nat.le_trans hB3 (Nat.le_trans hb4.size hb5.size)))).below (hb6.mono (Nat.le_trans hB3 (Nat.le_trans hb4.size (Nat.le_trans hb5.size hb5b.size)))))))
          go_ret
          exact ⟨by trivial, HB.out _ (step h25b (step hb6 hb7))⟩
        · have HE := Lib.hid (show nrL s gi rs m = X by rw [hX]; unfold nbL; rw [hv, hmv, Bool.true_and, if_pos rfl, if_neg (by omega), if_neg (by omega), if_neg (by omega), if_pos rfl])
          have HT2 := Lib.hid (fun w' (hb : Below W.heap.size W w') => by
            have := implNarrowRules _ _ _ _ _ _ _ _ _ _ _ _ c3 _ _ _ _ (HPc.out _ hb) (HM.out _ hb).1 (HM.out _ hb).2 hm64 hk40 (HTz.out _ hb) hsb
            rw [HE.out] at this
            exact this)
          clear hX
          go_wp2_with (first
            | (go_at_call 29; rw [HW.out]; refine HI0.out.mono ?_; rintro e w2 ⟨Ax, cx, rfl, hox, hb2⟩; obtain ⟨y0, y1, y2⟩ := HX.out _ hb2)
            | (go_at_call 30; refine (HS.out _ hb2).mono ?_; rintro e w3 ⟨Ay, cy, rfl, hoy, hb3⟩; have h23 := step hb2 hb3; have hox3 := hox.rd.below hb3; have hB3 := hb3.size)
            | (go_at_call 20; (first | (refine (sameInts_any _ _ _ _ _ _ _ _ X X _ hox6 ho6.rd (by omega)).mono ?_; rintro e w7 ⟨rfl, hb7⟩; rw [hsame]) | (refine (sameInts_any _ _ _ _ _ _ _ _ X X _ hox3 hoy.rd (by omega)).mono ?_; rintro e w4 ⟨rfl, hb4⟩; rw [hsame]; have h24 := step h23 hb4; obtain ⟨v0, v1, v2⟩ := HX.out _ h24)))
            | (go_at_call 22; refine (HPV.out _ h24).mono ?_; rintro e w5 ⟨rfl, hb5⟩; rw [hv]; have h25 := step h24 hb5; obtain ⟨u0, u1, u2⟩ := HX.out _ h25)
            | (go_at_call 23; refine (HMV.out _ h25).mono ?_; rintro e w5b ⟨rfl, hb5b⟩; rw [hmv]; have h25b := step h25 hb5b; obtain ⟨x0, x1, x2⟩ := HX.out _ h25b)
            | (go_at_call 19; refine (HT2.out _ h25b).mono ?_; rintro e w6 ⟨A6, c6, rfl, ho6, hb6⟩; have hox6 := ((((hox3.below (hb4.mono hB3)).below (hb5.mono (Nat.le_trans hB3 hb4.size))).below (hb5b.mono (Nat.le_trans hB3 (Nat.le_trans hb4.size hb5.size)))).below (hb6.mono (Nat.le_trans hB3 (Nat.le_trans hb4.size (Nat.le_trans hb5.size hb5b.size)))))))
          go_ret
          exact ⟨by trivial, HB.out _ (step h25b (step hb6 hb7))⟩
        · have hX0 : X = [] := by rw [hX]; simp [nbL]
          subst hX0
          clear hX
          go_wp2_with (first
            | (go_at_call 29; rw [HW.out]; refine HI0.out.mono ?_; rintro e w2 ⟨Ax, cx, rfl, hox, hb2⟩; obtain ⟨y0, y1, y2⟩ := HX.out _ hb2)
            | (go_at_call 30; refine (HS.out _ hb2).mono ?_; rintro e w3 ⟨Ay, cy, rfl, hoy, hb3⟩; have h23 := step hb2 hb3; have hox3 := hox.rd.below hb3; have hB3 := hb3.size)
            | (go_at_call 20; (first | (refine (sameInts_any _ _ _ _ _ _ _ _ [] [] _ hox3 hoy.rd (by simp)).mono ?_; rintro e w4 ⟨rfl, hb4⟩; rw [hsame]; have h24 := step h23 hb4; obtain ⟨v0, v1, v2⟩ := HX.out _ h24)))
            | (go_at_call 22; refine (HPV.out _ h24).mono ?_; rintro e w5 ⟨rfl, hb5⟩; rw [hv]; have h25 := step h24 hb5; obtain ⟨u0, u1, u2⟩ := HX.out _ h25)
            | (go_at_call 23; refine (HMV.out _ h25).mono ?_; rintro e w5b ⟨rfl, hb5b⟩; rw [hmv]; have h25b := step h25 hb5b; obtain ⟨x0, x1, x2⟩ := HX.out _ h25b))
          go_ret
          exact ⟨by trivial, HB.out _ h25b⟩
  · go_enter Tryz.func4, Tryz.ntmps4
    go_wp2
    go_ret
    exact ⟨rfl, Below.refl _ _⟩
set_option maxRecDepth 8000
/-- what a draw of a puzzle and a number hands back. -/
def DrawnC (w : World) (e : Ending) (w' : World) : Prop := ∃ s A1 n c1 gi A2 nr c2 rs m, e = .returned (.tuple #[.agg #[.int .i64 s, .slice A1 n c1, .slice A2 nr c2], .int .i64 m]) ∧ 2 ≤ s ∧ s ≤ 4 ∧ Rd w' w'.heap.size A1 n gi ∧ n ≤ 16 ∧ OwR w' w.heap.size (.slice A2 nr c2) rs nr ∧ rs.length = nr ∧ nr ≤ 100 ∧ 0 ≤ m ∧ m ≤ 601 ∧ Below w.heap.size w w'
/-! The same, with guarded operations: a guard's answer is told by what its operation yields; an operation that is not wanted yields nothing. -/
/-! A region that draws its order; some of its operations store and yield nothing. -/
section
variable {P : Program} {md : Region.Mode} {ops : Array Oper} {Q : Exit → Act → World → Prop} {Inv : Array Bool → Act → World → Prop}
end
/-- no guard; the operations numbered in ns yield nothing: their slots in ds are made up. -/
def chkOpsU (ops : Array Oper) (ds ns : List Nat) : Bool :=
  ops.size == ds.length && ((List.range ops.size).all fun i => match ops[i]? with
    | some o => o.after.all fun e => !Region.binds .any e || decide (e.on < i)
    | none => false) && ((List.range ds.length).all fun i => match ops[i]? with
    | some o => (if ns.contains i then o.dst.isNone else decide (o.dst = some (ds.getD i 0))) && o.guard.isNone
    | none => false) && decide ds.Nodup
set_option maxRecDepth 8000
/-! What the last region of a draw yields that picks one number out of a list written there: by numbers of roles. -/
structure MwR (G R : Nat) (W w : World) : Prop where
  os : w.os = W.os
  tape : w.tape = W.tape
  output : w.output = W.output
  size : W.heap.size ≤ w.heap.size
  same : ∀ k, k < W.heap.size → k ≠ G → k ≠ R → w.heap[k]? = W.heap[k]?
  row : ∀ cs : Array Value, W.heap[R]? = some (.cells cs 26) → cs.size = 3 → ∃ cs' : Array Value, w.heap[R]? = some (.cells cs' 26) ∧ cs'.size = 3
theorem MwR.trans {G R : Nat} {a b c : World} (h : MwR G R a b) (k : MwR G R b c) : MwR G R a c :=
  ⟨k.os.trans h.os, k.tape.trans h.tape, k.output.trans h.output, Nat.le_trans h.size k.size, fun i hi h1 h2 => (k.same i (Nat.lt_of_lt_of_le hi h.size) h1 h2).trans (h.same i hi h1 h2), fun cs h1 h2 => by
    obtain ⟨c1, e1, e2⟩ := h.row cs h1 h2
    exact k.row c1 e1 e2⟩
theorem heap_alloc_old {w : World} {R : Nat} (hR : R < w.heap.size) (o : Obj) : (w.alloc o).heap[R]? = w.heap[R]? := ((Below.refl _ w).alloc (Nat.le_refl _) o).block R hR
set_option maxRecDepth 8000
/-- a puzzle, masks and a number of techniques that were drawn. -/
def DrawnA (w : World) (e : Ending) (w' : World) : Prop := ∃ s A1 n c1 gi A2 nr c2 rs A k c m t, e = .returned (.tuple #[.agg #[.int .i64 s, .slice A1 n c1, .slice A2 nr c2], .slice A k c, .int .i64 t]) ∧ 2 ≤ s ∧ s ≤ 4 ∧ Rd w' w'.heap.size A1 n gi ∧ n ≤ 16 ∧ OwR w' w.heap.size (.slice A2 nr c2) rs nr ∧ rs.length = nr ∧ nr ≤ 100 ∧ Ow w' w.heap.size A k c m ∧ k ≤ 17 ∧ Hid (smallM m k) ∧ 0 ≤ t ∧ t ≤ 5 ∧ Below w.heap.size w w'
end Go.Proofs.YtchcmgaohcldjaaGreatDoor
set_option maxRecDepth 8000
