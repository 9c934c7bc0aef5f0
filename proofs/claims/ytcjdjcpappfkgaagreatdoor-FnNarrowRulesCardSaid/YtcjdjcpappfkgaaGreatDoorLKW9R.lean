import Derived.Test.YtcjdjcpappfkgaaGreatDoorLKSp
set_option maxRecDepth 8000
namespace Go.Proofs.YtcjdjcpappfkgaaGreatDoor
open Go.ChangeShapes Go.WideShapes Go.ChangeAt Go.RowKit
set_option maxHeartbeats 1000000 in
theorem sols_seq (W0 : World) (B0 PB s n : Nat) (Ag : Option Addr) (cg : Nat) (gi : List Int) (Ar : Option Addr) (nr cr : Nat) (rs : List RuleM) (hB0 : B0 ≤ W0.heap.size) (hs : s ∈ [2, 3, 4]) (hn : n = s * s) (hg : Rd W0 B0 Ag n gi) (hr : RdRc W0 B0 Ar nr rs) (hmr : nr ≤ 20) (hv : pvB s gi rs = true) (hT : ∀ X, Below B0 W0 X → Tz X) :
    SeqP Tryz.prog 106 #[.pointer (some ⟨PB, 0, none⟩)] (SBase W0 B0 PB s Ag n cg Ar nr cr) (cv s gi rs (s * s) []) := by
  intro l J Jx W hJb hJs hY h0; obtain ⟨w0, w1⟩ := hJb _ _ h0; have hPB : PB < W.heap.size := cell_lt w1.1
  have hok : ∀ i, i < n → 0 ≤ nth gi i ∧ nth gi i ≤ (s : Int) := fun i hi => gv_nth (pv_gv hv).1 (by rw [hg.1]; exact hi)
  have HSe := Lib.hid (search_any W0 B0 s n Ag cg gi Ar nr cr rs W w0 hB0 hs hn hg hr hmr hv); have HAl := Lib.hid (fun w' => allItems_any s w' hs); have HC := Lib.hid (cov_seq hB0 hs hn hv hT hok (fun pre X h => (hJb _ _ h).1) hJs hY h0); have hlf : lf s [] 0 = 2 ^ (3 * s * s) - 1 := rfl; obtain ⟨AL, hAL⟩ : ∃ AL, AL = 2 ^ (3 * s * s) - 1 := ⟨_, rfl⟩; rw [hlf, ← hAL] at HC; rw [← hAL] at HAl; obtain ⟨CV, hCV⟩ : ∃ CV, CV = cv s gi rs (s * s) [] := ⟨_, rfl⟩; rw [← hCV] at HC ⊢
  show Calls Tryz.prog 106 #[.func (.yield l) #[] #[], .pointer (some ⟨PB, 0, none⟩)] W _
  have HPB := Lib.hid (fun X (hb : Below W.heap.size W X) => w1.below hPB hb); obtain ⟨b0, b1, b2⟩ := id w1; clear hJb hJs hY h0 w0 hAL hCV hlf hok hg hr hv hT w1 hn
  go_enter Tryz.func106, Tryz.ntmps106
  go_wp2_with (go_at_call 107; refine HSe.out.mono ?_; rintro e X1 ⟨G, OB, RB, L, rfl, hrest⟩; have HRest := Lib.hid hrest; clear hrest; unfold sVal)
  obtain ⟨hM, hLX, hSR, ho, hb1⟩ := HRest.out; have hbd : Below X1.heap.size X1 (X1.alloc (.cells #[.slice (some ⟨G, 0, none⟩) n n, .slice (some ⟨OB, 0, none⟩) n n, .slice (some ⟨RB, 0, none⟩) n n] 124)) := (Below.refl _ _).alloc (Nat.le_refl _) _; have HCX := Lib.hid (fun X' (hb' : Below X1.heap.size X1 X') => HC.out G OB RB L X' hM (Nat.le_trans hLX hb'.size) (hSR.midx (midx_below (lo := W.heap.size) (G := G) hb') ⟨hM.2.1, hM.2.2.2.2.2.1⟩ ⟨hM.2.2.1, hM.2.2.2.2.2.2.1⟩ hM.2.2.2.1 hM.2.2.2.2.1) (ho.below hb') (hb1.trans (hb'.mono hb1.size))); unfold sVal at HCX; obtain ⟨c0, c1, c2⟩ := sbox_new X1 G OB RB n 124
  obtain ⟨p0, p1, p2⟩ := HPB.out _ (hb1.trans (hbd.mono hb1.size)); clear hSR ho hM hLX HC HSe; clear hb1
  go_wp2
  go_region_with (first
    | (go_at_call 109; refine (HAl.out _).mono ?_; rintro e wq ⟨rfl, rfl⟩)
    | (go_at_call 108; refine (HCX.out _ (by first | exact hbd | exact hbd.drew)).mono ?_; rintro e Y ⟨⟨v, rfl⟩, hYY⟩))
  all_goals
    go_end0
    exact ⟨⟨_, rfl⟩, hYY⟩
theorem solutions_any (s n : Nat) (Ag : Option Addr) (cg : Nat) (Ar : Option Addr) (nr cr : Nat) (w : World) :
    Calls Tryz.prog 57 #[.agg #[.int .i64 s, .slice Ag n cg, .slice Ar nr cr]] w fun e w' => ∃ PB, e = .returned (.func (.func 106) #[] #[.pointer (some ⟨PB, 0, none⟩)]) ∧ w.heap.size ≤ PB ∧ PBox w' PB s Ag n cg Ar nr cr ∧ Below w.heap.size w w' := by
  have hx0 := pbox_new w s Ag n cg Ar nr cr 26; have hb0 : Below w.heap.size w (w.alloc (.cells #[.int .i64 s, .slice Ag n cg, .slice Ar nr cr] 26)) := (Below.refl _ _).alloc (Nat.le_refl _) _
  go_enter Tryz.func57, Tryz.ntmps57
  go_wp2
  go_ret
  exact ⟨w.heap.size, rfl, Nat.le_refl _, hx0, hb0⟩
def sfL (s : Int) (n : Nat) (gi : List Int) (rs : List RuleM) : List Int := (allS s 1 n gi rs).getD 0 []
def sfB (s : Int) (n : Nat) (gi : List Int) (rs : List RuleM) : Bool := !(allS s 1 n gi rs).isEmpty
def sqL (s : Nat) : List (List Int) := sols s (s * s) (zeros (s * s)) 0
theorem clash_ext {s : Nat} {g y : List Int} (hs : s ∈ [2, 3, 4]) (h : ∀ i, i < s * s → nth g i = nth y i ∨ nth g i = 0) (hc : clash g s = true) : clash y s = true := by
  obtain ⟨i, j, hi, hj, ha, e, h0⟩ := (clash_iff hs).1 hc; have ej : nth g j = nth y j := (h j hj).resolve_right (by omega); have ei : nth g i = nth y i := (h i hi).resolve_right (by omega); exact (clash_iff hs).2 ⟨i, j, hi, hj, ha, by rw [← ei, ← ej, e], by rw [← ej]; exact h0⟩
theorem sols_enS {s : Nat} (hs : s ∈ [2, 3, 4]) : ∀ (f p : Nat) (z : List Int), p + f = s * s → z.length = s * s → 0 < f → (∀ i, p ≤ i → nth z i = 0) → sols s f z p = (enS s f z p).filter fun y => !clash y s := by
  intro f
  induction f with
  | zero => intro p z _ _ h; omega
  | succ f ih =>
    intro p z hp hl _ hz
    have hs4 : s ≤ 4 := by simp at hs; omega
    simp only [sols, enS]; rw [if_neg (by rw [hz p (Nat.le_refl _)]; omega), List.filter_flatMap, Int.toNat_natCast]; unfold rep
    have one : ∀ v : Nat, (if clash (z.set p (v : Int)) s = true then [] else sols s f (z.set p (v : Int)) (p + 1)) = (enS s f (z.set p (v : Int)) (p + 1)).filter fun y => !clash y s := fun v => by
      have hzs : ∀ i, p + 1 ≤ i → nth (z.set p (v : Int)) i = 0 := fun i hi => by
        have : nth (z.set p (v : Int)) i = nth z i := (by simp only [nth, List.getD_eq_getElem?_getD, List.getElem?_set]; rw [if_neg (by omega)]); rw [this]; exact hz i (by omega)
      by_cases hc : clash (z.set p (v : Int)) s = true
      · rw [if_pos hc]
        symm
        rw [List.filter_eq_nil_iff]; intro y hy hn; obtain ⟨a, b, c⟩ := enS_in f _ _ y hy (by rw [List.length_set]; omega)
        have := clash_ext (g := z.set p (v : Int)) (y := y) hs (fun i hi => by
          by_cases h : i < p + 1
          · exact .inl (b i h).symm
          · exact .inr (hzs i (by omega))) hc
        rw [this] at hn; cases hn
      · rw [if_neg hc]
        by_cases hf : 0 < f
        · exact ih (p + 1) _ (by omega) (by rw [List.length_set]; exact hl) hf hzs
        · obtain rfl : f = 0 := by omega
          simp only [sols, enS]; rw [List.filter_cons_of_pos (by simpa using hc), List.filter_nil]
    have key : ∀ r v, solsFrom (fun ys => sols s f ys (p + 1)) z s p r v = (seqN v r).flatMap fun x => (enS s f (z.set p x) (p + 1)).filter fun y => !clash y s := by
      intro r
      induction r with
      | zero => intro v; rfl
      | succ r ihr =>
        intro v; simp only [solsFrom, seqN, List.flatMap_cons]; rw [ihr (v + 1), one v]
    exact key s 1
theorem sqL_is {s : Nat} (hs : s ∈ [2, 3, 4]) : sqL s = (enS s (s * s) (zeros (s * s)) 0).filter fun y => !clash y s :=
  sols_enS hs (s * s) 0 _ (by omega) (zeros_length _) (by simp at hs; rcases hs with rfl | rfl | rfl <;> decide) (fun i _ => zeros_nth _ i)
theorem flat_one {α β : Type} {L : List α} {f : α → List β} {a : α} (hn : L.Nodup) (ha : a ∈ L) (h : ∀ x ∈ L, x ≠ a → f x = []) : L.flatMap f = f a := by
  induction L with
  | nil => cases ha
  | cons b L ih =>
    rw [List.flatMap_cons]; rw [List.nodup_cons] at hn
    rcases List.mem_cons.1 ha with rfl | h2
    · rw [flat_none (fun x hx => h x (List.mem_cons_of_mem _ hx) (fun e => hn.1 (by rw [← e]; exact hx))), List.append_nil]
    · rw [h b (List.mem_cons_self ..) (fun e => hn.1 (by rw [e]; exact h2)), List.nil_append]; exact ih hn.2 h2 (fun x hx => h x (List.mem_cons_of_mem _ hx))
theorem seqN_nodup : ∀ r v, (seqN v r).Nodup := by
  intro r
  induction r with
  | zero => intro v; simp [seqN]
  | succ r ih =>
    intro v; simp only [seqN, List.nodup_cons]; refine ⟨fun h => ?_, ih (v + 1)⟩; obtain ⟨u, e, h1, _⟩ := seqN_mem.1 h; omega
def agF (g y : List Int) (p m : Nat) : Bool := (List.range m).all fun i => decide (i < p) || !(decide (0 < nth g i)) || (nth y i == nth g i)
theorem agF_iff {g y : List Int} {p m : Nat} : agF g y p m = true ↔ ∀ i, p ≤ i → i < m → 0 < nth g i → nth y i = nth g i := by
  simp only [agF, List.all_eq_true, List.mem_range, Bool.or_eq_true, decide_eq_true_eq, Bool.not_eq_true', decide_eq_false_iff_not, beq_iff_eq]
  constructor
  · intro h i h1 h2 h3
    rcases h i h2 with (h | h) | h
    · omega
    · exact absurd h3 h
    · exact h
  · intro h i hi
    by_cases h1 : i < p
    · exact .inl (.inl h1)
    · by_cases h2 : 0 < nth g i
      · exact .inr (h i (by omega) hi h2)
      · exact .inl (.inr h2)
theorem enS_agree {s : Nat} : ∀ (f p : Nat) (g z : List Int), p + f = z.length → g.length = z.length → (∀ i, i < p → nth g i = nth z i) → (∀ i, p ≤ i → nth z i = 0) → (∀ i, p ≤ i → i < p + f → 0 < nth g i → nth g i ∈ rep s) → enS s f g p = (enS s f z p).filter fun y => agF g y p (p + f) := by
  intro f
  induction f with
  | zero =>
    intro p g z hp hl hpre hz hin; obtain rfl : g = z := ext_nth hl (fun k hk => hpre k (by omega)); simp only [enS]; rw [List.filter_cons_of_pos (by exact agF_iff.2 (fun i h1 h2 => by omega)), List.filter_nil]
  | succ f ih =>
    intro p g z hp hl hpre hz hin
    have hset : ∀ (x : Int) (i : Nat), p + 1 ≤ i → nth (z.set p x) i = 0 := fun x i hi => by
      rw [nth_set (by omega), if_neg (by omega)]; exact hz i (by omega)
    have hq : ∀ (x : Int) y, y ∈ enS s f (z.set p x) (p + 1) → nth y p = x := fun x y hy => by
      obtain ⟨_, b, _⟩ := enS_in f _ _ y hy (by rw [List.length_set]; omega); rw [b p (by omega), nth_set (by omega), if_pos rfl]
    simp only [enS]; rw [if_neg (show ¬ 0 < nth z p by rw [hz p (Nat.le_refl _)]; omega), List.filter_flatMap]
    by_cases h0 : 0 < nth g p
    · rw [if_pos h0, flat_one (a := nth g p) (show (rep s).Nodup from seqN_nodup s 1) (hin p (Nat.le_refl _) (by omega) h0)]
      · rw [ih (p + 1) g (z.set p (nth g p)) (by rw [List.length_set]; omega) (by rw [List.length_set]; exact hl) (fun i hi => by
          rw [nth_set (by omega)]
          by_cases e : p = i
          · subst e; rw [if_pos rfl]
          · rw [if_neg e]; exact hpre i (by omega)) (hset _) (fun i h1 h2 => hin i (by omega) (by omega))]
        apply List.filter_congr
        intro y hy; rw [Bool.eq_iff_iff, agF_iff, agF_iff]
        constructor
        · intro h i h1 h2 h3
          by_cases e : i = p
          · subst e; exact hq _ y hy
          · exact h i (by omega) (by omega) h3
        · intro h i h1 h2 h3; exact h i (by omega) (by omega) h3
      · intro x _ hne; rw [List.filter_eq_nil_iff]; intro y hy hag; have := agF_iff.1 hag p (Nat.le_refl _) (by omega) h0; rw [hq x y hy] at this; exact hne this
    · rw [if_neg h0]
      apply flat_congr
      intro x hx
      rw [ih (p + 1) (g.set p x) (z.set p x) (by rw [List.length_set]; omega) (by rw [List.length_set, List.length_set]; exact hl) (fun i hi => by
          rw [nth_set (by omega), nth_set (by omega)]
          split
          · rfl
          · exact hpre i (by omega)) (hset x) (fun i h1 h2 h3 => by
            rw [nth_set (by omega), if_neg (by omega)] at h3 ⊢
            exact hin i (by omega) (by omega) h3)]
      apply List.filter_congr
      intro y hy; rw [Bool.eq_iff_iff, agF_iff, agF_iff]
      constructor
      · intro h i h1 h2 h3
        by_cases e : i = p
        · subst e; exact absurd h3 h0
        · have := h i (by omega) (by omega) (by rw [nth_set (by omega), if_neg (by omega)]; exact h3); rw [nth_set (by omega), if_neg (by omega)] at this; exact this
      · intro h i h1 h2 h3; rw [nth_set (by omega), if_neg (by omega)] at h3 ⊢; exact h i (by omega) (by omega) h3
theorem solL_is {s : Nat} {gi : List Int} {rs : List RuleM} (hv : pvB s gi rs = true) : solL s gi rs = (sqL s).filter (psB s gi rs) := by
  obtain ⟨t, ht, hs, hn, _, hok⟩ := pv_grid hv rfl
  obtain rfl : s = t := by omega
  obtain ⟨hgi, _, hr⟩ := pv_gv hv
  have hl : gi.length = s * s := by
    simp at hs
    rcases hs with rfl | rfl | rfl <;> omega
  rw [hl] at hok; have hzl := zeros_length (s * s); unfold solL
  rw [hl, sqL_is hs, enS_agree (s * s) 0 gi (zeros (s * s)) (by omega) (by omega) (fun i hi => absurd hi (by omega)) (fun i _ => zeros_nth _ i) (fun i _ h2 h3 => by
    have := hok i (by omega)
    exact rep_mem.2 ⟨(nth gi i).toNat, by omega, by omega, by omega⟩), List.filter_filter, List.filter_filter]
  apply List.filter_congr
  intro y hy; obtain ⟨a, _, c⟩ := enS_in _ _ _ y hy (by omega); rw [hzl] at a c
  have hfull : ∀ i, i < s * s → 1 ≤ nth y i ∧ nth y i ≤ (s : Int) := fun i hi => by
    obtain ⟨u, e, u1, u2⟩ := rep_mem.1 ((c i (by omega) hi).2 (by rw [zeros_nth]; omega)); omega
  have hgy : gv y s = true := okAll_gv' hs a (fun i hi => by have := hfull i hi; omega)
  have hps : psB s gi rs y = fpB s gi rs y := by
    unfold psB
    have : gf y s = (y.length : Int) := by
      unfold gf; rw [if_pos hgy]; have := cnz_full.2 (fun k (hk : k < y.length) => show nth y k ≠ 0 by have := hfull k (by omega); omega); rw [this]
    rw [this]; simp
  rw [hps, Bool.eq_iff_iff, Bool.and_eq_true, Bool.and_eq_true, agF_iff, fp_parts]; simp only [fitB, Bool.and_eq_true, List.all_eq_true, List.mem_range, Bool.not_eq_true']
  constructor
  · rintro ⟨⟨⟨f1, f2⟩, f3⟩, ag⟩; exact ⟨⟨hv, hgy, f1, f2, f3⟩, f3⟩
  · rintro ⟨⟨_, _, f1, f2, f3⟩, _⟩; refine ⟨⟨⟨f1, f2⟩, f3⟩, fun i h1 h2 h3 => ?_⟩; have := f1 i (by omega); have hy1 := hfull i (by omega); unfold giveOk at this; simp only [Bool.not_eq_true', Bool.and_eq_false_iff, decide_eq_false_iff_not, bne_eq_false_iff_eq] at this
    rcases this with (h | h) | h
    · exact absurd h3 h
    · omega
    · exact h
end Go.Proofs.YtcjdjcpappfkgaaGreatDoor
namespace Go.Proofs.YtcjdjcpappfkgaaGreatDoor
open Go.ChangeShapes Go.WideShapes Go.ChangeAt Go.RowKit Go.Shelf
attribute [local go_sem] Oper.semAt_some
theorem RdRc.more {w : World} {B B' : Nat} {A : Option Addr} {n : Nat} {rs : List RuleM} (h : RdRc w B A n rs) (hB : B ≤ B') : RdRc w B' A n rs := by
  refine ⟨h.1, fun hn => ?_⟩; obtain ⟨b, off, e, hb, hc⟩ := h.2 hn
  exact ⟨b, off, e, Nat.lt_of_lt_of_le hb hB, fun i hi => by
    obtain ⟨A', c', e0, e1, e2, e3, e4⟩ := hc i hi
    exact ⟨A', c', e0, e1, e2, e3.more hB, e4⟩⟩
theorem allS_cv {s : Nat} {gi : List Int} {rs : List RuleM} {most n : Nat} (hl : gi.length = n) (hv : pvB s gi rs = true) (h0 : 0 < most) (hn : n = s * s) : allS s most n gi rs = (cv s gi rs (s * s) []).take most := by
  rw [allS_is hl hv h0, ← cv_is hv, hl, hn]
theorem sf_cons {s : Nat} {gi : List Int} {rs : List RuleM} {n : Nat} {y : List Int} {zs : List (List Int)} (hl : gi.length = n) (hv : pvB s gi rs = true) (hn : n = s * s) (h : cv s gi rs (s * s) [] = y :: zs) : sfL s n gi rs = y ∧ sfB s n gi rs = true := by
  unfold sfL sfB; rw [allS_cv hl hv (by omega) hn, h]; exact ⟨rfl, rfl⟩
theorem sf_nil {s : Nat} {gi : List Int} {rs : List RuleM} {n : Nat} (hl : gi.length = n) (hv : pvB s gi rs = true) (hn : n = s * s) (h : cv s gi rs (s * s) [] = []) : sfL s n gi rs = [] ∧ sfB s n gi rs = false := by
  unfold sfL sfB; rw [allS_cv hl hv (by omega) hn, h]; exact ⟨rfl, rfl⟩
theorem allS_none {s : Int} {gi : List Int} {rs : List RuleM} {most n : Nat} (hv : pvB s gi rs = false) : allS s most n gi rs = [] := by
  unfold allS fpB; rw [hv]; rfl
theorem cv_len {s : Nat} {gi : List Int} {rs : List RuleM} {n : Nat} {y : List Int} (hl : gi.length = n) (hv : pvB s gi rs = true) (hn : n = s * s) (hs : s ∈ [2, 3, 4]) (h : y ∈ cv s gi rs (s * s) []) : y.length = n := by
  have e : cv s gi rs (s * s) [] = solL s gi rs := by rw [← hn, ← hl]; exact cv_is hv
  rw [e, solL_is hv] at h; have h1 := (List.mem_filter.1 h).2; unfold psB fpB at h1; simp only [Bool.and_eq_true] at h1; have := gv_len h1.1.1.2
  simp at hs
  rcases hs with rfl | rfl | rfl <;> omega
theorem below_put_at {N l : Nat} {X : World} (o' : Obj) (hN : N ≤ l) (hl : l < X.heap.size) : Below N X (X.putObj l o') :=
  below_put o' hN (Array.getElem?_eq_getElem hl)
theorem Ow.same_own {w w' : World} {lo n c : Nat} {A : Option Addr} {xs : List Int} (h : Ow w lo A n c xs) (hn : 0 < n) (hs : ∀ g, (Value.slice A n c).ownBlock = some g → w'.heap[g]? = w.heap[g]?) : Ow w' lo A n c xs := by
  obtain ⟨g, rfl, _, _⟩ := h.form hn; exact h.same (hs g rfl)
theorem cell_none_of_deferred {W : World} {D i : Nat} {o : Option (List Deferred)} (h : W.heap[D]? = some (.deferred o)) : W.cell? ⟨D, i, none⟩ = none := by
  unfold World.cell?
  simp [h]
theorem sf_results (tm : Array Value) (X : World) (g h : Nat) (A : Option Addr) (m c : Nat) (b : Bool) (h2 : tm[2]?.getD undef = .pointer (some ⟨g, 0, none⟩)) (h3 : tm[3]?.getD undef = .pointer (some ⟨h, 0, none⟩)) (c1 : X.cell? ⟨g, 0, none⟩ = some (.slice A m c)) (c2 : X.cell? ⟨h, 0, none⟩ = some (.bool b)) : (results Tryz.f18 tm).run Tryz.prog X = .ok (.tuple #[.slice A m c, .bool b]) X := by
  simp [results, Tryz.f18, go_sem, h2, h3, c1, c2]
set_option maxHeartbeats 1000000 in
theorem implSolveFirst (s : Int) (Ag : Option Addr) (n cg Bg : Nat) (gi : List Int) (Ar : Option Addr) (nr cr Br : Nat) (rs : List RuleM) (w : World) (hp : PGc w s Ag n cg Bg gi Ar nr cr Br rs) (hT : Tz w) :
    Calls Tryz.prog 18 #[.agg #[.int .i64 s, .slice Ag n cg, .slice Ar nr cr]] w fun e w' => ∃ A m c, e = .returned (.tuple #[.slice A m c, .bool (sfB s n gi rs)]) ∧ (sfB s n gi rs = true → m = n) ∧ Ow w' w.heap.size A m c (sfL s n gi rs) ∧ Below w.heap.size w w' := by
  have hx0 := pbox_new w s Ag n cg Ar nr cr 26; obtain ⟨W1, hW1⟩ : ∃ W1, w.alloc (.cells #[.int .i64 s, .slice Ag n cg, .slice Ar nr cr] 26) = W1 := ⟨_, rfl⟩; rw [hW1] at hx0
  have hb1 : Below w.heap.size w W1 := by rw [← hW1]; exact (Below.refl _ _).alloc (Nat.le_refl _) _
  have hs1 : W1.heap.size = w.heap.size + 1 := by rw [← hW1]; simp
  obtain ⟨W2, hW2⟩ : ∃ W2, W1.alloc (.cells #[.slice none 0 0] 23) = W2 := ⟨_, rfl⟩
  have hb2 : Below W1.heap.size W1 W2 := by rw [← hW2]; exact (Below.refl _ _).alloc (Nat.le_refl _) _
  have hs2 : W2.heap.size = w.heap.size + 1 + 1 := by rw [← hW2]; simp [hs1]
  have hr2 : W2.heap[w.heap.size + 1]? = some (.cells #[.slice none 0 0] 23) := by rw [← hW2, ← hs1]; exact heap_alloc_new _ _
  obtain ⟨W3, hW3⟩ : ∃ W3, W2.alloc (.cells #[.bool false] 4) = W3 := ⟨_, rfl⟩
  have hb3 : Below W2.heap.size W2 W3 := by rw [← hW3]; exact (Below.refl _ _).alloc (Nat.le_refl _) _
  have hs3 : W3.heap.size = w.heap.size + 1 + 1 + 1 := by rw [← hW3]; simp [hs2]
  have hr3 : W3.heap[w.heap.size + 1]? = some (.cells #[.slice none 0 0] 23) := (hb3.block _ (by omega)).trans hr2
  have hq3 : W3.heap[w.heap.size + 1 + 1]? = some (.cells #[.bool false] 4) := by rw [← hW3, ← hs2]; exact heap_alloc_new _ _
  have hx3 := (hx0.below (by omega) hb2).below (by omega) hb3; have hbW : Below w.heap.size w W3 := (hb1.trans (hb2.mono (by omega))).trans (hb3.mono (by omega)); have HV := Lib.hid (valid_any s Ag n cg Bg gi Ar nr cr Br rs W3 (hp.below hbW)); have HB3 := Lib.hid hbW; have HX3 := Lib.hid hx3; have HR3 := Lib.hid (And.intro hr3 hq3); obtain ⟨z0, z1, z2⟩ := id hx3; clear hb1 hb2 hb3 hr2 hr3 hq3 hx0 hx3 hbW; refine (callsIn_wide (n := 9)).1 ?_; refine callsIn_of_wp_marks Tryz.func18 rfl trivial ?_ rfl; simp only [Tryz.ntmps18, List.size_toArray, List.length_cons, List.length_nil, Nat.reduceAdd, Nat.reduceSub, Array.replicate_succ, Array.replicate_zero, List.push_toArray, List.append_toArray, List.nil_append, List.cons_append]
  cases hv : pvB s gi rs
  · have H1 : sfB s n gi rs = false ∧ sfL s n gi rs = [] := by unfold sfB sfL; rw [allS_none hv]; exact ⟨rfl, rfl⟩
    rw [H1.1, H1.2]; clear H1
    gi_wp2_with ((try refine ⟨trivial, ?_⟩); gi_at_call 48; refine (callsIn_wide.2 HV.out).mono ?_; rintro e w4 ⟨rfl, hb4⟩; rw [hv]; obtain ⟨hr3, hq3⟩ := HR3.out; have hr4 := (hb4.block _ (by omega)).trans hr3; have hq4 := (hb4.block _ (by omega)).trans hq3; have hcr := cell_of_row _ _ 0 _ _ (0, 0) hr4; have hfr := frozen_of_row _ _ 0 _ _ hr4; have hcq := cell_of_row _ _ 0 _ _ (0, 0) hq4; have hfq := frozen_of_row _ _ 0 _ _ hq4)
    have e1 := heap_setCell_same w4 (w.heap.size + 1) 0 _ _ (.slice none 0 0) hr4; have e2 := (heap_setCell_other w4 ⟨w.heap.size + 1, 0, none⟩ (w.heap.size + 1 + 1) (.slice none 0 0) (fun e => by dsimp only at e; omega)).trans hq4; have e3 := (heap_setCell_other _ ⟨w.heap.size + 1 + 1, 0, none⟩ (w.heap.size + 1) (.bool false) (fun e => by dsimp only at e; omega)).trans e1; have e4 := heap_setCell_same _ (w.heap.size + 1 + 1) 0 _ _ (.bool false) e2; exact ⟨_, sf_results _ _ (w.heap.size + 1) (w.heap.size + 1 + 1) none 0 0 false rfl rfl (cell_of_row _ _ 0 _ _ (0, 0) e3) (cell_of_row _ _ 0 _ _ (0, 0) e4), none, 0, 0, rfl, (fun h => by cases h), Ow.nil_ _ _, ((step HB3.out hb4).setCell (p := ⟨w.heap.size + 1, 0, none⟩) (by show w.heap.size ≤ w.heap.size + 1; omega) _).setCell (p := ⟨w.heap.size + 1 + 1, 0, none⟩) (by show w.heap.size ≤ w.heap.size + 1 + 1; omega) _⟩
  · obtain ⟨t, rfl, hs, hnn, hn16, hok⟩ := pv_grid hv hp.g.1
    have hn : n = t * t := by simp at hs; rcases hs with rfl | rfl | rfl <;> omega
    have hn0 : 0 < n := by simp at hs; rcases hs with rfl | rfl | rfl <;> omega
    have hgl := hp.g.1
    have hmr : nr ≤ 20 := by have := (pv_gv hv).2.1; have := hp.r.1; omega
    have HG := Lib.hid (hp.g.more hp.gB); have HR := Lib.hid (hp.r.more hp.rB); have HT := Lib.hid (fun X (hb : Below w.heap.size w X) => hT.below hT.lt hb); have HN := Lib.hid hn; have HV2 := Lib.hid hv; have Hgl := Lib.hid hgl; clear hok hnn hn hgl hp hT
    gi_wp2_with (first
      | ((try refine ⟨trivial, ?_⟩); gi_at_call 48; refine (callsIn_wide.2 HV.out).mono ?_; rintro e w4 ⟨rfl, hb4⟩; rw [hv]; have hx4 := HX3.out.below (show w.heap.size < W3.heap.size by omega) hb4; obtain ⟨y0, y1, y2⟩ := id hx4)
      | ((try refine ⟨trivial, ?_⟩); gi_at_call 57; refine (callsIn_wide.2 (solutions_any t n Ag cg Ar nr cr w4)).mono ?_; rintro e w5 ⟨PB, rfl, hPl, hpb, hb5⟩))
    have h45 := hb5.size; have h34 := hb4.size; have hb35 : Below W3.heap.size W3 w5 := hb4.trans (hb5.mono h34); have hb05 : Below w.heap.size w w5 := HB3.out.trans (hb35.mono (by omega)); obtain ⟨hr3, hq3⟩ := HR3.out; have hr5 := (hb35.block _ (by omega)).trans hr3; have hq5 := (hb35.block _ (by omega)).trans hq3; have hPB := cell_lt hpb.1
    have d1 : w.heap.size + 1 + 1 < w5.heap.size := by omega
    clear z0 z1 z2 y0 y1 y2 hx4 hb4 hb5 hb35 hr3 hq3 hW1 hW2 hW3 hs1 hs2 hs3 h45 h34 hPl hv HV
    refine range_twoP 9 (q := 4) (by rfl) (enters_of Tryz.func106 (by kernel_rfl) rfl) (sols_seq w w.heap.size PB t n Ag cg gi Ar nr cr rs (Nat.le_refl _) hs HN.out HG.out HR.out hmr HV2.out HT.out)
      (fun pre X => pre = [] ∧ SBase w w.heap.size PB t Ag n cg Ar nr cr X ∧ X.heap[w.heap.size + 1]? = some (.cells #[.slice none 0 0] 23) ∧ X.heap[w.heap.size + 1 + 1]? = some (.cells #[.bool false] 4))
      (fun cc X => cc = .ret ∧ ∃ y zs A c, cv t gi rs (t * t) [] = y :: zs ∧ Below w.heap.size w X ∧ X.heap[w.heap.size + 1]? = some (.cells #[.slice A n c] 23) ∧ Ow X w.heap.size A n c y ∧ X.heap[w.heap.size + 1 + 1]? = some (.cells #[.bool true] 4) ∧ ∀ g, (Value.slice A n c).ownBlock = some g → w5.heap.size + 1 < g)
      (fun pre X h => h.2.1)
      (fun pre X Y h hb => ⟨h.1, ⟨h.2.1.1.trans (hb.mono (by omega)), h.2.1.2.below hPB hb⟩, (hb.block _ (by omega)).trans h.2.2.1, (hb.block _ d1).trans h.2.2.2⟩)
      (fun cc X o h hX => by
        obtain ⟨h1, y, zs, A, c, h2, h3, h4, h5, h6, h7⟩ := h; refine ⟨h1, y, zs, A, c, h2, h3.trans (below_put_at _ (by omega) hX), (World.putObj_heap_other (by omega)).trans h4, ?_, (World.putObj_heap_other (by omega)).trans h6, h7⟩
        exact h5.same_own hn0 (fun g e => World.putObj_heap_other (by have := h7 g e; omega)))
      ⟨rfl, ⟨hb05, hpb⟩, hr5, hq5⟩ ?assign ?body ?done ?stop
    case assign =>
      intro l v W K hK; simp only [List.setIfInBounds_toArray, List.set_cons_zero, List.set_cons_succ] at hK ⊢
      gi_wp2
      exact hK
    case body =>
      rintro l pre x X b n' c' ⟨rfl, ⟨hBX, hpX⟩, hrX, hqX⟩ ⟨zs, hzs⟩ hbb hXs hrd; have hxl := cv_len Hgl.out HV2.out HN.out hs (show x ∈ cv t gi rs (t * t) [] by rw [hzs]; simp)
      obtain rfl : n' = n := by rw [← hrd.1]; exact hxl
      have HCl := Lib.hid (clone_any (some ⟨b, 0, none⟩) n' c' X.heap.size x X hrd (Nat.le_refl _) hn0 (by omega)); have hXl : w.heap.size + 1 + 1 < X.heap.size := (Array.getElem?_eq_some_iff.1 hqX).1; have Hzs := Lib.hid hzs; have HBX := Lib.hid hBX; have Hrd := Lib.hid hrd; clear hzs hxl hpX hBX hrd; simp only [List.setIfInBounds_toArray, List.set_cons_zero, List.set_cons_succ]
      gi_wp2_with ((try refine ⟨trivial, ?_⟩); gi_at_call 58; refine (callsIn_wide.2 HCl.out).mono ?_; rintro e w6 ⟨A6, c6, rfl, ho6, hb6⟩; have hr6 := (hb6.block _ (by omega)).trans hrX; have hq6 := (hb6.block _ hXl).trans hqX; have hcr := cell_of_row _ _ 0 _ _ (0, 0) hr6; have hfr := frozen_of_row _ _ 0 _ _ hr6; have hcq := cell_of_row _ _ 0 _ _ (0, 0) hq6; have hfq := frozen_of_row _ _ 0 _ _ hq6)
      obtain ⟨g6, rfl, hg6, hgw6⟩ := ho6.form hn0; have e1 := heap_setCell_same w6 (w.heap.size + 1) 0 _ _ (.slice (some ⟨g6, 0, none⟩) n' c6) hr6; have e2 := (heap_setCell_other w6 ⟨w.heap.size + 1, 0, none⟩ (w.heap.size + 1 + 1) (.slice (some ⟨g6, 0, none⟩) n' c6) (fun e => by dsimp only at e; omega)).trans hq6; have e3 := (heap_setCell_other _ ⟨w.heap.size + 1 + 1, 0, none⟩ (w.heap.size + 1) (.bool true) (fun e => by dsimp only at e; omega)).trans e1; have e4 := heap_setCell_same _ (w.heap.size + 1 + 1) 0 _ _ (.bool true) e2; have hX6 := hb6.size
      have hoE : Ow ((w6.setCell ⟨w.heap.size + 1, 0, none⟩ (.slice (some ⟨g6, 0, none⟩) n' c6)).setCell ⟨w.heap.size + 1 + 1, 0, none⟩ (.bool true)) w.heap.size (some ⟨g6, 0, none⟩) n' c6 x :=
        (ho6.mono (by omega)).same ((heap_setCell_other _ ⟨w.heap.size + 1 + 1, 0, none⟩ g6 (.bool true) (fun e => by dsimp only at e; omega)).trans (heap_setCell_other w6 ⟨w.heap.size + 1, 0, none⟩ g6 (.slice (some ⟨g6, 0, none⟩) n' c6) (fun e => by dsimp only at e; omega)))
      refine ⟨(Mid.of_below hb6).trans ((Mid.setCell _ _ _ _ _ (by omega)).trans (Mid.setCell _ _ _ _ _ (by omega))), rfl, x, zs, _, c6, Hzs.out, ((HBX.out.trans (hb6.mono (by omega))).setCell (p := ⟨w.heap.size + 1, 0, none⟩) (by show w.heap.size ≤ w.heap.size + 1; omega) _).setCell (p := ⟨w.heap.size + 1 + 1, 0, none⟩) (by show w.heap.size ≤ w.heap.size + 1 + 1; omega) _, e3, hoE, e4, fun g e => ?_⟩; have e : g6 = g := Option.some.inj e; omega
    case done =>
      rintro D W hD ⟨he, ⟨hBX, _⟩, hrX, hqX⟩ hK; obtain ⟨q1, q2⟩ := sf_nil Hgl.out HV2.out HN.out he; have hcr := cell_of_row _ _ 0 _ _ (0, 0) hrX; have hfr := frozen_of_row _ _ 0 _ _ hrX; have hcq := cell_of_row _ _ 0 _ _ (0, 0) hqX; have hfq := frozen_of_row _ _ 0 _ _ hqX
      gi_wp2
      have e1 := heap_setCell_same W (w.heap.size + 1) 0 _ _ (.slice none 0 0) hrX; have e2 := (heap_setCell_other W ⟨w.heap.size + 1, 0, none⟩ (w.heap.size + 1 + 1) (.slice none 0 0) (fun e => by dsimp only at e; omega)).trans hqX; have e3 := (heap_setCell_other _ ⟨w.heap.size + 1 + 1, 0, none⟩ (w.heap.size + 1) (.bool false) (fun e => by dsimp only at e; omega)).trans e1; have e4 := heap_setCell_same _ (w.heap.size + 1 + 1) 0 _ _ (.bool false) e2; have e5 := (heap_setCell_other _ ⟨w.heap.size + 1 + 1, 0, none⟩ D (.bool false) (fun e => by dsimp only at e; omega)).trans ((heap_setCell_other W ⟨w.heap.size + 1, 0, none⟩ D (.slice none 0 0) (fun e => by dsimp only at e; omega)).trans hK)
      have hbE := ((hBX.setCell (p := ⟨w.heap.size + 1, 0, none⟩) (by show w.heap.size ≤ w.heap.size + 1; omega) (.slice none 0 0)).setCell (p := ⟨w.heap.size + 1 + 1, 0, none⟩) (by show w.heap.size ≤ w.heap.size + 1 + 1; omega) (.bool false)).trans (below_put (.deferred none) (show w.heap.size ≤ D by omega) e5); refine ⟨by simp, .inl ⟨_, _, rfl, run_takeDeferred e5, ?_⟩⟩; refine ⟨_, sf_results _ _ (w.heap.size + 1) (w.heap.size + 1 + 1) none 0 0 false rfl rfl (cell_of_row _ _ 0 _ _ (0, 0) ((World.putObj_heap_other (by omega)).trans e3)) (cell_of_row _ _ 0 _ _ (0, 0) ((World.putObj_heap_other (by omega)).trans e4)), ?_⟩
      exact ⟨none, 0, 0, rfl, Ow.nil_ _ _, hbE⟩
    case stop =>
      rintro D cc W hD ⟨rfl, y, zs, A, c, hc, hBX, hrX, hoX, hqX, hlo⟩ hK; obtain ⟨q1, q2⟩ := sf_cons Hgl.out HV2.out HN.out hc
      gi_wp2
      refine ⟨by simp, .inl ⟨_, _, rfl, run_takeDeferred hK, ?_⟩⟩
      have hgD : ∀ g, (Value.slice A n c).ownBlock = some g → g ≠ D := fun g e e2 => by
        subst e2; obtain ⟨g', e3, _, _⟩ := hoX.form hn0; subst e3; obtain ⟨h1, h2⟩ := hoX.cell (show 0 < n from hn0)
        injection e with e
        subst e; rw [cell_none_of_deferred hK] at h1; cases h1
      refine ⟨_, sf_results _ _ (w.heap.size + 1) (w.heap.size + 1 + 1) A n c true rfl rfl (cell_of_row _ _ 0 _ _ (0, 0) ((World.putObj_heap_other (by omega)).trans hrX)) (cell_of_row _ _ 0 _ _ (0, 0) ((World.putObj_heap_other (by omega)).trans hqX)), ?_⟩; exact ⟨A, n, c, rfl, rfl, hoX.same_own hn0 (fun g e => World.putObj_heap_other (fun e2 => hgD g e e2)), hBX.trans (below_put _ (by omega) hK)⟩
attribute [local go_sem] Oper.semAt_some
end Go.Proofs.YtcjdjcpappfkgaaGreatDoor
namespace Go.Proofs.YtcjdjcpappfkgaaGreatDoor
open Go.ChangeShapes Go.WideShapes Go.ChangeAt Go.RowKit
theorem cv_sqL {s : Nat} {gi : List Int} {rs : List RuleM} {n : Nat} (hl : gi.length = n) (hv : pvB s gi rs = true) (hn : n = s * s) : cv s gi rs (s * s) [] = (sqL s).filter (psB s gi rs) := by
  rw [← solL_is hv, ← hn, ← hl]; exact cv_is hv
theorem sf_psM {s : Nat} {gi : List Int} {rs : List RuleM} {n : Nat} (hl : gi.length = n) (hv : pvB s gi rs = true) (hn : n = s * s) (h : sfB s n gi rs = true) : psB s gi rs (sfL s n gi rs) = true := by
  cases e : cv s gi rs (s * s) [] with
  | nil => rw [(sf_nil hl hv hn e).2] at h; cases h
  | cons y zs =>
    rw [(sf_cons hl hv hn e).1]
    have : y ∈ (sqL s).filter (psB s gi rs) := by rw [← cv_sqL hl hv hn, e]; exact List.mem_cons_self ..
    exact (List.mem_filter.1 this).2
theorem nrL_lenR {s : Int} {gi m : List Int} {rs : List RuleM} : (nrL s gi rs m).length ≤ m.length := by
  by_cases h : (pvB s gi rs && mvd m s) = true
  · simp only [Bool.and_eq_true] at h; rw [(nr_sub h.1 h.2).1]; exact Nat.le_refl _
  · unfold nrL; rw [if_neg h]; simp
set_option maxHeartbeats 8000000 in
theorem narrowRules_walk (A : Option Addr) (c n : Nat) (bs : List Int) (w : World) (h : Code_ w A n c bs) (hT : Tz w) :
    Calls Tryz.prog 6 #[.slice A n c] w fun e w' => e = .returned (.bool true) ∧ Below w.heap.size w w' := by
  by_cases hn : n ≤ 1048576
  · go_enter Tryz.func6, Tryz.ntmps6
    go_wp2_with fail
    refine (draw_DrawNarrowRules _ _ _ _ _ h).mono ?_; rintro e w1 ⟨s, A1, n1, c1, gi, A2, nr, c2, rs, A3, k, c3, m, rfl, s2, s4, hrd, hn16, hR, hl, hnr, ho, hk, hsm, hb1⟩; have hx0 := pbox_new w1 s A1 n1 c1 A2 nr c2 26; have hbA : Below w1.heap.size w1 (w1.alloc (.cells #[.int .i64 s, .slice A1 n1 c1, .slice A2 nr c2] 26)) := (Below.refl _ _).alloc (Nat.le_refl _) _; have hpc0 : PGc w1 s A1 n1 c1 w1.heap.size gi A2 nr c2 w1.heap.size rs := ⟨hrd, Nat.le_refl _, by omega, hR.rdc hl, Nat.le_refl _, by omega⟩; have hpcA := hpc0.below hbA
    have hsA : w1.heap.size < (w1.alloc (.cells #[.int .i64 s, .slice A1 n1 c1, .slice A2 nr c2] 26)).heap.size := by simp
    have hm64 := smallM_b64 hsm.out ho.len; obtain ⟨W, hW⟩ : ∃ W, w1.alloc (.cells #[.int .i64 s, .slice A1 n1 c1, .slice A2 nr c2] 26) = W := ⟨_, rfl⟩; rw [hW] at hx0 hbA hpcA hsA; have hmW := ho.rd.below hbA; have hb0W : Below w.heap.size w W := step hb1 hbA
    have hsb : -9223372036854775808 ≤ s ∧ s ≤ 9223372036854775807 := by omega
    have HX := Lib.hid (fun w' (hb : Below W.heap.size W w') => hx0.below (by omega : w1.heap.size < W.heap.size) hb); have HPc := Lib.hid (fun w' (hb : Below W.heap.size W w') => hpcA.below hb); have HTz := Lib.hid (fun w' (hb : Below W.heap.size W w') => hT.below hT.lt (step hb0W hb)); have HB := Lib.hid (fun w' (hb : Below W.heap.size W w') => step hb0W hb); have HM := Lib.hid (fun w' (hb : Below W.heap.size W w') => (⟨hmW.below (hb.mono (Nat.le_of_lt hsA)), Nat.le_trans (Nat.le_of_lt hsA) hb.size⟩ : Rd w' w1.heap.size A3 k m ∧ w1.heap.size ≤ w'.heap.size)); obtain ⟨X, hX⟩ : ∃ X, X = nrL s gi rs m := ⟨_, rfl⟩
    have hgl := hrd.1; have hml := ho.len
    have hX17 : X.length ≤ 17 := by rw [hX]; have := nrL_lenR (s := s) (gi := gi) (rs := rs) (m := m); omega
    have HI0 := implNarrowRules _ _ _ _ _ _ _ _ _ _ _ _ c3 _ _ _ _ hpcA hmW (Nat.le_of_lt hsA) hm64 (by omega) (hT.below hT.lt hb0W) hsb; rw [← hX] at HI0; have HI0 := Lib.hid HI0
    have HS := Lib.hid (fun w' (hb : Below W.heap.size W w') => by
      have := specNarrowRules _ _ _ _ _ _ _ _ _ _ _ _ c3 _ _ _ _ (hpcA.below hb).rd (HM.out _ hb).1 (HM.out _ hb).2 (by omega) hsb; rw [← hX] at this
      exact this)
    have HPV := Lib.hid (fun w' (hb : Below W.heap.size W w') => specPuzzleValid s A1 n1 c1 w1.heap.size gi A2 nr c2 w1.heap.size rs w' (hpcA.below hb).rd.g (hpcA.below hb).rd.gB (hpcA.below hb).rd.gm (hpcA.below hb).rd.r (hpcA.below hb).rd.rB (hpcA.below hb).rd.rm); have HMV := Lib.hid (fun w' (hb : Below W.heap.size W w') => specMasksValid A3 c3 k w1.heap.size m s w' (HM.out _ hb).1 (HM.out _ hb).2 (by omega) hsb); have HW := Lib.hid hW; obtain ⟨z0, z1, z2⟩ := id hx0; clear hW hpc0 hpcA hbA hx0 hR hrd hmW ho hsm
    have hsame : same X X = true := by simp [same]
    cases hv : pvB s gi rs
    · have hX0 : X = [] := by rw [hX]; simp [nrL, hv]
      subst hX0; clear hX
      go_wp2_with (first
        | (go_at_call 28; rw [HW.out]; refine HI0.out.mono ?_; rintro e w2 ⟨Ax, cx, rfl, hox, hb2⟩; obtain ⟨y0, y1, y2⟩ := HX.out _ hb2)
        | (go_at_call 29; refine (HS.out _ hb2).mono ?_; rintro e w3 ⟨Ay, cy, rfl, hoy, hb3⟩; have h23 := step hb2 hb3; have hox3 := hox.rd.below hb3; have hB3 := hb3.size)
        | (go_at_call 20; refine (sameInts_any _ _ _ _ _ _ _ _ [] [] _ hox3 hoy.rd (by simp)).mono ?_; rintro e w4 ⟨rfl, hb4⟩; rw [hsame]; have h24 := step h23 hb4; obtain ⟨v0, v1, v2⟩ := HX.out _ h24)
        | (go_at_call 21; refine (HPV.out _ h24).mono ?_; rintro e w5 ⟨rfl, hb5⟩; rw [hv]; have h25 := step h24 hb5)
        | (go_at_call 14; (with_reducible refine (alive_any _).mono ?_); rintro e w6 ⟨rfl, hb6⟩))
      go_ret
      exact ⟨rfl, HB.out _ (step h25 hb6)⟩
    · cases hmv : mvd m s
      · have hX0 : X = [] := (by rw [hX]; simp [nrL, hmv]); subst hX0; clear hX
        go_wp2_with (first
          | (go_at_call 28; rw [HW.out]; refine HI0.out.mono ?_; rintro e w2 ⟨Ax, cx, rfl, hox, hb2⟩; obtain ⟨y0, y1, y2⟩ := HX.out _ hb2)
          | (go_at_call 29; refine (HS.out _ hb2).mono ?_; rintro e w3 ⟨Ay, cy, rfl, hoy, hb3⟩; have h23 := step hb2 hb3; have hox3 := hox.rd.below hb3; have hB3 := hb3.size)
          | (go_at_call 20; refine (sameInts_any _ _ _ _ _ _ _ _ [] [] _ hox3 hoy.rd (by simp)).mono ?_; rintro e w4 ⟨rfl, hb4⟩; rw [hsame]; have h24 := step h23 hb4; obtain ⟨v0, v1, v2⟩ := HX.out _ h24)
          | (go_at_call 21; refine (HPV.out _ h24).mono ?_; rintro e w5 ⟨rfl, hb5⟩; rw [hv]; have h25 := step h24 hb5; obtain ⟨u0, u1, u2⟩ := HX.out _ h25)
          | (go_at_call 30; refine (HMV.out _ h25).mono ?_; rintro e w5b ⟨rfl, hb5b⟩; rw [hmv]; have h25b := step h25 hb5b)
          | (go_at_call 14; (with_reducible refine (alive_any _).mono ?_); rintro e w6 ⟨rfl, hb6⟩))
        go_ret
        exact ⟨rfl, HB.out _ (step h25b hb6)⟩
      · obtain ⟨t, rfl, hs, hnn, _, hok⟩ := pv_grid hv hgl; have hnn2 : n1 = t * t := (by simp at hs; rcases hs with rfl | rfl | rfl <;> omega); have hXs := nr_sub (rs := rs) (gi := gi) hv hmv; have hXl : X.length = k := (by rw [hX, hXs.1, hml]); have hXv : mvd X t = true := (by rw [hX]; exact hXs.mvd_ hmv); have hX64 := Lib.hid (b64_mvd hXv); have HWi : Hid (Wi X m) := Lib.hid (by rw [hX]; exact nr_wi hv hmv); obtain ⟨FL, hFL⟩ : ∃ FL, FL = sfL t n1 gi rs := ⟨_, rfl⟩; obtain ⟨bb, hbb⟩ : ∃ bb, bb = sfB t n1 gi rs := ⟨_, rfl⟩
        have HKp := Lib.hid (fun (e : bb = true) (e2 : mhB m t FL = true) => show mhB X t FL = true from by
          rw [hX]; exact nr_keeps hmv (by rw [hFL]; exact sf_psM hgl hv hnn2 (by rw [← hbb]; exact e)) e2)
        have HNo := Lib.hid (fun (e : nr = 0) => show same X m = true from by
          have : rs = [] := List.length_eq_zero_iff.1 (by rw [hl, e]); subst this
          rw [hX, nr_none hv hmv]; exact same_refl m)
        have HSF := Lib.hid (fun w' (hb : Below W.heap.size W w') => by
          have := implSolveFirst _ _ _ _ _ _ _ _ _ _ _ _ (HPc.out _ hb) (HTz.out _ hb); rw [← hFL, ← hbb] at this
          exact this)
        obtain ⟨qq, hqq⟩ : ∃ qq, qq = mhB m t FL := ⟨_, rfl⟩
        have HMH := Lib.hid (fun w' (hb : Below W.heap.size W w') (Ag : Option Addr) (cg ng Bg : Nat) (hg : Rd w' Bg Ag ng FL) (hB : Bg ≤ w'.heap.size) (hm : ng ≤ 1099511627776) => by
          have := implMasksHave A3 c3 k w1.heap.size m t Ag cg ng Bg FL w' (HM.out _ hb).1 hm64 (HM.out _ hb).2 (by omega) hg hB hm hsb; rw [← hqq] at this
          exact this)
        have Hqq := Lib.hid hqq; have Hnr := Lib.hid hnr; obtain rfl := hXl; have Hsb := Lib.hid hsb; have hk17 : X.length ≤ 17 := hX17; clear hqq hFL hbb hX hXs hXv hok hnn hnn2 hs
        go_wp2_with (first
          | (go_at_call 28; rw [HW.out]; refine HI0.out.mono ?_; rintro e w2 ⟨Ax, cx, rfl, hox, hb2⟩; obtain ⟨y0, y1, y2⟩ := HX.out _ hb2)
          | (go_at_call 29; refine (HS.out _ hb2).mono ?_; rintro e w3 ⟨Ay, cy, rfl, hoy, hb3⟩; have h23 := step hb2 hb3; have hox3 := hox.rd.below hb3; have hB3 := hb3.size)
          | (go_at_call 20; refine (sameInts_any _ _ _ _ _ _ _ _ X X _ hox3 hoy.rd (by omega)).mono ?_; rintro e w4 ⟨rfl, hb4⟩; rw [hsame]; have h24 := step h23 hb4; obtain ⟨v0, v1, v2⟩ := HX.out _ h24)
          | (go_at_call 21; refine (HPV.out _ h24).mono ?_; rintro e w5 ⟨rfl, hb5⟩; rw [hv]; have h25 := step h24 hb5; obtain ⟨u0, u1, u2⟩ := HX.out _ h25)
          | (go_at_call 30; refine (HMV.out _ h25).mono ?_; rintro e w5b ⟨rfl, hb5b⟩; rw [hmv]; have h25b := step h25 hb5b; obtain ⟨x0, x1, x2⟩ := HX.out _ h25b)
          | (go_at_call 18; refine (HSF.out _ h25b).mono ?_; rintro e w6 ⟨A6, m6, c6, rfl, hm6, ho6, hb6⟩; have h26 := step h25b hb6))
        have hox6 := (((hox3.below (hb4.mono hB3)).below (hb5.mono (Nat.le_trans hB3 hb4.size))).below (hb5b.mono (Nat.le_trans hB3 (Nat.le_trans hb4.size hb5.size)))).below (hb6.mono (Nat.le_trans hB3 (Nat.le_trans hb4.size (Nat.le_trans hb5.size hb5b.size)))); have hB26 : w2.heap.size ≤ w6.heap.size := Nat.le_trans hB3 (Nat.le_trans hb4.size (Nat.le_trans hb5.size (Nat.le_trans hb5b.size hb6.size))); have HXr := Lib.hid (fun w' (hb : Below w6.heap.size w6 w') => (⟨hox6.below (hb.mono hB26), Nat.le_trans hB26 hb.size⟩ : Rd w' w2.heap.size Ax X.length X ∧ w2.heap.size ≤ w'.heap.size)); have HFr := Lib.hid (fun w' (hb : Below w6.heap.size w6 w') => ho6.rd.below hb)
        have HWn := Lib.hid (fun w' (hb : Below w6.heap.size w6 w') => within_any Ax A3 cx c3 X.length X.length _ _ X m w' (HXr.out _ hb).1 (HM.out _ (step h26 hb)).1 rfl HWi (by omega)); have HSm := Lib.hid (fun w' (hb : Below w6.heap.size w6 w') => sameInts_any Ax A3 cx c3 X.length X.length _ _ X m w' (HXr.out _ hb).1 (HM.out _ (step h26 hb)).1 (by omega)); have H26 := Lib.hid h26; clear hox3 hox6 hox hoy z0 z1 z2 y0 y1 y2 v0 v1 v2 u0 u1 u2 x0 x1 x2 hb2 hb3 hb4 hb5 hb5b hb6 h23 h24 h25 h25b h26 hsame; cases bb
        · obtain ⟨x0, x1, x2⟩ := HX.out _ H26.out
          by_cases hn0 : nr = 0
          · subst hn0; have hno := HNo.out rfl
            go_wp2_with (first
              | (go_at_call 31; refine (HWn.out _ (Below.refl _ _)).mono ?_; rintro e w7 ⟨rfl, hb7⟩; obtain ⟨x0', x1', x2'⟩ := HX.out _ (step H26.out hb7))
              | (go_at_call 20; refine (HSm.out _ hb7).mono ?_; rintro e w8 ⟨rfl, hb8⟩; rw [hno]))
            go_ret
            exact ⟨by trivial, HB.out _ (step H26.out (step hb7 hb8))⟩
          · have hn1 : ((0 : Int) < (nr : Int)) := (by omega)
            go_wp2_with (go_at_call 31; refine (HWn.out _ (Below.refl _ _)).mono ?_; rintro e w7 ⟨rfl, hb7⟩; obtain ⟨x0', x1', x2'⟩ := HX.out _ (step H26.out hb7))
            go_ret
            exact ⟨by trivial, HB.out _ (step H26.out hb7)⟩
        · have hm6' := hm6 (by trivial); obtain rfl := hm6'; clear hm6; obtain ⟨x0, x1, x2⟩ := HX.out _ H26.out; have HH1 := Lib.hid (fun w' (hb : Below w6.heap.size w6 w') => HMH.out w' (step H26.out hb) _ c6 _ _ (HFr.out _ hb) hb.size (by omega)); have HH2 := Lib.hid (fun w' (hb : Below w6.heap.size w6 w') => implMasksHave Ax cx X.length w2.heap.size X t _ c6 _ _ FL w' (HXr.out _ hb).1 hX64.out (HXr.out _ hb).2 (by omega) (HFr.out _ hb) hb.size (by omega) hsb); have Ht := Lib.hid (show (true : Bool) = true from rfl); cases qq
          · by_cases hn0 : nr = 0
            · subst hn0; have hno := HNo.out rfl
              go_wp2_with (first | (go_at_call 31; refine (HWn.out _ (Below.refl _ _)).mono ?_; rintro e w7 ⟨rfl, hb7⟩; obtain ⟨x0', x1', x2'⟩ := HX.out _ (step H26.out hb7)) | (go_at_call 32; (with_reducible refine (HH1.out _ hb7).mono ?_); rintro e w8 ⟨rfl, hb8⟩; have h78 := step hb7 hb8; obtain ⟨p0, p1, p2⟩ := HX.out _ (step H26.out h78)) | (go_at_call 20; refine (HSm.out _ h78).mono ?_; rintro e w10 ⟨rfl, hb10⟩; rw [hno]))
              go_ret
              exact ⟨by trivial, HB.out _ (step H26.out (step h78 hb10))⟩
            · have hn1 : ((0 : Int) < (nr : Int)) := (by omega)
              go_wp2_with (first | (go_at_call 31; refine (HWn.out _ (Below.refl _ _)).mono ?_; rintro e w7 ⟨rfl, hb7⟩; obtain ⟨x0', x1', x2'⟩ := HX.out _ (step H26.out hb7)) | (go_at_call 32; (with_reducible refine (HH1.out _ hb7).mono ?_); rintro e w8 ⟨rfl, hb8⟩; have h78 := step hb7 hb8; obtain ⟨p0, p1, p2⟩ := HX.out _ (step H26.out h78)))
              go_ret
              exact ⟨by trivial, HB.out _ (step H26.out h78)⟩
          · have hkp := HKp.out (by trivial) Hqq.out.symm; rw [hkp] at HH2
            by_cases hn0 : nr = 0
            · subst hn0; have hno := HNo.out rfl
              go_wp2_with (first | (go_at_call 31; refine (HWn.out _ (Below.refl _ _)).mono ?_; rintro e w7 ⟨rfl, hb7⟩; obtain ⟨x0', x1', x2'⟩ := HX.out _ (step H26.out hb7)) | (go_at_call 32; (with_reducible refine (HH2.out _ h78).mono ?_); rintro e w9 ⟨rfl, hb9⟩; have h79 := step h78 hb9; obtain ⟨r0, r1, r2⟩ := HX.out _ (step H26.out h79)) | (go_at_call 32; (with_reducible refine (HH1.out _ hb7).mono ?_); rintro e w8 ⟨rfl, hb8⟩; have h78 := step hb7 hb8; obtain ⟨p0, p1, p2⟩ := HX.out _ (step H26.out h78)) | (go_at_call 20; refine (HSm.out _ h79).mono ?_; rintro e w10 ⟨rfl, hb10⟩; rw [hno]))
              go_ret
              exact ⟨by trivial, HB.out _ (step H26.out (step h79 hb10))⟩
            · have hn1 : ((0 : Int) < (nr : Int)) := (by omega)
              go_wp2_with (first | (go_at_call 31; refine (HWn.out _ (Below.refl _ _)).mono ?_; rintro e w7 ⟨rfl, hb7⟩; obtain ⟨x0', x1', x2'⟩ := HX.out _ (step H26.out hb7)) | (go_at_call 32; (with_reducible refine (HH2.out _ h78).mono ?_); rintro e w9 ⟨rfl, hb9⟩; have h79 := step h78 hb9; obtain ⟨r0, r1, r2⟩ := HX.out _ (step H26.out h79)) | (go_at_call 32; (with_reducible refine (HH1.out _ hb7).mono ?_); rintro e w8 ⟨rfl, hb8⟩; have h78 := step hb7 hb8; obtain ⟨p0, p1, p2⟩ := HX.out _ (step H26.out h78)))
              go_ret
              exact ⟨by trivial, HB.out _ (step H26.out h79)⟩
  · go_enter Tryz.func6, Tryz.ntmps6
    go_wp2
    go_ret
    exact ⟨rfl, Below.refl _ _⟩
end Go.Proofs.YtcjdjcpappfkgaaGreatDoor
