import Derived.Test.YtkeoflnmbcdmfaaDoorMRP
import Derived.StillTailTactics
import Derived.Deep.RegionWith
import Derived.Test.YtkeoflnmbcdmfaaDoorMW1F
import Derived.Test.YtkeoflnmbcdmfaaDoorBase
import Derived.Test.YtkeoflnmbcdmfaaDoorPn
import Derived.Lib.SliceRun
import Derived.Test.YtkeoflnmbcdmfaaDoorP5S
import Derived.Test.YtkeoflnmbcdmfaaDoorMKp
import Derived.Test.YtkeoflnmbcdmfaaDoorMSa
import Derived.Test.YtkeoflnmbcdmfaaDoorC1
import Derived.Test.YtkeoflnmbcdmfaaDoorMMadeA
import Derived.Laws.Append
set_option maxRecDepth 8000
namespace Go.Proofs.YtkeoflnmbcdmfaaDoor
open Go.ChangeShapes Go.WideShapes Go.ChangeAt Go.RowKit
/-- what the iterator over solutions reads: the puzzle, as it lay in W0. -/
def SBase (W0 : World) (B0 PB s : Nat) (Ag : Option Addr) (n cg : Nat) (Ar : Option Addr) (nr cr : Nat) (X : World) : Prop := Below B0 W0 X ∧ PBox X PB s Ag n cg Ar nr cr
theorem cov_seq {W0 : World} {B0 s n l : Nat} {gi : List Int} {rs : List RuleM} {J : List (List Int) → World → Prop} {Jx : World → Prop} {W : World} (hB0 : B0 ≤ W0.heap.size) (hs : s ∈ [2, 3, 4]) (hn : n = s * s) (hv : pvB s gi rs = true) (hT : ∀ X, Below B0 W0 X → Tz X)
    (hok : ∀ i, i < n → 0 ≤ nth gi i ∧ nth gi i ≤ (s : Int)) (hJ0 : ∀ pre X, J pre X → Below B0 W0 X)
    (hJs : ∀ pre X Y, J pre X → Below W.heap.size X Y → J pre Y)
    (hY : ∀ pre x X b n c, J pre X → (∃ zs, cv s gi rs (s * s) [] = pre ++ x :: zs) → W.heap.size ≤ b → Rd X X.heap.size (some ⟨b, 0, none⟩) n x →
      YieldAt Fence.wide 0 Tryd.prog l #[.slice (some ⟨b, 0, none⟩) n c] X fun e Y => Mid W.heap.size X Y ∧ ((e = .returned (.bool true) ∧ J (pre ++ [x]) Y) ∨ (e = .returned (.bool false) ∧ Jx Y)))
    (h0 : J [] W) (G OB RB L : Nat) (X : World) (hM : W.heap.size ≤ G ∧ W.heap.size ≤ OB ∧ W.heap.size ≤ RB ∧ W.heap.size ≤ L ∧ G < L ∧ OB ≠ G ∧ RB ≠ G ∧ OB < L ∧ RB < L) (hLX : L ≤ X.heap.size) (hSR : SR W0 B0 s gi rs OB RB L X) (ho : Ow X W.heap.size (some ⟨G, 0, none⟩) n n (zeros n)) (hb : Below W.heap.size W X) :
      Calls Tryd.prog 91 #[sVal G OB RB n, .int .u64 (lf s [] 0 : Nat), .func (.yield l) #[] #[]] X fun e Y => (∃ v, e = .returned v) ∧ (J (cv s gi rs (s * s) []) Y ∨ Jx Y) := by
  subst hn
  refine Calls.mono (cover_any (T := cv s gi rs (s * s) []) (l := l) (W0 := W0) (B0 := B0) (G := G) (OB := OB) (RB := RB) (L := L) (M := W.heap.size) (lo := W.heap.size) (s := s) (n := s * s) (gi := gi) (rs := rs) (J := fun pre X => J pre X ∧ W.heap.size ≤ X.heap.size) (Jx := Jx) hv hs rfl hok hB0 hT ⟨hM.1, hM.2.1, hM.2.2.1, hM.2.2.2.1, hM.2.2.2.2.1, hM.2.2.2.2.2.1, hM.2.2.2.2.2.2.1, hM.2.2.2.2.2.2.2.1, hM.2.2.2.2.2.2.2.2, hM.1⟩ (fun pre X h => hJ0 _ _ h.1) (fun pre X Y h hg => ⟨hJs _ _ _ h.1 (Below.of_grown hg h.2 hM.1), Nat.le_trans h.2 hg.size⟩) ?cb (s * s) 0 [] (zeros (s * s)) [] X (Nat.zero_add _) rfl ⟨hJs _ _ _ h0 hb, hb.size⟩ hLX hSR ho (fun i hi => absurd hi (Nat.not_lt_zero i)) (fun i hi => absurd hi (Nat.not_lt_zero i)) (fun q hq => absurd hq (Nat.not_lt_zero q)) ⟨[], by simp⟩) ?fin
  case cb =>
    intro pre ys X hm h ho
    have hGX : G < X.heap.size := by
      obtain ⟨g, e, _, hg⟩ := ho.form (by simp at hs; rcases hs with rfl | rfl | rfl <;> omega)
      cases e; exact hg
    obtain ⟨fn, tmps, assign, body, hyy, hR⟩ := hY _ ys X G (s * s) (s * s) h.1 hm hM.1 (ho.rd)
    refine ⟨fn, tmps, assign, body, hyy, hR.mono ?_⟩
    rintro e Y ⟨hm2, (⟨rfl, hj⟩ | ⟨rfl, hx⟩)⟩
    · exact ⟨true, rfl, .inl ⟨rfl, ⟨hj, Nat.le_trans h.2 hm2.size⟩, hm2.x, ho.same (hm2.same G hM.1 hGX)⟩⟩
    · exact ⟨false, rfl, .inr ⟨rfl, hx⟩⟩
  case fin =>
    rintro e Y (⟨rfl, hj, _⟩ | ⟨rfl, hx⟩)
    · exact ⟨⟨_, rfl⟩, .inl (by simpa using hj.1)⟩
    · exact ⟨⟨_, rfl⟩, .inr hx⟩
end Go.Proofs.YtkeoflnmbcdmfaaDoor
set_option maxRecDepth 8000
namespace Go.Proofs.YtkeoflnmbcdmfaaDoor
open Go.ChangeShapes Go.WideShapes Go.ChangeAt Go.RowKit
set_option maxHeartbeats 1000000 in
theorem sols_seq (W0 : World) (B0 PB s n : Nat) (Ag : Option Addr) (cg : Nat) (gi : List Int) (Ar : Option Addr) (nr cr : Nat) (rs : List RuleM) (hB0 : B0 ≤ W0.heap.size) (hs : s ∈ [2, 3, 4]) (hn : n = s * s) (hg : Rd W0 B0 Ag n gi) (hr : RdRc W0 B0 Ar nr rs) (hmr : nr ≤ 20) (hv : pvB s gi rs = true) (hT : ∀ X, Below B0 W0 X → Tz X) :
    SeqP Tryd.prog 89 #[.pointer (some ⟨PB, 0, none⟩)] (SBase W0 B0 PB s Ag n cg Ar nr cr) (cv s gi rs (s * s) []) := by
  intro l J Jx W hJb hJs hY h0
  obtain ⟨w0, w1⟩ := hJb _ _ h0
  have hPB : PB < W.heap.size := cell_lt w1.1
  have hok : ∀ i, i < n → 0 ≤ nth gi i ∧ nth gi i ≤ (s : Int) := fun i hi => gv_nth (pv_gv hv).1 (by rw [hg.1]; exact hi)
  have HSe := Lib.hid (search_any W0 B0 s n Ag cg gi Ar nr cr rs W w0 hB0 hs hn hg hr hmr hv)
  have HAl := Lib.hid (fun w' => allItems_any s w' hs)
  have HC := Lib.hid (cov_seq hB0 hs hn hv hT hok (fun pre X h => (hJb _ _ h).1) hJs hY h0)
  have hlf : lf s [] 0 = 2 ^ (3 * s * s) - 1 := rfl
  obtain ⟨AL, hAL⟩ : ∃ AL, AL = 2 ^ (3 * s * s) - 1 := ⟨_, rfl⟩
  rw [hlf, ← hAL] at HC
  rw [← hAL] at HAl
  obtain ⟨CV, hCV⟩ : ∃ CV, CV = cv s gi rs (s * s) [] := ⟨_, rfl⟩
  rw [← hCV] at HC ⊢
  show Calls Tryd.prog 89 #[.func (.yield l) #[] #[], .pointer (some ⟨PB, 0, none⟩)] W _
  have HPB := Lib.hid (fun X (hb : Below W.heap.size W X) => w1.below hPB hb)
  obtain ⟨b0, b1, b2⟩ := id w1
  clear hJb hJs hY h0 w0 hAL hCV hlf hok hg hr hv hT w1 hn
  go_enter Tryd.func89, Tryd.ntmps89
  go_wp2_with (go_at_call 90; refine HSe.out.mono ?_; rintro e X1 ⟨G, OB, RB, L, rfl, hrest⟩; have HRest := Lib.hid hrest; clear hrest; unfold sVal)
  obtain ⟨hM, hLX, hSR, ho, hb1⟩ := HRest.out
  have hbd : Below X1.heap.size X1 (X1.alloc (.cells #[.slice (some ⟨G, 0, none⟩) n n, .slice (some ⟨OB, 0, none⟩) n n, .slice (some ⟨RB, 0, none⟩) n n] 96)) := (Below.refl _ _).alloc (Nat.le_refl _) _
  have HCX := Lib.hid (fun X' (hb' : Below X1.heap.size X1 X') => HC.out G OB RB L X' hM (Nat.le_trans hLX hb'.size) (hSR.midx (midx_below (lo := W.heap.size) (G := G) hb') ⟨hM.2.1, hM.2.2.2.2.2.1⟩ ⟨hM.2.2.1, hM.2.2.2.2.2.2.1⟩ hM.2.2.2.1 hM.2.2.2.2.1) (ho.below hb') (hb1.trans (hb'.mono hb1.size)))
  unfold sVal at HCX
  obtain ⟨c0, c1, c2⟩ := sbox_new X1 G OB RB n 96
  obtain ⟨p0, p1, p2⟩ := HPB.out _ (hb1.trans (hbd.mono hb1.size))
  clear hSR ho hM hLX HC HSe
  clear hb1
  go_wp2
  go_region_with (first
    | (go_at_call 92; refine (HAl.out _).mono ?_; rintro e wq ⟨rfl, rfl⟩)
    | (go_at_call 91; refine (HCX.out _ (by first | exact hbd | exact hbd.drew)).mono ?_; rintro e Y ⟨⟨v, rfl⟩, hYY⟩))
  all_goals
    go_end0
    exact ⟨⟨_, rfl⟩, hYY⟩
theorem solutions_any (s n : Nat) (Ag : Option Addr) (cg : Nat) (Ar : Option Addr) (nr cr : Nat) (w : World) :
    Calls Tryd.prog 49 #[.agg #[.int .i64 s, .slice Ag n cg, .slice Ar nr cr]] w fun e w' => ∃ PB, e = .returned (.func (.func 89) #[] #[.pointer (some ⟨PB, 0, none⟩)]) ∧ w.heap.size ≤ PB ∧ PBox w' PB s Ag n cg Ar nr cr ∧ Below w.heap.size w w' := by
  have hx0 := pbox_new w s Ag n cg Ar nr cr 26
  have hb0 : Below w.heap.size w (w.alloc (.cells #[.int .i64 s, .slice Ag n cg, .slice Ar nr cr] 26)) := (Below.refl _ _).alloc (Nat.le_refl _) _
  go_enter Tryd.func49, Tryd.ntmps49
  go_wp2
  go_ret
  exact ⟨w.heap.size, rfl, Nat.le_refl _, hx0, hb0⟩
end Go.Proofs.YtkeoflnmbcdmfaaDoor
set_option maxRecDepth 8000
namespace Go.Proofs.YtkeoflnmbcdmfaaDoor
open Go.ChangeShapes Go.WideShapes Go.ChangeAt Go.RowKit
/-- the first of all solutions; none. -/
def sfL (s : Int) (n : Nat) (gi : List Int) (rs : List RuleM) : List Int := (allS s 1 n gi rs).getD 0 []
def sfB (s : Int) (n : Nat) (gi : List Int) (rs : List RuleM) : Bool := !(allS s 1 n gi rs).isEmpty
set_option maxHeartbeats 1000000 in
theorem specSolveFirst (s : Int) (Ag : Option Addr) (n cg Bg : Nat) (gi : List Int) (Ar : Option Addr) (nr cr Br : Nat) (rs : List RuleM) (w : World) (hp : PGs w s Ag n cg Bg gi Ar nr cr Br rs) :
    Calls Tryd.prog 18 #[.agg #[.int .i64 s, .slice Ag n cg, .slice Ar nr cr]] w fun e w' => ∃ A m c, e = .returned (.tuple #[.slice A m c, .bool (sfB s n gi rs)]) ∧ (sfB s n gi rs = true → m = n) ∧ Ow w' w.heap.size A m c (sfL s n gi rs) ∧ Below w.heap.size w w' := by
  have hx0 := pbox_new w s Ag n cg Ar nr cr 26
  have hb0 : Below w.heap.size w (w.alloc (.cells #[.int .i64 s, .slice Ag n cg, .slice Ar nr cr] 26)) := (Below.refl _ _).alloc (Nat.le_refl _) _
  have hs0 : w.heap.size < (w.alloc (.cells #[.int .i64 s, .slice Ag n cg, .slice Ar nr cr] 26)).heap.size := by simp
  obtain ⟨z0, z1, z2⟩ := id hx0
  go_enter Tryd.func18, Tryd.ntmps18
  go_wp2_with fail
  refine (specAll s 1 Ag n cg Bg gi Ar nr cr Br rs _ (hp.below hb0) (by omega) (by omega)).mono ?_
  rintro e w1 ⟨P, v, rfl, ⟨A, c, vs, rfl, hown, _, hin⟩, hb1⟩
  have h01 := step hb0 hb1
  cases hL : allS s 1 n gi rs with
  | nil =>
    have H1 := Lib.hid (show sfL s n gi rs = [] by simp [sfL, hL])
    have H2 := Lib.hid (show sfB s n gi rs = false by simp [sfB, hL])
    simp only [List.length_nil]
    clear hin hown
    go_wp2
    go_ret2
    rw [H1.out, H2.out]
    exact ⟨_, _, _, rfl, fun h => (by cases h), Ow.made0 _ _ h01.size, h01.alloc h01.size _⟩
  | cons y L =>
    have H1 := Lib.hid (show sfL s n gi rs = y by simp [sfL, hL])
    have H2 := Lib.hid (show sfB s n gi rs = true by simp [sfB, hL])
    rw [hL] at hown hin
    simp only [List.length_cons] at hown hin ⊢
    obtain ⟨A', c', hv, ho, _⟩ := hin 0 (by omega)
    obtain ⟨g, cap, he, _, hg⟩ := World.ownsRow.form hown (by omega)
    injection he with hA _ hc
    subst hA
    have hcell : w1.cell? ⟨g, 0, none⟩ = some (.slice A' n c') := by
      have hk := hv
      subst hc
      have := World.ownsRow.cellAt hown 0 (by omega)
      rw [this]
      simpa using hk
    have hl0 : ((L.length + 1 : Nat) : Int) ≠ 0 := by omega
    have hl1 : (0 : Int) < ((L.length + 1 : Nat) : Int) := by omega
    have hl2 : (((L.length + 1 : Nat) : Int) == 0) = false := by simp only [beq_eq_false_iff_ne]; omega
    obtain ⟨l, hl⟩ : ∃ l, L.length + 1 = l := ⟨_, rfl⟩
    rw [hl] at hl0 hl1 hl2 ⊢
    clear hin hown hL hl hv
    go_wp2
    go_ret2
    rw [H1.out, H2.out]
    simp only [List.getD_cons_zero] at ho
    exact ⟨_, _, _, rfl, fun _ => rfl, ho.mono (Nat.le_succ_of_le (Nat.le_of_lt hs0)), h01⟩
end Go.Proofs.YtkeoflnmbcdmfaaDoor
set_option maxRecDepth 8000
namespace Go.Proofs.YtkeoflnmbcdmfaaDoor
open Go.ChangeShapes Go.WideShapes Go.ChangeAt Go.RowKit
/-! slices.Clone of ints. -/
theorem clone_any (A : Option Addr) (n c B : Nat) (xs : List Int) (w : World) (h : Rd w B A n xs) (hB : B ≤ w.heap.size) (hn : 0 < n) (hm : n ≤ 1099511627776) :
    Calls Tryd.prog 50 #[.slice A n c] w fun e w' => ∃ A' c', e = .returned (.slice A' n c') ∧ Ow w' w.heap.size A' n c' xs ∧ Below w.heap.size w w' := by
  obtain ⟨b, off, rfl, _, _⟩ := h.at_ hn
  have hb0 : Below w.heap.size w (w.alloc (.cells #[] 3)) := (Below.refl _ _).alloc (Nat.le_refl _) _
  have HO := Lib.hid (Ow.made0 w w.heap.size (Nat.le_refl _))
  have HR := Lib.hid (h.below (hb0.mono hB))
  have hsO : w.heap.size ≤ (w.alloc (.cells #[] 3)).heap.size := by simp
  have hcmp := fun w' => Lib.run_eql_slice_nil (P := Tryd.prog) w' 23 3 (some ⟨b, off, none⟩) n c 0 0 Tryd.underlying23
  go_enter Tryd.func50, Tryd.ntmps50
  go_wp2_with (at_builtin; (refine push_new rfl (.tmp 5) (.tmp 6) rfl w.heap.size (some ⟨w.heap.size, 0, none⟩) (some ⟨b, off, none⟩) n c B xs rfl rfl HO.out HR.out hm hsO ?_); intro A1 c1 w1 ho1 hg1; have hb1 := hb0.grown hg1 hb0.size (fun k hk => HO.out.own_lo k hk))
  go_ret
  exact ⟨_, _, rfl, ho1, hb1⟩
end Go.Proofs.YtkeoflnmbcdmfaaDoor
set_option maxRecDepth 8000
namespace Go.Proofs.YtkeoflnmbcdmfaaDoor
/-! What a grid that fits keeps: with a cell less, without the rules; and it fits as a square. -/
theorem nth_set0 (g : List Int) (c i : Nat) : nth (g.set c 0) i = nth g i ∨ nth (g.set c 0) i = 0 := by
  by_cases e : c = i
  · subst e
    by_cases h : c < g.length
    · right; simp [nth, List.getD_eq_getElem?_getD, h]
    · left; rw [List.set_eq_of_length_le (by omega)]
  · left; simp [nth, List.getD_eq_getElem?_getD, e]
theorem give_less {gi g : List Int} {c i : Nat} (h : giveOk gi g i = true) : giveOk gi (g.set c 0) i = true := by
  rcases nth_set0 g c i with e | e
  · unfold giveOk at h ⊢
    rw [e]; exact h
  · unfold giveOk
    rw [e]; simp
theorem fp_parts {s : Int} {gi g : List Int} {rs : List RuleM} : fpB s gi rs g = true ↔ pvB s gi rs = true ∧ gv g s = true ∧ (∀ i, i < g.length → giveOk gi g i = true) ∧ (∀ i, i < rs.length → rpR s g (rat rs i) = true) ∧ clash g s = false := by
  simp only [fpB, fitB, Bool.and_eq_true, List.all_eq_true, List.mem_range, Bool.not_eq_true']
  constructor
  · rintro ⟨⟨a, b⟩, ⟨c, d⟩, e⟩; exact ⟨a, b, c, d, e⟩
  · rintro ⟨a, b, c, d, e⟩; exact ⟨⟨a, b⟩, ⟨c, d⟩, e⟩
theorem fp_less {s : Int} {gi g : List Int} {rs : List RuleM} (h : fpB s gi rs g = true) (c : Nat) : fpB s gi rs (g.set c 0) = true := by
  obtain ⟨hp, hg, h1, h2, h3⟩ := fp_parts.1 h
  refine fp_parts.2 ⟨hp, gv_put hg c, fun i hi => give_less (h1 i (by simpa using hi)), fun i hi => (rp_less ((pv_gv hp).2.2 i hi) hg (h2 i hi) c).1, ?_⟩
  obtain ⟨a, b⟩ := gv_size hg
  have hl := gv_len hg
  obtain ⟨t, rfl⟩ := Int.eq_ofNat_of_zero_le (show 0 ≤ s by omega)
  exact clash_set0 (by simp; omega) (by exact_mod_cast hl) h3
theorem fp_nil {s : Int} {gi g : List Int} {rs : List RuleM} (h : fpB s gi rs g = true) : fpB s gi [] g = true := by
  obtain ⟨hp, hg, h1, h2, h3⟩ := fp_parts.1 h
  refine fp_parts.2 ⟨?_, hg, h1, fun i hi => absurd hi (by simp), h3⟩
  simp only [pvB, (pv_gv hp).1]
  simp
theorem fp_sq {s : Int} {gi g : List Int} {rs : List RuleM} (h : fpB s gi rs g = true) : sqFits g s = true := by
  obtain ⟨hp, hg, h1, h2, h3⟩ := fp_parts.1 h
  simp [sqFits, hg, h3]
/-- a solution is a solved grid for which every rule holds and which has all that is given. -/
theorem ps_is {s : Int} {gi g : List Int} {rs : List RuleM} (hp : pvB s gi rs = true) (hg : gv g s = true) : psB s gi rs g = (sqSolved g s && ((List.range rs.length).all fun i => rhB (rat rs i).k (rat rs i).xs (rat rs i).v g s) && ((List.range g.length).all fun i => nth gi i == 0 || nth gi i == nth g i)) := by
  have hl := gv_len hg
  have hgf : gf g s = (cnz g g.length : Int) := by simp [gf, hg]
  have hli := gv_len (pv_gv hp).1
  unfold psB sqSolved sqFits
  rw [hgf, ← hl]
  by_cases hf : cnz g g.length = g.length
  · have hn := cnz_all hf
    have e1 : ((cnz g g.length : Int) == (g.length : Int)) = true := by rw [hf]; simp
    rw [e1, Bool.and_true, Bool.and_true, Bool.eq_iff_iff, fp_parts]
    simp only [Bool.and_eq_true, List.all_eq_true, List.mem_range, Bool.not_eq_true', Bool.or_eq_true, beq_iff_eq, hp, hg, true_and]
    have q1 : ∀ i, i < rs.length → (rhB (rat rs i).k (rat rs i).xs (rat rs i).v g s = true ↔ rpR s g (rat rs i) = true) := fun i hi => by
      rw [rh_full ((pv_gv hp).2.2 i hi) hg hf]
      exact Iff.rfl
    have q2 : ∀ i, i < g.length → (giveOk gi g i = true ↔ (nth gi i = 0 ∨ nth gi i = nth g i)) := fun i hi => by
      have h1 := hn i hi
      have h2 := (gv_nth hg hi).1
      have h3 := (gv_nth (pv_gv hp).1 (show i < gi.length by omega)).1
      simp only [giveOk, Bool.not_eq_true', Bool.and_eq_false_iff, decide_eq_false_iff_not, bne_eq_false_iff_eq]
      omega
    constructor
    · rintro ⟨a, b, c⟩
      exact ⟨⟨c, fun i hi => (q1 i hi).2 (b i hi)⟩, fun i hi => (q2 i hi).1 (a i hi)⟩
    · rintro ⟨⟨c, b⟩, a⟩
      exact ⟨fun i hi => (q2 i hi).2 (a i hi), fun i hi => (q1 i hi).1 (b i hi), c⟩
  · have e1 : ((cnz g g.length : Int) == (g.length : Int)) = false := by simp only [beq_eq_false_iff_ne]; omega
    rw [e1]
    simp
end Go.Proofs.YtkeoflnmbcdmfaaDoor
set_option maxRecDepth 8000
namespace Go.Proofs.YtkeoflnmbcdmfaaDoor
open Go.ChangeShapes Go.WideShapes Go.ChangeAt Go.RowKit
/-! The solutions of a puzzle are those of the numbered squares that pass PuzzleSolved, in their order. -/
/-- all solved squares, in rising order. -/
def sqL (s : Nat) : List (List Int) := sols s (s * s) (zeros (s * s)) 0
theorem sqL_len {s : Nat} (hs : s ∈ [2, 3, 4]) : ((sqL s).length : Int) = sqCnt s := by
  have h := sols_cnt (s := (s : Int)) (by simp at hs; omega) (by simp at hs; omega)
  rw [← h]
  unfold sqL
  rw [show ((s : Int) * s).toNat = s * s by rw [← Int.natCast_mul]; exact Int.toNat_natCast _]
theorem sqn_sqL {s : Nat} (hs : s ∈ [2, 3, 4]) (j : Nat) : sqn s j = (sqL s).getD j [] := by
  unfold sqn sqL
  rw [if_pos ⟨by simp [inr]; simp at hs; omega, by omega⟩, show ((s : Int) * s).toNat = s * s by rw [← Int.natCast_mul]; exact Int.toNat_natCast _, Int.toNat_natCast, List.getD_eq_getElem?_getD]
theorem clash_ext {s : Nat} {g y : List Int} (hs : s ∈ [2, 3, 4]) (h : ∀ i, i < s * s → nth g i = nth y i ∨ nth g i = 0) (hc : clash g s = true) : clash y s = true := by
  obtain ⟨i, j, hi, hj, ha, e, h0⟩ := (clash_iff hs).1 hc
  have ej : nth g j = nth y j := (h j hj).resolve_right (by omega)
  have ei : nth g i = nth y i := (h i hi).resolve_right (by omega)
  exact (clash_iff hs).2 ⟨i, j, hi, hj, ha, by rw [← ei, ← ej, e], by rw [← ej]; exact h0⟩
/-- all numbered squares: of all full grids those without clashes. -/
theorem sols_enS {s : Nat} (hs : s ∈ [2, 3, 4]) : ∀ (f p : Nat) (z : List Int), p + f = s * s → z.length = s * s → 0 < f → (∀ i, p ≤ i → nth z i = 0) → sols s f z p = (enS s f z p).filter fun y => !clash y s := by
  intro f
  induction f with
  | zero => intro p z _ _ h; omega
  | succ f ih =>
    intro p z hp hl _ hz
    have hs4 : s ≤ 4 := by simp at hs; omega
    simp only [sols, enS]
    rw [if_neg (by rw [hz p (Nat.le_refl _)]; omega), List.filter_flatMap, Int.toNat_natCast]
    unfold rep
    have one : ∀ v : Nat, (if clash (z.set p (v : Int)) s = true then [] else sols s f (z.set p (v : Int)) (p + 1)) = (enS s f (z.set p (v : Int)) (p + 1)).filter fun y => !clash y s := fun v => by
      have hzs : ∀ i, p + 1 ≤ i → nth (z.set p (v : Int)) i = 0 := fun i hi => by
        have : nth (z.set p (v : Int)) i = nth z i := by simp only [nth, List.getD_eq_getElem?_getD, List.getElem?_set]; rw [if_neg (by omega)]
        rw [this]; exact hz i (by omega)
      by_cases hc : clash (z.set p (v : Int)) s = true
      · rw [if_pos hc]
        symm
        rw [List.filter_eq_nil_iff]
        intro y hy hn
        obtain ⟨a, b, c⟩ := enS_in f _ _ y hy (by rw [List.length_set]; omega)
        have := clash_ext (g := z.set p (v : Int)) (y := y) hs (fun i hi => by
          by_cases h : i < p + 1
          · exact .inl (b i h).symm
          · exact .inr (hzs i (by omega))) hc
        rw [this] at hn; cases hn
      · rw [if_neg hc]
        by_cases hf : 0 < f
        · exact ih (p + 1) _ (by omega) (by rw [List.length_set]; exact hl) hf hzs
        · obtain rfl : f = 0 := by omega
          simp only [sols, enS]
          rw [List.filter_cons_of_pos (by simpa using hc), List.filter_nil]
    have key : ∀ r v, solsFrom (fun ys => sols s f ys (p + 1)) z s p r v = (seqN v r).flatMap fun x => (enS s f (z.set p x) (p + 1)).filter fun y => !clash y s := by
      intro r
      induction r with
      | zero => intro v; rfl
      | succ r ihr =>
        intro v
        simp only [solsFrom, seqN, List.flatMap_cons]
        rw [ihr (v + 1), one v]
    exact key s 1
theorem sqL_is {s : Nat} (hs : s ∈ [2, 3, 4]) : sqL s = (enS s (s * s) (zeros (s * s)) 0).filter fun y => !clash y s :=
  sols_enS hs (s * s) 0 _ (by omega) (zeros_length _) (by simp at hs; rcases hs with rfl | rfl | rfl <;> decide) (fun i _ => zeros_nth _ i)
theorem flat_one {α β : Type} {L : List α} {f : α → List β} {a : α} (hn : L.Nodup) (ha : a ∈ L) (h : ∀ x ∈ L, x ≠ a → f x = []) : L.flatMap f = f a := by
  induction L with
  | nil => cases ha
  | cons b L ih =>
    rw [List.flatMap_cons]
    rw [List.nodup_cons] at hn
    rcases List.mem_cons.1 ha with rfl | h2
    · rw [flat_none (fun x hx => h x (List.mem_cons_of_mem _ hx) (fun e => hn.1 (by rw [← e]; exact hx))), List.append_nil]
    · rw [h b (List.mem_cons_self ..) (fun e => hn.1 (by rw [e]; exact h2)), List.nil_append]
      exact ih hn.2 h2 (fun x hx => h x (List.mem_cons_of_mem _ hx))
theorem seqN_nodup : ∀ r v, (seqN v r).Nodup := by
  intro r
  induction r with
  | zero => intro v; simp [seqN]
  | succ r ih =>
    intro v
    simp only [seqN, List.nodup_cons]
    refine ⟨fun h => ?_, ih (v + 1)⟩
    obtain ⟨u, e, h1, _⟩ := seqN_mem.1 h
    omega
/-- a grid has all that is given, from cell p on. -/
def agF (g y : List Int) (p m : Nat) : Bool := (List.range m).all fun i => decide (i < p) || !(decide (0 < nth g i)) || (nth y i == nth g i)
theorem agF_iff {g y : List Int} {p m : Nat} : agF g y p m = true ↔ ∀ i, p ≤ i → i < m → 0 < nth g i → nth y i = nth g i := by
  simp only [agF, List.all_eq_true, List.mem_range, Bool.or_eq_true, decide_eq_true_eq, Bool.not_eq_true', decide_eq_false_iff_not, beq_iff_eq]
  constructor
  · intro h i h1 h2 h3
    rcases h i h2 with (h | h) | h
    · omega
    · exact absurd h3 h
    · exact h
  · intro h i hi
    by_cases h1 : i < p
    · exact .inl (.inl h1)
    · by_cases h2 : 0 < nth g i
      · exact .inr (h i (by omega) hi h2)
      · exact .inl (.inr h2)
theorem enS_agree {s : Nat} : ∀ (f p : Nat) (g z : List Int), p + f = z.length → g.length = z.length → (∀ i, i < p → nth g i = nth z i) → (∀ i, p ≤ i → nth z i = 0) → (∀ i, p ≤ i → i < p + f → 0 < nth g i → nth g i ∈ rep s) → enS s f g p = (enS s f z p).filter fun y => agF g y p (p + f) := by
  intro f
  induction f with
  | zero =>
    intro p g z hp hl hpre hz hin
    obtain rfl : g = z := ext_nth hl (fun k hk => hpre k (by omega))
    simp only [enS]
    rw [List.filter_cons_of_pos (by exact agF_iff.2 (fun i h1 h2 => by omega)), List.filter_nil]
  | succ f ih =>
    intro p g z hp hl hpre hz hin
    have hset : ∀ (x : Int) (i : Nat), p + 1 ≤ i → nth (z.set p x) i = 0 := fun x i hi => by
      rw [nth_set (by omega), if_neg (by omega)]; exact hz i (by omega)
    have hq : ∀ (x : Int) y, y ∈ enS s f (z.set p x) (p + 1) → nth y p = x := fun x y hy => by
      obtain ⟨_, b, _⟩ := enS_in f _ _ y hy (by rw [List.length_set]; omega)
      rw [b p (by omega), nth_set (by omega), if_pos rfl]
    simp only [enS]
    rw [if_neg (show ¬ 0 < nth z p by rw [hz p (Nat.le_refl _)]; omega), List.filter_flatMap]
    by_cases h0 : 0 < nth g p
    · rw [if_pos h0, flat_one (a := nth g p) (show (rep s).Nodup from seqN_nodup s 1) (hin p (Nat.le_refl _) (by omega) h0)]
      · rw [ih (p + 1) g (z.set p (nth g p)) (by rw [List.length_set]; omega) (by rw [List.length_set]; exact hl) (fun i hi => by
          rw [nth_set (by omega)]
          by_cases e : p = i
          · subst e; rw [if_pos rfl]
          · rw [if_neg e]; exact hpre i (by omega)) (hset _) (fun i h1 h2 => hin i (by omega) (by omega))]
        apply List.filter_congr
        intro y hy
        rw [Bool.eq_iff_iff, agF_iff, agF_iff]
        constructor
        · intro h i h1 h2 h3
          by_cases e : i = p
          · subst e; exact hq _ y hy
          · exact h i (by omega) (by omega) h3
        · intro h i h1 h2 h3; exact h i (by omega) (by omega) h3
      · intro x _ hne
        rw [List.filter_eq_nil_iff]
        intro y hy hag
        have := agF_iff.1 hag p (Nat.le_refl _) (by omega) h0
        rw [hq x y hy] at this
        exact hne this
    · rw [if_neg h0]
      apply flat_congr
      intro x hx
      rw [ih (p + 1) (g.set p x) (z.set p x) (by rw [List.length_set]; omega) (by rw [List.length_set, List.length_set]; exact hl) (fun i hi => by
          rw [nth_set (by omega), nth_set (by omega)]
          split
          · rfl
          · exact hpre i (by omega)) (hset x) (fun i h1 h2 h3 => by
            rw [nth_set (by omega), if_neg (by omega)] at h3 ⊢
            exact hin i (by omega) (by omega) h3)]
      apply List.filter_congr
      intro y hy
      rw [Bool.eq_iff_iff, agF_iff, agF_iff]
      constructor
      · intro h i h1 h2 h3
        by_cases e : i = p
        · subst e; exact absurd h3 h0
        · have := h i (by omega) (by omega) (by rw [nth_set (by omega), if_neg (by omega)]; exact h3)
          rw [nth_set (by omega), if_neg (by omega)] at this
          exact this
      · intro h i h1 h2 h3
        rw [nth_set (by omega), if_neg (by omega)] at h3 ⊢
        exact h i (by omega) (by omega) h3
/-- the solutions: of the numbered squares those that pass. -/
theorem solL_is {s : Nat} {gi : List Int} {rs : List RuleM} (hv : pvB s gi rs = true) : solL s gi rs = (sqL s).filter (psB s gi rs) := by
  obtain ⟨t, ht, hs, hn, _, hok⟩ := pv_grid hv rfl
  obtain rfl : s = t := by omega
  obtain ⟨hgi, _, hr⟩ := pv_gv hv
  have hl : gi.length = s * s := by
    simp at hs
    rcases hs with rfl | rfl | rfl <;> omega
  rw [hl] at hok
  have hzl := zeros_length (s * s)
  unfold solL
  rw [hl, sqL_is hs, enS_agree (s * s) 0 gi (zeros (s * s)) (by omega) (by omega) (fun i hi => absurd hi (by omega)) (fun i _ => zeros_nth _ i) (fun i _ h2 h3 => by
    have := hok i (by omega)
    exact rep_mem.2 ⟨(nth gi i).toNat, by omega, by omega, by omega⟩), List.filter_filter, List.filter_filter]
  apply List.filter_congr
  intro y hy
  obtain ⟨a, _, c⟩ := enS_in _ _ _ y hy (by omega)
  rw [hzl] at a c
  have hfull : ∀ i, i < s * s → 1 ≤ nth y i ∧ nth y i ≤ (s : Int) := fun i hi => by
    obtain ⟨u, e, u1, u2⟩ := rep_mem.1 ((c i (by omega) hi).2 (by rw [zeros_nth]; omega))
    omega
  have hgy : gv y s = true := okAll_gv' hs a (fun i hi => by have := hfull i hi; omega)
  have hps : psB s gi rs y = fpB s gi rs y := by
    unfold psB
    have : gf y s = (y.length : Int) := by
      unfold gf
      rw [if_pos hgy]
      have := cnz_full.2 (fun k (hk : k < y.length) => show nth y k ≠ 0 by have := hfull k (by omega); omega)
      rw [this]
    rw [this]; simp
  rw [hps, Bool.eq_iff_iff, Bool.and_eq_true, Bool.and_eq_true, agF_iff, fp_parts]
  simp only [fitB, Bool.and_eq_true, List.all_eq_true, List.mem_range, Bool.not_eq_true']
  constructor
  · rintro ⟨⟨⟨f1, f2⟩, f3⟩, ag⟩
    exact ⟨⟨hv, hgy, f1, f2, f3⟩, f3⟩
  · rintro ⟨⟨_, _, f1, f2, f3⟩, _⟩
    refine ⟨⟨⟨f1, f2⟩, f3⟩, fun i h1 h2 h3 => ?_⟩
    have := f1 i (by omega)
    have hy1 := hfull i (by omega)
    unfold giveOk at this
    simp only [Bool.not_eq_true', Bool.and_eq_false_iff, decide_eq_false_iff_not, bne_eq_false_iff_eq] at this
    rcases this with (h | h) | h
    · exact absurd h3 h
    · omega
    · exact h
end Go.Proofs.YtkeoflnmbcdmfaaDoor
set_option maxRecDepth 8000
namespace Go.Proofs.YtkeoflnmbcdmfaaDoor
open Go.ChangeShapes Go.WideShapes Go.ChangeAt Go.RowKit Go.Shelf
attribute [local go_sem] Oper.semAt_some
theorem RdRc.more {w : World} {B B' : Nat} {A : Option Addr} {n : Nat} {rs : List RuleM} (h : RdRc w B A n rs) (hB : B ≤ B') : RdRc w B' A n rs := by
  refine ⟨h.1, fun hn => ?_⟩
  obtain ⟨b, off, e, hb, hc⟩ := h.2 hn
  exact ⟨b, off, e, Nat.lt_of_lt_of_le hb hB, fun i hi => by
    obtain ⟨A', c', e0, e1, e2, e3, e4⟩ := hc i hi
    exact ⟨A', c', e0, e1, e2, e3.more hB, e4⟩⟩
/-- the program's list of solutions is the reference's. -/
theorem allS_cv {s : Nat} {gi : List Int} {rs : List RuleM} {most n : Nat} (hl : gi.length = n) (hv : pvB s gi rs = true) (h0 : 0 < most) (hn : n = s * s) : allS s most n gi rs = (cv s gi rs (s * s) []).take most := by
  rw [allS_is hl hv h0, ← cv_is hv, hl, hn]
theorem sf_cons {s : Nat} {gi : List Int} {rs : List RuleM} {n : Nat} {y : List Int} {zs : List (List Int)} (hl : gi.length = n) (hv : pvB s gi rs = true) (hn : n = s * s) (h : cv s gi rs (s * s) [] = y :: zs) : sfL s n gi rs = y ∧ sfB s n gi rs = true := by
  unfold sfL sfB
  rw [allS_cv hl hv (by omega) hn, h]
  exact ⟨rfl, rfl⟩
theorem sf_nil {s : Nat} {gi : List Int} {rs : List RuleM} {n : Nat} (hl : gi.length = n) (hv : pvB s gi rs = true) (hn : n = s * s) (h : cv s gi rs (s * s) [] = []) : sfL s n gi rs = [] ∧ sfB s n gi rs = false := by
  unfold sfL sfB
  rw [allS_cv hl hv (by omega) hn, h]
  exact ⟨rfl, rfl⟩
theorem allS_none {s : Int} {gi : List Int} {rs : List RuleM} {most n : Nat} (hv : pvB s gi rs = false) : allS s most n gi rs = [] := by
  unfold allS fpB
  rw [hv]; rfl
theorem cv_len {s : Nat} {gi : List Int} {rs : List RuleM} {n : Nat} {y : List Int} (hl : gi.length = n) (hv : pvB s gi rs = true) (hn : n = s * s) (hs : s ∈ [2, 3, 4]) (h : y ∈ cv s gi rs (s * s) []) : y.length = n := by
  have e : cv s gi rs (s * s) [] = solL s gi rs := by rw [← hn, ← hl]; exact cv_is hv
  rw [e, solL_is hv] at h
  have h1 := (List.mem_filter.1 h).2
  unfold psB fpB at h1
  simp only [Bool.and_eq_true] at h1
  have := gv_len h1.1.1.2
  simp at hs
  rcases hs with rfl | rfl | rfl <;> omega
theorem below_put_at {N l : Nat} {X : World} (o' : Obj) (hN : N ≤ l) (hl : l < X.heap.size) : Below N X (X.putObj l o') :=
  below_put o' hN (Array.getElem?_eq_getElem hl)
theorem Ow.same_own {w w' : World} {lo n c : Nat} {A : Option Addr} {xs : List Int} (h : Ow w lo A n c xs) (hn : 0 < n) (hs : ∀ g, (Value.slice A n c).ownBlock = some g → w'.heap[g]? = w.heap[g]?) : Ow w' lo A n c xs := by
  obtain ⟨g, rfl, _, _⟩ := h.form hn
  exact h.same (hs g rfl)
theorem cell_none_of_deferred {W : World} {D i : Nat} {o : Option (List Deferred)} (h : W.heap[D]? = some (.deferred o)) : W.cell? ⟨D, i, none⟩ = none := by
  unfold World.cell?
  simp [h]
theorem sf_results (tm : Array Value) (X : World) (g h : Nat) (A : Option Addr) (m c : Nat) (b : Bool) (h2 : tm[2]?.getD undef = .pointer (some ⟨g, 0, none⟩)) (h3 : tm[3]?.getD undef = .pointer (some ⟨h, 0, none⟩)) (c1 : X.cell? ⟨g, 0, none⟩ = some (.slice A m c)) (c2 : X.cell? ⟨h, 0, none⟩ = some (.bool b)) : (results Tryd.f17 tm).run Tryd.prog X = .ok (.tuple #[.slice A m c, .bool b]) X := by
  simp [results, Tryd.f17, go_sem, h2, h3, c1, c2]
set_option maxHeartbeats 1000000 in
theorem implSolveFirst (s : Int) (Ag : Option Addr) (n cg Bg : Nat) (gi : List Int) (Ar : Option Addr) (nr cr Br : Nat) (rs : List RuleM) (w : World) (hp : PGc w s Ag n cg Bg gi Ar nr cr Br rs) (hT : Tz w) :
    Calls Tryd.prog 17 #[.agg #[.int .i64 s, .slice Ag n cg, .slice Ar nr cr]] w fun e w' => ∃ A m c, e = .returned (.tuple #[.slice A m c, .bool (sfB s n gi rs)]) ∧ (sfB s n gi rs = true → m = n) ∧ Ow w' w.heap.size A m c (sfL s n gi rs) ∧ Below w.heap.size w w' := by
  have hx0 := pbox_new w s Ag n cg Ar nr cr 26
  obtain ⟨W1, hW1⟩ : ∃ W1, w.alloc (.cells #[.int .i64 s, .slice Ag n cg, .slice Ar nr cr] 26) = W1 := ⟨_, rfl⟩
  rw [hW1] at hx0
  have hb1 : Below w.heap.size w W1 := by rw [← hW1]; exact (Below.refl _ _).alloc (Nat.le_refl _) _
  have hs1 : W1.heap.size = w.heap.size + 1 := by rw [← hW1]; simp
  obtain ⟨W2, hW2⟩ : ∃ W2, W1.alloc (.cells #[.slice none 0 0] 23) = W2 := ⟨_, rfl⟩
  have hb2 : Below W1.heap.size W1 W2 := by rw [← hW2]; exact (Below.refl _ _).alloc (Nat.le_refl _) _
  have hs2 : W2.heap.size = w.heap.size + 1 + 1 := by rw [← hW2]; simp [hs1]
  have hr2 : W2.heap[w.heap.size + 1]? = some (.cells #[.slice none 0 0] 23) := by rw [← hW2, ← hs1]; exact heap_alloc_new _ _
  obtain ⟨W3, hW3⟩ : ∃ W3, W2.alloc (.cells #[.bool false] 4) = W3 := ⟨_, rfl⟩
  have hb3 : Below W2.heap.size W2 W3 := by rw [← hW3]; exact (Below.refl _ _).alloc (Nat.le_refl _) _
  have hs3 : W3.heap.size = w.heap.size + 1 + 1 + 1 := by rw [← hW3]; simp [hs2]
  have hr3 : W3.heap[w.heap.size + 1]? = some (.cells #[.slice none 0 0] 23) := (hb3.block _ (by omega)).trans hr2
  have hq3 : W3.heap[w.heap.size + 1 + 1]? = some (.cells #[.bool false] 4) := by rw [← hW3, ← hs2]; exact heap_alloc_new _ _
  have hx3 := (hx0.below (by omega) hb2).below (by omega) hb3
  have hbW : Below w.heap.size w W3 := (hb1.trans (hb2.mono (by omega))).trans (hb3.mono (by omega))
  have HV := Lib.hid (valid_any s Ag n cg Bg gi Ar nr cr Br rs W3 (hp.below hbW))
  have HB3 := Lib.hid hbW
  have HX3 := Lib.hid hx3
  have HR3 := Lib.hid (And.intro hr3 hq3)
  obtain ⟨z0, z1, z2⟩ := id hx3
  clear hb1 hb2 hb3 hr2 hr3 hq3 hx0 hx3 hbW
  refine (callsIn_wide (n := 9)).1 ?_
  refine callsIn_of_wp_marks Tryd.func17 rfl trivial ?_ rfl
  simp only [Tryd.ntmps17, List.size_toArray, List.length_cons, List.length_nil, Nat.reduceAdd, Nat.reduceSub, Array.replicate_succ, Array.replicate_zero, List.push_toArray, List.append_toArray, List.nil_append, List.cons_append]
  cases hv : pvB s gi rs
  · have H1 : sfB s n gi rs = false ∧ sfL s n gi rs = [] := by unfold sfB sfL; rw [allS_none hv]; exact ⟨rfl, rfl⟩
    rw [H1.1, H1.2]
    clear H1
    gi_wp2_with ((try refine ⟨trivial, ?_⟩); gi_at_call 48; refine (callsIn_wide.2 HV.out).mono ?_; rintro e w4 ⟨rfl, hb4⟩; rw [hv]; obtain ⟨hr3, hq3⟩ := HR3.out; have hr4 := (hb4.block _ (by omega)).trans hr3; have hq4 := (hb4.block _ (by omega)).trans hq3; have hcr := cell_of_row _ _ 0 _ _ (0, 0) hr4; have hfr := frozen_of_row _ _ 0 _ _ hr4; have hcq := cell_of_row _ _ 0 _ _ (0, 0) hq4; have hfq := frozen_of_row _ _ 0 _ _ hq4)
    have e1 := heap_setCell_same w4 (w.heap.size + 1) 0 _ _ (.slice none 0 0) hr4
    have e2 := (heap_setCell_other w4 ⟨w.heap.size + 1, 0, none⟩ (w.heap.size + 1 + 1) (.slice none 0 0) (fun e => by dsimp only at e; omega)).trans hq4
    have e3 := (heap_setCell_other _ ⟨w.heap.size + 1 + 1, 0, none⟩ (w.heap.size + 1) (.bool false) (fun e => by dsimp only at e; omega)).trans e1
    have e4 := heap_setCell_same _ (w.heap.size + 1 + 1) 0 _ _ (.bool false) e2
    exact ⟨_, sf_results _ _ (w.heap.size + 1) (w.heap.size + 1 + 1) none 0 0 false rfl rfl (cell_of_row _ _ 0 _ _ (0, 0) e3) (cell_of_row _ _ 0 _ _ (0, 0) e4), none, 0, 0, rfl, (fun h => by cases h), Ow.nil_ _ _, ((step HB3.out hb4).setCell (p := ⟨w.heap.size + 1, 0, none⟩) (by show w.heap.size ≤ w.heap.size + 1; omega) _).setCell (p := ⟨w.heap.size + 1 + 1, 0, none⟩) (by show w.heap.size ≤ w.heap.size + 1 + 1; omega) _⟩
  · obtain ⟨t, rfl, hs, hnn, hn16, hok⟩ := pv_grid hv hp.g.1
    have hn : n = t * t := by simp at hs; rcases hs with rfl | rfl | rfl <;> omega
    have hn0 : 0 < n := by simp at hs; rcases hs with rfl | rfl | rfl <;> omega
    have hgl := hp.g.1
    have hmr : nr ≤ 20 := by have := (pv_gv hv).2.1; have := hp.r.1; omega
    have HG := Lib.hid (hp.g.more hp.gB)
    have HR := Lib.hid (hp.r.more hp.rB)
    have HT := Lib.hid (fun X (hb : Below w.heap.size w X) => hT.below hT.lt hb)
    have HN := Lib.hid hn
    have HV2 := Lib.hid hv
    have Hgl := Lib.hid hgl
    clear hok hnn hn hgl hp hT
    gi_wp2_with (first
      | ((try refine ⟨trivial, ?_⟩); gi_at_call 48; refine (callsIn_wide.2 HV.out).mono ?_; rintro e w4 ⟨rfl, hb4⟩; rw [hv]; have hx4 := HX3.out.below (show w.heap.size < W3.heap.size by omega) hb4; obtain ⟨y0, y1, y2⟩ := id hx4)
      | ((try refine ⟨trivial, ?_⟩); gi_at_call 49; refine (callsIn_wide.2 (solutions_any t n Ag cg Ar nr cr w4)).mono ?_; rintro e w5 ⟨PB, rfl, hPl, hpb, hb5⟩))
    have h45 := hb5.size
    have h34 := hb4.size
    have hb35 : Below W3.heap.size W3 w5 := hb4.trans (hb5.mono h34)
    have hb05 : Below w.heap.size w w5 := HB3.out.trans (hb35.mono (by omega))
    obtain ⟨hr3, hq3⟩ := HR3.out
    have hr5 := (hb35.block _ (by omega)).trans hr3
    have hq5 := (hb35.block _ (by omega)).trans hq3
    have hPB := cell_lt hpb.1
    have d1 : w.heap.size + 1 + 1 < w5.heap.size := by omega
    clear z0 z1 z2 y0 y1 y2 hx4 hb4 hb5 hb35 hr3 hq3 hW1 hW2 hW3 hs1 hs2 hs3 h45 h34 hPl hv HV
    refine range_twoP 9 (q := 4) (by rfl) (enters_of Tryd.func89 (by kernel_rfl) rfl) (sols_seq w w.heap.size PB t n Ag cg gi Ar nr cr rs (Nat.le_refl _) hs HN.out HG.out HR.out hmr HV2.out HT.out)
      (fun pre X => pre = [] ∧ SBase w w.heap.size PB t Ag n cg Ar nr cr X ∧ X.heap[w.heap.size + 1]? = some (.cells #[.slice none 0 0] 23) ∧ X.heap[w.heap.size + 1 + 1]? = some (.cells #[.bool false] 4))
      (fun cc X => cc = .ret ∧ ∃ y zs A c, cv t gi rs (t * t) [] = y :: zs ∧ Below w.heap.size w X ∧ X.heap[w.heap.size + 1]? = some (.cells #[.slice A n c] 23) ∧ Ow X w.heap.size A n c y ∧ X.heap[w.heap.size + 1 + 1]? = some (.cells #[.bool true] 4) ∧ ∀ g, (Value.slice A n c).ownBlock = some g → w5.heap.size + 1 < g)
      (fun pre X h => h.2.1)
      (fun pre X Y h hb => ⟨h.1, ⟨h.2.1.1.trans (hb.mono (by omega)), h.2.1.2.below hPB hb⟩, (hb.block _ (by omega)).trans h.2.2.1, (hb.block _ d1).trans h.2.2.2⟩)
      (fun cc X o h hX => by
        obtain ⟨h1, y, zs, A, c, h2, h3, h4, h5, h6, h7⟩ := h
        refine ⟨h1, y, zs, A, c, h2, h3.trans (below_put_at _ (by omega) hX), (World.putObj_heap_other (by omega)).trans h4, ?_, (World.putObj_heap_other (by omega)).trans h6, h7⟩
        exact h5.same_own hn0 (fun g e => World.putObj_heap_other (by have := h7 g e; omega)))
      ⟨rfl, ⟨hb05, hpb⟩, hr5, hq5⟩ ?assign ?body ?done ?stop
    case assign =>
      intro l v W K hK
      simp only [List.setIfInBounds_toArray, List.set_cons_zero, List.set_cons_succ] at hK ⊢
      gi_wp2
      exact hK
    case body =>
      rintro l pre x X b n' c' ⟨rfl, ⟨hBX, hpX⟩, hrX, hqX⟩ ⟨zs, hzs⟩ hbb hXs hrd
      have hxl := cv_len Hgl.out HV2.out HN.out hs (show x ∈ cv t gi rs (t * t) [] by rw [hzs]; simp)
      obtain rfl : n' = n := by rw [← hrd.1]; exact hxl
      have HCl := Lib.hid (clone_any (some ⟨b, 0, none⟩) n' c' X.heap.size x X hrd (Nat.le_refl _) hn0 (by omega))
      have hXl : w.heap.size + 1 + 1 < X.heap.size := (Array.getElem?_eq_some_iff.1 hqX).1
      have Hzs := Lib.hid hzs
      have HBX := Lib.hid hBX
      have Hrd := Lib.hid hrd
      clear hzs hxl hpX hBX hrd
      simp only [List.setIfInBounds_toArray, List.set_cons_zero, List.set_cons_succ]
      gi_wp2_with ((try refine ⟨trivial, ?_⟩); gi_at_call 50; refine (callsIn_wide.2 HCl.out).mono ?_; rintro e w6 ⟨A6, c6, rfl, ho6, hb6⟩; have hr6 := (hb6.block _ (by omega)).trans hrX; have hq6 := (hb6.block _ hXl).trans hqX; have hcr := cell_of_row _ _ 0 _ _ (0, 0) hr6; have hfr := frozen_of_row _ _ 0 _ _ hr6; have hcq := cell_of_row _ _ 0 _ _ (0, 0) hq6; have hfq := frozen_of_row _ _ 0 _ _ hq6)
      obtain ⟨g6, rfl, hg6, hgw6⟩ := ho6.form hn0
      have e1 := heap_setCell_same w6 (w.heap.size + 1) 0 _ _ (.slice (some ⟨g6, 0, none⟩) n' c6) hr6
      have e2 := (heap_setCell_other w6 ⟨w.heap.size + 1, 0, none⟩ (w.heap.size + 1 + 1) (.slice (some ⟨g6, 0, none⟩) n' c6) (fun e => by dsimp only at e; omega)).trans hq6
      have e3 := (heap_setCell_other _ ⟨w.heap.size + 1 + 1, 0, none⟩ (w.heap.size + 1) (.bool true) (fun e => by dsimp only at e; omega)).trans e1
      have e4 := heap_setCell_same _ (w.heap.size + 1 + 1) 0 _ _ (.bool true) e2
      have hX6 := hb6.size
      have hoE : Ow ((w6.setCell ⟨w.heap.size + 1, 0, none⟩ (.slice (some ⟨g6, 0, none⟩) n' c6)).setCell ⟨w.heap.size + 1 + 1, 0, none⟩ (.bool true)) w.heap.size (some ⟨g6, 0, none⟩) n' c6 x :=
        (ho6.mono (by omega)).same ((heap_setCell_other _ ⟨w.heap.size + 1 + 1, 0, none⟩ g6 (.bool true) (fun e => by dsimp only at e; omega)).trans (heap_setCell_other w6 ⟨w.heap.size + 1, 0, none⟩ g6 (.slice (some ⟨g6, 0, none⟩) n' c6) (fun e => by dsimp only at e; omega)))
      refine ⟨(Mid.of_below hb6).trans ((Mid.setCell _ _ _ _ _ (by omega)).trans (Mid.setCell _ _ _ _ _ (by omega))), rfl, x, zs, _, c6, Hzs.out, ((HBX.out.trans (hb6.mono (by omega))).setCell (p := ⟨w.heap.size + 1, 0, none⟩) (by show w.heap.size ≤ w.heap.size + 1; omega) _).setCell (p := ⟨w.heap.size + 1 + 1, 0, none⟩) (by show w.heap.size ≤ w.heap.size + 1 + 1; omega) _, e3, hoE, e4, fun g e => ?_⟩
      have e : g6 = g := Option.some.inj e
      omega
    case done =>
      rintro D W hD ⟨he, ⟨hBX, _⟩, hrX, hqX⟩ hK
      obtain ⟨q1, q2⟩ := sf_nil Hgl.out HV2.out HN.out he
      have hcr := cell_of_row _ _ 0 _ _ (0, 0) hrX
      have hfr := frozen_of_row _ _ 0 _ _ hrX
      have hcq := cell_of_row _ _ 0 _ _ (0, 0) hqX
      have hfq := frozen_of_row _ _ 0 _ _ hqX
      gi_wp2
      have e1 := heap_setCell_same W (w.heap.size + 1) 0 _ _ (.slice none 0 0) hrX
      have e2 := (heap_setCell_other W ⟨w.heap.size + 1, 0, none⟩ (w.heap.size + 1 + 1) (.slice none 0 0) (fun e => by dsimp only at e; omega)).trans hqX
      have e3 := (heap_setCell_other _ ⟨w.heap.size + 1 + 1, 0, none⟩ (w.heap.size + 1) (.bool false) (fun e => by dsimp only at e; omega)).trans e1
      have e4 := heap_setCell_same _ (w.heap.size + 1 + 1) 0 _ _ (.bool false) e2
      have e5 := (heap_setCell_other _ ⟨w.heap.size + 1 + 1, 0, none⟩ D (.bool false) (fun e => by dsimp only at e; omega)).trans ((heap_setCell_other W ⟨w.heap.size + 1, 0, none⟩ D (.slice none 0 0) (fun e => by dsimp only at e; omega)).trans hK)
      have hbE := ((hBX.setCell (p := ⟨w.heap.size + 1, 0, none⟩) (by show w.heap.size ≤ w.heap.size + 1; omega) (.slice none 0 0)).setCell (p := ⟨w.heap.size + 1 + 1, 0, none⟩) (by show w.heap.size ≤ w.heap.size + 1 + 1; omega) (.bool false)).trans (below_put (.deferred none) (show w.heap.size ≤ D by omega) e5)
      refine ⟨by simp, .inl ⟨_, _, rfl, run_takeDeferred e5, ?_⟩⟩
      refine ⟨_, sf_results _ _ (w.heap.size + 1) (w.heap.size + 1 + 1) none 0 0 false rfl rfl (cell_of_row _ _ 0 _ _ (0, 0) ((World.putObj_heap_other (by omega)).trans e3)) (cell_of_row _ _ 0 _ _ (0, 0) ((World.putObj_heap_other (by omega)).trans e4)), ?_⟩
      exact ⟨none, 0, 0, rfl, Ow.nil_ _ _, hbE⟩
    case stop =>
      rintro D cc W hD ⟨rfl, y, zs, A, c, hc, hBX, hrX, hoX, hqX, hlo⟩ hK
      obtain ⟨q1, q2⟩ := sf_cons Hgl.out HV2.out HN.out hc
      gi_wp2
      refine ⟨by simp, .inl ⟨_, _, rfl, run_takeDeferred hK, ?_⟩⟩
      have hgD : ∀ g, (Value.slice A n c).ownBlock = some g → g ≠ D := fun g e e2 => by
        subst e2
        obtain ⟨g', e3, _, _⟩ := hoX.form hn0
        subst e3
        obtain ⟨h1, h2⟩ := hoX.cell (show 0 < n from hn0)
        injection e with e
        subst e
        rw [cell_none_of_deferred hK] at h1
        cases h1
      refine ⟨_, sf_results _ _ (w.heap.size + 1) (w.heap.size + 1 + 1) A n c true rfl rfl (cell_of_row _ _ 0 _ _ (0, 0) ((World.putObj_heap_other (by omega)).trans hrX)) (cell_of_row _ _ 0 _ _ (0, 0) ((World.putObj_heap_other (by omega)).trans hqX)), ?_⟩
      exact ⟨A, n, c, rfl, rfl, hoX.same_own hn0 (fun g e => World.putObj_heap_other (fun e2 => hgD g e e2)), hBX.trans (below_put _ (by omega) hK)⟩
end Go.Proofs.YtkeoflnmbcdmfaaDoor
set_option maxRecDepth 8000
namespace Go.Proofs.YtkeoflnmbcdmfaaDoor
open Go.ChangeShapes Go.WideShapes Go.ChangeAt Go.RowKit
attribute [local go_sem] Oper.semAt_some
theorem below_putC {N l : Nat} {X : World} (o' : Obj) (hN : N ≤ l) (hl : l < X.heap.size) : Below N X (X.putObj l o') :=
  below_put (o := X.heap[l]) o' hN (Array.getElem?_eq_getElem hl)
set_option maxHeartbeats 2000000 in
/-- what is found is counted, but no further than to M. -/
theorem countUpTo_any {gf : Nat} {lb : Array Value} {Base : World → Prop} {ways : List (List Int)} (M : Nat) (w : World) (hsq : SeqP Tryd.prog gf lb Base ways) (eg : ∀ args w, (callFunc gf args).run Tryd.prog w = .ok (.enter gf args) w) (hBs : ∀ X, Below w.heap.size w X → Base X) (hM1 : 0 < M) (hM6 : M ≤ 600) :
    Calls Tryd.prog 95 #[.func (.func gf) #[] lb, .int .i64 (M : Nat)] w fun e w' => e = .returned (.int .i64 ((ways.take M).length : Nat)) ∧ Below w.heap.size w w' := by
  obtain ⟨W2, hW2⟩ : ∃ W2, w.alloc (.cells #[.int .i64 (M : Nat)] 3) = W2 := ⟨_, rfl⟩
  have hb2 : Below w.heap.size w W2 := by rw [← hW2]; exact (Below.refl _ _).alloc (Nat.le_refl _) _
  have hs2 : W2.heap.size = w.heap.size + 1 := by rw [← hW2]; simp
  have hr2 : W2.heap[w.heap.size]? = some (.cells #[.int .i64 (M : Nat)] 3) := by rw [← hW2]; exact heap_alloc_new _ _
  obtain ⟨V5, hV5⟩ : ∃ V5, W2.alloc (.cells #[.int .i64 0] 3) = V5 := ⟨_, rfl⟩
  have hvb : Below W2.heap.size W2 V5 := by rw [← hV5]; exact (Below.refl _ _).alloc (Nat.le_refl _) _
  have hvr : V5.heap[W2.heap.size]? = some (.cells #[.int .i64 0] 3) := by rw [← hV5]; exact heap_alloc_new _ _
  have hvc := cell_of_row _ _ 0 _ _ (0, 0) hvr
  have hvf := frozen_of_row _ _ 0 _ _ hvr
  have hvs : V5.heap.size = W2.heap.size + 1 := by rw [← hV5]; simp
  obtain ⟨W5, hW5⟩ : ∃ W5, V5.setCell ⟨W2.heap.size, 0, none⟩ (.int .i64 0) = W5 := ⟨_, rfl⟩
  have hb5 : Below W2.heap.size W2 W5 := by rw [← hW5]; exact hvb.setCell (p := ⟨W2.heap.size, 0, none⟩) (Nat.le_refl _) _
  have hs5 : W5.heap.size = W2.heap.size + 1 := by rw [← hW5]; simp [World.setCell, hvs]
  have hq5 : W5.heap[W2.heap.size]? = some (.cells #[.int .i64 0] 3) := by rw [← hW5]; exact heap_setCell_same V5 W2.heap.size 0 _ _ _ hvr
  rw [hs2] at hvc hvf hW5
  have HB5 := Lib.hid (hb2.trans (hb5.mono (by omega)))
  have HM5 : Hid (W5.heap[w.heap.size]? = some (.cells #[.int .i64 (M : Int)] 3)) := Lib.hid ((hb5.block _ (by omega)).trans hr2)
  have HC5 : Hid (W5.heap[w.heap.size + 1]? = some (.cells #[.int .i64 ((0 : Nat) : Int)] 3)) := Lib.hid (by rw [← hs2]; exact hq5)
  have hs55 : W5.heap.size = w.heap.size + 2 := by omega
  have HS5 := Lib.hid hs55
  clear hb2 hr2 hvb hvr hb5 hq5 hs5 hvs hs55
  refine (callsIn_wide (n := 9)).1 ?_
  refine callsIn_of_wp_marks Tryd.func95 rfl trivial ?_ rfl
  simp only [Tryd.ntmps95, List.size_toArray, List.length_cons, List.length_nil, Nat.reduceAdd, Nat.reduceSub, Array.replicate_succ, Array.replicate_zero, List.push_toArray, List.append_toArray, List.nil_append, List.cons_append]
  gi_wp2
  have h5 := HS5.out
  obtain ⟨CB, hCB⟩ : ∃ CB, CB = w.heap.size + 1 := ⟨_, rfl⟩
  have hq6 : W5.heap[CB]? = some (.cells #[.int .i64 ((0 : Nat) : Int)] 3) := by rw [hCB]; exact HC5.out
  have hm6 := HM5.out
  have hb06 := HB5.out
  have d1 : CB < W5.heap.size := by omega
  have d2 : w.heap.size < CB := by omega
  have d3 : w.heap.size < W5.heap.size := by omega
  rw [← hCB]
  clear hW2 hW5 hV5 hvc hvf hs2 h5 hCB HS5 HC5 HM5 HB5
  refine range_skipP 9 (by rfl) eg hsq
    (fun pre X => Below w.heap.size w X ∧ X.heap[CB]? = some (.cells #[.int .i64 ((pre.length : Nat) : Int)] 3) ∧ pre.length < M ∧ X.heap[w.heap.size]? = some (.cells #[.int .i64 (M : Int)] 3))
    (fun cc X => cc = .exit 0 ∧ Below w.heap.size w X ∧ X.heap[CB]? = some (.cells #[.int .i64 (M : Int)] 3) ∧ M ≤ ways.length)
    (fun pre X h => hBs X h.1)
    (fun pre X Y h hb => ⟨h.1.trans (hb.mono (by omega)), (hb.block _ d1).trans h.2.1, h.2.2.1, (hb.block _ d3).trans h.2.2.2⟩)
    (fun cc X o h hX => ⟨h.1, h.2.1.trans (below_putC _ (by omega) hX), (World.putObj_heap_other (by omega)).trans h.2.2.1, h.2.2.2⟩)
    ⟨hb06, hq6, hM1, hm6⟩ ?body ?done ?stop
  case body =>
    rintro l pre x X b n' c' ⟨hBX, hcX, hlt, hmX⟩ ⟨zs, hzs⟩ hbb hXs hrd
    have hlen : (pre ++ [x]).length = pre.length + 1 := by simp
    have hCl : pre.length + 1 ≤ ways.length := by rw [hzs]; simp
    obtain ⟨k, hk⟩ : ∃ k, k = pre.length := ⟨_, rfl⟩
    rw [← hk] at hcX hlt hlen hCl
    have hcc := cell_of_row _ _ 0 _ _ (0, 0) hcX
    have hfc := frozen_of_row _ _ 0 _ _ hcX
    have hcm := cell_of_row _ _ 0 _ _ (0, 0) hmX
    have Hlen := Lib.hid hlen
    have HBX := Lib.hid hBX
    have HcX := Lib.hid hcX
    have HmX := Lib.hid hmX
    have hk6 : k < 600 := by omega
    clear hlen hBX hcX hmX hrd hzs hk
    simp only [List.setIfInBounds_toArray, List.set_cons_zero, List.set_cons_succ]
    have hm1 : W5.heap.size ≤ X.heap.size := by omega
    have HCl := Lib.hid hCl
    have HE : Hid (∀ v : Int, v = (k : Int) + 1 → (X.setCell ⟨CB, 0, none⟩ (.int .i64 ((k : Int) + 1))).heap[CB]? = some (.cells #[.int .i64 v] 3) ∧ (X.setCell ⟨CB, 0, none⟩ (.int .i64 ((k : Int) + 1))).heap[w.heap.size]? = some (.cells #[.int .i64 (M : Int)] 3) ∧ Below w.heap.size w (X.setCell ⟨CB, 0, none⟩ (.int .i64 ((k : Int) + 1)))) := Lib.hid (fun v hv => by
      subst hv
      exact ⟨heap_setCell_same X CB 0 _ _ (.int .i64 ((k : Int) + 1)) HcX.out, (heap_setCell_other X ⟨CB, 0, none⟩ w.heap.size _ (fun e => by dsimp only at e; omega)).trans HmX.out, HBX.out.setCell (p := ⟨CB, 0, none⟩) (by show w.heap.size ≤ CB; omega) _⟩)
    have HM := Lib.hid (Mid.setCell W5.heap.size CB 0 X (.int .i64 ((k : Int) + 1)) d1)
    by_cases e : k + 1 = M
    · have hq : ((k : Int) + 1 == (M : Int)) = true := by rw [beq_iff_eq]; omega
      have he := Lib.hid e
      clear e hlt hCl
      gi_wp2
      obtain ⟨e1, e2, e3⟩ := HE.out M (by have := he.out; omega)
      exact ⟨HM.out, rfl, e3, e1, by have := he.out; have := HCl.out; omega⟩
    · have hq : ((k : Int) + 1 == (M : Int)) = false := by rw [beq_eq_false_iff_ne]; omega
      have he := Lib.hid e
      have hl := Lib.hid hlt
      clear e hlt hCl
      gi_wp2
      obtain ⟨e1, e2, e3⟩ := HE.out (((pre ++ [x]).length : Nat) : Int) (by rw [Hlen.out]; omega)
      exact ⟨HM.out, e3, e1, by rw [Hlen.out]; have := he.out; have := hl.out; omega, e2⟩
  case done =>
    rintro D W hD ⟨hBX, hcX, hlt, _⟩ hK
    have hcc := cell_of_row _ _ 0 _ _ (0, 0) hcX
    have H2 := Lib.hid (show (ways.take M).length = ways.length by rw [List.length_take]; omega)
    clear hlt
    gi_wp2
    refine ⟨by simp, .inl ⟨_, _, rfl, run_takeDeferred hK, ?_⟩⟩
    exact ⟨_, results_tmp rfl _ _ _, by rw [H2.out]; rfl, hBX.trans (below_put _ (by omega) hK)⟩
  case stop =>
    rintro D cc W hD ⟨rfl, hBX, hcX, hM⟩ hK
    have hcc := cell_of_row _ _ 0 _ _ (0, 0) hcX
    have H2 := Lib.hid (show (ways.take M).length = M by rw [List.length_take]; omega)
    clear hM
    gi_wp2
    refine ⟨by simp, .inl ⟨_, _, rfl, run_takeDeferred hK, ?_⟩⟩
    exact ⟨_, results_tmp rfl _ _ _, by rw [H2.out]; rfl, hBX.trans (below_put _ (by omega) hK)⟩
end Go.Proofs.YtkeoflnmbcdmfaaDoor
set_option maxRecDepth 8000
namespace Go.Proofs.YtkeoflnmbcdmfaaDoor
open Go.ChangeShapes Go.WideShapes Go.ChangeAt Go.RowKit


def oneB (s : Int) (n : Nat) (gi : List Int) (rs : List RuleM) : Bool := (allS s 2 n gi rs).length == 1
set_option maxHeartbeats 1000000 in
theorem specOne (s : Int) (Ag : Option Addr) (n cg Bg : Nat) (gi : List Int) (Ar : Option Addr) (nr cr Br : Nat) (rs : List RuleM) (w : World) (hp : PGs w s Ag n cg Bg gi Ar nr cr Br rs) :
    Calls Tryd.prog 65 #[.agg #[.int .i64 s, .slice Ag n cg, .slice Ar nr cr]] w fun e w' => e = .returned (.bool (oneB s n gi rs)) ∧ Below w.heap.size w w' := by
  have hx0 := pbox_new w s Ag n cg Ar nr cr 26
  have hb0 : Below w.heap.size w (w.alloc (.cells #[.int .i64 s, .slice Ag n cg, .slice Ar nr cr] 26)) := (Below.refl _ _).alloc (Nat.le_refl _) _
  have HA := Lib.hid (fun w' (hb : Below w.heap.size w w') => (show Calls Tryd.prog 51 #[.agg #[.int .i64 s, .slice Ag n cg, .slice Ar nr cr], .int .i64 2] w' _ from specAll s 2 Ag n cg Bg gi Ar nr cr Br rs w' (hp.below hb) (by omega) (by omega)))
  have hL := allS_len s 2 n gi rs (by omega)
  have HQ := Lib.hid (show (((allS s 2 n gi rs).length : Int) == 1) = oneB s n gi rs by
    unfold oneB
    rw [Bool.eq_iff_iff]
    simp only [beq_iff_eq]
    omega)
  go_enter Tryd.func65, Tryd.ntmps65
  go_wp2_with (go_at_call 51; (refine (HA.out _ hb0).mono ?_); rintro e w1 ⟨P, v, rfl, hrows, hb1⟩; obtain ⟨A1, c1, vs, rfl, _⟩ := hrows)
  go_ret
  exact ⟨by rw [HQ.out]; rfl, step hb0 hb1⟩
set_option maxHeartbeats 1000000 in
theorem specWithout (s : Int) (Ag : Option Addr) (n cg Bg : Nat) (gi : List Int) (Ar : Option Addr) (nr cr : Nat) (k : Nat) (w : World) (hg : Rd w Bg Ag n gi) (hB : Bg ≤ w.heap.size) (hm : n ≤ 1099511627776) (hk : k < n) :
    Calls Tryd.prog 66 #[.agg #[.int .i64 s, .slice Ag n cg, .slice Ar nr cr], .int .i64 k] w fun e w' => ∃ A' c', e = .returned (.agg #[.int .i64 s, .slice A' n c', .slice Ar nr cr]) ∧ Ow w' w.heap.size A' n c' (gi.set k 0) ∧ Below w.heap.size w w' := by
  have hx0 := pbox_new w s Ag n cg Ar nr cr 26
  have hb0 : Below w.heap.size w (w.alloc (.cells #[.int .i64 s, .slice Ag n cg, .slice Ar nr cr] 26)) := (Below.refl _ _).alloc (Nat.le_refl _) _
  have hs0 : w.heap.size < (w.alloc (.cells #[.int .i64 s, .slice Ag n cg, .slice Ar nr cr] 26)).heap.size := by simp
  obtain ⟨b, off, rfl, hbB, _⟩ := hg.at_ hk
  have hn0 : 0 < n := by omega
  obtain ⟨V, hV⟩ : ∃ V, V = (w.alloc (.cells #[.int .i64 s, .slice (some ⟨b, off, none⟩) n cg, .slice Ar nr cr] 26)).alloc (.cells #[.int .i64 0, .slice none 0 0, .slice none 0 0] 26) := ⟨_, rfl⟩
  have hbV : Below w.heap.size w V := by rw [hV]; exact hb0.alloc hb0.size _
  have hsV : V.heap.size = w.heap.size + 1 + 1 := by rw [hV]; simp
  have hwV : w.heap.size < V.heap.size := by omega
  have hwV1 : w.heap.size + 1 < V.heap.size := by omega
  obtain ⟨c0, c1', c2⟩ : PBox V w.heap.size s (some ⟨b, off, none⟩) n cg Ar nr cr := by
    rw [hV]
    exact hx0.below hs0 ((Below.refl _ _).alloc (Nat.le_refl _) _)
  have hrow : V.heap[w.heap.size + 1]? = some (.cells #[.int .i64 0, .slice none 0 0, .slice none 0 0] 26) := by rw [hV]; exact heap_alloc2_new w _ _
  have HO : Hid (Ow (V.alloc (.cells #[] 3)) (w.heap.size + 1 + 1) (some ⟨w.heap.size + 1 + 1, 0, none⟩) 0 0 []) := Lib.hid (by
    have := Ow.made0 V (w.heap.size + 1 + 1) (by omega)
    rw [hsV] at this
    exact this)
  have hbO : Below V.heap.size V (V.alloc (.cells #[] 3)) := (Below.refl _ _).alloc (Nat.le_refl _) _
  have HR := Lib.hid ((hg.below (hbV.mono hB)).below (hbO.mono (Nat.le_trans hB (Nat.le_of_lt hwV))))
  have hsO : w.heap.size + 1 + 1 ≤ (V.alloc (.cells #[] 3)).heap.size := by simp; omega
  have Hone := Lib.hid puz_one
  have Hi := Lib.hid puz_info
  go_enter Tryd.func66, Tryd.ntmps66
  go_wp2_with (first
    | (at_builtin; (rw [← hV]); (refine push_some rfl (.tmp 6) (.tmp 8) rfl (w.heap.size + 1 + 1) (some ⟨w.heap.size + 1 + 1, 0, none⟩) 0 0 [] b off n cg Bg gi rfl rfl HO.out HR.out (by omega) hm hsO ?_); intro A1 c1 w1 ho1 hg1; simp only [Nat.zero_add, List.nil_append] at ho1; (obtain ⟨gb, rfl, hlog, hgw1⟩ := ho1.form hn0); (obtain ⟨hcq, hfq⟩ := ho1.cell hk); have hbw1 : Below V.heap.size V w1 := hbO.grown hg1 hbO.size (fun k hk => Nat.le_trans (Nat.le_of_eq hsV) (HO.out.own_lo k hk)); have hgb0 : w.heap.size ≠ gb := Nat.ne_of_lt (Nat.lt_of_lt_of_le (Nat.lt_of_lt_of_le (Nat.lt_succ_self _) (Nat.le_succ _)) hlog); have hgb1 : w.heap.size + 1 ≠ gb := Nat.ne_of_lt hlog; (have d0 := (cell_other5 (k := k) (v := .int .i64 0) hgb0).trans ((hbw1.cell (p := ⟨w.heap.size, 0, none⟩) hwV).trans c0)); have d2 := (cell_other5 (k := k) (v := .int .i64 0) hgb0).trans ((hbw1.cell (p := ⟨w.heap.size, 2, none⟩) hwV).trans c2); (have hr2 := (heap_setCell_other w1 ⟨gb, k, none⟩ (w.heap.size + 1) (.int .i64 0) hgb1).trans ((hbw1.block (w.heap.size + 1) hwV1).trans hrow)))
    | ((refine wpList_store_row rfl 26 _ _ rfl (w.heap.size + 1) #[.int .i64 s, .slice (some ⟨gb, 0, none⟩) n c1, .slice Ar nr cr] rfl rfl 26 #[.int .i64 0, .slice none 0 0, .slice none 0 0] hr2 (Hi.out _ _ _ _ _ _ _) rfl (Hone.out _ _ _ _ _ _ _) ?_)))
  have ho2 : Ow (w1.setCell ⟨gb, k, none⟩ (.int .i64 0)) (w.heap.size + 1 + 1) (some ⟨gb, 0, none⟩) n c1 (gi.set k 0) := by
    have := (World.ownsRow.stored ho1 k (.int .i64 0)).1
    rw [vals_set] at this
    exact this
  have hBe : Below w.heap.size w ((w1.setCell ⟨gb, k, none⟩ (.int .i64 0)).setRow (w.heap.size + 1) #[.int .i64 s, .slice (some ⟨gb, 0, none⟩) n c1, .slice Ar nr cr]) := setRow_below5 ((hbV.trans (hbw1.mono hbV.size)).setCell (show w.heap.size ≤ gb by omega) _) (by omega)
  refine bodyPost_ret (v := .agg #[.int .i64 s, .slice (some ⟨gb, 0, none⟩) n c1, .slice Ar nr cr]) (results_cell_row (by rfl) _ _ (w.heap.size + 1) 26 _ (0, 0) _ rfl (setRow_heap _ _ _ _ _ _ hr2) Tryd.underlying26 rfl (Hi.out _ _ _ _ _ _ _)) rfl ⟨_, _, rfl, (ho2.row5 (fun b hb => ?_)).mono (by omega), hBe⟩
  have := ho2.own_lo b hb
  omega
end Go.Proofs.YtkeoflnmbcdmfaaDoor
set_option maxRecDepth 8000
namespace Go.Proofs.YtkeoflnmbcdmfaaDoor
open Go.ChangeShapes Go.WideShapes Go.ChangeAt Go.RowKit Go.Shelf
attribute [local go_sem] Oper.semAt_some
/-- how many solutions, but at most most. -/
def csI (s : Int) (n : Nat) (gi : List Int) (rs : List RuleM) (most : Int) : Int := if (pvB s gi rs && inr most 1 600) = true then ((allS s most.toNat n gi rs).length : Nat) else -1
set_option maxHeartbeats 1000000 in
theorem specCountSolutions (s : Int) (Ag : Option Addr) (n cg Bg : Nat) (gi : List Int) (Ar : Option Addr) (nr cr Br : Nat) (rs : List RuleM) (most : Int) (w : World) (hp : PGs w s Ag n cg Bg gi Ar nr cr Br rs) :
    Calls Tryd.prog 24 #[.agg #[.int .i64 s, .slice Ag n cg, .slice Ar nr cr], .int .i64 most] w fun e w' => e = .returned (.int .i64 (csI s n gi rs most)) ∧ Below w.heap.size w w' := by
  have hx0 := pbox_new w s Ag n cg Ar nr cr 26
  have hb0 : Below w.heap.size w (w.alloc (.cells #[.int .i64 s, .slice Ag n cg, .slice Ar nr cr] 26)) := (Below.refl _ _).alloc (Nat.le_refl _) _
  have hs0 : w.heap.size < (w.alloc (.cells #[.int .i64 s, .slice Ag n cg, .slice Ar nr cr] 26)).heap.size := by simp
  obtain ⟨z0, z1, z2⟩ := id hx0
  have HP := Lib.hid (fun w' (hb : Below w.heap.size w w') => specPuzzleValid s Ag n cg Bg gi Ar nr cr Br rs w' (hp.below hb).g (hp.below hb).gB hp.gm (hp.below hb).r (hp.below hb).rB hp.rm)
  cases hv : pvB s gi rs
  · have HL := Lib.hid (show csI s n gi rs most = -1 by simp [csI, hv])
    go_enter Tryd.func24, Tryd.ntmps24
    go_wp2_with (go_at_call 20; refine (HP.out _ hb0).mono ?_; rintro e w1 ⟨rfl, hb1⟩; rw [hv]; have h01 := step hb0 hb1)
    go_ret
    exact ⟨by rw [HL.out]; rfl, h01⟩
  · cases hin : inr most 1 600
    · have HL := Lib.hid (show csI s n gi rs most = -1 by simp [csI, hin])
      go_enter Tryd.func24, Tryd.ntmps24
      go_wp2_with (first
        | (go_at_call 20; refine (HP.out _ hb0).mono ?_; rintro e w1 ⟨rfl, hb1⟩; rw [hv]; have h01 := step hb0 hb1; obtain ⟨c0, c1, c2⟩ := hx0.below hs0 hb1)
        | (go_at_call 57; refine (l1In_any _ _ _ _).mono ?_; rintro e wq ⟨rfl, rfl⟩; rw [hin]))
      go_ret
      exact ⟨by rw [HL.out]; rfl, h01⟩
    · obtain ⟨m1, m6⟩ := inr_t hin
      obtain ⟨M, rfl⟩ := Int.eq_ofNat_of_zero_le (show 0 ≤ most by omega)
      have HL := Lib.hid (show csI s n gi rs (M : Nat) = ((allS s M n gi rs).length : Nat) by simp [csI, hv, hin])
      have HA := Lib.hid (fun w' (hb : Below w.heap.size w w') => specAll s M Ag n cg Bg gi Ar nr cr Br rs w' (hp.below hb) (by omega) (by omega))
      go_enter Tryd.func24, Tryd.ntmps24
      go_wp2_with (first
        | (go_at_call 20; refine (HP.out _ hb0).mono ?_; rintro e w1 ⟨rfl, hb1⟩; rw [hv]; have h01 := step hb0 hb1; obtain ⟨c0, c1, c2⟩ := hx0.below hs0 hb1)
        | (go_at_call 57; refine (l1In_any _ _ _ _).mono ?_; rintro e wq ⟨rfl, rfl⟩; rw [hin])
        | (go_at_call 51; refine (HA.out _ h01).mono ?_; rintro e w2 ⟨P, v, rfl, ⟨A, c, vs, rfl, hown, _, hin2⟩, hb2⟩))
      go_ret
      exact ⟨by rw [HL.out]; rfl, step h01 hb2⟩
theorem cs_take {L : List (List Int)} {M : Nat} (h : L.length < M) : (L.take M).length = L.length := by rw [List.length_take]; omega
set_option maxHeartbeats 2000000 in
theorem countP_any (s : Int) (Ag : Option Addr) (n cg Bg : Nat) (gi : List Int) (Ar : Option Addr) (nr cr Br : Nat) (rs : List RuleM) (M : Nat) (w : World) (hp : PGc w s Ag n cg Bg gi Ar nr cr Br rs) (hv : pvB s gi rs = true) (hM1 : 0 < M) (hM6 : M ≤ 600) (hT : Tz w) :
    Calls Tryd.prog 54 #[.agg #[.int .i64 s, .slice Ag n cg, .slice Ar nr cr], .int .i64 (M : Nat)] w fun e w' => e = .returned (.int .i64 ((allS s M n gi rs).length : Nat)) ∧ Below w.heap.size w w' := by
  have hx0 := pbox_new w s Ag n cg Ar nr cr 26
  have hb0 : Below w.heap.size w (w.alloc (.cells #[.int .i64 s, .slice Ag n cg, .slice Ar nr cr] 26)) := (Below.refl _ _).alloc (Nat.le_refl _) _
  obtain ⟨z0, z1, z2⟩ := id hx0
  obtain ⟨t, rfl, hs, hnn, hn16, hok⟩ := pv_grid hv hp.g.1
  have hn : n = t * t := by simp at hs; rcases hs with rfl | rfl | rfl <;> omega
  have hmr : nr ≤ 20 := by have := (pv_gv hv).2.1; have := hp.r.1; omega
  have H1 := Lib.hid (show ((allS t M n gi rs).length : Nat) = ((cv t gi rs (t * t) []).take M).length by rw [allS_cv hp.g.1 hv hM1 hn])
  have hg := hp.g.more hp.gB
  have hr := hp.r.more hp.rB
  have HC := Lib.hid (fun (PB : Nat) (w6 : World) (hPB : w.heap.size ≤ PB) (hpb : PBox w6 PB t Ag n cg Ar nr cr) (h06 : Below w.heap.size w w6) => countUpTo_any M w6 (sols_seq w w.heap.size PB t n Ag cg gi Ar nr cr rs (Nat.le_refl _) hs hn hg hr hmr hv (fun X hX => hT.below hT.lt hX)) (enters_of Tryd.func89 (by kernel_rfl) rfl) (fun X hX => ⟨h06.trans (hX.mono h06.size), hpb.below (cell_lt hpb.1) hX⟩) hM1 hM6)
  have HSL := Lib.hid (fun W => solutions_any t n Ag cg Ar nr cr W)
  clear hok hnn hn hg hr hv hp hT hx0
  go_enter Tryd.func54, Tryd.ntmps54
  go_wp2_with (first
    | (go_at_call 49; refine (HSL.out _).mono ?_; rintro e w6 ⟨PB, rfl, hPl, hpb, hb6⟩; have h06 := step hb0 hb6; have hPl2 := Nat.le_trans hb0.size hPl)
    | (go_at_call 95; refine (HC.out PB w6 hPl2 hpb h06).mono ?_; rintro e w7 ⟨rfl, hb7⟩))
  go_ret
  exact ⟨by rw [H1.out, List.length_take]; rfl, step h06 hb7⟩
set_option maxHeartbeats 2000000 in
theorem implCountSolutions (s : Int) (Ag : Option Addr) (n cg Bg : Nat) (gi : List Int) (Ar : Option Addr) (nr cr Br : Nat) (rs : List RuleM) (most : Int) (w : World) (hp : PGc w s Ag n cg Bg gi Ar nr cr Br rs) (hT : Tz w) :
    Calls Tryd.prog 22 #[.agg #[.int .i64 s, .slice Ag n cg, .slice Ar nr cr], .int .i64 most] w fun e w' => e = .returned (.int .i64 (csI s n gi rs most)) ∧ Below w.heap.size w w' := by
  have hx0 := pbox_new w s Ag n cg Ar nr cr 26
  have hb0 : Below w.heap.size w (w.alloc (.cells #[.int .i64 s, .slice Ag n cg, .slice Ar nr cr] 26)) := (Below.refl _ _).alloc (Nat.le_refl _) _
  have hs0 : w.heap.size < (w.alloc (.cells #[.int .i64 s, .slice Ag n cg, .slice Ar nr cr] 26)).heap.size := by simp
  obtain ⟨z0, z1, z2⟩ := id hx0
  have HV := Lib.hid (valid_any s Ag n cg Bg gi Ar nr cr Br rs _ (hp.below hb0))
  cases hv : pvB s gi rs
  · have H1 := Lib.hid (show csI s n gi rs most = -1 by simp [csI, hv])
    go_enter Tryd.func22, Tryd.ntmps22
    go_wp2_with (go_at_call 48; refine HV.out.mono ?_; rintro e w4 ⟨rfl, hb4⟩; rw [hv])
    go_ret
    exact ⟨by rw [H1.out]; rfl, step hb0 hb4⟩
  · by_cases hlo : most < 1
    · have H1 := Lib.hid (show csI s n gi rs most = -1 by
        have : inr most 1 600 = false := by unfold inr; simp; omega
        simp [csI, this])
      go_enter Tryd.func22, Tryd.ntmps22
      go_wp2_with (go_at_call 48; refine HV.out.mono ?_; rintro e w4 ⟨rfl, hb4⟩; rw [hv])
      go_ret
      exact ⟨by rw [H1.out]; rfl, step hb0 hb4⟩
    · by_cases hhi : 600 < most
      · have H1 := Lib.hid (show csI s n gi rs most = -1 by
          have : inr most 1 600 = false := by unfold inr; simp; omega
          simp [csI, this])
        go_enter Tryd.func22, Tryd.ntmps22
        go_wp2_with (go_at_call 48; refine HV.out.mono ?_; rintro e w4 ⟨rfl, hb4⟩; rw [hv])
        go_ret
        exact ⟨by rw [H1.out]; rfl, step hb0 hb4⟩
      · obtain ⟨M, rfl⟩ := Int.eq_ofNat_of_zero_le (show 0 ≤ most by omega)
        have H1 := Lib.hid (show csI s n gi rs (M : Nat) = ((allS s M n gi rs).length : Nat) by
          have : inr (M : Int) 1 600 = true := by unfold inr; simp; omega
          simp only [csI, hv, this, Bool.true_and, if_true, Int.toNat_natCast])
        have HC := Lib.hid (fun w' (hb : Below w.heap.size w w') => countP_any s Ag n cg Bg gi Ar nr cr Br rs M w' (hp.below hb) hv (by omega) (by omega) (hT.below hT.lt hb))
        go_enter Tryd.func22, Tryd.ntmps22
        go_wp2_with (first
          | (go_at_call 48; refine HV.out.mono ?_; rintro e w4 ⟨rfl, hb4⟩; rw [hv]; have h04 := step hb0 hb4; obtain ⟨y0, y1, y2⟩ := hx0.below hs0 hb4)
          | (go_at_call 54; refine (HC.out _ h04).mono ?_; rintro e w5 ⟨rfl, hb5⟩))
        go_ret
        exact ⟨by rw [H1.out]; rfl, step h04 hb5⟩
end Go.Proofs.YtkeoflnmbcdmfaaDoor
set_option maxRecDepth 8000
namespace Go.Proofs.YtkeoflnmbcdmfaaDoor
open Go.ChangeShapes Go.WideShapes Go.ChangeAt Go.RowKit
/-! 'append([]int{}, t...)', 'append([]impl.Rule{}, t...)': nothing that lay there changes, wherever the empty literal lies. -/
theorem below_none {w w' : World} (h : w.grownBy w' none) : Below w.heap.size w w' := ⟨h.os, h.tape, h.output, h.size, fun k hk => h.block k hk (by simp)⟩
theorem fresh_same {e t : TypeId} (ty : TypeId) {i0 : TypeInfo} {z : Value} (ht : Tryd.prog.underlying t = some (.slice e)) (hi : Tryd.prog.info? e = some i0) (hz : i0.zero = some z) {w : World} (b : Nat) (ad : Addr) (m c2 : Nat) (news : List Value) (hl : news.length = m * i0.size) (hnews : ∀ j u, news[j]? = some u → w.cell? (ad.add j) = some u)
    (hm : 0 < m) (h63 : (m : Int) ≤ 9223372036854775807) (hfit : m * i0.bytes ≤ 281474976710656) :
    (Builtin.append_ #[t, t] ty #[.slice (some ⟨b, 0, none⟩) 0 0, .slice (some ad) m c2]).run Tryd.prog w = (Builtin.append_ #[t, t] ty #[.slice none 0 0, .slice (some ad) m c2]).run Tryd.prog w := by
  rw [run_append_grow w t ty e i0 z ht hi hz ⟨b, 0, none⟩ 0 0 [] (by simp) (by simp) ad m c2 news hl hnews (by omega) (by simpa using h63) (by rw [Nat.zero_add, nextslicecap_zero hm]; exact hfit)]
  rw [run_append_nil w t ty e i0 z ht hi hz ad m c2 news hl hnews (by omega) h63 hfit]
  simp
theorem fresh_ints {w : World} (ty : TypeId) (b : Nat) (A2 : Option Addr) (m c2 B : Nat) (ys : List Int) (hr : Rd w B A2 m ys) (h0 : 0 < m) (hm : m ≤ 1099511627776) :
    ∃ A' c' w', (Builtin.append_ #[23, 23] ty #[.slice (some ⟨b, 0, none⟩) 0 0, .slice A2 m c2]).run Tryd.prog w = .ok (.slice A' m c') w' ∧ Ow w' w.heap.size A' m c' ys ∧ Below w.heap.size w w' := by
  obtain ⟨i0, hi, hz0, hz1, hz2⟩ := info_parts int_info
  obtain ⟨A', c', w', hrun, h1, h2, _⟩ := run_push_all ty w.heap.size none 0 0 [] A2 m c2 B ys (Ow.nil_ _ _) hr (.inr rfl) (by omega) hm (Nat.le_refl _)
  obtain ⟨b2, off, rfl, _, _⟩ := hr.at_ h0
  rw [Nat.zero_add] at hrun h1
  rw [List.nil_append] at h1
  exact ⟨A', c', w', (fresh_same ty Tryd.underlying23 hi hz0 b _ m c2 (vals ys) (by rw [vals_length, hr.1, hz1]; omega) hr.news h0 (by omega) (by rw [hz2]; omega)).trans hrun, h1, below_none h2⟩
theorem fresh_rulesV {w : World} (ty : TypeId) (b : Nat) (A2 : Option Addr) (m c2 lo lo2 : Nat) (rs2 : List RuleM) (vs2 : List Value) (hl2 : rs2.length = m) (hown2 : w.ownsRow lo2 63 3 (.slice A2 m c2) m vs2) (hin2 : InR w lo (.slice none 0 0) rs2 vs2 m)
    (hlit : w.heap[b]? = some (.cells #[] 63)) (hb : lo ≤ b) (hm : m ≤ 1099511627776) (hlo : lo ≤ w.heap.size) :
    ∃ A' c' w', (Builtin.append_ #[24, 24] ty #[.slice (some ⟨b, 0, none⟩) 0 0, .slice A2 m c2]).run Tryd.prog w = .ok (.slice A' m c') w' ∧ (w'.ownsRow lo 63 3 (.slice A' m c') m vs2 ∧ InR w' lo (.slice A' m c') rs2 vs2 m) ∧ Below w.heap.size w w' := by
  obtain ⟨i0, hi, hz0, hz1, hz2⟩ := info_parts rule_parts
  by_cases h0 : 0 < m
  · obtain ⟨A', c', w', hrun, h1, h2, _⟩ := run_push_rulesV ty lo none 0 0 [] [] A2 m c2 rs2 vs2 lo2 rfl (World.ownsRow_nil _ _ _ _) (fun i hi => absurd hi (by omega)) hown2 hin2 (.inl h0) (by omega) hm hlo
    obtain ⟨hvl2, hcase⟩ := id hown2
    rcases hcase with ⟨_, h00⟩ | ⟨g2, cap2, cur, hv, _, hrow, q1, q2, q3, q4⟩
    · omega
    · injection hv with e1 _ e2
      subst e1
      have hcell : ∀ j u, vs2[j]? = some u → w.cell? ((⟨g2, 0, none⟩ : Addr).add j) = some u := fun j u hj => by
        have hadd : (⟨g2, 0, none⟩ : Addr).add j = ⟨g2, j, none⟩ := by unfold Addr.add; split <;> simp_all
        rw [hadd, cell_of_row w g2 j cur _ _ hrow]
        rw [← q4, List.getElem?_take] at hj
        split at hj
        · simpa using hj
        · cases hj
      rw [Nat.zero_add] at hrun h1
      rw [List.nil_append, List.nil_append] at h1
      exact ⟨A', c', w', (fresh_same ty Tryd.underlying24 hi hz0 b _ m c2 vs2 (by rw [hvl2, hz1]) hcell h0 (by omega) (by rw [hz2]; omega)).trans hrun, h1, below_none h2⟩
  · obtain rfl : m = 0 := by omega
    have hsrc : Go.Src Tryd.prog i0.size 24 (.slice A2 0 c2) 0 [] w := by
      cases A2 with
      | none => exact Go.Src.ofNil w Tryd.underlying24 c2
      | some a => exact Go.Src.ofSlice w Tryd.underlying24 a 0 c2 [] (by simp) (fun j u hj => by simp at hj) (fun u hu => by simp at hu)
    refine ⟨some ⟨b, 0, none⟩, 0, w, run_append_nothing w 24 24 ty 63 i0 Tryd.underlying24 hi (some ⟨b, 0, none⟩) 0 0 (Nat.zero_le _) _ hsrc, ⟨by rw [show vs2 = [] from List.eq_nil_of_length_eq_zero (by rw [hown2.1, Nat.zero_mul])]; exact ⟨by simp, .inr ⟨b, 0, #[], rfl, hb, hlit, Nat.le_refl _, by simp [maxLen], by simp, by simp⟩⟩, fun i hi => absurd hi (by omega)⟩, Below.refl _ _⟩
theorem fresh_rules {w : World} (ty : TypeId) (b : Nat) (A2 : Option Addr) (m c2 lo lo2 : Nat) (rs2 : List RuleM) (vs2 : List Value) (hl2 : rs2.length = m) (hown2 : w.ownsRow lo2 63 3 (.slice A2 m c2) m vs2) (hin2 : InR w lo (.slice none 0 0) rs2 vs2 m)
    (hlit : w.heap[b]? = some (.cells #[] 63)) (hb : lo ≤ b) (hm : m ≤ 1099511627776) (hlo : lo ≤ w.heap.size) :
    ∃ A' c' w', (Builtin.append_ #[24, 24] ty #[.slice (some ⟨b, 0, none⟩) 0 0, .slice A2 m c2]).run Tryd.prog w = .ok (.slice A' m c') w' ∧ OwR w' lo (.slice A' m c') rs2 m ∧ Below w.heap.size w w' := by
  obtain ⟨A', c', w', hrun, ⟨k1, k2⟩, k3⟩ := fresh_rulesV ty b A2 m c2 lo lo2 rs2 vs2 hl2 hown2 hin2 hlit hb hm hlo
  exact ⟨A', c', w', hrun, ⟨_, k1, k2⟩, k3⟩
/-- at steps of a region that draws its order. -/
theorem step_fresh_ints {w : World} {ops : Array Oper} {o : Oper} {a : Act} {K : Act → World → Prop} {Q : Exit → Act → World → Prop} {E : Prop} (hgd : o.guard = none) (s x : Operand)
    (ho : o.op = .call { callee := .builtin .append, args := #[s, x], argTypes := #[23, 23] })
    (b : Nat) (A2 : Option Addr) (m c2 B : Nat) (ys : List Int) (hs : a.eval s = .slice (some ⟨b, 0, none⟩) 0 0) (hx : a.eval x = .slice A2 m c2) (hr : Rd w B A2 m ys) (h0 : 0 < m) (hm : m ≤ 1099511627776)
    (h : ∀ A' c' w', Ow w' w.heap.size A' m c' ys → Below w.heap.size w w' → K (a.put o.dst (.slice A' m c')) w') :
    if Region.wanted o (yielded ops a.tmps) = true then Oper.wp Tryd.prog o a w K Q else E := by
  obtain ⟨A', c', w', hrun, h1, h2⟩ := fresh_ints o.type b A2 m c2 B ys hr h0 hm
  have hw : Region.wanted o (yielded ops a.tmps) = true := by simp [Region.wanted, hgd]
  rw [if_pos hw]
  unfold Oper.wp execOp
  simp only [ho, resolve, invoke, builtin, Sem.run_bind, Sem.run_pure, Result.andThen_ok, List.map_toArray, List.map_cons, List.map_nil, hs, hx, hrun]
  exact h A' c' w' h1 h2
theorem step_fresh_rules {w : World} {ops : Array Oper} {o : Oper} {a : Act} {K : Act → World → Prop} {Q : Exit → Act → World → Prop} {E : Prop} (hgd : o.guard = none) (s x : Operand)
    (ho : o.op = .call { callee := .builtin .append, args := #[s, x], argTypes := #[24, 24] })
    (b : Nat) (A2 : Option Addr) (m c2 lo lo2 : Nat) (rs2 : List RuleM) (vs2 : List Value) (hs : a.eval s = .slice (some ⟨b, 0, none⟩) 0 0) (hx : a.eval x = .slice A2 m c2) (hl2 : rs2.length = m) (hown2 : w.ownsRow lo2 63 3 (.slice A2 m c2) m vs2) (hin2 : InR w lo (.slice none 0 0) rs2 vs2 m)
    (hlit : w.heap[b]? = some (.cells #[] 63)) (hb : lo ≤ b) (hm : m ≤ 1099511627776) (hlo : lo ≤ w.heap.size)
    (h : ∀ A' c' w', OwR w' lo (.slice A' m c') rs2 m → Below w.heap.size w w' → K (a.put o.dst (.slice A' m c')) w') :
    if Region.wanted o (yielded ops a.tmps) = true then Oper.wp Tryd.prog o a w K Q else E := by
  obtain ⟨A', c', w', hrun, h1, h2⟩ := fresh_rules o.type b A2 m c2 lo lo2 rs2 vs2 hl2 hown2 hin2 hlit hb hm hlo
  have hw : Region.wanted o (yielded ops a.tmps) = true := by simp [Region.wanted, hgd]
  rw [if_pos hw]
  unfold Oper.wp execOp
  simp only [ho, resolve, invoke, builtin, Sem.run_bind, Sem.run_pure, Result.andThen_ok, List.map_toArray, List.map_cons, List.map_nil, hs, hx, hrun]
  exact h A' c' w' h1 h2
end Go.Proofs.YtkeoflnmbcdmfaaDoor
set_option maxRecDepth 8000
namespace Go.Proofs.YtkeoflnmbcdmfaaDoor
open Go.ChangeShapes Go.WideShapes Go.ChangeAt Go.RowKit

theorem OwR.far {w w' : World} {lo n c : Nat} {A : Option Addr} {rs : List RuleM} {row : Option Nat} (h : OwR w lo (.slice A n c) rs n) (hg : w.grownBy w' row) (hr : ∀ g, row = some g → g < lo) : OwR w' lo (.slice A n c) rs n := by
  obtain ⟨vs, hown, hin⟩ := h
  refine ⟨vs, World.ownsRow.kept hown hg (by
    cases e : (Value.slice A n c).ownBlock with
    | none => exact .inl rfl
    | some g => exact .inr (fun he => by have h1 := (World.ownsRow.lt hown g e).1; have h2 := hr g he.symm; omega)), fun i hi => ?_⟩
  obtain ⟨A', c', e0, e1, e2, e3, e4, e5⟩ := hin i hi
  exact ⟨A', c', e0, e1, e2, e3.far hg (fun g hgg e => by have h1 := e3.own_lo g hgg; have h2 := hr g e; omega), e4, e5⟩
theorem lt_set5 {a : Nat} {w : World} {p : Addr} {v : Value} (h : a < w.heap.size) : a < (w.setCell p v).heap.size := by rw [World.size_setCell]; exact h
theorem grown_row {w : World} {g : Nat} {cs : Array Value} : w.grownBy (w.setRow g cs) (some g) :=
  ⟨rfl, rfl, rfl, by simp, fun k hk hne => by unfold World.setRow; simp only [Array.getElem?_modify]; rw [if_neg (fun e => hne (by rw [e]))]⟩
theorem OwR.mono {w : World} {lo lo' n : Nat} {v : Value} {rs : List RuleM} (h : OwR w lo v rs n) (hl : lo' ≤ lo) : OwR w lo' v rs n := by
  obtain ⟨vs, hown, hin⟩ := h
  refine ⟨vs, World.ownsRow.mono hown hl, fun i hi => ?_⟩
  obtain ⟨A', c', e0, e1, e2, e3, e4, e5⟩ := hin i hi
  exact ⟨A', c', e0, e1, e2, e3.mono hl, e4, e5⟩
set_option maxHeartbeats 1000000 in
theorem specOwnPuzzle (s : Int) (Ag : Option Addr) (n cg Bg : Nat) (gi : List Int) (Ar : Option Addr) (nr cr Br : Nat) (rs : List RuleM) (w : World) (hg : Rd w Bg Ag n gi) (hBg : Bg ≤ w.heap.size) (hm : n ≤ 1099511627776) (hr : RdRs w Br Ar nr rs) (hBr : Br ≤ w.heap.size) (hmr : nr ≤ 1099511627775) :
    Calls Tryd.prog 69 #[.agg #[.int .i64 s, .slice Ag n cg, .slice Ar nr cr]] w fun e w' => ∃ A1 c1 A2 c2, e = .returned (.agg #[.int .i64 s, .slice A1 n c1, .slice A2 nr c2]) ∧ Ow w' w.heap.size A1 n c1 gi ∧ OwR w' w.heap.size (.slice A2 nr c2) rs nr ∧ Below w.heap.size w w' := by
  have Hone := Lib.hid puz_one
  have Hi := Lib.hid puz_info
  have hx0 := pbox_new w s Ag n cg Ar nr cr 26
  have hb0 : Below w.heap.size w (w.alloc (.cells #[.int .i64 s, .slice Ag n cg, .slice Ar nr cr] 26)) := (Below.refl _ _).alloc (Nat.le_refl _) _
  have hs0 : w.heap.size < (w.alloc (.cells #[.int .i64 s, .slice Ag n cg, .slice Ar nr cr] 26)).heap.size := by simp
  obtain ⟨V, hV⟩ : ∃ V, V = ((w.alloc (.cells #[.int .i64 s, .slice Ag n cg, .slice Ar nr cr] 26)).alloc (.cells #[.int .i64 0, .slice none 0 0, .slice none 0 0] 26)).alloc (.cells #[.int .i64 s, .slice Ag n cg, .slice Ar nr cr] 26) := ⟨_, rfl⟩
  have hbV : Below w.heap.size w V := by rw [hV]; exact (hb0.alloc hb0.size _).alloc (by simp; omega) _
  have hsV : V.heap.size = w.heap.size + 1 + 1 + 1 := by rw [hV]; simp
  have hv2 : V.heap[w.heap.size + 1 + 1]? = some (.cells #[.int .i64 s, .slice Ag n cg, .slice Ar nr cr] 26) := by
    have := heap_alloc2_new (w.alloc (.cells #[.int .i64 s, .slice Ag n cg, .slice Ar nr cr] 26)) (.cells #[.int .i64 0, .slice none 0 0, .slice none 0 0] 26) (.cells #[.int .i64 s, .slice Ag n cg, .slice Ar nr cr] 26)
    rw [World.size_alloc] at this
    rw [hV]
    exact this
  have hv1 : V.heap[w.heap.size + 1]? = some (.cells #[.int .i64 0, .slice none 0 0, .slice none 0 0] 26) := by
    have := heap_alloc2_old (w.alloc (.cells #[.int .i64 s, .slice Ag n cg, .slice Ar nr cr] 26)) (.cells #[.int .i64 0, .slice none 0 0, .slice none 0 0] 26) (.cells #[.int .i64 s, .slice Ag n cg, .slice Ar nr cr] 26)
    rw [World.size_alloc] at this
    rw [hV]
    exact this
  have hv0 : V.cell? ⟨w.heap.size, 2, none⟩ = some (.slice Ar nr cr) := by
    rw [hV]
    exact (hx0.below hs0 (((Below.refl _ _).alloc (Nat.le_refl _) _).alloc (by simp) _)).2.2
  have HO : Hid (Ow (V.alloc (.cells #[] 3)) (w.heap.size + 1 + 1 + 1) (some ⟨w.heap.size + 1 + 1 + 1, 0, none⟩) 0 0 []) := Lib.hid (by
    have := Ow.made0 V (w.heap.size + 1 + 1 + 1) (by omega)
    rw [hsV] at this
    exact this)
  have hbO : Below V.heap.size V (V.alloc (.cells #[] 3)) := (Below.refl _ _).alloc (Nat.le_refl _) _
  have hwV : w.heap.size ≤ V.heap.size := by omega
  have HR := Lib.hid ((hg.below (hbV.mono hBg)).below (hbO.mono (Nat.le_trans hBg hwV)))
  have hsO : w.heap.size + 1 + 1 + 1 ≤ (V.alloc (.cells #[] 3)).heap.size := by simp; omega
  have hwV0 : w.heap.size < V.heap.size := by omega
  have hwV1 : w.heap.size + 1 < V.heap.size := by omega
  have hwV2 : w.heap.size + 1 + 1 < V.heap.size := by omega
  have hne12 : w.heap.size + 1 ≠ w.heap.size + 1 + 1 := by omega
  have hne02 : w.heap.size ≠ w.heap.size + 1 + 1 := by omega
  have hle2 : w.heap.size ≤ w.heap.size + 1 + 1 := by omega
  have HS := Lib.hid (fun w' (hb : Below w.heap.size w w') => specOwnRules Ar nr cr Br rs w' (hr.below (hb.mono hBr)) (Nat.le_trans hBr hb.size) hmr)
  have HV := Lib.hid hV
  clear hV
  go_enter Tryd.func69, Tryd.ntmps69
  go_wp2_with (first
    | (at_builtin; (rw [← HV.out]); (refine push_new rfl (.tmp 5) (.tmp 7) rfl (w.heap.size + 1 + 1 + 1) (some ⟨w.heap.size + 1 + 1 + 1, 0, none⟩) Ag n cg Bg gi rfl rfl HO.out HR.out hm hsO ?_); intro A1 c1 w1 ho1 hg1; have hbw1 : Below V.heap.size V w1 := hbO.grown hg1 hbO.size (fun k hk => Nat.le_trans (Nat.le_of_eq hsV) (HO.out.own_lo k hk)); have hs1 := Nat.le_trans (Nat.le_of_lt hwV2) hbw1.size; have f1 := (hbw1.block (w.heap.size + 1) hwV1).trans hv1; have f2 := (hbw1.block (w.heap.size + 1 + 1) hwV2).trans hv2; have f0 := (hbw1.cell (p := ⟨w.heap.size, 2, none⟩) hwV0).trans hv0; have g1 := (heap_setCell_other w1 ⟨w.heap.size + 1 + 1, 1, none⟩ (w.heap.size + 1) (.slice A1 n c1) hne12).trans f1; have g2 : (w1.setCell ⟨w.heap.size + 1 + 1, 1, none⟩ (.slice A1 n c1)).heap[w.heap.size + 1 + 1]? = some (.cells #[.int .i64 s, .slice A1 n c1, .slice Ar nr cr] 26) := heap_setCell_same w1 (w.heap.size + 1 + 1) 1 _ _ (.slice A1 n c1) f2; (have fz := frozen_of_row w1 (w.heap.size + 1 + 1) 1 _ _ f2); have m1 : w1.cell? ⟨w.heap.size + 1 + 1, 1, none⟩ = some (.slice Ag n cg) := cell_of_row _ _ 1 _ _ (0, 0) f2; have g0 := (cell_other5 (k := 1) (v := .slice A1 n c1) hne02).trans f0; have l1 : w.heap.size + 1 < (w1.setCell ⟨w.heap.size + 1 + 1, 1, none⟩ (.slice A1 n c1)).heap.size := lt_set5 (Nat.lt_of_lt_of_le hwV1 hbw1.size); have l2 : w.heap.size + 1 + 1 < (w1.setCell ⟨w.heap.size + 1 + 1, 1, none⟩ (.slice A1 n c1)).heap.size := lt_set5 (Nat.lt_of_lt_of_le hwV2 hbw1.size); have hB2 := (hbV.trans (hbw1.mono hwV)).setCell hle2 (.slice A1 n c1) (p := ⟨w.heap.size + 1 + 1, 1, none⟩))
    | (go_at_call 104; (refine (HS.out _ hB2).mono ?_); rintro e w3 ⟨A2, c2, rfl, ho2, hb3⟩; have h1 := (hb3.block (w.heap.size + 1) l1).trans g1; have h2 := (hb3.block (w.heap.size + 1 + 1) l2).trans g2; have fz3 := frozen_of_row w3 (w.heap.size + 1 + 1) 2 _ _ h2; have m5 : w3.cell? ⟨w.heap.size + 1 + 1, 0, none⟩ = some (.int .i64 s) := cell_of_row _ _ 0 _ _ (0, 0) h2; have m6 : w3.cell? ⟨w.heap.size + 1 + 1, 1, none⟩ = some (.slice A1 n c1) := cell_of_row _ _ 1 _ _ (0, 0) h2; have m7 : w3.cell? ⟨w.heap.size + 1 + 1, 2, none⟩ = some (.slice Ar nr cr) := cell_of_row _ _ 2 _ _ (0, 0) h2; have i1 := (heap_setCell_other w3 ⟨w.heap.size + 1 + 1, 2, none⟩ (w.heap.size + 1) (.slice A2 nr c2) hne12).trans h1; have i2 : (w3.setCell ⟨w.heap.size + 1 + 1, 2, none⟩ (.slice A2 nr c2)).heap[w.heap.size + 1 + 1]? = some (.cells #[.int .i64 s, .slice A1 n c1, .slice A2 nr c2] 26) := heap_setCell_same w3 (w.heap.size + 1 + 1) 2 _ _ (.slice A2 nr c2) h2; have k5 : (w3.setCell ⟨w.heap.size + 1 + 1, 2, none⟩ (.slice A2 nr c2)).cell? ⟨w.heap.size + 1 + 1, 0, none⟩ = some (.int .i64 s) := cell_of_row _ _ 0 _ _ (0, 0) i2; have k6 : (w3.setCell ⟨w.heap.size + 1 + 1, 2, none⟩ (.slice A2 nr c2)).cell? ⟨w.heap.size + 1 + 1, 1, none⟩ = some (.slice A1 n c1) := cell_of_row _ _ 1 _ _ (0, 0) i2; have k7 : (w3.setCell ⟨w.heap.size + 1 + 1, 2, none⟩ (.slice A2 nr c2)).cell? ⟨w.heap.size + 1 + 1, 2, none⟩ = some (.slice A2 nr c2) := cell_of_row _ _ 2 _ _ (0, 0) i2)
    | (refine wpList_store_row rfl 26 _ _ rfl (w.heap.size + 1) #[.int .i64 s, .slice A1 n c1, .slice A2 nr c2] rfl rfl 26 #[.int .i64 0, .slice none 0 0, .slice none 0 0] i1 (Hi.out _ _ _ _ _ _ _) rfl (Hone.out _ _ _ _ _ _ _) ?_))
  have hs1' := hbw1.size
  have hs3 := hb3.size
  rw [World.size_setCell] at hs3
  have hBe : Below w.heap.size w ((w3.setCell ⟨w.heap.size + 1 + 1, 2, none⟩ (.slice A2 nr c2)).setRow (w.heap.size + 1) #[.int .i64 s, .slice A1 n c1, .slice A2 nr c2]) := setRow_below5 ((step hB2 hb3).setCell (show w.heap.size ≤ w.heap.size + 1 + 1 by omega) _) (by omega)
  have ho1' : Ow (w1.setCell ⟨w.heap.size + 1 + 1, 1, none⟩ (.slice A1 n c1)) (w.heap.size + 1 + 1 + 1) A1 n c1 gi := ho1.far (row := some (w.heap.size + 1 + 1)) grown_set (fun b hb e => by have := ho1.own_lo b hb; injection e with e; omega)
  have ho3 := ho1'.below hb3
  have ho4 : Ow (w3.setCell ⟨w.heap.size + 1 + 1, 2, none⟩ (.slice A2 nr c2)) (w.heap.size + 1 + 1 + 1) A1 n c1 gi := ho3.far (row := some (w.heap.size + 1 + 1)) grown_set (fun b hb e => by have := ho1.own_lo b hb; injection e with e; omega)
  have ho5 : OwR (w3.setCell ⟨w.heap.size + 1 + 1, 2, none⟩ (.slice A2 nr c2)) (w1.setCell ⟨w.heap.size + 1 + 1, 1, none⟩ (.slice A1 n c1)).heap.size (.slice A2 nr c2) rs nr := ho2.far (row := some (w.heap.size + 1 + 1)) grown_set (fun b e => by injection e with e; omega)
  refine bodyPost_ret (v := .agg #[.int .i64 s, .slice A1 n c1, .slice A2 nr c2]) (results_cell_row (by rfl) _ _ (w.heap.size + 1) 26 _ (0, 0) _ rfl (setRow_heap _ _ _ _ _ _ i1) Tryd.underlying26 rfl (Hi.out _ _ _ _ _ _ _)) rfl ⟨_, _, _, _, rfl, (ho4.row5 (fun b hb => ?_)).mono (by omega), (ho5.far (row := some (w.heap.size + 1)) grown_row (fun b e => ?_)).mono (by rw [World.size_setCell]; omega), hBe⟩
  · have := ho4.own_lo b hb
    omega
  · injection e with e
    omega
end Go.Proofs.YtkeoflnmbcdmfaaDoor
set_option maxRecDepth 8000
namespace Go.Proofs.YtkeoflnmbcdmfaaDoor
open Go.ChangeShapes Go.WideShapes Go.ChangeAt Go.RowKit

/-- the cell is one of the puzzle's, and given. -/
def givenB (n : Nat) (gi : List Int) (i : Int) : Bool := inr i 0 ((n : Int) - 1) && decide (0 < nth gi i.toNat)
def redB (s : Int) (n : Nat) (gi : List Int) (rs : List RuleM) (i : Int) : Bool := pvB s gi rs && givenB n gi i && oneB s n gi rs && oneB s n (gi.set i.toNat 0) rs
set_option maxHeartbeats 2000000 in
theorem specIsRedundant (s : Int) (Ag : Option Addr) (n cg Bg : Nat) (gi : List Int) (Ar : Option Addr) (nr cr Br : Nat) (rs : List RuleM) (i : Int) (w : World) (hp : PGs w s Ag n cg Bg gi Ar nr cr Br rs) :
    Calls Tryd.prog 29 #[.agg #[.int .i64 s, .slice Ag n cg, .slice Ar nr cr], .int .i64 i] w fun e w' => e = .returned (.bool (redB s n gi rs i)) ∧ Below w.heap.size w w' := by
  have hx0 := pbox_new w s Ag n cg Ar nr cr 26
  have hb0 : Below w.heap.size w (w.alloc (.cells #[.int .i64 s, .slice Ag n cg, .slice Ar nr cr] 26)) := (Below.refl _ _).alloc (Nat.le_refl _) _
  have hs0 : w.heap.size < (w.alloc (.cells #[.int .i64 s, .slice Ag n cg, .slice Ar nr cr] 26)).heap.size := by simp
  have HP := Lib.hid (fun w' (hb : Below w.heap.size w w') => specPuzzleValid s Ag n cg Bg gi Ar nr cr Br rs w' (hp.below hb).g (hp.below hb).gB hp.gm (hp.below hb).r (hp.below hb).rB hp.rm)
  have HO := Lib.hid (fun w' (hb : Below w.heap.size w w') => specOne s Ag n cg Bg gi Ar nr cr Br rs w' (hp.below hb))
  have hlen := Lib.hid hp.g.1
  have hm := hp.gm
  cases hv : pvB s gi rs
  · have HL := Lib.hid (show redB s n gi rs i = false by simp [redB, hv])
    go_enter Tryd.func29, Tryd.ntmps29
    go_wp2_with (go_at_call 20; refine (HP.out _ hb0).mono ?_; rintro e w1 ⟨rfl, hb1⟩; rw [hv]; have hB1 := step hb0 hb1; clear hb1)
    go_ret
    exact ⟨by rw [HL.out]; rfl, hB1⟩
  · cases hin : inr i 0 ((n : Int) - 1)
    · have HL := Lib.hid (show redB s n gi rs i = false by simp [redB, givenB, hin])
      have Hin := Lib.hid hin
      clear hin
      go_enter Tryd.func29, Tryd.ntmps29
      go_wp2_with (first | (go_at_call 20; refine (HP.out _ hb0).mono ?_; rintro e w1 ⟨rfl, hb1⟩; rw [hv]; have hB1 := step hb0 hb1; obtain ⟨d0, d1, d2⟩ := hx0.below hs0 hb1; clear hb1) | (go_at_call 57; refine (l1In_any _ _ _ _).mono ?_; rintro e w' ⟨rfl, rfl⟩; (rw [Hin.out])))
      go_ret
      exact ⟨by rw [HL.out]; rfl, hB1⟩
    · obtain ⟨k, rfl⟩ := Int.eq_ofNat_of_zero_le (show 0 ≤ i by simp [inr] at hin; omega)
      have hk : k < n := by simp [inr] at hin; omega
      have Hin := Lib.hid hin
      clear hin
      obtain ⟨b, off, rfl, hbB, hck⟩ := hp.g.at_ hk
      have hbw : b < w.heap.size := Nat.lt_of_lt_of_le hbB hp.gB
      have HW := Lib.hid (fun w' (hb : Below w.heap.size w w') => specWithout (Bg := Bg) s (some ⟨b, off, none⟩) n cg gi Ar nr cr k w' (hp.below hb).g (hp.below hb).gB hm hk)
      have HC := Lib.hid (fun w' (hb : Below w.heap.size w w') => ((hb.cell (p := ⟨b, off + k, none⟩) hbw).trans hck : w'.cell? ⟨b, off + k, none⟩ = some (.int .i64 (nth gi k))))
      by_cases hx : 0 < nth gi k
      · cases ho : oneB s n gi rs
        · have HL := Lib.hid (show redB s n gi rs k = false by simp [redB, ho])
          go_enter Tryd.func29, Tryd.ntmps29
          go_wp2_with (first | (go_at_call 20; refine (HP.out _ hb0).mono ?_; rintro e w1 ⟨rfl, hb1⟩; rw [hv]; have hB1 := step hb0 hb1; obtain ⟨d0, d1, d2⟩ := hx0.below hs0 hb1; have hck1 := HC.out _ hB1; clear hb1) | (go_at_call 57; refine (l1In_any _ _ _ _).mono ?_; rintro e w' ⟨rfl, rfl⟩; (rw [Hin.out])) | (go_at_call 65; refine (HO.out _ hB1).mono ?_; rintro e w2 ⟨rfl, hb2⟩; rw [ho]))
          go_ret
          exact ⟨by rw [HL.out]; rfl, step hB1 hb2⟩
        · cases ho2 : oneB s n (gi.set k 0) rs
          all_goals
            have HL := Lib.hid (show redB s n gi rs k = oneB s n (gi.set k 0) rs by simp [redB, givenB, hv, Hin.out, hx, ho])
            rw [ho2] at HL
            have HO2 := Lib.hid (fun w' (hb : Below w.heap.size w w') A' c' B' (h : Rd w' B' A' n (gi.set k 0)) (hB : B' ≤ w'.heap.size) => specOne s A' n c' B' (gi.set k 0) Ar nr cr Br rs w' ⟨h, hB, hm, (hp.below hb).r, (hp.below hb).rB, hp.rm⟩)
            go_enter Tryd.func29, Tryd.ntmps29
            go_wp2_with (first | (go_at_call 20; refine (HP.out _ hb0).mono ?_; rintro e w1 ⟨rfl, hb1⟩; rw [hv]; have hB1 := step hb0 hb1; obtain ⟨d0, d1, d2⟩ := hx0.below hs0 hb1; have hs1 := Nat.lt_of_lt_of_le hs0 hb1.size; have hck1 := HC.out _ hB1; clear hb1) | (go_at_call 57; refine (l1In_any _ _ _ _).mono ?_; rintro e w' ⟨rfl, rfl⟩; (rw [Hin.out])) | (go_at_call 66; refine (HW.out _ hB2).mono ?_; rintro e w3 ⟨A3, c3, rfl, ho3, hb3⟩; have hB3 := step hB2 hb3; clear hb3) | (go_at_call 65; refine (HO.out _ hB1).mono ?_; rintro e w2 ⟨rfl, hb2⟩; rw [ho]; have hB2 := step hB1 hb2; obtain ⟨e0, e1, e2⟩ := PBox.below ⟨d0, d1, d2⟩ hs1 hb2; clear hb2) | (go_at_call 65; refine (HO2.out _ hB3 _ _ _ ho3.rd (Nat.le_refl _)).mono ?_; rintro e w4 ⟨rfl, hb4⟩; rw [ho2]; have hB4 := step hB3 hb4; clear hb4))
            go_ret
            exact ⟨by rw [HL.out]; rfl, hB4⟩
      · have HL := Lib.hid (show redB s n gi rs k = false by simp [redB, givenB, hx])
        go_enter Tryd.func29, Tryd.ntmps29
        go_wp2_with (first | (go_at_call 20; refine (HP.out _ hb0).mono ?_; rintro e w1 ⟨rfl, hb1⟩; rw [hv]; have hB1 := step hb0 hb1; obtain ⟨d0, d1, d2⟩ := hx0.below hs0 hb1; have hck1 := HC.out _ hB1; clear hb1) | (go_at_call 57; refine (l1In_any _ _ _ _).mono ?_; rintro e w' ⟨rfl, rfl⟩; (rw [Hin.out])))
        go_ret
        exact ⟨by rw [HL.out]; rfl, hB1⟩
end Go.Proofs.YtkeoflnmbcdmfaaDoor
