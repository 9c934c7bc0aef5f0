import Derived.Test.YtlnmioijgclndaaDoorFMade
import Derived.RangeFuncBound
import Derived.RangeFuncLeaves
import Derived.Shelf.Abstract
import Derived.Shelf.RegionOpen
import Derived.WalkKit
import Derived.OwnWalkIn
import Derived.TacticsInMore
import Derived.Test.YtlnmioijgclndaaDoorFSe
import Derived.Test.YtlnmioijgclndaaDoorFSm
import Derived.StillTailTactics
import Derived.Deep.RegionWith
import Derived.Test.YtlnmioijgclndaaDoorP5A
import Derived.Test.YtlnmioijgclndaaDoorBase
import Derived.Lib.SliceRun
import Derived.Test.YtlnmioijgclndaaDoorP5S
import Derived.Test.YtlnmioijgclndaaDoorRp
import Derived.Test.YtlnmioijgclndaaDoorFSqnS
import Derived.Test.YtlnmioijgclndaaDoorC1
set_option maxRecDepth 8000
namespace Go.Proofs.YtlnmioijgclndaaDoor
open Go.ChangeShapes Go.WideShapes Go.ChangeAt Go.RowKit Go.Shelf
attribute [local go_sem] Oper.semAt_some
theorem covSplit {J : List (List Int) → World → Prop} {Jx : World → Prop} {M lo G n : Nat} {vs : List Int} {X Y : World} {ways : List (List Int)} {e : Ending} (h : CovPost J Jx M lo G n vs X ways e Y) : ∃ bb : Bool, e = .returned (.bool bb) ∧ (bb = true → J ways Y ∧ MidX M G X Y ∧ ∃ zs, Ow Y lo (some ⟨G, 0, none⟩) n n zs ∧ ∀ i, i < vs.length → nth zs i = nth vs i) ∧ (bb = false → Jx Y) := by
  rcases h with ⟨rfl, h1, h2, h3⟩ | ⟨rfl, h1⟩
  · exact ⟨true, rfl, fun _ => ⟨h1, h2, h3⟩, fun h => by cases h⟩
  · exact ⟨false, rfl, fun h => (by cases h), fun _ => h1⟩
set_option maxHeartbeats 4000000 in
theorem cover_any {T : List (List Int)} {l : Nat} {W0 : World} {B0 G OB RB L M lo s n : Nat} {gi : List Int} {rs : List RuleM} {J : List (List Int) → World → Prop} {Jx : World → Prop}
    (hv : pvB s gi rs = true) (hs : s ∈ [2, 3, 4]) (hn : n = s * s) (hok : ∀ i, i < n → 0 ≤ nth gi i ∧ nth gi i ≤ (s : Int)) (hB0 : B0 ≤ W0.heap.size) (hT : ∀ X, Below B0 W0 X → Tz X)
    (hM : M ≤ G ∧ M ≤ OB ∧ M ≤ RB ∧ M ≤ L ∧ G < L ∧ OB ≠ G ∧ RB ≠ G ∧ OB < L ∧ RB < L ∧ lo ≤ G)
    (hJ0 : ∀ pre X, J pre X → Below B0 W0 X)
    (hJ : ∀ pre X Y, J pre X → X.grownBy Y (some G) → J pre Y)
    (hcb : ∀ pre ys X, (∃ zs, T = pre ++ ys :: zs) → J pre X → Ow X lo (some ⟨G, 0, none⟩) n n ys → YieldAt Fence.wide 0 Tryd.prog l #[.slice (some ⟨G, 0, none⟩) n n] X fun e Y => ∃ bb, e = .returned (.bool bb) ∧ ((bb = true ∧ J (pre ++ [ys]) Y ∧ MidX M G X Y ∧ Ow Y lo (some ⟨G, 0, none⟩) n n ys) ∨ (bb = false ∧ Jx Y))) :
    ∀ (f p : Nat) (vs ys0 : List Int) (pre : List (List Int)) (X : World), p + f = n → vs.length = p → J pre X → L ≤ X.heap.size → SR W0 B0 s gi rs OB RB L X → Ow X lo (some ⟨G, 0, none⟩) n n ys0 → (∀ i, i < p → nth ys0 i = nth vs i) → (∀ i, i < p → 1 ≤ nth vs i ∧ nth vs i ≤ (s : Int)) → (∀ q, q < p → noConf s (vs.take (q + 1)) q = true) → (∃ zs, T = pre ++ (cv s gi rs f vs ++ zs)) →
      Calls Tryd.prog 37 #[sVal G OB RB n, .int .u64 (lf s vs p : Nat), .func (.yield l) #[] #[]] X (CovPost J Jx M lo G n vs X (pre ++ cv s gi rs f vs)) := by
  have hn16 : n ≤ 16 := by simp at hs; rcases hs with rfl | rfl | rfl <;> omega
  have hr := (pv_gv hv).2.2
  intro f
  induction f with
  | zero =>
    intro p vs ys0 pre X hp hl hj hLX hSR ho hys hvs hnc hin
    obtain rfl : p = n := by omega
    obtain rfl : ys0 = vs := ext_nth (by rw [ho.len, hl]) (fun k hk => hys k (by rw [ho.len] at hk; exact hk))
    have hz : lf s ys0 p = 0 := by
      have := lf_done hs (us := ys0) (by omega) (fun i hi => hvs i (by omega)) (fun q hq => hnc q (by omega))
      rwa [← hn] at this
    rw [hz]
    unfold sVal
    have hx0 := sbox_new X G OB RB p 65
    obtain ⟨X1, hX1⟩ : ∃ X1, X.alloc (.cells #[.slice (some ⟨G, 0, none⟩) p p, .slice (some ⟨OB, 0, none⟩) p p, .slice (some ⟨RB, 0, none⟩) p p] 65) = X1 := ⟨_, rfl⟩
    rw [hX1] at hx0
    have hb0 : Below X.heap.size X X1 := by rw [← hX1]; exact (Below.refl _ _).alloc (Nat.le_refl _) _
    obtain ⟨c0, c1, c2⟩ := id hx0
    obtain ⟨fn, tmps, assign, body, hyy, hR⟩ := hcb pre ys0 X1 (by obtain ⟨zs, e⟩ := hin; exact ⟨zs, by rw [e]; simp [cv]⟩) (hJ _ _ _ hj (grown_of_below hb0)) (ho.below hb0)
    clear hcb hJ hin hnc hvs hys hx0 hn hp hz hok hs hr hM
    refine (callsIn_wide (n := 9)).1 ?_
    refine callsIn_of_wp Tryd.func37 rfl trivial ?_ rfl
    simp only [Tryd.ntmps37, List.size_toArray, List.length_cons, List.length_nil, Nat.reduceAdd, Nat.reduceSub, Array.replicate_succ, Array.replicate_zero, List.push_toArray, List.append_toArray, List.nil_append, List.cons_append]
    gi_wp2
    refine (roundIn_any hR).mono ?_
    rintro e Y ⟨bb, rfl, hR'⟩
    gi_wp2
    go_ret
    rcases hR' with ⟨rfl, q1, q2, q3⟩ | ⟨rfl, q1⟩
    · exact .inl ⟨rfl, by simpa [cv] using q1, (midx_below hb0).trans q2, ys0, q3, fun _ _ => rfl⟩
    · exact .inr ⟨rfl, q1⟩
  | succ f ih =>
    intro p vs ys0 pre X hp hl hj hLX hSR ho hys hvs hnc hin
    have hpn : p < s * s := by omega
    have hvo : vsOk s vs p := fun i hi => by have := hvs i hi; omega
    obtain ⟨lb1, lb2⟩ := lf_low hs hpn hvo
    have hl64 := lf_lt64 hs vs p
    have hconf := Lib.hid (fun (t : Nat) (t1 : 1 ≤ t) (t2 : t ≤ s) => lf_conf hs hpn hl hvo t1 t2)
    have hlf1 := Lib.hid (fun (t : Nat) => show lf s (vs ++ [(t : Int)]) (p + 1) = anU (lf s vs p) (itN s p t) by
      simp only [lf]
      rw [lf_congr (us' := vs) (fun i hi => by rw [nth_push hl, if_pos hi]), nth_push hl, if_neg (by omega), if_pos rfl, Int.toNat_natCast])
    obtain ⟨F, hF⟩ : ∃ F : Int → List (List Int), F = fun v => if stB s rs (vs ++ [v]) p = true then cv s gi rs f (vs ++ [v]) else [] := ⟨_, rfl⟩
    have hcv : cv s gi rs (f + 1) vs = (optL s gi p).flatMap F := by rw [hF]; simp only [cv, hl, optL]
    obtain ⟨⟨A, cap, e1, e2⟩, A', cap', e3, e4⟩ := hSR p hpn
    obtain ⟨O, hO⟩ : ∃ O, O = optL s gi p := ⟨_, rfl⟩
    have hOl : O.length = (bitsTo (candN gi s p) 4).length := by rw [hO]; rfl
    have Hopt := Lib.hid (fun v (hv : v ∈ O) => opt_in (hok p (by omega)) (by rw [← hO]; exact hv))
    rw [← hO] at hcv e1 e2
    have Hcv := Lib.hid hcv
    rw [hcv] at hin ⊢
    have Hin := Lib.hid hin
    have HF := Lib.hid hF
    clear hF hO hcv hin
    have hx0 := sbox_new X G OB RB n 65
    obtain ⟨X1, hX1⟩ : ∃ X1, X.alloc (.cells #[.slice (some ⟨G, 0, none⟩) n n, .slice (some ⟨OB, 0, none⟩) n n, .slice (some ⟨RB, 0, none⟩) n n] 65) = X1 := ⟨_, rfl⟩
    rw [hX1] at hx0
    have hb0 : Below X.heap.size X X1 := by rw [← hX1]; exact (Below.refl _ _).alloc (Nat.le_refl _) _
    have hsX1 : X1.heap.size = X.heap.size + 1 := by rw [← hX1]; simp
    have hm0 : MidX M G X X1 := midx_below hb0
    have hj1 := hJ _ _ _ hj (grown_of_below hb0)
    have ho1 := ho.below hb0
    have hSR1 := hSR.midx hm0 ⟨hM.2.1, hM.2.2.2.2.2.1⟩ ⟨hM.2.2.1, hM.2.2.2.2.2.2.1⟩ hM.2.2.2.1 hM.2.2.2.2.1
    have e1 := hm0.cell e1 hM.2.1 hM.2.2.2.2.2.1
    have HO := Lib.hid (e2.midx hm0 hM.2.2.2.1 hM.2.2.2.2.1)
    have HR := Lib.hid (And.intro (hm0.cell e3 hM.2.2.1 hM.2.2.2.2.2.2.1) (e4.midx hm0 hM.2.2.2.1 hM.2.2.2.2.1))
    obtain ⟨c0, c1, c2⟩ := id hx0
    obtain ⟨LF, hLF⟩ : ∃ LF, LF = lf s vs p := ⟨_, rfl⟩
    rw [← hLF] at lb1 lb2 hl64 hconf hlf1 ⊢
    have HT := Lib.hid (tz64_any LF p X1 hl64 lb1 lb2 (by omega) (hT X1 (hJ0 _ _ hj1)))
    have hLF0 : ((LF : Int) == 0) = false := by
      rw [beq_eq_false_iff_ne]
      intro e
      have : LF = 0 := by omega
      rw [this, Nat.zero_testBit] at lb1; cases lb1
    have hpI : (p : Int) < (n : Int) := by omega
    obtain ⟨l0, hl0⟩ : ∃ l0, l0 = O.length := ⟨_, rfl⟩
    rw [← hl0] at e1
    have hl04 : l0 ≤ 4 := by rw [hl0, hOl]; exact bitsTo_length _ _
    have Hl0 := Lib.hid hl0
    have Hl := Lib.hid hl
    have Hx0 := Lib.hid hx0
    have HM := Lib.hid hM
    have HSR1 := Lib.hid hSR1
    have Hvs := Lib.hid hvs
    have Hnc := Lib.hid hnc
    have Hys := Lib.hid hys
    have Hb0 := Lib.hid hb0
    have Hm0 := Lib.hid hm0
    have Hp := Lib.hid hp
    have Hh := Lib.hid (And.intro hv (And.intro hs hn))
    have Hr := Lib.hid hr
    have HLF64 := Lib.hid hl64
    have HQL := Lib.hid (show (rulesAt rs p).length ≤ 1099511627776 from Nat.le_trans (List.length_filter_le _ _) (by have := (pv_gv hv).2.1; omega))
    clear hOl hl0 hl hx0 hM hSR1 hSR hvs hnc hys hb0 hm0 hp lb1 lb2 hj ho e2 e3 e4 hvo hLF hv hs hn hr hl64
    unfold sVal
    go_enter Tryd.func37, Tryd.ntmps37
    go_wp2_with (go_at_call 50; refine HT.out.mono ?_; rintro e wq ⟨rfl, rfl⟩)
    go_loopw [24] (fun v wr => ∃ (u : Nat) (ys : List Int), u ≤ l0 ∧ v = .int .i64 u ∧ J (pre ++ (O.take u).flatMap F) wr ∧ MidX M G X1 wr ∧ Ow wr lo (some ⟨G, 0, none⟩) n n ys ∧ ∀ i, i < p → nth ys i = nth vs i) (fun v _ => l0 - (intOf v).toNat)
    case atStart => exact ⟨0, ys0, Nat.zero_le _, rfl, by simpa using hj1, ⟨Nat.le_refl _, fun _ _ _ _ => rfl⟩, ho1, Hys.out⟩
    case round =>
      clear hj1 ho1 c0 c1 c2 e1 HT
      obtain ⟨u, ys, hu, rfl, hj, hm, ho, hys⟩ := hrel
      obtain ⟨m1, m2, m3, m4, m5, m6, m7, m8, m9, m10⟩ := HM.out
      have hXG : X.heap.size ≠ G := by omega
      have hMX : M ≤ X.heap.size := by omega
      have hxw := Hx0.out.midx hm hMX hXG
      have hsw := hm.size
      by_cases hlt : u < l0
      · have hltI : (u : Int) < (l0 : Int) := by omega
        have Hlt := Lib.hid hlt
        have huO : u < O.length := by rw [← Hl0.out]; exact hlt
        obtain ⟨t, ht, t1, t2⟩ := Hopt.out _ (nth_mem huO)
        obtain ⟨b, rfl, hbL, hcc⟩ := HO.out.midx hm m4 m5 (by omega)
        obtain ⟨k0, k1⟩ := hcc u huO
        rw [ht, Int.toNat_natCast] at k1
        rw [ht] at k0
        have hts4 : t ≤ 4 := by have := Hh.out.2.1; simp at this; omega
        have hit64 := it_lt64 Hh.out.2.1 hpn t1 t2
        obtain ⟨it, hit⟩ : ∃ it, it = itN s p t := ⟨_, rfl⟩
        rw [← hit] at k1 hit64
        have hLF64 : LF < 2 ^ 64 := HLF64.out
        have hAn := andNot_u64 (a := it) (b := LF) (by omega) (by omega)
        have hAn2 := andNot_u64 (a := LF) (b := it) (by omega) (by omega)
        have Hcf := Lib.hid (hconf.out t t1 t2)
        have Hlf := Lib.hid (hlf1.out t)
        rw [← hit] at Hcf Hlf
        obtain ⟨Z, hZ⟩ : ∃ Z, Z = anU it LF := ⟨_, rfl⟩
        rw [← hZ] at Hcf hAn
        obtain ⟨N2, hN2⟩ : ∃ N2, N2 = anU LF it := ⟨_, rfl⟩
        rw [← hN2] at Hlf hAn2
        have HFt := Lib.hid (show F (nth O u) = if stB s rs (vs ++ [(t : Int)]) p = true then cv s gi rs f (vs ++ [(t : Int)]) else [] by rw [HF.out, ht])
        have Htf := Lib.hid (take_flat (F := F) huO)
        obtain ⟨z0, z1, z2⟩ := id hxw
        obtain ⟨W, hW⟩ : ∃ W, wr.alloc (.cells #[.int .i64 t, .int .u64 it] 80) = W := ⟨_, rfl⟩
        have hbW : Below wr.heap.size wr W := by rw [← hW]; exact (Below.refl _ _).alloc (Nat.le_refl _) _
        have hsW : W.heap.size = wr.heap.size + 1 := by rw [← hW]; simp
        have y0 : W.cell? ⟨wr.heap.size, 0, none⟩ = some (.int .i64 t) := by rw [← hW]; exact cell_of_row _ _ 0 _ _ (0, 0) (heap_alloc_new wr _)
        have y1 : W.cell? ⟨wr.heap.size, 1, none⟩ = some (.int .u64 it) := by rw [← hW]; exact cell_of_row _ _ 1 _ _ (0, 0) (heap_alloc_new wr _)
        have hxW := hxw.below hxw.lt hbW
        obtain ⟨x0, x1, x2⟩ := id hxW
        have hoW := ho.below hbW
        have hgW : wr.grownBy W (some G) := grown_of_below hbW
        clear hcc ht hit hZ hN2 hLF64
        have hN0 : nth (vs ++ [(t : Int)]) p = (t : Int) := by rw [nth_push Hl.out, if_neg (by omega), if_pos rfl]
        cases hnc : noConf s (vs ++ [(t : Int)]) p
        · have hZ0 : ((Z : Int) != 0) = true := by
            have := Hcf.out
            rw [hnc] at this
            simp only [beq_eq_false_iff_ne] at this
            simp; omega
          have HE := Lib.hid (show (O.take (u + 1)).flatMap F = (O.take u).flatMap F by rw [Htf.out, HFt.out, if_neg (by simp [stB, hnc]), List.append_nil])
          clear Htf HFt
          go_wp2
          go_roundw
          case rel => exact ⟨u + 1, ys, by omega, by go_num, by rw [HE.out]; exact hJ _ _ _ hj hgW, hm.trans (midx_below hbW), hoW, hys⟩
          case measure => simp [intOf]; omega
        · have hZ0 : ((Z : Int) != 0) = false := by
            have := Hcf.out
            rw [hnc] at this
            simp only [beq_iff_eq] at this
            simp; omega
          obtain ⟨hold, hfr⟩ := hoW.cell (show p < n by have := Hh.out.2.2; omega)
          obtain ⟨W2, hW2⟩ : ∃ W2, W.setCell ⟨G, p, none⟩ (.int .i64 t) = W2 := ⟨_, rfl⟩
          have hg2 : W.grownBy W2 (some G) := by rw [← hW2]; exact grown_set
          have ho2 : Ow W2 lo (some ⟨G, 0, none⟩) n n (ys.set p t) := by rw [← hW2]; exact Ow.put hoW p t
          have hs2 : W2.heap.size = W.heap.size := by rw [← hW2]; simp [World.setCell]
          have hgw2 : wr.grownBy W2 (some G) := grown_tr2 hgW hg2
          have hx2 := hxW.midx (midx_grown (lo := M) hg2) hMX hXG
          have v0 := (hg2.cell_far ⟨wr.heap.size, 0, none⟩ (cell_lt y0) (fun e => by injection e with e; dsimp only at e; omega)).trans y0
          have v1 := (hg2.cell_far ⟨wr.heap.size, 1, none⟩ (cell_lt y1) (fun e => by injection e with e; dsimp only at e; omega)).trans y1
          have hj2 := hJ _ _ _ hj hgw2
          have hm2 := hm.trans (midx_grown (lo := M) hgw2)
          obtain ⟨r1, r2⟩ := HR.out
          have r1 := hm2.cell r1 m3 m7
          have r2 := r2.midx hm2 m4 m5
          have hput : ∀ i, i < p + 1 → nth (ys.set p (t : Int)) i = nth (vs ++ [(t : Int)]) i := fun i hi => by
            rw [nth_push Hl.out]
            by_cases e : i = p
            · subst e; rw [nth_set_same (by rw [ho.len]; have := Hh.out.2.2; omega), if_neg (by omega), if_pos rfl]
            · rw [nth_set_ne (fun e' => e e'.symm), if_pos (by omega)]; exact hys i (by omega)
          have hvs1 : ∀ i, i < p + 1 → 1 ≤ nth (vs ++ [(t : Int)]) i ∧ nth (vs ++ [(t : Int)]) i ≤ (s : Int) := fun i hi => by
            rw [nth_push Hl.out]
            by_cases e : i < p
            · rw [if_pos e]; exact Hvs.out i e
            · rw [if_neg e, if_pos (by omega)]; omega
          have hcells := fun i hi => at_ok (p := p) Hr.out (i := i) hi
          have hq : holdsQ (ys.set p (t : Int)) (rulesAt rs p) = rlOk rs (vs ++ [(t : Int)]) p := by
            rw [← holdsQ_is]
            exact holdsQ_congr (p := p) (fun i hi => hput i (by omega)) (fun i hi j hj => ((hcells i hi).2 j hj).2)
          have hRH := rulesHold_any W0 B0 G OB RB n L p s A' cap' (rulesAt rs p) (ys.set p (t : Int)) W2 r1 r2 (hJ0 _ _ hj2) hB0 (by have := Hh.out.2.2; omega) ho2.rd (HQL.out) (fun i hi => (hcells i hi).1) (fun i hi j hj => by
              have := (hcells i hi).2 j hj
              have := Hh.out.2.2
              omega) (fun i hi j hj => by
              have := (hcells i hi).2 j hj
              rw [pks_nth hj, hput _ (by omega)]
              have := hvs1 _ (show (nth (rat (rulesAt rs p) i).xs j).toNat < p + 1 by omega)
              have h4 := Hh.out.2.1
              simp at h4
              omega)
          rw [hq] at hRH
          unfold sVal at hRH
          obtain ⟨bb, hbb⟩ : ∃ bb, bb = rlOk rs (vs ++ [(t : Int)]) p := ⟨_, rfl⟩
          rw [← hbb] at hRH
          have HRH := Lib.hid hRH
          have Hbb := Lib.hid hbb
          have HK := Lib.hid (fun (w3 : World) (hb3 : Below W2.heap.size W2 w3) => (⟨hx2.below hx2.lt hb3, (hb3.cell (p := ⟨wr.heap.size, 1, none⟩) (cell_lt v1)).trans v1, ho2.below hb3, grown_tr2 hgw2 (grown_of_below hb3)⟩ : SBox w3 X.heap.size G OB RB n ∧ w3.cell? ⟨wr.heap.size, 1, none⟩ = some (.int .u64 it) ∧ Ow w3 lo (some ⟨G, 0, none⟩) n n (ys.set p (t : Int)) ∧ wr.grownBy w3 (some G)))
          obtain ⟨f0, f1, f2⟩ := id hx2
          have hput' := Lib.hid hput
          have hvs1' := Lib.hid hvs1
          have Hj := Lib.hid hj
          have Hm := Lib.hid hm
          have Hyl := Lib.hid ho.len
          have Hback : Hid (∀ zs : List Int, (∀ i, i < p + 1 → nth zs i = nth (vs ++ [(t : Int)]) i) → ∀ i, i < p → nth zs i = nth vs i) := Lib.hid (fun zs h i hi => by rw [h i (by omega), nth_push Hl.out, if_pos hi])
          clear hbb hq hcells r1 r2 hj2 hm2 hx2 hgw2 ho2 hg2 v1 hRH hput hvs1 hj hxw hxW hoW hgW hm
          cases bb
          · have HE := Lib.hid (show (O.take (u + 1)).flatMap F = (O.take u).flatMap F by rw [Htf.out, HFt.out, if_neg (by simp [stB, ← Hbb.out]), List.append_nil])
            clear Htf HFt
            go_wp2_with (go_at_call 51; refine HRH.out.mono ?_; rintro e w3 ⟨rfl, hb3⟩; obtain ⟨hx3, q1, ho3, hg3⟩ := HK.out w3 hb3)
            go_roundw
            case rel => exact ⟨u + 1, _, by omega, by go_num, by rw [HE.out]; exact hJ _ _ _ Hj.out hg3, Hm.out.trans (midx_grown hg3), ho3, Hback.out _ hput'.out⟩
            case measure => simp [intOf]; omega
          · have hst : stB s rs (vs ++ [(t : Int)]) p = true := by simp [stB, hnc, ← Hbb.out]
            have HE := Lib.hid (show (O.take (u + 1)).flatMap F = (O.take u).flatMap F ++ cv s gi rs f (vs ++ [(t : Int)]) by rw [Htf.out, HFt.out, if_pos hst])
            have Hmem := Lib.hid (show ∃ zs, T = (pre ++ (O.take u).flatMap F) ++ (cv s gi rs f (vs ++ [(t : Int)]) ++ zs) from by
              obtain ⟨zs, e⟩ := Hin.out
              refine ⟨(O.drop (u + 1)).flatMap F ++ zs, ?_⟩
              have h1 : O.flatMap F = (O.take (u + 1)).flatMap F ++ (O.drop (u + 1)).flatMap F := by rw [← List.flatMap_append, List.take_append_drop]
              rw [e, h1, HE.out]
              simp only [List.append_assoc])
            have Hnc1 := Lib.hid (show ∀ q, q < p + 1 → noConf s ((vs ++ [(t : Int)]).take (q + 1)) q = true from fun q hq => by
              by_cases e : q < p
              · rw [List.take_append_of_le_length (by have := Hl.out; omega)]; exact Hnc.out q e
              · obtain rfl : q = p := by omega
                rw [List.take_of_length_le (by rw [List.length_append, Hl.out]; simp)]; exact hnc)
            have HI := Lib.hid (fun (w3 : World) (hb3 : Below W2.heap.size W2 w3) => by
              obtain ⟨hx3, q1, ho3, hg3⟩ := HK.out w3 hb3
              have := ih (p + 1) (vs ++ [(t : Int)]) (ys.set p (t : Int)) (pre ++ (O.take u).flatMap F) w3 (by have := Hp.out; omega) (by rw [List.length_append, Hl.out]; rfl) (hJ _ _ _ Hj.out hg3) (by have := hg3.size; omega) (HSR1.out.midx (Hm.out.trans (midx_grown hg3)) ⟨m2, m6⟩ ⟨m3, m7⟩ m4 m5) ho3 hput'.out hvs1'.out Hnc1.out Hmem.out
              rw [Hlf.out] at this
              unfold sVal at this
              exact this)
            clear Htf HFt ih hcb
            go_wp2_with (first
              | (go_at_call 51; refine HRH.out.mono ?_; rintro e w3 ⟨rfl, hb3⟩; obtain ⟨hx3, q1, ho3, hg3⟩ := HK.out w3 hb3; obtain ⟨g0, g1, g2⟩ := id hx3)
              | (go_at_call 37; refine (HI.out w3 hb3).mono ?_; rintro e w4 hpost; obtain ⟨bb, rfl, hT2, hF2⟩ : ∃ bb : Bool, e = .returned (.bool bb) ∧ (bb = true → J ((pre ++ (O.take u).flatMap F) ++ cv s gi rs f (vs ++ [(t : Int)])) w4 ∧ MidX M G w3 w4 ∧ ∃ zs, Ow w4 lo (some ⟨G, 0, none⟩) n n zs ∧ ∀ i, i < (vs ++ [(t : Int)]).length → nth zs i = nth (vs ++ [(t : Int)]) i) ∧ (bb = false → Jx w4) := covSplit hpost))
            · rename_i hbb
              obtain rfl : bb = false := by simpa using hbb
              go_ret
              exact .inr ⟨rfl, hF2 rfl⟩
            · rename_i hbb
              obtain rfl : bb = true := by simpa using hbb
              obtain ⟨hj4, hm4, zs, ho4, hz4⟩ := hT2 rfl
              rw [List.append_assoc, ← HE.out] at hj4
              exact ⟨⟨u + 1, zs, by have := Hlt.out; omega, by go_num, hj4, (Hm.out.trans (midx_grown hg3)).trans hm4, ho4, Hback.out zs (fun i hi => hz4 i (by rw [List.length_append, Hl.out]; exact hi))⟩, by have := Hlt.out; simp [intOf]; omega⟩
      · obtain rfl : u = l0 := by omega
        have HE := Lib.hid (show (O.take u).flatMap F = O.flatMap F by rw [Hl0.out, List.take_length])
        obtain ⟨z0, z1, z2⟩ := id hxw
        go_wp2
        go_ret
        exact .inl ⟨rfl, by rw [← HE.out]; exact hj, Hm0.out.trans hm, ys, ho, fun i hi => hys i (by have := Hl.out; omega)⟩
end Go.Proofs.YtlnmioijgclndaaDoor
set_option maxRecDepth 8000
namespace Go.Proofs.YtlnmioijgclndaaDoor
open Go.ChangeShapes Go.WideShapes Go.ChangeAt Go.RowKit
/-- As SeqC, and a round knows what is to come: what an iterator over slices of ints promises: the rounds get 'ways', in order, until one says no. -/
def SeqP (P : Program) (gf : Nat) (lb : Array Value) (Base : World → Prop) (ways : List (List Int)) : Prop :=
  ∀ (l : Nat) (J : List (List Int) → World → Prop) (Jx : World → Prop) (W : World),
    (∀ pre X, J pre X → Base X) →
    (∀ pre X Y, J pre X → Below W.heap.size X Y → J pre Y) →
    (∀ pre x X b n c, J pre X → (∃ zs, ways = pre ++ x :: zs) → W.heap.size ≤ b → Rd X X.heap.size (some ⟨b, 0, none⟩) n x →
      YieldAt Fence.wide 0 P l #[.slice (some ⟨b, 0, none⟩) n c] X fun e Y => Mid W.heap.size X Y ∧ ((e = .returned (.bool true) ∧ J (pre ++ [x]) Y) ∨ (e = .returned (.bool false) ∧ Jx Y))) →
    J [] W →
    Calls P gf (#[.func (.yield l) #[] #[]] ++ lb) W fun e Y => (∃ v, e = .returned v) ∧ (J ways Y ∨ Jx Y)

theorem range_ownP {P : Program} (m : Nat) {g : Operand} {ps : Array Tmp} {assign body : Code} {Q : Exit → Act → World → Prop} {a : Act} {w : World}
    {gf : Nat} {lb : Array Value} (hg : a.eval g = .func (.func gf) #[] lb) (eg : ∀ args w, (callFunc gf args).run P w = .ok (.enter gf args) w) (hps : ps.size = 1)
    {Base : World → Prop} {ways : List (List Int)} (hseq : SeqP P gf lb Base ways)
    (I : List (List Int) → World → Prop) (Ix : Code → World → Prop) (hIb : ∀ pre X, I pre X → Base X)
    (hI : ∀ pre X Y, I pre X → Below w.heap.size X Y → I pre Y) (hIx : ∀ c X o, Ix c X → w.heap.size + 1 < X.heap.size → Ix c (X.putObj (w.heap.size + 1) o)) (h0 : I [] w) (a₁ : Value → Act)
    (hassign : ∀ (l : Nat) (v : Value) (W : World) (K : Act → World → Prop), K (a₁ v) W →
      assign.wpIn (Fence.wide.inRound l) m P (Exit.then K (fun _ _ _ => False)) { tmps := (ps.zip #[v]).foldl (fun t (p, v) => t.setIfInBounds p v) a.tmps, defers := [] } W)
    (hbody : ∀ (l : Nat) (pre : List (List Int)) (x : List Int) (X : World) (b n c : Nat), I pre X → (∃ zs, ways = pre ++ x :: zs) → w.heap.size ≤ b → w.heap.size + 1 < X.heap.size → Rd X X.heap.size (some ⟨b, 0, none⟩) n x →
      body.wpIn (Fence.wide.inRound l) m P (midPost w.heap.size I Ix (pre ++ [x]) X) (a₁ (.slice (some ⟨b, 0, none⟩) n c)) X)
    (hdone : ∀ (D : Nat) (W : World), w.heap.size ≤ D → I ways W → W.heap[D]? = some (.deferred (some [])) → Q .normal { a with defers := { target := .collected D, args := #[] } :: a.defers } W)
    (hstop : ∀ (D : Nat) (c : Code) (W : World), w.heap.size ≤ D → Ix c W → W.heap[D]? = some (.deferred (some [])) → c.wpIn Fence.wide m P Q { a with defers := { target := .collected D, args := #[] } :: a.defers } W) :
    (Code.rangeFunc g ps assign body).wpIn Fence.wide m P Q a w := by
  refine wpIn_rangeFunc ?_
  intro fn _
  obtain ⟨rec, hrec⟩ : ∃ rec : LoopState → Option Code → Loop, rec = fun st pe => { state := st, pending := pe, fn, tmps := a.tmps, params := ps, assign, body, defers := w.heap.size } := ⟨_, rfl⟩
  obtain ⟨W1, hW1⟩ : ∃ W1, (w.alloc (.deferred (some []))).alloc (.loop (rec .ready none)) = W1 := ⟨_, rfl⟩
  have hs1 : W1.heap.size = w.heap.size + 2 := by rw [← hW1]; simp
  have hL1 : W1.heap[w.heap.size + 1]? = some (.loop (rec .ready none)) := by
    rw [← hW1]; have := World.alloc_heap_new (w.alloc (.deferred (some []))) (.loop (rec .ready none)); rwa [World.size_alloc] at this
  have hK1 : W1.heap[w.heap.size]? = some (.deferred (some [])) := by
    rw [← hW1]; exact (Below.heap_alloc _ _ _ (by simp)).trans (World.alloc_heap_new w _)
  have hb1 : Below w.heap.size w W1 := by
    rw [← hW1]; exact ((Below.refl _ w).alloc (Nat.le_refl _) _).alloc (by simp) _
  refine ⟨w.heap.size + 1, [{ target := .collected w.heap.size, args := #[] }], W1, { target := .fn (.func gf) lb, args := #[.func (.yield (w.heap.size + 1)) #[] #[]] }, W1, gf,
    #[.func (.yield (w.heap.size + 1)) #[] #[]] ++ lb, W1, ?_, ?_, ?_, ?_, fun h => by simp [Fence.wide] at h, ?_⟩
  · rw [← hW1, hrec]; exact run_enterLoop_outer _ _ _ _ _
  · simp only [resolve, hg]
    simp [go_sem]
  · intro f' _; trivial
  · simp [invoke, go_sem, eg]
  · refine callsIn_wide.2 ((hseq (w.heap.size + 1)
      (fun pre W => I pre W ∧ W.heap[w.heap.size + 1]? = some (.loop (rec .ready none)) ∧ W.heap[w.heap.size]? = some (.deferred (some [])))
      (fun W => ∃ c, Ix c W ∧ W.heap[w.heap.size + 1]? = some (.loop (rec .done (some c))) ∧ W.heap[w.heap.size]? = some (.deferred (some [])))
      W1 (fun pre X h => hIb pre X h.1)
      (fun pre X Y hs hb => ⟨hI pre X Y hs.1 (hb.mono (by omega)), (hb.block _ (by omega)).trans hs.2.1, (hb.block _ (by omega)).trans hs.2.2⟩)
      ?_ ⟨hI [] w W1 h0 hb1, hL1, hK1⟩).mono ?_)
    · rintro pre x X b n c ⟨hi, hl, hk⟩ hx hbw hrd
      have hlt : w.heap.size + 1 < X.heap.size := (Array.getElem?_eq_some_iff.1 hl).1
      have hy := run_yield (P := P) (args := #[.slice (some ⟨b, 0, none⟩) n c]) hl (by rw [hrec]; simp [hps])
      rw [hrec] at hy
      refine ⟨fn, _, assign, body, hy, roundIn_any (m := m) (roundIn_of_wpIn trivial (hassign _ (.slice (some ⟨b, 0, none⟩) n c) X _ ⟨_, run_beginRound hl (by rw [hrec]), ?_⟩))⟩
      obtain ⟨X2, hX2⟩ : ∃ X2, X.putObj (w.heap.size + 1) (.loop { rec .ready none with state := .busy }) = X2 := ⟨_, rfl⟩
      have hl2 : X2.heap[w.heap.size + 1]? = some (.loop { rec .ready none with state := .busy }) := by rw [← hX2]; exact World.putObj_heap_same hlt
      have hk2 : X2.heap[w.heap.size]? = some (.deferred (some [])) := by rw [← hX2]; exact (World.putObj_heap_other (by omega)).trans hk
      have hbX : Below w.heap.size X X2 := by rw [← hX2]; exact below_put _ (by omega) hl
      have hm2 : Mid W1.heap.size X X2 := ⟨by rw [← hX2]; simp, fun k hk' _ => by rw [← hX2]; exact World.putObj_heap_other (by omega)⟩
      have hrd2 : Rd X2 X2.heap.size (some ⟨b, 0, none⟩) n x := rd_block hrd (by rw [← hX2]; exact World.putObj_heap_other (by omega)) hm2.size
      rw [hX2]
      refine wpIn_mono (hbody _ pre x X2 b n c (hI _ _ _ hi hbX) hx (by omega) (by rw [← hX2]; simpa using hlt) hrd2) ?_
      have fin : ∀ (jump : Option Code) (W3 : World), Mid w.heap.size X2 W3 →
          (Instr.endRound (w.heap.size + 1) jump).run P W3 = .ok (.bool jump.isNone) (W3.putObj (w.heap.size + 1) (.loop (rec (if jump.isNone then .ready else .done) jump))) ∧
          Below w.heap.size W3 (W3.putObj (w.heap.size + 1) (.loop (rec (if jump.isNone then .ready else .done) jump))) ∧
          Mid W1.heap.size X (W3.putObj (w.heap.size + 1) (.loop (rec (if jump.isNone then .ready else .done) jump))) ∧
          (W3.putObj (w.heap.size + 1) (.loop (rec (if jump.isNone then .ready else .done) jump))).heap[w.heap.size + 1]? = some (.loop (rec (if jump.isNone then .ready else .done) jump)) ∧
          (W3.putObj (w.heap.size + 1) (.loop (rec (if jump.isNone then .ready else .done) jump))).heap[w.heap.size]? = some (.deferred (some [])) := fun jump W3 hk3 => by
        have hl3 := (hk3.same (w.heap.size + 1) (by omega) (Array.getElem?_eq_some_iff.1 hl2).1).trans hl2
        have hlt3 := (Array.getElem?_eq_some_iff.1 hl3).1
        have := run_endRound (P := P) jump hl3
        rw [hrec] at this ⊢
        exact ⟨this, below_put _ (by omega) hl3, (hm2.trans (hk3.mono (by omega))).trans ⟨by simp, fun k hk' _ => World.putObj_heap_other (by omega)⟩, World.putObj_heap_same hlt3, (World.putObj_heap_other (by omega)).trans ((hk3.same _ (Nat.le_refl _) (Array.getElem?_eq_some_iff.1 hk2).1).trans hk2)⟩
      rintro e a3 W3 hp
      cases e with
      | normal =>
        obtain ⟨hk3, hi3⟩ := hp
        obtain ⟨hr, hb4, hm4, hl4, hk4⟩ := fin none W3 hk3
        exact ⟨_, _, hr, hm4, .inl ⟨rfl, hI _ _ _ hi3 hb4, hl4, hk4⟩⟩
      | ret =>
        obtain ⟨hk3, hi3⟩ := hp
        obtain ⟨hr, hb4, hm4, hl4, hk4⟩ := fin (some .ret) W3 hk3
        exact ⟨_, _, hr, hm4, .inr ⟨rfl, .ret, hIx _ _ _ hi3 (by have := (Array.getElem?_eq_some_iff.1 hl4).1; simpa using this), hl4, hk4⟩⟩
      | exit id =>
        obtain ⟨hk3, hi3⟩ := hp
        obtain ⟨hr, hb4, hm4, hl4, hk4⟩ := fin (some (.exit id)) W3 hk3
        exact ⟨_, _, hr, hm4, .inr ⟨rfl, .exit id, hIx _ _ _ hi3 (by have := (Array.getElem?_eq_some_iff.1 hl4).1; simpa using this), hl4, hk4⟩⟩
      | goto t =>
        obtain ⟨hk3, hi3⟩ := hp
        obtain ⟨hr, hb4, hm4, hl4, hk4⟩ := fin (some (.goto t)) W3 hk3
        exact ⟨_, _, hr, hm4, .inr ⟨rfl, .goto t, hIx _ _ _ hi3 (by have := (Array.getElem?_eq_some_iff.1 hl4).1; simpa using this), hl4, hk4⟩⟩
      | panic ch => exact hp.elim
      | outgrown => exact hp.elim
    · rintro e W2 ⟨⟨v, rfl⟩, (⟨hi, hl, hk⟩ | ⟨c, hi, hl, hk⟩)⟩
      · exact ⟨none, _, by have := run_endLoop (P := P) hl (by rw [hrec]; simp); rw [hrec] at this; exact this, hdone _ _ (Nat.le_refl _) (hI _ _ _ hi (below_put _ (by omega) hl)) ((World.putObj_heap_other (by omega)).trans hk)⟩
      · exact ⟨some c, _, by have := run_endLoop (P := P) hl (by rw [hrec]; simp); rw [hrec] at this; exact this, hstop _ c _ (Nat.le_refl _) (hIx _ _ _ hi (Array.getElem?_eq_some_iff.1 hl).1) ((World.putObj_heap_other (by omega)).trans hk)⟩
/-- range_ownP where the statement's assignment is empty: the slot of what came has it. -/
theorem range_skipP {P : Program} (m : Nat) {g : Operand} {p : Nat} {body : Code} {Q : Exit → Act → World → Prop} {a : Act} {w : World}
    {gf : Nat} {lb : Array Value} (hg : a.eval g = .func (.func gf) #[] lb) (eg : ∀ args w, (callFunc gf args).run P w = .ok (.enter gf args) w)
    {Base : World → Prop} {ways : List (List Int)} (hseq : SeqP P gf lb Base ways)
    (I : List (List Int) → World → Prop) (Ix : Code → World → Prop) (hIb : ∀ pre X, I pre X → Base X)
    (hI : ∀ pre X Y, I pre X → Below w.heap.size X Y → I pre Y) (hIx : ∀ c X o, Ix c X → w.heap.size + 1 < X.heap.size → Ix c (X.putObj (w.heap.size + 1) o)) (h0 : I [] w)
    (hbody : ∀ (l : Nat) (pre : List (List Int)) (x : List Int) (X : World) (b n c : Nat), I pre X → (∃ zs, ways = pre ++ x :: zs) → w.heap.size ≤ b → w.heap.size + 1 < X.heap.size → Rd X X.heap.size (some ⟨b, 0, none⟩) n x →
      body.wpIn (Fence.wide.inRound l) m P (midPost w.heap.size I Ix (pre ++ [x]) X) { tmps := a.tmps.setIfInBounds p (.slice (some ⟨b, 0, none⟩) n c), defers := [] } X)
    (hdone : ∀ (D : Nat) (W : World), w.heap.size ≤ D → I ways W → W.heap[D]? = some (.deferred (some [])) → Q .normal { a with defers := { target := .collected D, args := #[] } :: a.defers } W)
    (hstop : ∀ (D : Nat) (c : Code) (W : World), w.heap.size ≤ D → Ix c W → W.heap[D]? = some (.deferred (some [])) → c.wpIn Fence.wide m P Q { a with defers := { target := .collected D, args := #[] } :: a.defers } W) :
    (Code.rangeFunc g #[p] .skip body).wpIn Fence.wide m P Q a w :=
  range_ownP m hg eg rfl hseq I Ix hIb hI hIx h0 (fun v => { tmps := a.tmps.setIfInBounds p v, defers := [] }) (fun l v W K hK => by
    refine wpIn_skip ?_
    simpa [Exit.then] using hK) hbody hdone hstop
/-- range_ownP where the statement's assignment copies what came from slot p into slot q. -/
theorem range_twoP {P : Program} (m : Nat) {g : Operand} {p q : Nat} {assign body : Code} {Q : Exit → Act → World → Prop} {a : Act} {w : World}
    {gf : Nat} {lb : Array Value} (hg : a.eval g = .func (.func gf) #[] lb) (eg : ∀ args w, (callFunc gf args).run P w = .ok (.enter gf args) w)
    {Base : World → Prop} {ways : List (List Int)} (hseq : SeqP P gf lb Base ways)
    (I : List (List Int) → World → Prop) (Ix : Code → World → Prop) (hIb : ∀ pre X, I pre X → Base X)
    (hI : ∀ pre X Y, I pre X → Below w.heap.size X Y → I pre Y) (hIx : ∀ c X o, Ix c X → w.heap.size + 1 < X.heap.size → Ix c (X.putObj (w.heap.size + 1) o)) (h0 : I [] w)
    (hassign : ∀ (l : Nat) (v : Value) (W : World) (K : Act → World → Prop), K { tmps := (a.tmps.setIfInBounds p v).setIfInBounds q v, defers := [] } W →
      assign.wpIn (Fence.wide.inRound l) m P (Exit.then K (fun _ _ _ => False)) { tmps := a.tmps.setIfInBounds p v, defers := [] } W)
    (hbody : ∀ (l : Nat) (pre : List (List Int)) (x : List Int) (X : World) (b n c : Nat), I pre X → (∃ zs, ways = pre ++ x :: zs) → w.heap.size ≤ b → w.heap.size + 1 < X.heap.size → Rd X X.heap.size (some ⟨b, 0, none⟩) n x →
      body.wpIn (Fence.wide.inRound l) m P (midPost w.heap.size I Ix (pre ++ [x]) X) { tmps := (a.tmps.setIfInBounds p (.slice (some ⟨b, 0, none⟩) n c)).setIfInBounds q (.slice (some ⟨b, 0, none⟩) n c), defers := [] } X)
    (hdone : ∀ (D : Nat) (W : World), w.heap.size ≤ D → I ways W → W.heap[D]? = some (.deferred (some [])) → Q .normal { a with defers := { target := .collected D, args := #[] } :: a.defers } W)
    (hstop : ∀ (D : Nat) (c : Code) (W : World), w.heap.size ≤ D → Ix c W → W.heap[D]? = some (.deferred (some [])) → c.wpIn Fence.wide m P Q { a with defers := { target := .collected D, args := #[] } :: a.defers } W) :
    (Code.rangeFunc g #[p] assign body).wpIn Fence.wide m P Q a w :=
  range_ownP m hg eg rfl hseq I Ix hIb hI hIx h0 (fun v => { tmps := (a.tmps.setIfInBounds p v).setIfInBounds q v, defers := [] }) (fun l v W K hK => by
    simpa using hassign l v W K hK) hbody hdone hstop
end Go.Proofs.YtlnmioijgclndaaDoor
set_option maxRecDepth 8000
namespace Go.Proofs.YtlnmioijgclndaaDoor
open Go.ChangeShapes Go.WideShapes Go.ChangeAt Go.RowKit
/-- what the iterator over solutions reads: the puzzle, as it lay in W0. -/
def SBase (W0 : World) (B0 PB s : Nat) (Ag : Option Addr) (n cg : Nat) (Ar : Option Addr) (nr cr : Nat) (X : World) : Prop := Below B0 W0 X ∧ PBox X PB s Ag n cg Ar nr cr
theorem cov_seq {W0 : World} {B0 s n l : Nat} {gi : List Int} {rs : List RuleM} {J : List (List Int) → World → Prop} {Jx : World → Prop} {W : World} (hB0 : B0 ≤ W0.heap.size) (hs : s ∈ [2, 3, 4]) (hn : n = s * s) (hv : pvB s gi rs = true) (hT : ∀ X, Below B0 W0 X → Tz X)
    (hok : ∀ i, i < n → 0 ≤ nth gi i ∧ nth gi i ≤ (s : Int)) (hJ0 : ∀ pre X, J pre X → Below B0 W0 X)
    (hJs : ∀ pre X Y, J pre X → Below W.heap.size X Y → J pre Y)
    (hY : ∀ pre x X b n c, J pre X → (∃ zs, cv s gi rs (s * s) [] = pre ++ x :: zs) → W.heap.size ≤ b → Rd X X.heap.size (some ⟨b, 0, none⟩) n x →
      YieldAt Fence.wide 0 Tryd.prog l #[.slice (some ⟨b, 0, none⟩) n c] X fun e Y => Mid W.heap.size X Y ∧ ((e = .returned (.bool true) ∧ J (pre ++ [x]) Y) ∨ (e = .returned (.bool false) ∧ Jx Y)))
    (h0 : J [] W) (G OB RB L : Nat) (X : World) (hM : W.heap.size ≤ G ∧ W.heap.size ≤ OB ∧ W.heap.size ≤ RB ∧ W.heap.size ≤ L ∧ G < L ∧ OB ≠ G ∧ RB ≠ G ∧ OB < L ∧ RB < L) (hLX : L ≤ X.heap.size) (hSR : SR W0 B0 s gi rs OB RB L X) (ho : Ow X W.heap.size (some ⟨G, 0, none⟩) n n (zeros n)) (hb : Below W.heap.size W X) :
      Calls Tryd.prog 37 #[sVal G OB RB n, .int .u64 (lf s [] 0 : Nat), .func (.yield l) #[] #[]] X fun e Y => (∃ v, e = .returned v) ∧ (J (cv s gi rs (s * s) []) Y ∨ Jx Y) := by
  subst hn
  refine Calls.mono (cover_any (T := cv s gi rs (s * s) []) (l := l) (W0 := W0) (B0 := B0) (G := G) (OB := OB) (RB := RB) (L := L) (M := W.heap.size) (lo := W.heap.size) (s := s) (n := s * s) (gi := gi) (rs := rs) (J := fun pre X => J pre X ∧ W.heap.size ≤ X.heap.size) (Jx := Jx) hv hs rfl hok hB0 hT ⟨hM.1, hM.2.1, hM.2.2.1, hM.2.2.2.1, hM.2.2.2.2.1, hM.2.2.2.2.2.1, hM.2.2.2.2.2.2.1, hM.2.2.2.2.2.2.2.1, hM.2.2.2.2.2.2.2.2, hM.1⟩ (fun pre X h => hJ0 _ _ h.1) (fun pre X Y h hg => ⟨hJs _ _ _ h.1 (Below.of_grown hg h.2 hM.1), Nat.le_trans h.2 hg.size⟩) ?cb (s * s) 0 [] (zeros (s * s)) [] X (Nat.zero_add _) rfl ⟨hJs _ _ _ h0 hb, hb.size⟩ hLX hSR ho (fun i hi => absurd hi (Nat.not_lt_zero i)) (fun i hi => absurd hi (Nat.not_lt_zero i)) (fun q hq => absurd hq (Nat.not_lt_zero q)) ⟨[], by simp⟩) ?fin
  case cb =>
    intro pre ys X hm h ho
    have hGX : G < X.heap.size := by
      obtain ⟨g, e, _, hg⟩ := ho.form (by simp at hs; rcases hs with rfl | rfl | rfl <;> omega)
      cases e; exact hg
    obtain ⟨fn, tmps, assign, body, hyy, hR⟩ := hY _ ys X G (s * s) (s * s) h.1 hm hM.1 (ho.rd)
    refine ⟨fn, tmps, assign, body, hyy, hR.mono ?_⟩
    rintro e Y ⟨hm2, (⟨rfl, hj⟩ | ⟨rfl, hx⟩)⟩
    · exact ⟨true, rfl, .inl ⟨rfl, ⟨hj, Nat.le_trans h.2 hm2.size⟩, hm2.x, ho.same (hm2.same G hM.1 hGX)⟩⟩
    · exact ⟨false, rfl, .inr ⟨rfl, hx⟩⟩
  case fin =>
    rintro e Y (⟨rfl, hj, _⟩ | ⟨rfl, hx⟩)
    · exact ⟨⟨_, rfl⟩, .inl (by simpa using hj.1)⟩
    · exact ⟨⟨_, rfl⟩, .inr hx⟩
end Go.Proofs.YtlnmioijgclndaaDoor
set_option maxRecDepth 8000
namespace Go.Proofs.YtlnmioijgclndaaDoor
open Go.ChangeShapes Go.WideShapes Go.ChangeAt Go.RowKit
set_option maxHeartbeats 1000000 in
theorem sols_seq (W0 : World) (B0 PB s n : Nat) (Ag : Option Addr) (cg : Nat) (gi : List Int) (Ar : Option Addr) (nr cr : Nat) (rs : List RuleM) (hB0 : B0 ≤ W0.heap.size) (hs : s ∈ [2, 3, 4]) (hn : n = s * s) (hg : Rd W0 B0 Ag n gi) (hr : RdRc W0 B0 Ar nr rs) (hmr : nr ≤ 20) (hv : pvB s gi rs = true) (hT : ∀ X, Below B0 W0 X → Tz X) :
    SeqP Tryd.prog 35 #[.pointer (some ⟨PB, 0, none⟩)] (SBase W0 B0 PB s Ag n cg Ar nr cr) (cv s gi rs (s * s) []) := by
  intro l J Jx W hJb hJs hY h0
  obtain ⟨w0, w1⟩ := hJb _ _ h0
  have hPB : PB < W.heap.size := cell_lt w1.1
  have hok : ∀ i, i < n → 0 ≤ nth gi i ∧ nth gi i ≤ (s : Int) := fun i hi => gv_nth (pv_gv hv).1 (by rw [hg.1]; exact hi)
  have HSe := Lib.hid (search_any W0 B0 s n Ag cg gi Ar nr cr rs W w0 hB0 hs hn hg hr hmr hv)
  have HAl := Lib.hid (fun w' => allItems_any s w' hs)
  have HC := Lib.hid (cov_seq hB0 hs hn hv hT hok (fun pre X h => (hJb _ _ h).1) hJs hY h0)
  have hlf : lf s [] 0 = 2 ^ (3 * s * s) - 1 := rfl
  obtain ⟨AL, hAL⟩ : ∃ AL, AL = 2 ^ (3 * s * s) - 1 := ⟨_, rfl⟩
  rw [hlf, ← hAL] at HC
  rw [← hAL] at HAl
  obtain ⟨CV, hCV⟩ : ∃ CV, CV = cv s gi rs (s * s) [] := ⟨_, rfl⟩
  rw [← hCV] at HC ⊢
  show Calls Tryd.prog 35 #[.func (.yield l) #[] #[], .pointer (some ⟨PB, 0, none⟩)] W _
  have HPB := Lib.hid (fun X (hb : Below W.heap.size W X) => w1.below hPB hb)
  obtain ⟨b0, b1, b2⟩ := id w1
  clear hJb hJs hY h0 w0 hAL hCV hlf hok hg hr hv hT w1 hn
  go_enter Tryd.func35, Tryd.ntmps35
  go_wp2_with (go_at_call 36; refine HSe.out.mono ?_; rintro e X1 ⟨G, OB, RB, L, rfl, hrest⟩; have HRest := Lib.hid hrest; clear hrest; unfold sVal)
  obtain ⟨hM, hLX, hSR, ho, hb1⟩ := HRest.out
  have hbd : Below X1.heap.size X1 (X1.alloc (.cells #[.slice (some ⟨G, 0, none⟩) n n, .slice (some ⟨OB, 0, none⟩) n n, .slice (some ⟨RB, 0, none⟩) n n] 65)) := (Below.refl _ _).alloc (Nat.le_refl _) _
  have HCX := Lib.hid (fun X' (hb' : Below X1.heap.size X1 X') => HC.out G OB RB L X' hM (Nat.le_trans hLX hb'.size) (hSR.midx (midx_below (lo := W.heap.size) (G := G) hb') ⟨hM.2.1, hM.2.2.2.2.2.1⟩ ⟨hM.2.2.1, hM.2.2.2.2.2.2.1⟩ hM.2.2.2.1 hM.2.2.2.2.1) (ho.below hb') (hb1.trans (hb'.mono hb1.size)))
  unfold sVal at HCX
  obtain ⟨c0, c1, c2⟩ := sbox_new X1 G OB RB n 65
  obtain ⟨p0, p1, p2⟩ := HPB.out _ (hb1.trans (hbd.mono hb1.size))
  clear hSR ho hM hLX HC HSe
  clear hb1
  go_wp2
  go_region_with (first
    | (go_at_call 38; refine (HAl.out _).mono ?_; rintro e wq ⟨rfl, rfl⟩)
    | (go_at_call 37; refine (HCX.out _ (by first | exact hbd | exact hbd.drew)).mono ?_; rintro e Y ⟨⟨v, rfl⟩, hYY⟩))
  all_goals
    go_end0
    exact ⟨⟨_, rfl⟩, hYY⟩
theorem solutions_any (s n : Nat) (Ag : Option Addr) (cg : Nat) (Ar : Option Addr) (nr cr : Nat) (w : World) :
    Calls Tryd.prog 30 #[.agg #[.int .i64 s, .slice Ag n cg, .slice Ar nr cr]] w fun e w' => ∃ PB, e = .returned (.func (.func 35) #[] #[.pointer (some ⟨PB, 0, none⟩)]) ∧ w.heap.size ≤ PB ∧ PBox w' PB s Ag n cg Ar nr cr ∧ Below w.heap.size w w' := by
  have hx0 := pbox_new w s Ag n cg Ar nr cr 32
  have hb0 : Below w.heap.size w (w.alloc (.cells #[.int .i64 s, .slice Ag n cg, .slice Ar nr cr] 32)) := (Below.refl _ _).alloc (Nat.le_refl _) _
  go_enter Tryd.func30, Tryd.ntmps30
  go_wp2
  go_ret
  exact ⟨w.heap.size, rfl, Nat.le_refl _, hx0, hb0⟩
end Go.Proofs.YtlnmioijgclndaaDoor
set_option maxRecDepth 8000
namespace Go.Proofs.YtlnmioijgclndaaDoor
open Go.ChangeShapes Go.WideShapes Go.ChangeAt Go.RowKit
/-- the first of all solutions; none. -/
def sfL (s : Int) (n : Nat) (gi : List Int) (rs : List RuleM) : List Int := (allS s 1 n gi rs).getD 0 []
def sfB (s : Int) (n : Nat) (gi : List Int) (rs : List RuleM) : Bool := !(allS s 1 n gi rs).isEmpty
end Go.Proofs.YtlnmioijgclndaaDoor
set_option maxRecDepth 8000
namespace Go.Proofs.YtlnmioijgclndaaDoor
open Go.ChangeShapes Go.WideShapes Go.ChangeAt Go.RowKit
/-! slices.Clone of ints. -/
end Go.Proofs.YtlnmioijgclndaaDoor
set_option maxRecDepth 8000
namespace Go.Proofs.YtlnmioijgclndaaDoor
/-! What a grid that fits keeps: with a cell less, without the rules; and it fits as a square. -/
theorem nth_set0 (g : List Int) (c i : Nat) : nth (g.set c 0) i = nth g i ∨ nth (g.set c 0) i = 0 := by
  by_cases e : c = i
  · subst e
    by_cases h : c < g.length
    · right; simp [nth, List.getD_eq_getElem?_getD, h]
    · left; rw [List.set_eq_of_length_le (by omega)]
  · left; simp [nth, List.getD_eq_getElem?_getD, e]
theorem give_less {gi g : List Int} {c i : Nat} (h : giveOk gi g i = true) : giveOk gi (g.set c 0) i = true := by
  rcases nth_set0 g c i with e | e
  · unfold giveOk at h ⊢
    rw [e]; exact h
  · unfold giveOk
    rw [e]; simp
theorem fp_parts {s : Int} {gi g : List Int} {rs : List RuleM} : fpB s gi rs g = true ↔ pvB s gi rs = true ∧ gv g s = true ∧ (∀ i, i < g.length → giveOk gi g i = true) ∧ (∀ i, i < rs.length → rpR s g (rat rs i) = true) ∧ clash g s = false := by
  simp only [fpB, fitB, Bool.and_eq_true, List.all_eq_true, List.mem_range, Bool.not_eq_true']
  constructor
  · rintro ⟨⟨a, b⟩, ⟨c, d⟩, e⟩; exact ⟨a, b, c, d, e⟩
  · rintro ⟨a, b, c, d, e⟩; exact ⟨⟨a, b⟩, ⟨c, d⟩, e⟩
theorem fp_less {s : Int} {gi g : List Int} {rs : List RuleM} (h : fpB s gi rs g = true) (c : Nat) : fpB s gi rs (g.set c 0) = true := by
  obtain ⟨hp, hg, h1, h2, h3⟩ := fp_parts.1 h
  refine fp_parts.2 ⟨hp, gv_put hg c, fun i hi => give_less (h1 i (by simpa using hi)), fun i hi => (rp_less ((pv_gv hp).2.2 i hi) hg (h2 i hi) c).1, ?_⟩
  obtain ⟨a, b⟩ := gv_size hg
  have hl := gv_len hg
  obtain ⟨t, rfl⟩ := Int.eq_ofNat_of_zero_le (show 0 ≤ s by omega)
  exact clash_set0 (by simp; omega) (by exact_mod_cast hl) h3
theorem fp_nil {s : Int} {gi g : List Int} {rs : List RuleM} (h : fpB s gi rs g = true) : fpB s gi [] g = true := by
  obtain ⟨hp, hg, h1, h2, h3⟩ := fp_parts.1 h
  refine fp_parts.2 ⟨?_, hg, h1, fun i hi => absurd hi (by simp), h3⟩
  simp only [pvB, (pv_gv hp).1]
  simp
theorem fp_sq {s : Int} {gi g : List Int} {rs : List RuleM} (h : fpB s gi rs g = true) : sqFits g s = true := by
  obtain ⟨hp, hg, h1, h2, h3⟩ := fp_parts.1 h
  simp [sqFits, hg, h3]
/-- a solution is a solved grid for which every rule holds and which has all that is given. -/
theorem ps_is {s : Int} {gi g : List Int} {rs : List RuleM} (hp : pvB s gi rs = true) (hg : gv g s = true) : psB s gi rs g = (sqSolved g s && ((List.range rs.length).all fun i => rhB (rat rs i).k (rat rs i).xs (rat rs i).v g s) && ((List.range g.length).all fun i => nth gi i == 0 || nth gi i == nth g i)) := by
  have hl := gv_len hg
  have hgf : gf g s = (cnz g g.length : Int) := by simp [gf, hg]
  have hli := gv_len (pv_gv hp).1
  unfold psB sqSolved sqFits
  rw [hgf, ← hl]
  by_cases hf : cnz g g.length = g.length
  · have hn := cnz_all hf
    have e1 : ((cnz g g.length : Int) == (g.length : Int)) = true := by rw [hf]; simp
    rw [e1, Bool.and_true, Bool.and_true, Bool.eq_iff_iff, fp_parts]
    simp only [Bool.and_eq_true, List.all_eq_true, List.mem_range, Bool.not_eq_true', Bool.or_eq_true, beq_iff_eq, hp, hg, true_and]
    have q1 : ∀ i, i < rs.length → (rhB (rat rs i).k (rat rs i).xs (rat rs i).v g s = true ↔ rpR s g (rat rs i) = true) := fun i hi => by
      rw [rh_full ((pv_gv hp).2.2 i hi) hg hf]
      exact Iff.rfl
    have q2 : ∀ i, i < g.length → (giveOk gi g i = true ↔ (nth gi i = 0 ∨ nth gi i = nth g i)) := fun i hi => by
      have h1 := hn i hi
      have h2 := (gv_nth hg hi).1
      have h3 := (gv_nth (pv_gv hp).1 (show i < gi.length by omega)).1
      simp only [giveOk, Bool.not_eq_true', Bool.and_eq_false_iff, decide_eq_false_iff_not, bne_eq_false_iff_eq]
      omega
    constructor
    · rintro ⟨a, b, c⟩
      exact ⟨⟨c, fun i hi => (q1 i hi).2 (b i hi)⟩, fun i hi => (q2 i hi).1 (a i hi)⟩
    · rintro ⟨⟨c, b⟩, a⟩
      exact ⟨fun i hi => (q2 i hi).2 (a i hi), fun i hi => (q1 i hi).1 (b i hi), c⟩
  · have e1 : ((cnz g g.length : Int) == (g.length : Int)) = false := by simp only [beq_eq_false_iff_ne]; omega
    rw [e1]
    simp
end Go.Proofs.YtlnmioijgclndaaDoor
set_option maxRecDepth 8000
namespace Go.Proofs.YtlnmioijgclndaaDoor
open Go.ChangeShapes Go.WideShapes Go.ChangeAt Go.RowKit
/-! The solutions of a puzzle are those of the numbered squares that pass PuzzleSolved, in their order. -/
/-- all solved squares, in rising order. -/
def sqL (s : Nat) : List (List Int) := sols s (s * s) (zeros (s * s)) 0
theorem sqL_len {s : Nat} (hs : s ∈ [2, 3, 4]) : ((sqL s).length : Int) = sqCnt s := by
  have h := sols_cnt (s := (s : Int)) (by simp at hs; omega) (by simp at hs; omega)
  rw [← h]
  unfold sqL
  rw [show ((s : Int) * s).toNat = s * s by rw [← Int.natCast_mul]; exact Int.toNat_natCast _]
theorem sqn_sqL {s : Nat} (hs : s ∈ [2, 3, 4]) (j : Nat) : sqn s j = (sqL s).getD j [] := by
  unfold sqn sqL
  rw [if_pos ⟨by simp [inr]; simp at hs; omega, by omega⟩, show ((s : Int) * s).toNat = s * s by rw [← Int.natCast_mul]; exact Int.toNat_natCast _, Int.toNat_natCast, List.getD_eq_getElem?_getD]
theorem clash_ext {s : Nat} {g y : List Int} (hs : s ∈ [2, 3, 4]) (h : ∀ i, i < s * s → nth g i = nth y i ∨ nth g i = 0) (hc : clash g s = true) : clash y s = true := by
  obtain ⟨i, j, hi, hj, ha, e, h0⟩ := (clash_iff hs).1 hc
  have ej : nth g j = nth y j := (h j hj).resolve_right (by omega)
  have ei : nth g i = nth y i := (h i hi).resolve_right (by omega)
  exact (clash_iff hs).2 ⟨i, j, hi, hj, ha, by rw [← ei, ← ej, e], by rw [← ej]; exact h0⟩
/-- all numbered squares: of all full grids those without clashes. -/
theorem sols_enS {s : Nat} (hs : s ∈ [2, 3, 4]) : ∀ (f p : Nat) (z : List Int), p + f = s * s → z.length = s * s → 0 < f → (∀ i, p ≤ i → nth z i = 0) → sols s f z p = (enS s f z p).filter fun y => !clash y s := by
  intro f
  induction f with
  | zero => intro p z _ _ h; omega
  | succ f ih =>
    intro p z hp hl _ hz
    have hs4 : s ≤ 4 := by simp at hs; omega
    simp only [sols, enS]
    rw [if_neg (by rw [hz p (Nat.le_refl _)]; omega), List.filter_flatMap, Int.toNat_natCast]
    unfold rep
    have one : ∀ v : Nat, (if clash (z.set p (v : Int)) s = true then [] else sols s f (z.set p (v : Int)) (p + 1)) = (enS s f (z.set p (v : Int)) (p + 1)).filter fun y => !clash y s := fun v => by
      have hzs : ∀ i, p + 1 ≤ i → nth (z.set p (v : Int)) i = 0 := fun i hi => by
        have : nth (z.set p (v : Int)) i = nth z i := by simp only [nth, List.getD_eq_getElem?_getD, List.getElem?_set]; rw [if_neg (by omega)]
        rw [this]; exact hz i (by omega)
      by_cases hc : clash (z.set p (v : Int)) s = true
      · rw [if_pos hc]
        symm
        rw [List.filter_eq_nil_iff]
        intro y hy hn
        obtain ⟨a, b, c⟩ := enS_in f _ _ y hy (by rw [List.length_set]; omega)
        have := clash_ext (g := z.set p (v : Int)) (y := y) hs (fun i hi => by
          by_cases h : i < p + 1
          · exact .inl (b i h).symm
          · exact .inr (hzs i (by omega))) hc
        rw [this] at hn; cases hn
      · rw [if_neg hc]
        by_cases hf : 0 < f
        · exact ih (p + 1) _ (by omega) (by rw [List.length_set]; exact hl) hf hzs
        · obtain rfl : f = 0 := by omega
          simp only [sols, enS]
          rw [List.filter_cons_of_pos (by simpa using hc), List.filter_nil]
    have key : ∀ r v, solsFrom (fun ys => sols s f ys (p + 1)) z s p r v = (seqN v r).flatMap fun x => (enS s f (z.set p x) (p + 1)).filter fun y => !clash y s := by
      intro r
      induction r with
      | zero => intro v; rfl
      | succ r ihr =>
        intro v
        simp only [solsFrom, seqN, List.flatMap_cons]
        rw [ihr (v + 1), one v]
    exact key s 1
theorem sqL_is {s : Nat} (hs : s ∈ [2, 3, 4]) : sqL s = (enS s (s * s) (zeros (s * s)) 0).filter fun y => !clash y s :=
  sols_enS hs (s * s) 0 _ (by omega) (zeros_length _) (by simp at hs; rcases hs with rfl | rfl | rfl <;> decide) (fun i _ => zeros_nth _ i)
theorem flat_one {α β : Type} {L : List α} {f : α → List β} {a : α} (hn : L.Nodup) (ha : a ∈ L) (h : ∀ x ∈ L, x ≠ a → f x = []) : L.flatMap f = f a := by
  induction L with
  | nil => cases ha
  | cons b L ih =>
    rw [List.flatMap_cons]
    rw [List.nodup_cons] at hn
    rcases List.mem_cons.1 ha with rfl | h2
    · rw [flat_none (fun x hx => h x (List.mem_cons_of_mem _ hx) (fun e => hn.1 (by rw [← e]; exact hx))), List.append_nil]
    · rw [h b (List.mem_cons_self ..) (fun e => hn.1 (by rw [e]; exact h2)), List.nil_append]
      exact ih hn.2 h2 (fun x hx => h x (List.mem_cons_of_mem _ hx))
theorem seqN_nodup : ∀ r v, (seqN v r).Nodup := by
  intro r
  induction r with
  | zero => intro v; simp [seqN]
  | succ r ih =>
    intro v
    simp only [seqN, List.nodup_cons]
    refine ⟨fun h => ?_, ih (v + 1)⟩
    obtain ⟨u, e, h1, _⟩ := seqN_mem.1 h
    omega
/-- a grid has all that is given, from cell p on. -/
def agF (g y : List Int) (p m : Nat) : Bool := (List.range m).all fun i => decide (i < p) || !(decide (0 < nth g i)) || (nth y i == nth g i)
theorem agF_iff {g y : List Int} {p m : Nat} : agF g y p m = true ↔ ∀ i, p ≤ i → i < m → 0 < nth g i → nth y i = nth g i := by
  simp only [agF, List.all_eq_true, List.mem_range, Bool.or_eq_true, decide_eq_true_eq, Bool.not_eq_true', decide_eq_false_iff_not, beq_iff_eq]
  constructor
  · intro h i h1 h2 h3
    rcases h i h2 with (h | h) | h
    · omega
    · exact absurd h3 h
    · exact h
  · intro h i hi
    by_cases h1 : i < p
    · exact .inl (.inl h1)
    · by_cases h2 : 0 < nth g i
      · exact .inr (h i (by omega) hi h2)
      · exact .inl (.inr h2)
theorem enS_agree {s : Nat} : ∀ (f p : Nat) (g z : List Int), p + f = z.length → g.length = z.length → (∀ i, i < p → nth g i = nth z i) → (∀ i, p ≤ i → nth z i = 0) → (∀ i, p ≤ i → i < p + f → 0 < nth g i → nth g i ∈ rep s) → enS s f g p = (enS s f z p).filter fun y => agF g y p (p + f) := by
  intro f
  induction f with
  | zero =>
    intro p g z hp hl hpre hz hin
    obtain rfl : g = z := ext_nth hl (fun k hk => hpre k (by omega))
    simp only [enS]
    rw [List.filter_cons_of_pos (by exact agF_iff.2 (fun i h1 h2 => by omega)), List.filter_nil]
  | succ f ih =>
    intro p g z hp hl hpre hz hin
    have hset : ∀ (x : Int) (i : Nat), p + 1 ≤ i → nth (z.set p x) i = 0 := fun x i hi => by
      rw [nth_set (by omega), if_neg (by omega)]; exact hz i (by omega)
    have hq : ∀ (x : Int) y, y ∈ enS s f (z.set p x) (p + 1) → nth y p = x := fun x y hy => by
      obtain ⟨_, b, _⟩ := enS_in f _ _ y hy (by rw [List.length_set]; omega)
      rw [b p (by omega), nth_set (by omega), if_pos rfl]
    simp only [enS]
    rw [if_neg (show ¬ 0 < nth z p by rw [hz p (Nat.le_refl _)]; omega), List.filter_flatMap]
    by_cases h0 : 0 < nth g p
    · rw [if_pos h0, flat_one (a := nth g p) (show (rep s).Nodup from seqN_nodup s 1) (hin p (Nat.le_refl _) (by omega) h0)]
      · rw [ih (p + 1) g (z.set p (nth g p)) (by rw [List.length_set]; omega) (by rw [List.length_set]; exact hl) (fun i hi => by
          rw [nth_set (by omega)]
          by_cases e : p = i
          · subst e; rw [if_pos rfl]
          · rw [if_neg e]; exact hpre i (by omega)) (hset _) (fun i h1 h2 => hin i (by omega) (by omega))]
        apply List.filter_congr
        intro y hy
        rw [Bool.eq_iff_iff, agF_iff, agF_iff]
        constructor
        · intro h i h1 h2 h3
          by_cases e : i = p
          · subst e; exact hq _ y hy
          · exact h i (by omega) (by omega) h3
        · intro h i h1 h2 h3; exact h i (by omega) (by omega) h3
      · intro x _ hne
        rw [List.filter_eq_nil_iff]
        intro y hy hag
        have := agF_iff.1 hag p (Nat.le_refl _) (by omega) h0
        rw [hq x y hy] at this
        exact hne this
    · rw [if_neg h0]
      apply flat_congr
      intro x hx
      rw [ih (p + 1) (g.set p x) (z.set p x) (by rw [List.length_set]; omega) (by rw [List.length_set, List.length_set]; exact hl) (fun i hi => by
          rw [nth_set (by omega), nth_set (by omega)]
          split
          · rfl
          · exact hpre i (by omega)) (hset x) (fun i h1 h2 h3 => by
            rw [nth_set (by omega), if_neg (by omega)] at h3 ⊢
            exact hin i (by omega) (by omega) h3)]
      apply List.filter_congr
      intro y hy
      rw [Bool.eq_iff_iff, agF_iff, agF_iff]
      constructor
      · intro h i h1 h2 h3
        by_cases e : i = p
        · subst e; exact absurd h3 h0
        · have := h i (by omega) (by omega) (by rw [nth_set (by omega), if_neg (by omega)]; exact h3)
          rw [nth_set (by omega), if_neg (by omega)] at this
          exact this
      · intro h i h1 h2 h3
        rw [nth_set (by omega), if_neg (by omega)] at h3 ⊢
        exact h i (by omega) (by omega) h3
/-- the solutions: of the numbered squares those that pass. -/
theorem solL_is {s : Nat} {gi : List Int} {rs : List RuleM} (hv : pvB s gi rs = true) : solL s gi rs = (sqL s).filter (psB s gi rs) := by
  obtain ⟨t, ht, hs, hn, _, hok⟩ := pv_grid hv rfl
  obtain rfl : s = t := by omega
  obtain ⟨hgi, _, hr⟩ := pv_gv hv
  have hl : gi.length = s * s := by
    simp at hs
    rcases hs with rfl | rfl | rfl <;> omega
  rw [hl] at hok
  have hzl := zeros_length (s * s)
  unfold solL
  rw [hl, sqL_is hs, enS_agree (s * s) 0 gi (zeros (s * s)) (by omega) (by omega) (fun i hi => absurd hi (by omega)) (fun i _ => zeros_nth _ i) (fun i _ h2 h3 => by
    have := hok i (by omega)
    exact rep_mem.2 ⟨(nth gi i).toNat, by omega, by omega, by omega⟩), List.filter_filter, List.filter_filter]
  apply List.filter_congr
  intro y hy
  obtain ⟨a, _, c⟩ := enS_in _ _ _ y hy (by omega)
  rw [hzl] at a c
  have hfull : ∀ i, i < s * s → 1 ≤ nth y i ∧ nth y i ≤ (s : Int) := fun i hi => by
    obtain ⟨u, e, u1, u2⟩ := rep_mem.1 ((c i (by omega) hi).2 (by rw [zeros_nth]; omega))
    omega
  have hgy : gv y s = true := okAll_gv' hs a (fun i hi => by have := hfull i hi; omega)
  have hps : psB s gi rs y = fpB s gi rs y := by
    unfold psB
    have : gf y s = (y.length : Int) := by
      unfold gf
      rw [if_pos hgy]
      have := cnz_full.2 (fun k (hk : k < y.length) => show nth y k ≠ 0 by have := hfull k (by omega); omega)
      rw [this]
    rw [this]; simp
  rw [hps, Bool.eq_iff_iff, Bool.and_eq_true, Bool.and_eq_true, agF_iff, fp_parts]
  simp only [fitB, Bool.and_eq_true, List.all_eq_true, List.mem_range, Bool.not_eq_true']
  constructor
  · rintro ⟨⟨⟨f1, f2⟩, f3⟩, ag⟩
    exact ⟨⟨hv, hgy, f1, f2, f3⟩, f3⟩
  · rintro ⟨⟨_, _, f1, f2, f3⟩, _⟩
    refine ⟨⟨⟨f1, f2⟩, f3⟩, fun i h1 h2 h3 => ?_⟩
    have := f1 i (by omega)
    have hy1 := hfull i (by omega)
    unfold giveOk at this
    simp only [Bool.not_eq_true', Bool.and_eq_false_iff, decide_eq_false_iff_not, bne_eq_false_iff_eq] at this
    rcases this with (h | h) | h
    · exact absurd h3 h
    · omega
    · exact h
end Go.Proofs.YtlnmioijgclndaaDoor
set_option maxRecDepth 8000
namespace Go.Proofs.YtlnmioijgclndaaDoor
open Go.ChangeShapes Go.WideShapes Go.ChangeAt Go.RowKit Go.Shelf
attribute [local go_sem] Oper.semAt_some
theorem RdRc.more {w : World} {B B' : Nat} {A : Option Addr} {n : Nat} {rs : List RuleM} (h : RdRc w B A n rs) (hB : B ≤ B') : RdRc w B' A n rs := by
  refine ⟨h.1, fun hn => ?_⟩
  obtain ⟨b, off, e, hb, hc⟩ := h.2 hn
  exact ⟨b, off, e, Nat.lt_of_lt_of_le hb hB, fun i hi => by
    obtain ⟨A', c', e0, e1, e2, e3, e4⟩ := hc i hi
    exact ⟨A', c', e0, e1, e2, e3.more hB, e4⟩⟩
/-- the program's list of solutions is the reference's. -/
theorem allS_cv {s : Nat} {gi : List Int} {rs : List RuleM} {most n : Nat} (hl : gi.length = n) (hv : pvB s gi rs = true) (h0 : 0 < most) (hn : n = s * s) : allS s most n gi rs = (cv s gi rs (s * s) []).take most := by
  rw [allS_is hl hv h0, ← cv_is hv, hl, hn]
theorem sf_cons {s : Nat} {gi : List Int} {rs : List RuleM} {n : Nat} {y : List Int} {zs : List (List Int)} (hl : gi.length = n) (hv : pvB s gi rs = true) (hn : n = s * s) (h : cv s gi rs (s * s) [] = y :: zs) : sfL s n gi rs = y ∧ sfB s n gi rs = true := by
  unfold sfL sfB
  rw [allS_cv hl hv (by omega) hn, h]
  exact ⟨rfl, rfl⟩
theorem sf_nil {s : Nat} {gi : List Int} {rs : List RuleM} {n : Nat} (hl : gi.length = n) (hv : pvB s gi rs = true) (hn : n = s * s) (h : cv s gi rs (s * s) [] = []) : sfL s n gi rs = [] ∧ sfB s n gi rs = false := by
  unfold sfL sfB
  rw [allS_cv hl hv (by omega) hn, h]
  exact ⟨rfl, rfl⟩
theorem allS_none {s : Int} {gi : List Int} {rs : List RuleM} {most n : Nat} (hv : pvB s gi rs = false) : allS s most n gi rs = [] := by
  unfold allS fpB
  rw [hv]; rfl
theorem cv_len {s : Nat} {gi : List Int} {rs : List RuleM} {n : Nat} {y : List Int} (hl : gi.length = n) (hv : pvB s gi rs = true) (hn : n = s * s) (hs : s ∈ [2, 3, 4]) (h : y ∈ cv s gi rs (s * s) []) : y.length = n := by
  have e : cv s gi rs (s * s) [] = solL s gi rs := by rw [← hn, ← hl]; exact cv_is hv
  rw [e, solL_is hv] at h
  have h1 := (List.mem_filter.1 h).2
  unfold psB fpB at h1
  simp only [Bool.and_eq_true] at h1
  have := gv_len h1.1.1.2
  simp at hs
  rcases hs with rfl | rfl | rfl <;> omega
theorem below_put_at {N l : Nat} {X : World} (o' : Obj) (hN : N ≤ l) (hl : l < X.heap.size) : Below N X (X.putObj l o') :=
  below_put o' hN (Array.getElem?_eq_getElem hl)
theorem Ow.same_own {w w' : World} {lo n c : Nat} {A : Option Addr} {xs : List Int} (h : Ow w lo A n c xs) (hn : 0 < n) (hs : ∀ g, (Value.slice A n c).ownBlock = some g → w'.heap[g]? = w.heap[g]?) : Ow w' lo A n c xs := by
  obtain ⟨g, rfl, _, _⟩ := h.form hn
  exact h.same (hs g rfl)
theorem cell_none_of_deferred {W : World} {D i : Nat} {o : Option (List Deferred)} (h : W.heap[D]? = some (.deferred o)) : W.cell? ⟨D, i, none⟩ = none := by
  unfold World.cell?
  simp [h]
end Go.Proofs.YtlnmioijgclndaaDoor
set_option maxRecDepth 8000
namespace Go.Proofs.YtlnmioijgclndaaDoor
open Go.ChangeShapes Go.WideShapes Go.ChangeAt Go.RowKit


def oneB (s : Int) (n : Nat) (gi : List Int) (rs : List RuleM) : Bool := (allS s 2 n gi rs).length == 1
end Go.Proofs.YtlnmioijgclndaaDoor
set_option maxRecDepth 8000
namespace Go.Proofs.YtlnmioijgclndaaDoor
open Go.ChangeShapes Go.WideShapes Go.ChangeAt Go.RowKit Go.Shelf
attribute [local go_sem] Oper.semAt_some
/-- how many solutions, but at most most. -/
def csI (s : Int) (n : Nat) (gi : List Int) (rs : List RuleM) (most : Int) : Int := if (pvB s gi rs && inr most 1 600) = true then ((allS s most.toNat n gi rs).length : Nat) else -1
theorem cs_take {L : List (List Int)} {M : Nat} (h : L.length < M) : (L.take M).length = L.length := by rw [List.length_take]; omega
set_option maxHeartbeats 2000000 in
theorem countP_any (s : Int) (Ag : Option Addr) (n cg Bg : Nat) (gi : List Int) (Ar : Option Addr) (nr cr Br : Nat) (rs : List RuleM) (M : Nat) (w : World) (hp : PGc w s Ag n cg Bg gi Ar nr cr Br rs) (hv : pvB s gi rs = true) (hM1 : 0 < M) (hM6 : M ≤ 600) (hT : Tz w) :
    Calls Tryd.prog 18 #[.agg #[.int .i64 s, .slice Ag n cg, .slice Ar nr cr], .int .i64 (M : Nat)] w fun e w' => e = .returned (.int .i64 ((allS s M n gi rs).length : Nat)) ∧ Below w.heap.size w w' := by
  have hx0 := pbox_new w s Ag n cg Ar nr cr 32
  obtain ⟨W1, hW1⟩ : ∃ W1, w.alloc (.cells #[.int .i64 s, .slice Ag n cg, .slice Ar nr cr] 32) = W1 := ⟨_, rfl⟩
  rw [hW1] at hx0
  have hb1 : Below w.heap.size w W1 := by rw [← hW1]; exact (Below.refl _ _).alloc (Nat.le_refl _) _
  have hs1 : W1.heap.size = w.heap.size + 1 := by rw [← hW1]; simp
  obtain ⟨W2, hW2⟩ : ∃ W2, W1.alloc (.cells #[.int .i64 (M : Nat)] 3) = W2 := ⟨_, rfl⟩
  have hb2 : Below W1.heap.size W1 W2 := by rw [← hW2]; exact (Below.refl _ _).alloc (Nat.le_refl _) _
  have hs2 : W2.heap.size = w.heap.size + 1 + 1 := by rw [← hW2]; simp [hs1]
  have hr2 : W2.heap[w.heap.size + 1]? = some (.cells #[.int .i64 (M : Nat)] 3) := by rw [← hW2, ← hs1]; exact heap_alloc_new _ _
  have hx2 := hx0.below (by omega) hb2
  have hbW : Below w.heap.size w W2 := hb1.trans (hb2.mono (by omega))
  obtain ⟨V5, hV5⟩ : ∃ V5, W2.alloc (.cells #[.int .i64 0] 3) = V5 := ⟨_, rfl⟩
  have hvb : Below W2.heap.size W2 V5 := by rw [← hV5]; exact (Below.refl _ _).alloc (Nat.le_refl _) _
  have hvr : V5.heap[W2.heap.size]? = some (.cells #[.int .i64 0] 3) := by rw [← hV5]; exact heap_alloc_new _ _
  have hvc := cell_of_row _ _ 0 _ _ (0, 0) hvr
  have hvf := frozen_of_row _ _ 0 _ _ hvr
  have hvs : V5.heap.size = W2.heap.size + 1 := by rw [← hV5]; simp
  obtain ⟨W5, hW5⟩ : ∃ W5, V5.setCell ⟨W2.heap.size, 0, none⟩ (.int .i64 0) = W5 := ⟨_, rfl⟩
  have hb5 : Below W2.heap.size W2 W5 := by rw [← hW5]; exact hvb.setCell (p := ⟨W2.heap.size, 0, none⟩) (Nat.le_refl _) _
  have hs5 : W5.heap.size = W2.heap.size + 1 := by rw [← hW5]; simp [World.setCell, hvs]
  have hq5 : W5.heap[W2.heap.size]? = some (.cells #[.int .i64 0] 3) := by rw [← hW5]; exact heap_setCell_same V5 W2.heap.size 0 _ _ _ hvr
  rw [hs2] at hvc hvf hW5
  obtain ⟨y0, y1, y2⟩ := hx2.below (by omega) hb5
  obtain ⟨t, rfl, hs, hnn, hn16, hok⟩ := pv_grid hv hp.g.1
  have hn : n = t * t := by simp at hs; rcases hs with rfl | rfl | rfl <;> omega
  have hgl := hp.g.1
  have hmr : nr ≤ 20 := by have := (pv_gv hv).2.1; have := hp.r.1; omega
  have H1 := Lib.hid (show ((allS t M n gi rs).length : Nat) = ((cv t gi rs (t * t) []).take M).length by rw [allS_cv hgl hv hM1 hn])
  have HG := Lib.hid (hp.g.more hp.gB)
  have HR := Lib.hid (hp.r.more hp.rB)
  have HT := Lib.hid (fun X (hb : Below w.heap.size w X) => hT.below hT.lt hb)
  have HN := Lib.hid hn
  have HV2 := Lib.hid hv
  have HB2 := Lib.hid hbW
  have HR2 := Lib.hid hr2
  have HSL := Lib.hid (solutions_any t n Ag cg Ar nr cr W5)
  clear hok hnn hn hgl hp hT hb1 hb2 hr2 hx0 hx2 hbW hvb
  refine (callsIn_wide (n := 9)).1 ?_
  refine callsIn_of_wp_marks Tryd.func18 rfl trivial ?_ rfl
  simp only [Tryd.ntmps18, List.size_toArray, List.length_cons, List.length_nil, Nat.reduceAdd, Nat.reduceSub, Array.replicate_succ, Array.replicate_zero, List.push_toArray, List.append_toArray, List.nil_append, List.cons_append]
  gi_wp2_with ((try refine ⟨trivial, ?_⟩); gi_at_call 30; refine (callsIn_wide.2 HSL.out).mono ?_; rintro e w6 ⟨PB, rfl, hPl, hpb, hb6⟩)
  have h6 := hb6.size
  have hb26 : Below W2.heap.size W2 w6 := hb5.trans (hb6.mono hb5.size)
  have hb06 : Below w.heap.size w w6 := HB2.out.trans (hb26.mono (by omega))
  obtain ⟨CB, hCB⟩ : ∃ CB, CB = w.heap.size + 1 + 1 := ⟨_, rfl⟩
  rw [hs2] at hq5
  have hq6 : w6.heap[CB]? = some (.cells #[.int .i64 ((0 : Nat) : Int)] 3) := by rw [hCB]; exact (hb6.block _ (by omega)).trans hq5
  have hm6 : w6.heap[w.heap.size + 1]? = some (.cells #[.int .i64 (M : Int)] 3) := (hb26.block _ (by omega)).trans HR2.out
  have hPB := cell_lt hpb.1
  have d1 : CB < w6.heap.size := by omega
  have d2 : w.heap.size + 1 < CB := by omega
  have d3 : CB < PB := by omega
  rw [← hCB]
  clear y0 y1 y2 hb5 hb6 hb26 hq5 hW1 hW2 hW5 hV5 hvr hvc hvf hvs hs1 hs2 hs5 h6 hPl hv hCB HB2 HR2 HSL
  obtain ⟨CV, hCV⟩ : ∃ CV, CV = cv t gi rs (t * t) [] := ⟨_, rfl⟩
  have HSq := sols_seq w w.heap.size PB t n Ag cg gi Ar nr cr rs (Nat.le_refl _) hs HN.out HG.out HR.out hmr HV2.out HT.out
  rw [← hCV] at HSq H1
  clear hCV
  refine range_skipP 9 (by rfl) (enters_of Tryd.func35 (by kernel_rfl) rfl) HSq
    (fun pre X => SBase w w.heap.size PB t Ag n cg Ar nr cr X ∧ X.heap[CB]? = some (.cells #[.int .i64 ((pre.length : Nat) : Int)] 3) ∧ pre.length < M ∧ X.heap[w.heap.size + 1]? = some (.cells #[.int .i64 (M : Int)] 3))
    (fun cc X => cc = .exit 0 ∧ Below w.heap.size w X ∧ X.heap[CB]? = some (.cells #[.int .i64 (M : Int)] 3) ∧ M ≤ CV.length)
    (fun pre X h => h.1)
    (fun pre X Y h hb => ⟨⟨h.1.1.trans (hb.mono (by omega)), h.1.2.below hPB hb⟩, (hb.block _ d1).trans h.2.1, h.2.2.1, (hb.block _ (by omega)).trans h.2.2.2⟩)
    (fun cc X o h hX => ⟨h.1, h.2.1.trans (below_put_at _ (by omega) hX), (World.putObj_heap_other (by omega)).trans h.2.2.1, h.2.2.2⟩)
    ⟨⟨hb06, hpb⟩, hq6, hM1, hm6⟩ ?body ?done ?stop
  case body =>
    rintro l pre x X b n' c' ⟨⟨hBX, hpX⟩, hcX, hlt, hmX⟩ ⟨zs, hzs⟩ hbb hXs hrd
    have hlen : (pre ++ [x]).length = pre.length + 1 := by simp
    have hCl : pre.length + 1 ≤ CV.length := by rw [hzs]; simp
    obtain ⟨k, hk⟩ : ∃ k, k = pre.length := ⟨_, rfl⟩
    rw [← hk] at hcX hlt hlen hCl
    have hcc := cell_of_row _ _ 0 _ _ (0, 0) hcX
    have hfc := frozen_of_row _ _ 0 _ _ hcX
    have hcm := cell_of_row _ _ 0 _ _ (0, 0) hmX
    have Hlen := Lib.hid hlen
    have HpX := Lib.hid hpX
    have HBX := Lib.hid hBX
    have HcX := Lib.hid hcX
    have HmX := Lib.hid hmX
    have hk6 : k < 600 := by omega
    clear hlen hpX hBX hcX hmX hrd hzs hk
    simp only [List.setIfInBounds_toArray, List.set_cons_zero, List.set_cons_succ]
    have hm1 : w6.heap.size ≤ X.heap.size := by omega
    have HCl := Lib.hid hCl
    have HE : Hid (∀ v : Int, v = (k : Int) + 1 → (X.setCell ⟨CB, 0, none⟩ (.int .i64 ((k : Int) + 1))).heap[CB]? = some (.cells #[.int .i64 v] 3) ∧ (X.setCell ⟨CB, 0, none⟩ (.int .i64 ((k : Int) + 1))).heap[w.heap.size + 1]? = some (.cells #[.int .i64 (M : Int)] 3) ∧ Below w.heap.size w (X.setCell ⟨CB, 0, none⟩ (.int .i64 ((k : Int) + 1))) ∧ PBox (X.setCell ⟨CB, 0, none⟩ (.int .i64 ((k : Int) + 1))) PB t Ag n cg Ar nr cr) := Lib.hid (fun v hv => by
      subst hv
      have hcell : ∀ i, (X.setCell ⟨CB, 0, none⟩ (.int .i64 ((k : Int) + 1))).cell? ⟨PB, i, none⟩ = X.cell? ⟨PB, i, none⟩ := fun i => World.cell?_of_block (a := ⟨PB, i, none⟩) (heap_setCell_other X ⟨CB, 0, none⟩ PB _ (fun e => by dsimp only at e; omega))
      exact ⟨heap_setCell_same X CB 0 _ _ (.int .i64 ((k : Int) + 1)) HcX.out, (heap_setCell_other X ⟨CB, 0, none⟩ (w.heap.size + 1) _ (fun e => by dsimp only at e; omega)).trans HmX.out, HBX.out.setCell (p := ⟨CB, 0, none⟩) (by show w.heap.size ≤ CB; omega) _, (hcell 0).trans HpX.out.1, (hcell 1).trans HpX.out.2.1, (hcell 2).trans HpX.out.2.2⟩)
    have HM := Lib.hid (Mid.setCell w6.heap.size CB 0 X (.int .i64 ((k : Int) + 1)) d1)
    by_cases e : k + 1 = M
    · have hq : ((k : Int) + 1 == (M : Int)) = true := by rw [beq_iff_eq]; omega
      have he := Lib.hid e
      clear e hlt hCl
      gi_wp2
      obtain ⟨e1, e2, e3, e4⟩ := HE.out M (by have := he.out; omega)
      exact ⟨HM.out, rfl, e3, e1, by have := he.out; have := HCl.out; omega⟩
    · have hq : ((k : Int) + 1 == (M : Int)) = false := by rw [beq_eq_false_iff_ne]; omega
      have he := Lib.hid e
      have hl := Lib.hid hlt
      clear e hlt hCl
      gi_wp2
      obtain ⟨e1, e2, e3, e4⟩ := HE.out (((pre ++ [x]).length : Nat) : Int) (by rw [Hlen.out]; omega)
      exact ⟨HM.out, ⟨e3, e4⟩, e1, by rw [Hlen.out]; have := he.out; have := hl.out; omega, e2⟩
  case done =>
    rintro D W hD ⟨⟨hBX, _⟩, hcX, hlt, _⟩ hK
    have hcc := cell_of_row _ _ 0 _ _ (0, 0) hcX
    have H2 := Lib.hid (show (CV.take M).length = CV.length from cs_take hlt)
    clear hlt
    gi_wp2
    refine ⟨by simp, .inl ⟨_, _, rfl, run_takeDeferred hK, ?_⟩⟩
    exact ⟨_, results_tmp rfl _ _ _, by rw [H1.out, H2.out]; rfl, hBX.trans (below_put _ (by omega) hK)⟩
  case stop =>
    rintro D cc W hD ⟨rfl, hBX, hcX, hM⟩ hK
    have hcc := cell_of_row _ _ 0 _ _ (0, 0) hcX
    have H2 := Lib.hid (show (CV.take M).length = M by rw [List.length_take]; omega)
    clear hM
    gi_wp2
    refine ⟨by simp, .inl ⟨_, _, rfl, run_takeDeferred hK, ?_⟩⟩
    exact ⟨_, results_tmp rfl _ _ _, by rw [H1.out, H2.out]; rfl, hBX.trans (below_put _ (by omega) hK)⟩
set_option maxHeartbeats 2000000 in
theorem implCountSolutions (s : Int) (Ag : Option Addr) (n cg Bg : Nat) (gi : List Int) (Ar : Option Addr) (nr cr Br : Nat) (rs : List RuleM) (most : Int) (w : World) (hp : PGc w s Ag n cg Bg gi Ar nr cr Br rs) (hT : Tz w) :
    Calls Tryd.prog 8 #[.agg #[.int .i64 s, .slice Ag n cg, .slice Ar nr cr], .int .i64 most] w fun e w' => e = .returned (.int .i64 (csI s n gi rs most)) ∧ Below w.heap.size w w' := by
  have hx0 := pbox_new w s Ag n cg Ar nr cr 32
  have hb0 : Below w.heap.size w (w.alloc (.cells #[.int .i64 s, .slice Ag n cg, .slice Ar nr cr] 32)) := (Below.refl _ _).alloc (Nat.le_refl _) _
  have hs0 : w.heap.size < (w.alloc (.cells #[.int .i64 s, .slice Ag n cg, .slice Ar nr cr] 32)).heap.size := by simp
  obtain ⟨z0, z1, z2⟩ := id hx0
  have HV := Lib.hid (valid_any s Ag n cg Bg gi Ar nr cr Br rs _ (hp.below hb0))
  cases hv : pvB s gi rs
  · have H1 := Lib.hid (show csI s n gi rs most = -1 by simp [csI, hv])
    go_enter Tryd.func8, Tryd.ntmps8
    go_wp2_with (go_at_call 17; refine HV.out.mono ?_; rintro e w4 ⟨rfl, hb4⟩; rw [hv])
    go_ret
    exact ⟨by rw [H1.out]; rfl, step hb0 hb4⟩
  · by_cases hlo : most < 1
    · have H1 := Lib.hid (show csI s n gi rs most = -1 by
        have : inr most 1 600 = false := by unfold inr; simp; omega
        simp [csI, this])
      go_enter Tryd.func8, Tryd.ntmps8
      go_wp2_with (go_at_call 17; refine HV.out.mono ?_; rintro e w4 ⟨rfl, hb4⟩; rw [hv])
      go_ret
      exact ⟨by rw [H1.out]; rfl, step hb0 hb4⟩
    · by_cases hhi : 600 < most
      · have H1 := Lib.hid (show csI s n gi rs most = -1 by
          have : inr most 1 600 = false := by unfold inr; simp; omega
          simp [csI, this])
        go_enter Tryd.func8, Tryd.ntmps8
        go_wp2_with (go_at_call 17; refine HV.out.mono ?_; rintro e w4 ⟨rfl, hb4⟩; rw [hv])
        go_ret
        exact ⟨by rw [H1.out]; rfl, step hb0 hb4⟩
      · obtain ⟨M, rfl⟩ := Int.eq_ofNat_of_zero_le (show 0 ≤ most by omega)
        have H1 := Lib.hid (show csI s n gi rs (M : Nat) = ((allS s M n gi rs).length : Nat) by
          have : inr (M : Int) 1 600 = true := by unfold inr; simp; omega
          simp only [csI, hv, this, Bool.true_and, if_true, Int.toNat_natCast])
        have HC := Lib.hid (fun w' (hb : Below w.heap.size w w') => countP_any s Ag n cg Bg gi Ar nr cr Br rs M w' (hp.below hb) hv (by omega) (by omega) (hT.below hT.lt hb))
        go_enter Tryd.func8, Tryd.ntmps8
        go_wp2_with (first
          | (go_at_call 17; refine HV.out.mono ?_; rintro e w4 ⟨rfl, hb4⟩; rw [hv]; have h04 := step hb0 hb4; obtain ⟨y0, y1, y2⟩ := hx0.below hs0 hb4)
          | (go_at_call 18; refine (HC.out _ h04).mono ?_; rintro e w5 ⟨rfl, hb5⟩))
        go_ret
        exact ⟨by rw [H1.out]; rfl, step h04 hb5⟩
end Go.Proofs.YtlnmioijgclndaaDoor
set_option maxRecDepth 8000
namespace Go.Proofs.YtlnmioijgclndaaDoor
open Go.ChangeShapes Go.WideShapes Go.ChangeAt Go.RowKit
/-! the eight forms of a grid, as index functions. -/
/-- the cell from which a cell of the k-th form has its value. -/
def tix (s : Int) : Nat → Nat → Nat
  | 0, j => j
  | k + 1, j => if k = 3 then mirIx s j else tix s k (turnIx s j)
/-- q turns of a list. -/
def trn (s : Int) (n : Nat) (xs : List Int) : Nat → List Int
  | 0 => xs
  | q + 1 => pm (trn s n xs q) (turnIx s) n
/-- the k-th form. -/
def frm (s : Int) (n : Nat) (xs : List Int) (k : Nat) : List Int := if k < 4 then trn s n xs k else trn s n (pm xs (mirIx s) n) (k - 4)
/-- what the reference holds before the k-th form is taken. -/
def spX (s : Int) (n : Nat) (xs : List Int) (k : Nat) : List Int := if k ≤ 4 then trn s n xs k else trn s n (pm xs (mirIx s) n) (k - 4)
theorem trn_len {s : Int} {n : Nat} {xs : List Int} (hl : xs.length = n) : ∀ q, (trn s n xs q).length = n
  | 0 => hl
  | _ + 1 => pm_length _ _ _
theorem frm_len {s : Int} {n : Nat} {xs : List Int} (hl : xs.length = n) (k : Nat) : (frm s n xs k).length = n := by
  unfold frm; split
  · exact trn_len hl _
  · exact trn_len (pm_length _ _ _) _
theorem spX_len {s : Int} {n : Nat} {xs : List Int} (hl : xs.length = n) (k : Nat) : (spX s n xs k).length = n := by
  unfold spX; split
  · exact trn_len hl _
  · exact trn_len (pm_length _ _ _) _
theorem trn_gv {s n : Nat} {xs : List Int} (hs : s ∈ [2, 3, 4]) (hn : n = s * s) (hl : xs.length = n) (hg : gv xs s = true) : ∀ q, gv (trn s n xs q) s = true
  | 0 => hg
  | q + 1 => pm_gv (trn_gv hs hn hl hg q) (trn_len hl q) (fun k hk => by rw [hn] at hk ⊢; exact turn_lt s hs k hk)
theorem mir_gv {s n : Nat} {xs : List Int} (hs : s ∈ [2, 3, 4]) (hn : n = s * s) (hl : xs.length = n) (hg : gv xs s = true) : gv (pm xs (mirIx s) n) s = true :=
  pm_gv hg hl (fun k hk => by rw [hn] at hk ⊢; exact mir_lt s hs k hk)
theorem frm_gv {s n : Nat} {xs : List Int} (hs : s ∈ [2, 3, 4]) (hn : n = s * s) (hl : xs.length = n) (hg : gv xs s = true) (k : Nat) : gv (frm s n xs k) s = true := by
  unfold frm; split
  · exact trn_gv hs hn hl hg _
  · exact trn_gv hs hn (pm_length _ _ _) (mir_gv hs hn hl hg) _
theorem spX_gv {s n : Nat} {xs : List Int} (hs : s ∈ [2, 3, 4]) (hn : n = s * s) (hl : xs.length = n) (hg : gv xs s = true) (k : Nat) : gv (spX s n xs k) s = true := by
  unfold spX; split
  · exact trn_gv hs hn hl hg _
  · exact trn_gv hs hn (pm_length _ _ _) (mir_gv hs hn hl hg) _
theorem spX_frm {s : Int} {n : Nat} {xs : List Int} {k : Nat} (h : k ≠ 4) : spX s n xs k = frm s n xs k := by
  unfold spX frm
  by_cases h4 : k < 4
  · rw [if_pos h4, if_pos (by omega)]
  · rw [if_neg h4, if_neg (by omega)]
theorem frm_four {s : Int} {n : Nat} {xs : List Int} : frm s n xs 4 = pm xs (mirIx s) n := rfl
theorem frm_zero {s : Int} {n : Nat} {xs : List Int} : frm s n xs 0 = xs := rfl
theorem spX_succ {s : Int} {n : Nat} {xs : List Int} {k : Nat} : spX s n xs (k + 1) = pm (frm s n xs k) (turnIx s) n := by
  unfold spX frm
  by_cases h4 : k < 4
  · rw [if_pos h4, if_pos (by omega)]; rfl
  · rw [if_neg h4, if_neg (by omega), show k + 1 - 4 = (k - 4) + 1 by omega]; rfl
theorem tix_lt : ∀ s ∈ [2, 3, 4], ∀ k, k < 8 → ∀ j, j < s * s → tix (s : Nat) k j < s * s := by decide +kernel
theorem trn_pm {s n : Nat} {xs : List Int} (hs : s ∈ [2, 3, 4]) (hn : n = s * s) (hl : xs.length = n) : ∀ q, q < 4 → trn s n xs q = pm xs (tix s q) n
  | 0, _ => (pm_id hl (fun _ _ => rfl)).symm
  | q + 1, h => by
    have ih := trn_pm (xs := xs) hs hn hl q (by omega)
    show pm (trn s n xs q) (turnIx s) n = _
    rw [ih, pm_pm (fun k hk => by rw [hn] at hk ⊢; exact turn_lt s hs k hk)]
    refine pm_eq (fun k hk => ?_)
    show _ = tix s (q + 1) k
    simp only [tix]
    rw [if_neg (by omega)]
theorem tix_mir : ∀ s ∈ [2, 3, 4], ∀ k, k < 4 → ∀ j, j < s * s → mirIx (s : Nat) (tix (s : Nat) k j) = tix (s : Nat) (k + 4) j := by decide +kernel
theorem frm_pm {s n : Nat} {xs : List Int} (hs : s ∈ [2, 3, 4]) (hn : n = s * s) (hl : xs.length = n) {k : Nat} (hk : k < 8) : frm s n xs k = pm xs (tix s k) n := by
  unfold frm
  by_cases h4 : k < 4
  · rw [if_pos h4]; exact trn_pm hs hn hl k h4
  · rw [if_neg h4, trn_pm hs hn (pm_length _ _ _) (k - 4) (by omega), pm_pm (fun j hj => by rw [hn] at hj ⊢; exact tix_lt s hs _ (by omega) j hj)]
    refine pm_eq (fun j hj => ?_)
    rw [hn] at hj
    rw [tix_mir s hs (k - 4) (by omega) j hj, show k - 4 + 4 = k by omega]
/-- two forms one after the other are a form. -/
def gmul (a b : Nat) : Nat := if a < 4 then (if b < 4 then (a + b) % 4 else 4 + (b - a) % 4) else (if b < 4 then 4 + (a + b) % 4 else (b + 4 - a) % 4)
theorem gmul_lt : ∀ a, a < 8 → ∀ b, b < 8 → gmul a b < 8 := by decide +kernel
theorem gmul_tix : ∀ s ∈ [2, 3, 4], ∀ a, a < 8 → ∀ b, b < 8 → ∀ j, j < s * s → tix (s : Nat) a (tix (s : Nat) b j) = tix (s : Nat) (gmul a b) j := by decide +kernel
theorem frm_frm {s n : Nat} {xs : List Int} (hs : s ∈ [2, 3, 4]) (hn : n = s * s) (hl : xs.length = n) {a b : Nat} (ha : a < 8) (hb : b < 8) : frm s n (frm s n xs a) b = frm s n xs (gmul a b) := by
  rw [frm_pm hs hn (frm_len hl a) hb, frm_pm hs hn hl ha, frm_pm hs hn hl (gmul_lt a ha b hb), pm_pm (fun j hj => by rw [hn] at hj ⊢; exact tix_lt s hs b hb j hj)]
  refine pm_eq (fun j hj => ?_)
  rw [hn] at hj
  exact gmul_tix s hs a ha b hb j hj
theorem turnL_frm {s n : Nat} {xs : List Int} (hl : xs.length = n) (hg : gv xs s = true) : turnL xs s = frm s n xs 1 := turnL_pm hg hl
theorem mirL_frm {s n : Nat} {xs : List Int} (hl : xs.length = n) (hg : gv xs s = true) : mirL xs s = frm s n xs 4 := mirL_pm hg hl

/-! names in the order in which they are met. -/
def newAt (xs : List Int) (i : Nat) : Bool := decide (nth xs i ≠ 0) && (List.range i).all fun j => decide (nth xs j ≠ nth xs i)
def cntN (xs : List Int) : Nat → Nat
  | 0 => 0
  | k + 1 => if newAt xs k = true then cntN xs k + 1 else cntN xs k
def nmA (xs : List Int) : Nat → Int → Nat
  | 0, _ => 0
  | k + 1, v => if newAt xs k = true ∧ nth xs k = v then cntN xs k + 1 else nmA xs k v
def rnG (xs : List Int) (k : Nat) : Int := (nmA xs (k + 1) (nth xs k) : Nat)
/-- a list renamed. -/
def rnL (xs : List Int) (n : Nat) : List Int := mapTo (rnG xs) n
theorem rnL_len (xs : List Int) (n : Nat) : (rnL xs n).length = n := mapTo_length _ _
theorem rnL_nth {xs : List Int} {n k : Nat} (h : k < n) : nth (rnL xs n) k = rnG xs k := mapTo_nth h
theorem newAt_iff {xs : List Int} {i : Nat} : newAt xs i = true ↔ nth xs i ≠ 0 ∧ ∀ j, j < i → nth xs j ≠ nth xs i := by
  simp only [newAt, Bool.and_eq_true, decide_eq_true_eq, List.all_eq_true, List.mem_range]
theorem cntN_mono {xs : List Int} {i j : Nat} (h : i ≤ j) : cntN xs i ≤ cntN xs j := by
  induction j with
  | zero => have : i = 0 := by omega
            subst this; exact Nat.le_refl _
  | succ j ih =>
    by_cases e : i = j + 1
    · subst e; exact Nat.le_refl _
    · have := ih (by omega)
      simp only [cntN]; split <;> omega
theorem nmA_zero_iff {xs : List Int} {v : Int} (hv : v ≠ 0) : ∀ k, nmA xs k v = 0 ↔ ∀ i, i < k → nth xs i ≠ v
  | 0 => ⟨fun _ i hi => absurd hi (by omega), fun _ => rfl⟩
  | k + 1 => by
    have ih := nmA_zero_iff (xs := xs) hv k
    simp only [nmA]
    by_cases h : newAt xs k = true ∧ nth xs k = v
    · rw [if_pos h]
      exact ⟨fun e => absurd e (by omega), fun e => absurd h.2 (e k (by omega))⟩
    · rw [if_neg h, ih]
      refine ⟨fun e i hi => ?_, fun e i hi => e i (by omega)⟩
      by_cases hik : i = k
      · subst hik
        intro hiv
        refine h ⟨newAt_iff.2 ⟨by rw [hiv]; exact hv, fun j hj => by rw [hiv]; exact e j hj⟩, hiv⟩
      · exact e i (by omega)
theorem nmA_none {xs : List Int} : ∀ k, nmA xs k 0 = 0
  | 0 => rfl
  | k + 1 => by
    simp only [nmA]
    rw [if_neg (fun h => (newAt_iff.1 h.1).1 h.2)]
    exact nmA_none k
theorem nmA_t {xs : List Int} {k : Nat} {v : Int} (h : newAt xs k = true ∧ nth xs k = v) : nmA xs (k + 1) v = cntN xs k + 1 := by simp only [nmA]; rw [if_pos h]
theorem nmA_f {xs : List Int} {k : Nat} {v : Int} (h : ¬ (newAt xs k = true ∧ nth xs k = v)) : nmA xs (k + 1) v = nmA xs k v := by simp only [nmA]; rw [if_neg h]
theorem newAt_nm {xs : List Int} {k : Nat} : newAt xs k = (decide (nth xs k ≠ 0) && decide (nmA xs k (nth xs k) = 0)) := by
  by_cases h0 : nth xs k = 0
  · simp [newAt, h0]
  · have e := nmA_zero_iff (xs := xs) h0 k
    by_cases h : newAt xs k = true
    · rw [h]
      have := e.2 (newAt_iff.1 h).2
      simp [h0, this]
    · have h' : newAt xs k = false := by simpa using h
      rw [h']
      have : nmA xs k (nth xs k) ≠ 0 := fun z => h (newAt_iff.2 ⟨h0, e.1 z⟩)
      simp [this]
theorem nmA_some {xs : List Int} {v : Int} : ∀ k, nmA xs k v ≠ 0 → ∃ i, i < k ∧ newAt xs i = true ∧ nth xs i = v ∧ nmA xs k v = cntN xs i + 1
  | 0, h => absurd rfl h
  | k + 1, h => by
    simp only [nmA] at h ⊢
    by_cases hc : newAt xs k = true ∧ nth xs k = v
    · rw [if_pos hc]
      exact ⟨k, by omega, hc.1, hc.2, rfl⟩
    · rw [if_neg hc] at h ⊢
      obtain ⟨i, hi, a, b, c⟩ := nmA_some k h
      exact ⟨i, by omega, a, b, c⟩
theorem cntN_new {xs : List Int} {i j : Nat} (hi : newAt xs i = true) (hj : newAt xs j = true) (h : cntN xs i = cntN xs j) : i = j := by
  have key : ∀ a b, a < b → newAt xs a = true → cntN xs a < cntN xs b := fun a b hab ha => by
    have h1 := cntN_mono (xs := xs) (show a + 1 ≤ b by omega)
    simp only [cntN, ha, if_true] at h1
    omega
  rcases Nat.lt_trichotomy i j with h1 | h1 | h1
  · have := key i j h1 hi; omega
  · exact h1
  · have := key j i h1 hj; omega
theorem nmA_inj {xs : List Int} {k : Nat} {u v : Int} (hu : nmA xs k u ≠ 0) (h : nmA xs k u = nmA xs k v) : u = v := by
  obtain ⟨i, _, a, b, c⟩ := nmA_some k hu
  obtain ⟨j, _, a', b', c'⟩ := nmA_some k (by rw [← h]; exact hu)
  have := cntN_new a a' (by omega)
  subst this
  rw [← b, ← b']
/-- a name that is given stays. -/
theorem nmA_stays {xs : List Int} {v : Int} {k m : Nat} (hkm : k ≤ m) (h : nmA xs k v ≠ 0) : nmA xs m v = nmA xs k v := by
  induction m with
  | zero => have : k = 0 := by omega
            subst this; rfl
  | succ m ih =>
    by_cases e : k = m + 1
    · subst e; rfl
    · have ih' := ih (by omega)
      simp only [nmA]
      rw [if_neg, ih']
      rintro ⟨hn, hv⟩
      obtain ⟨i, hi, _, b, _⟩ := nmA_some k h
      exact (newAt_iff.1 hn).2 i (by omega) (by rw [b, hv])
theorem rnG_eq {xs : List Int} {k m : Nat} (h : k < m) : rnG xs k = (nmA xs m (nth xs k) : Nat) := by
  unfold rnG
  by_cases h0 : nth xs k = 0
  · rw [h0, nmA_none, nmA_none]
  · have : nmA xs (k + 1) (nth xs k) ≠ 0 := fun z => ((nmA_zero_iff h0 (k + 1)).1 z) k (by omega) rfl
    rw [nmA_stays (show k + 1 ≤ m by omega) this]
theorem rnG_zero {xs : List Int} {k : Nat} : rnG xs k = 0 ↔ nth xs k = 0 := by
  unfold rnG
  refine ⟨fun h => ?_, fun h => by rw [h, nmA_none]; rfl⟩
  by_cases h0 : nth xs k = 0
  · exact h0
  · have : nmA xs (k + 1) (nth xs k) ≠ 0 := fun z => ((nmA_zero_iff h0 (k + 1)).1 z) k (by omega) rfl
    omega
theorem rnG_same {xs : List Int} {i j : Nat} : rnG xs i = rnG xs j ↔ nth xs i = nth xs j := by
  obtain ⟨m, hm⟩ : ∃ m, m = max (i + 1) (j + 1) := ⟨_, rfl⟩
  rw [rnG_eq (show i < m by omega), rnG_eq (show j < m by omega)]
  refine ⟨fun h => ?_, fun h => by rw [h]⟩
  have h' : nmA xs m (nth xs i) = nmA xs m (nth xs j) := by omega
  by_cases h0 : nmA xs m (nth xs i) = 0
  · have a0 : nth xs i = 0 := by
      by_cases e : nth xs i = 0
      · exact e
      · exact absurd rfl (((nmA_zero_iff e m).1 h0) i (by omega))
    have b0 : nth xs j = 0 := by
      by_cases e : nth xs j = 0
      · exact e
      · exact absurd rfl (((nmA_zero_iff e m).1 (by rw [← h']; exact h0)) j (by omega))
    rw [a0, b0]
  · exact nmA_inj h0 h'
/-- two lists of the same pattern. -/
def SamePat (xs ys : List Int) (n : Nat) : Prop := (∀ i, i < n → (nth xs i = 0 ↔ nth ys i = 0)) ∧ ∀ i j, i < n → j < n → (nth xs i = nth xs j ↔ nth ys i = nth ys j)
theorem SamePat.symm {xs ys : List Int} {n : Nat} (h : SamePat xs ys n) : SamePat ys xs n := ⟨fun i hi => (h.1 i hi).symm, fun i j hi hj => (h.2 i j hi hj).symm⟩
theorem SamePat.pm {xs ys : List Int} {n : Nat} {P : Nat → Nat} (h : SamePat xs ys n) (hP : ∀ k, k < n → P k < n) : SamePat (pm xs P n) (pm ys P n) n :=
  ⟨fun i hi => by rw [pm_nth hi, pm_nth hi]; exact h.1 _ (hP i hi), fun i j hi hj => by rw [pm_nth hi, pm_nth hi, pm_nth hj, pm_nth hj]; exact h.2 _ _ (hP i hi) (hP j hj)⟩
theorem samePat_rn (xs : List Int) (n : Nat) : SamePat xs (rnL xs n) n :=
  ⟨fun i hi => by rw [rnL_nth hi]; exact rnG_zero.symm, fun i j hi hj => by rw [rnL_nth hi, rnL_nth hj]; exact rnG_same.symm⟩
theorem newAt_pat {xs ys : List Int} {n i : Nat} (h : SamePat xs ys n) (hi : i < n) : newAt xs i = newAt ys i := by
  rw [Bool.eq_iff_iff, newAt_iff, newAt_iff]
  refine ⟨fun ⟨a, b⟩ => ⟨fun e => a ((h.1 i hi).2 e), fun j hj e => b j hj ((h.2 j i (by omega) hi).2 e)⟩, fun ⟨a, b⟩ => ⟨fun e => a ((h.1 i hi).1 e), fun j hj e => b j hj ((h.2 j i (by omega) hi).1 e)⟩⟩
theorem cntN_pat {xs ys : List Int} {n : Nat} (h : SamePat xs ys n) : ∀ k, k ≤ n → cntN xs k = cntN ys k
  | 0, _ => rfl
  | k + 1, hk => by simp only [cntN]; rw [cntN_pat h k (by omega), newAt_pat h (by omega)]
theorem nmA_pat {xs ys : List Int} {n j : Nat} (h : SamePat xs ys n) (hj : j < n) : ∀ k, k ≤ n → nmA xs k (nth xs j) = nmA ys k (nth ys j)
  | 0, _ => rfl
  | k + 1, hk => by
    simp only [nmA]
    rw [cntN_pat h k (by omega), newAt_pat h (by omega), nmA_pat h hj k (by omega)]
    by_cases e : newAt ys k = true ∧ nth ys k = nth ys j
    · rw [if_pos e, if_pos ⟨e.1, (h.2 k j (by omega) hj).2 e.2⟩]
    · rw [if_neg e, if_neg (fun q => e ⟨q.1, (h.2 k j (by omega) hj).1 q.2⟩)]
theorem rnL_pat {xs ys : List Int} {n : Nat} (h : SamePat xs ys n) : rnL xs n = rnL ys n := by
  apply ext_nth (by rw [rnL_len, rnL_len])
  intro k hk
  rw [rnL_len] at hk
  rw [rnL_nth hk, rnL_nth hk]
  unfold rnG
  rw [nmA_pat h hk (k + 1) (by omega)]
theorem rnL_rnL (xs : List Int) (n : Nat) : rnL (rnL xs n) n = rnL xs n := (rnL_pat (samePat_rn xs n)).symm
def one4 (xs : List Int) (k : Nat) (v : Int) : Nat := if nmA xs k v = 0 then 0 else 1
theorem cntN_four {xs : List Int} : ∀ k, (∀ i, i < k → 0 ≤ nth xs i ∧ nth xs i ≤ 4) → cntN xs k = one4 xs k 1 + one4 xs k 2 + one4 xs k 3 + one4 xs k 4
  | 0, _ => rfl
  | k + 1, hv => by
    have ih := cntN_four k (fun i hi => hv i (by omega))
    obtain ⟨v0, v4⟩ := hv k (by omega)
    have hnm := newAt_nm (xs := xs) (k := k)
    simp only [cntN]
    by_cases hn : newAt xs k = true
    · rw [if_pos hn, ih]
      rw [hn] at hnm
      have hz : nth xs k ≠ 0 ∧ nmA xs k (nth xs k) = 0 := by simpa using hnm.symm
      have hv4 : nth xs k = 1 ∨ nth xs k = 2 ∨ nth xs k = 3 ∨ nth xs k = 4 := by omega
      have hone : ∀ v, one4 xs (k + 1) v = if nth xs k = v then 1 else one4 xs k v := fun v => by
        unfold one4
        by_cases e : nth xs k = v
        · rw [nmA_t ⟨hn, e⟩, if_pos e, if_neg (by omega)]
        · rw [nmA_f (fun q => e q.2), if_neg e]
      have hz2 : one4 xs k (nth xs k) = 0 := by unfold one4; rw [if_pos hz.2]
      rw [hone, hone, hone, hone]
      rcases hv4 with e | e | e | e <;> rw [e] at hz2 <;> simp [e] <;> omega
    · rw [if_neg hn, ih]
      have hone : ∀ v, one4 xs (k + 1) v = one4 xs k v := fun v => by
        unfold one4
        rw [nmA_f (fun q => hn q.1)]
      rw [hone, hone, hone, hone]
theorem cntN_le {xs : List Int} {s : Int} {k : Nat} (h2 : 2 ≤ s) (h4 : s ≤ 4) (hv : ∀ i, i < k → 0 ≤ nth xs i ∧ nth xs i ≤ s) : (cntN xs k : Int) ≤ s := by
  have e := cntN_four k (fun i hi => ⟨(hv i hi).1, Int.le_trans (hv i hi).2 h4⟩)
  have big : ∀ v : Int, s < v → one4 xs k v = 0 := fun v h => by
    unfold one4
    rw [if_pos]
    exact (nmA_zero_iff (by omega) k).2 (fun i hi e => by have := (hv i hi).2; omega)
  have le1 : ∀ v, one4 xs k v ≤ 1 := fun v => by unfold one4; split <;> omega
  have a1 := le1 1; have a2 := le1 2; have a3 := le1 3; have a4 := le1 4
  have : s = 2 ∨ s = 3 ∨ s = 4 := by omega
  rcases this with rfl | rfl | rfl
  · have b3 := big 3 (by omega); have b4 := big 4 (by omega); omega
  · have b4 := big 4 (by omega); omega
  · omega
theorem nmA_le {xs : List Int} {v : Int} {k : Nat} : nmA xs k v ≤ cntN xs k := by
  by_cases h : nmA xs k v = 0
  · omega
  · obtain ⟨i, hi, a, _, c⟩ := nmA_some k h
    have h1 := cntN_mono (xs := xs) (show i + 1 ≤ k by omega)
    simp only [cntN, a, if_true] at h1
    omega
theorem rnL_gv {xs : List Int} {s : Int} {n : Nat} (hg : gv xs s = true) (hl : xs.length = n) : gv (rnL xs n) s = true := by
  obtain ⟨h2, h4⟩ := gv_size hg
  refine okAll_gv (rnL_len _ _) (gv_n hg hl).2.2 h2 h4 (fun k hk => ?_)
  rw [rnL_nth hk]
  have hc := cntN_le (xs := xs) (k := k + 1) h2 h4 (fun i hi => gv_nth hg (by omega))
  have := nmA_le (xs := xs) (v := nth xs k) (k := k + 1)
  unfold rnG
  omega
end Go.Proofs.YtlnmioijgclndaaDoor
