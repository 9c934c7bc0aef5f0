import Derived.Test.YtjdhfknoldginaaDoorRSv
import Derived.Test.YtjdhfknoldginaaDoorC1
import Derived.Test.YtjdhfknoldginaaDoorRMadeR
import Derived.Laws.Append
import Derived.Test.YtjdhfknoldginaaDoorRSe
import Derived.Test.YtjdhfknoldginaaDoorP5A
import Derived.Test.YtjdhfknoldginaaDoorRC2
import Derived.Deep.RegionHeld3
import Derived.Test.YtjdhfknoldginaaDoorLR
import Derived.Deep.DeepCutAuto
import Derived.Test.YtjdhfknoldginaaDoorRM3
set_option maxRecDepth 8000
namespace Go.Proofs.YtjdhfknoldginaaDoor
open Go.ChangeShapes Go.WideShapes Go.ChangeAt Go.RowKit Go.Shelf
attribute [local go_sem] Oper.semAt_some
/-- how many solutions, but at most most. -/
def csI (s : Int) (n : Nat) (gi : List Int) (rs : List RuleM) (most : Int) : Int := if (pvB s gi rs && inr most 1 600) = true then ((allS s most.toNat n gi rs).length : Nat) else -1
set_option maxHeartbeats 1000000 in
theorem specCountSolutions (s : Int) (Ag : Option Addr) (n cg Bg : Nat) (gi : List Int) (Ar : Option Addr) (nr cr Br : Nat) (rs : List RuleM) (most : Int) (w : World) (hp : PGs w s Ag n cg Bg gi Ar nr cr Br rs) :
    Calls Tryd.prog 30 #[.agg #[.int .i64 s, .slice Ag n cg, .slice Ar nr cr], .int .i64 most] w fun e w' => e = .returned (.int .i64 (csI s n gi rs most)) ∧ Below w.heap.size w w' := by
  have hx0 := pbox_new w s Ag n cg Ar nr cr 26
  have hb0 : Below w.heap.size w (w.alloc (.cells #[.int .i64 s, .slice Ag n cg, .slice Ar nr cr] 26)) := (Below.refl _ _).alloc (Nat.le_refl _) _
  have hs0 : w.heap.size < (w.alloc (.cells #[.int .i64 s, .slice Ag n cg, .slice Ar nr cr] 26)).heap.size := by simp
  obtain ⟨z0, z1, z2⟩ := id hx0
  have HP := Lib.hid (fun w' (hb : Below w.heap.size w w') => specPuzzleValid s Ag n cg Bg gi Ar nr cr Br rs w' (hp.below hb).g (hp.below hb).gB hp.gm (hp.below hb).r (hp.below hb).rB hp.rm)
  cases hv : pvB s gi rs
  · have HL := Lib.hid (show csI s n gi rs most = -1 by simp [csI, hv])
    go_enter Tryd.func30, Tryd.ntmps30
    go_wp2_with (go_at_call 14; refine (HP.out _ hb0).mono ?_; rintro e w1 ⟨rfl, hb1⟩; rw [hv]; have h01 := step hb0 hb1)
    go_ret
    exact ⟨by rw [HL.out]; rfl, h01⟩
  · cases hin : inr most 1 600
    · have HL := Lib.hid (show csI s n gi rs most = -1 by simp [csI, hin])
      go_enter Tryd.func30, Tryd.ntmps30
      go_wp2_with (first
        | (go_at_call 14; refine (HP.out _ hb0).mono ?_; rintro e w1 ⟨rfl, hb1⟩; rw [hv]; have h01 := step hb0 hb1; obtain ⟨c0, c1, c2⟩ := hx0.below hs0 hb1)
        | (go_at_call 57; refine (l1In_any _ _ _ _).mono ?_; rintro e wq ⟨rfl, rfl⟩; rw [hin]))
      go_ret
      exact ⟨by rw [HL.out]; rfl, h01⟩
    · obtain ⟨m1, m6⟩ := inr_t hin
      obtain ⟨M, rfl⟩ := Int.eq_ofNat_of_zero_le (show 0 ≤ most by omega)
      have HL := Lib.hid (show csI s n gi rs (M : Nat) = ((allS s M n gi rs).length : Nat) by simp [csI, hv, hin])
      have HA := Lib.hid (fun w' (hb : Below w.heap.size w w') => specAll s M Ag n cg Bg gi Ar nr cr Br rs w' (hp.below hb) (by omega) (by omega))
      go_enter Tryd.func30, Tryd.ntmps30
      go_wp2_with (first
        | (go_at_call 14; refine (HP.out _ hb0).mono ?_; rintro e w1 ⟨rfl, hb1⟩; rw [hv]; have h01 := step hb0 hb1; obtain ⟨c0, c1, c2⟩ := hx0.below hs0 hb1)
        | (go_at_call 57; refine (l1In_any _ _ _ _).mono ?_; rintro e wq ⟨rfl, rfl⟩; rw [hin])
        | (go_at_call 51; refine (HA.out _ h01).mono ?_; rintro e w2 ⟨P, v, rfl, ⟨A, c, vs, rfl, hown, _, hin2⟩, hb2⟩))
      go_ret
      exact ⟨by rw [HL.out]; rfl, step h01 hb2⟩
theorem cs_take {L : List (List Int)} {M : Nat} (h : L.length < M) : (L.take M).length = L.length := by rw [List.length_take]; omega
set_option maxHeartbeats 2000000 in
theorem implCountSolutions (s : Int) (Ag : Option Addr) (n cg Bg : Nat) (gi : List Int) (Ar : Option Addr) (nr cr Br : Nat) (rs : List RuleM) (most : Int) (w : World) (hp : PGc w s Ag n cg Bg gi Ar nr cr Br rs) (hT : Tz w) :
    Calls Tryd.prog 22 #[.agg #[.int .i64 s, .slice Ag n cg, .slice Ar nr cr], .int .i64 most] w fun e w' => e = .returned (.int .i64 (csI s n gi rs most)) ∧ Below w.heap.size w w' := by
  have hx0 := pbox_new w s Ag n cg Ar nr cr 26
  obtain ⟨W1, hW1⟩ : ∃ W1, w.alloc (.cells #[.int .i64 s, .slice Ag n cg, .slice Ar nr cr] 26) = W1 := ⟨_, rfl⟩
  rw [hW1] at hx0
  have hb1 : Below w.heap.size w W1 := by rw [← hW1]; exact (Below.refl _ _).alloc (Nat.le_refl _) _
  have hs1 : W1.heap.size = w.heap.size + 1 := by rw [← hW1]; simp
  obtain ⟨W2, hW2⟩ : ∃ W2, W1.alloc (.cells #[.int .i64 most] 3) = W2 := ⟨_, rfl⟩
  have hb2 : Below W1.heap.size W1 W2 := by rw [← hW2]; exact (Below.refl _ _).alloc (Nat.le_refl _) _
  have hs2 : W2.heap.size = w.heap.size + 1 + 1 := by rw [← hW2]; simp [hs1]
  have hr2 : W2.heap[w.heap.size + 1]? = some (.cells #[.int .i64 most] 3) := by rw [← hW2, ← hs1]; exact heap_alloc_new _ _
  have hx2 := hx0.below (by omega) hb2
  have hbW : Below w.heap.size w W2 := hb1.trans (hb2.mono (by omega))
  have HV := Lib.hid (valid_any s Ag n cg Bg gi Ar nr cr Br rs W2 (hp.below hbW))
  have HB2 := Lib.hid hbW
  have HX2 := Lib.hid hx2
  have HR2 := Lib.hid hr2
  have hcm := cell_of_row _ _ 0 _ _ (0, 0) hr2
  obtain ⟨z0, z1, z2⟩ := id hx2
  clear hb1 hb2 hr2 hx0 hx2 hbW
  refine (callsIn_wide (n := 9)).1 ?_
  refine callsIn_of_wp_marks Tryd.func22 rfl trivial ?_ rfl
  simp only [Tryd.ntmps22, List.size_toArray, List.length_cons, List.length_nil, Nat.reduceAdd, Nat.reduceSub, Array.replicate_succ, Array.replicate_zero, List.push_toArray, List.append_toArray, List.nil_append, List.cons_append]
  cases hv : pvB s gi rs
  · have H1 := Lib.hid (show csI s n gi rs most = -1 by simp [csI, hv])
    gi_wp2_with ((try refine ⟨trivial, ?_⟩); gi_at_call 40; refine (callsIn_wide.2 HV.out).mono ?_; rintro e w4 ⟨rfl, hb4⟩; rw [hv]; have hm4 := (hb4.cell (p := ⟨w.heap.size + 1, 0, none⟩) (show w.heap.size + 1 < W2.heap.size by omega)).trans hcm)
    exact ⟨_, results_tmp rfl _ _ _, by rw [H1.out]; rfl, step HB2.out hb4⟩
  · by_cases hlo : most < 1
    · have H1 := Lib.hid (show csI s n gi rs most = -1 by
        have : inr most 1 600 = false := by unfold inr; simp; omega
        simp [csI, this])
      gi_wp2_with ((try refine ⟨trivial, ?_⟩); gi_at_call 40; refine (callsIn_wide.2 HV.out).mono ?_; rintro e w4 ⟨rfl, hb4⟩; rw [hv]; have hm4 := (hb4.cell (p := ⟨w.heap.size + 1, 0, none⟩) (show w.heap.size + 1 < W2.heap.size by omega)).trans hcm)
      exact ⟨_, results_tmp rfl _ _ _, by rw [H1.out]; rfl, step HB2.out hb4⟩
    · by_cases hhi : 600 < most
      · have H1 := Lib.hid (show csI s n gi rs most = -1 by
          have : inr most 1 600 = false := by unfold inr; simp; omega
          simp [csI, this])
        gi_wp2_with ((try refine ⟨trivial, ?_⟩); gi_at_call 40; refine (callsIn_wide.2 HV.out).mono ?_; rintro e w4 ⟨rfl, hb4⟩; rw [hv]; have hm4 := (hb4.cell (p := ⟨w.heap.size + 1, 0, none⟩) (show w.heap.size + 1 < W2.heap.size by omega)).trans hcm)
        exact ⟨_, results_tmp rfl _ _ _, by rw [H1.out]; rfl, step HB2.out hb4⟩
      · obtain ⟨t, rfl, hs, hnn, hn16, hok⟩ := pv_grid hv hp.g.1
        have hn : n = t * t := by simp at hs; rcases hs with rfl | rfl | rfl <;> omega
        have hgl := hp.g.1
        have hmr : nr ≤ 20 := by have := (pv_gv hv).2.1; have := hp.r.1; omega
        obtain ⟨M, rfl⟩ := Int.eq_ofNat_of_zero_le (show 0 ≤ most by omega)
        have hM1 : 0 < M := by omega
        have hM6 : M ≤ 600 := by omega
        have H1 := Lib.hid (show csI t n gi rs (M : Nat) = (((cv t gi rs (t * t) []).take M).length : Nat) by
          have : inr (M : Int) 1 600 = true := by unfold inr; simp; omega
          simp only [csI, hv, this, Bool.true_and, if_true, Int.toNat_natCast]
          rw [allS_cv hgl hv hM1 hn])
        have HG := Lib.hid (hp.g.more hp.gB)
        have HR := Lib.hid (hp.r.more hp.rB)
        have HT := Lib.hid (fun X (hb : Below w.heap.size w X) => hT.below hT.lt hb)
        have HN := Lib.hid hn
        have HV2 := Lib.hid hv
        have q1 : decide ((M : Int) < 1) = false := by rw [decide_eq_false_iff_not]; exact hlo
        have q2 : decide ((600 : Int) < (M : Int)) = false := by rw [decide_eq_false_iff_not]; exact hhi
        clear hok hnn hn hgl hp hT hlo hhi
        gi_wp2_with (first
          | ((try refine ⟨trivial, ?_⟩); gi_at_call 40; refine (callsIn_wide.2 HV.out).mono ?_; rintro e w4 ⟨rfl, hb4⟩; rw [hv]; obtain ⟨V5, hV5⟩ : ∃ V5, w4.alloc (.cells #[.int .i64 0] 3) = V5 := ⟨_, rfl⟩; have hvb : Below w4.heap.size w4 V5 := (by rw [← hV5]; exact (Below.refl _ _).alloc (Nat.le_refl _) _); have hvr : V5.heap[w4.heap.size]? = some (.cells #[.int .i64 0] 3) := (by rw [← hV5]; exact heap_alloc_new _ _); have hvc := cell_of_row _ _ 0 _ _ (0, 0) hvr; have hvf := frozen_of_row _ _ 0 _ _ hvr; have hvs : V5.heap.size = w4.heap.size + 1 := (by rw [← hV5]; simp); obtain ⟨W5, hW5⟩ : ∃ W5, V5.setCell ⟨w4.heap.size, 0, none⟩ (.int .i64 0) = W5 := ⟨_, rfl⟩; have hb5 : Below w4.heap.size w4 W5 := (by rw [← hW5]; exact hvb.setCell (p := ⟨w4.heap.size, 0, none⟩) (Nat.le_refl _) _); have hs5 : W5.heap.size = w4.heap.size + 1 := (by rw [← hW5]; simp [World.setCell, hvs]); have hq5 : W5.heap[w4.heap.size]? = some (.cells #[.int .i64 0] 3) := (by rw [← hW5]; exact heap_setCell_same V5 w4.heap.size 0 _ _ _ hvr); have hm4 := (hb4.cell (p := ⟨w.heap.size + 1, 0, none⟩) (show w.heap.size + 1 < W2.heap.size by omega)).trans hcm; have hx5 := ((HX2.out.below (show w.heap.size < W2.heap.size by omega) hb4).below (by have := hb4.size; omega) hb5); obtain ⟨y0, y1, y2⟩ := id hx5)
          | ((try refine ⟨trivial, ?_⟩); gi_at_call 47; refine (callsIn_wide.2 (solutions_any t n Ag cg Ar nr cr W5)).mono ?_; rintro e w6 ⟨PB, rfl, hPl, hpb, hb6⟩))
        have h6 := hb6.size
        have h24 := hb4.size
        have hb26 : Below W2.heap.size W2 w6 := hb4.trans ((hb5.trans (hb6.mono hb5.size)).mono h24)
        have hb06 : Below w.heap.size w w6 := HB2.out.trans (hb26.mono (by omega))
        obtain ⟨CB, hCB⟩ : ∃ CB, CB = w4.heap.size := ⟨_, rfl⟩
        have hq6 : w6.heap[CB]? = some (.cells #[.int .i64 ((0 : Nat) : Int)] 3) := by rw [hCB]; exact (hb6.block _ (by omega)).trans hq5
        have hm6 : w6.heap[w.heap.size + 1]? = some (.cells #[.int .i64 (M : Int)] 3) := (hb26.block _ (by omega)).trans HR2.out
        have hPB := cell_lt hpb.1
        have d1 : CB < w6.heap.size := by omega
        have d2 : w.heap.size + 1 < CB := by omega
        have d3 : CB < PB := by omega
        rw [← hCB]
        clear z0 z1 z2 y0 y1 y2 hx5 hb4 hb5 hb6 hb26 hq5 hm4 hcm hW1 hW2 hW5 hV5 hvb hvr hvc hvf hvs hs1 hs2 hs5 h6 h24 hPl hv HV hCB HB2 HX2 HR2
        obtain ⟨CV, hCV⟩ : ∃ CV, CV = cv t gi rs (t * t) [] := ⟨_, rfl⟩
        have HSq := sols_seq w w.heap.size PB t n Ag cg gi Ar nr cr rs (Nat.le_refl _) hs HN.out HG.out HR.out hmr HV2.out HT.out
        rw [← hCV] at HSq H1
        clear hCV
        refine range_skipP 9 (by rfl) (enters_of Tryd.func82 (by kernel_rfl) rfl) HSq
          (fun pre X => SBase w w.heap.size PB t Ag n cg Ar nr cr X ∧ X.heap[CB]? = some (.cells #[.int .i64 ((pre.length : Nat) : Int)] 3) ∧ pre.length < M ∧ X.heap[w.heap.size + 1]? = some (.cells #[.int .i64 (M : Int)] 3))
          (fun cc X => cc = .exit 0 ∧ Below w.heap.size w X ∧ X.heap[CB]? = some (.cells #[.int .i64 (M : Int)] 3) ∧ M ≤ CV.length)
          (fun pre X h => h.1)
          (fun pre X Y h hb => ⟨⟨h.1.1.trans (hb.mono (by omega)), h.1.2.below hPB hb⟩, (hb.block _ d1).trans h.2.1, h.2.2.1, (hb.block _ (by omega)).trans h.2.2.2⟩)
          (fun cc X o h hX => ⟨h.1, h.2.1.trans (below_put_at _ (by omega) hX), (World.putObj_heap_other (by omega)).trans h.2.2.1, h.2.2.2⟩)
          ⟨⟨hb06, hpb⟩, hq6, hM1, hm6⟩ ?body ?done ?stop
        case body =>
          rintro l pre x X b n' c' ⟨⟨hBX, hpX⟩, hcX, hlt, hmX⟩ ⟨zs, hzs⟩ hbb hXs hrd
          have hlen : (pre ++ [x]).length = pre.length + 1 := by simp
          have hCl : pre.length + 1 ≤ CV.length := by rw [hzs]; simp
          obtain ⟨k, hk⟩ : ∃ k, k = pre.length := ⟨_, rfl⟩
          rw [← hk] at hcX hlt hlen hCl
          have hcc := cell_of_row _ _ 0 _ _ (0, 0) hcX
          have hfc := frozen_of_row _ _ 0 _ _ hcX
          have hcm := cell_of_row _ _ 0 _ _ (0, 0) hmX
          have Hlen := Lib.hid hlen
          have HpX := Lib.hid hpX
          have HBX := Lib.hid hBX
          have HcX := Lib.hid hcX
          have HmX := Lib.hid hmX
          have hk6 : k < 600 := by omega
          clear hlen hpX hBX hcX hmX hrd hzs hk
          simp only [List.setIfInBounds_toArray, List.set_cons_zero, List.set_cons_succ]
          have hm1 : w6.heap.size ≤ X.heap.size := by omega
          have HCl := Lib.hid hCl
          have HE : Hid (∀ v : Int, v = (k : Int) + 1 → (X.setCell ⟨CB, 0, none⟩ (.int .i64 ((k : Int) + 1))).heap[CB]? = some (.cells #[.int .i64 v] 3) ∧ (X.setCell ⟨CB, 0, none⟩ (.int .i64 ((k : Int) + 1))).heap[w.heap.size + 1]? = some (.cells #[.int .i64 (M : Int)] 3) ∧ Below w.heap.size w (X.setCell ⟨CB, 0, none⟩ (.int .i64 ((k : Int) + 1))) ∧ PBox (X.setCell ⟨CB, 0, none⟩ (.int .i64 ((k : Int) + 1))) PB t Ag n cg Ar nr cr) := Lib.hid (fun v hv => by
            subst hv
            have hcell : ∀ i, (X.setCell ⟨CB, 0, none⟩ (.int .i64 ((k : Int) + 1))).cell? ⟨PB, i, none⟩ = X.cell? ⟨PB, i, none⟩ := fun i => World.cell?_of_block (a := ⟨PB, i, none⟩) (heap_setCell_other X ⟨CB, 0, none⟩ PB _ (fun e => by dsimp only at e; omega))
            exact ⟨heap_setCell_same X CB 0 _ _ (.int .i64 ((k : Int) + 1)) HcX.out, (heap_setCell_other X ⟨CB, 0, none⟩ (w.heap.size + 1) _ (fun e => by dsimp only at e; omega)).trans HmX.out, HBX.out.setCell (p := ⟨CB, 0, none⟩) (by show w.heap.size ≤ CB; omega) _, (hcell 0).trans HpX.out.1, (hcell 1).trans HpX.out.2.1, (hcell 2).trans HpX.out.2.2⟩)
          have HM := Lib.hid (Mid.setCell w6.heap.size CB 0 X (.int .i64 ((k : Int) + 1)) d1)
          by_cases e : k + 1 = M
          · have hq : ((k : Int) + 1 == (M : Int)) = true := by rw [beq_iff_eq]; omega
            have he := Lib.hid e
            clear e hlt hCl
            gi_wp2
            obtain ⟨e1, e2, e3, e4⟩ := HE.out M (by have := he.out; omega)
            exact ⟨HM.out, rfl, e3, e1, by have := he.out; have := HCl.out; omega⟩
          · have hq : ((k : Int) + 1 == (M : Int)) = false := by rw [beq_eq_false_iff_ne]; omega
            have he := Lib.hid e
            have hl := Lib.hid hlt
            clear e hlt hCl
            gi_wp2
            obtain ⟨e1, e2, e3, e4⟩ := HE.out (((pre ++ [x]).length : Nat) : Int) (by rw [Hlen.out]; omega)
            exact ⟨HM.out, ⟨e3, e4⟩, e1, by rw [Hlen.out]; have := he.out; have := hl.out; omega, e2⟩
        case done =>
          rintro D W hD ⟨⟨hBX, _⟩, hcX, hlt, _⟩ hK
          have hcc := cell_of_row _ _ 0 _ _ (0, 0) hcX
          have H2 := Lib.hid (show (CV.take M).length = CV.length from cs_take hlt)
          clear hlt
          gi_wp2
          refine ⟨by simp, .inl ⟨_, _, rfl, run_takeDeferred hK, ?_⟩⟩
          exact ⟨_, results_tmp rfl _ _ _, by rw [H1.out, H2.out]; rfl, hBX.trans (below_put _ (by omega) hK)⟩
        case stop =>
          rintro D cc W hD ⟨rfl, hBX, hcX, hM⟩ hK
          have hcc := cell_of_row _ _ 0 _ _ (0, 0) hcX
          have H2 := Lib.hid (show (CV.take M).length = M by rw [List.length_take]; omega)
          clear hM
          gi_wp2
          refine ⟨by simp, .inl ⟨_, _, rfl, run_takeDeferred hK, ?_⟩⟩
          exact ⟨_, results_tmp rfl _ _ _, by rw [H1.out, H2.out]; rfl, hBX.trans (below_put _ (by omega) hK)⟩
end Go.Proofs.YtjdhfknoldginaaDoor
set_option maxRecDepth 8000
namespace Go.Proofs.YtjdhfknoldginaaDoor
open Go.ChangeShapes Go.WideShapes Go.ChangeAt Go.RowKit
/-! 'append([]int{}, t...)', 'append([]impl.Rule{}, t...)': nothing that lay there changes, wherever the empty literal lies. -/
theorem below_none {w w' : World} (h : w.grownBy w' none) : Below w.heap.size w w' := ⟨h.os, h.tape, h.output, h.size, fun k hk => h.block k hk (by simp)⟩
theorem fresh_same {e t : TypeId} (ty : TypeId) {i0 : TypeInfo} {z : Value} (ht : Tryd.prog.underlying t = some (.slice e)) (hi : Tryd.prog.info? e = some i0) (hz : i0.zero = some z) {w : World} (b : Nat) (ad : Addr) (m c2 : Nat) (news : List Value) (hl : news.length = m * i0.size) (hnews : ∀ j u, news[j]? = some u → w.cell? (ad.add j) = some u)
    (hm : 0 < m) (h63 : (m : Int) ≤ 9223372036854775807) (hfit : m * i0.bytes ≤ 281474976710656) :
    (Builtin.append_ #[t, t] ty #[.slice (some ⟨b, 0, none⟩) 0 0, .slice (some ad) m c2]).run Tryd.prog w = (Builtin.append_ #[t, t] ty #[.slice none 0 0, .slice (some ad) m c2]).run Tryd.prog w := by
  rw [run_append_grow w t ty e i0 z ht hi hz ⟨b, 0, none⟩ 0 0 [] (by simp) (by simp) ad m c2 news hl hnews (by omega) (by simpa using h63) (by rw [Nat.zero_add, nextslicecap_zero hm]; exact hfit)]
  rw [run_append_nil w t ty e i0 z ht hi hz ad m c2 news hl hnews (by omega) h63 hfit]
  simp
theorem fresh_ints {w : World} (ty : TypeId) (b : Nat) (A2 : Option Addr) (m c2 B : Nat) (ys : List Int) (hr : Rd w B A2 m ys) (h0 : 0 < m) (hm : m ≤ 1099511627776) :
    ∃ A' c' w', (Builtin.append_ #[23, 23] ty #[.slice (some ⟨b, 0, none⟩) 0 0, .slice A2 m c2]).run Tryd.prog w = .ok (.slice A' m c') w' ∧ Ow w' w.heap.size A' m c' ys ∧ Below w.heap.size w w' := by
  obtain ⟨i0, hi, hz0, hz1, hz2⟩ := info_parts int_info
  obtain ⟨A', c', w', hrun, h1, h2, _⟩ := run_push_all ty w.heap.size none 0 0 [] A2 m c2 B ys (Ow.nil_ _ _) hr (.inr rfl) (by omega) hm (Nat.le_refl _)
  obtain ⟨b2, off, rfl, _, _⟩ := hr.at_ h0
  rw [Nat.zero_add] at hrun h1
  rw [List.nil_append] at h1
  exact ⟨A', c', w', (fresh_same ty Tryd.underlying23 hi hz0 b _ m c2 (vals ys) (by rw [vals_length, hr.1, hz1]; omega) hr.news h0 (by omega) (by rw [hz2]; omega)).trans hrun, h1, below_none h2⟩
theorem fresh_rulesV {w : World} (ty : TypeId) (b : Nat) (A2 : Option Addr) (m c2 lo lo2 : Nat) (rs2 : List RuleM) (vs2 : List Value) (hl2 : rs2.length = m) (hown2 : w.ownsRow lo2 61 3 (.slice A2 m c2) m vs2) (hin2 : InR w lo (.slice none 0 0) rs2 vs2 m)
    (hlit : w.heap[b]? = some (.cells #[] 61)) (hb : lo ≤ b) (hm : m ≤ 1099511627776) (hlo : lo ≤ w.heap.size) :
    ∃ A' c' w', (Builtin.append_ #[24, 24] ty #[.slice (some ⟨b, 0, none⟩) 0 0, .slice A2 m c2]).run Tryd.prog w = .ok (.slice A' m c') w' ∧ (w'.ownsRow lo 61 3 (.slice A' m c') m vs2 ∧ InR w' lo (.slice A' m c') rs2 vs2 m) ∧ Below w.heap.size w w' := by
  obtain ⟨i0, hi, hz0, hz1, hz2⟩ := info_parts rule_parts
  by_cases h0 : 0 < m
  · obtain ⟨A', c', w', hrun, h1, h2, _⟩ := run_push_rulesV ty lo none 0 0 [] [] A2 m c2 rs2 vs2 lo2 rfl (World.ownsRow_nil _ _ _ _) (fun i hi => absurd hi (by omega)) hown2 hin2 (.inl h0) (by omega) hm hlo
    obtain ⟨hvl2, hcase⟩ := id hown2
    rcases hcase with ⟨_, h00⟩ | ⟨g2, cap2, cur, hv, _, hrow, q1, q2, q3, q4⟩
    · omega
    · injection hv with e1 _ e2
      subst e1
      have hcell : ∀ j u, vs2[j]? = some u → w.cell? ((⟨g2, 0, none⟩ : Addr).add j) = some u := fun j u hj => by
        have hadd : (⟨g2, 0, none⟩ : Addr).add j = ⟨g2, j, none⟩ := by unfold Addr.add; split <;> simp_all
        rw [hadd, cell_of_row w g2 j cur _ _ hrow]
        rw [← q4, List.getElem?_take] at hj
        split at hj
        · simpa using hj
        · cases hj
      rw [Nat.zero_add] at hrun h1
      rw [List.nil_append, List.nil_append] at h1
      exact ⟨A', c', w', (fresh_same ty Tryd.underlying24 hi hz0 b _ m c2 vs2 (by rw [hvl2, hz1]) hcell h0 (by omega) (by rw [hz2]; omega)).trans hrun, h1, below_none h2⟩
  · obtain rfl : m = 0 := by omega
    have hsrc : Go.Src Tryd.prog i0.size 24 (.slice A2 0 c2) 0 [] w := by
      cases A2 with
      | none => exact Go.Src.ofNil w Tryd.underlying24 c2
      | some a => exact Go.Src.ofSlice w Tryd.underlying24 a 0 c2 [] (by simp) (fun j u hj => by simp at hj) (fun u hu => by simp at hu)
    refine ⟨some ⟨b, 0, none⟩, 0, w, run_append_nothing w 24 24 ty 61 i0 Tryd.underlying24 hi (some ⟨b, 0, none⟩) 0 0 (Nat.zero_le _) _ hsrc, ⟨by rw [show vs2 = [] from List.eq_nil_of_length_eq_zero (by rw [hown2.1, Nat.zero_mul])]; exact ⟨by simp, .inr ⟨b, 0, #[], rfl, hb, hlit, Nat.le_refl _, by simp [maxLen], by simp, by simp⟩⟩, fun i hi => absurd hi (by omega)⟩, Below.refl _ _⟩
theorem fresh_rules {w : World} (ty : TypeId) (b : Nat) (A2 : Option Addr) (m c2 lo lo2 : Nat) (rs2 : List RuleM) (vs2 : List Value) (hl2 : rs2.length = m) (hown2 : w.ownsRow lo2 61 3 (.slice A2 m c2) m vs2) (hin2 : InR w lo (.slice none 0 0) rs2 vs2 m)
    (hlit : w.heap[b]? = some (.cells #[] 61)) (hb : lo ≤ b) (hm : m ≤ 1099511627776) (hlo : lo ≤ w.heap.size) :
    ∃ A' c' w', (Builtin.append_ #[24, 24] ty #[.slice (some ⟨b, 0, none⟩) 0 0, .slice A2 m c2]).run Tryd.prog w = .ok (.slice A' m c') w' ∧ OwR w' lo (.slice A' m c') rs2 m ∧ Below w.heap.size w w' := by
  obtain ⟨A', c', w', hrun, ⟨k1, k2⟩, k3⟩ := fresh_rulesV ty b A2 m c2 lo lo2 rs2 vs2 hl2 hown2 hin2 hlit hb hm hlo
  exact ⟨A', c', w', hrun, ⟨_, k1, k2⟩, k3⟩
/-- at steps of a region that draws its order. -/
theorem step_fresh_ints {w : World} {ops : Array Oper} {o : Oper} {a : Act} {K : Act → World → Prop} {Q : Exit → Act → World → Prop} {E : Prop} (hgd : o.guard = none) (s x : Operand)
    (ho : o.op = .call { callee := .builtin .append, args := #[s, x], argTypes := #[23, 23] })
    (b : Nat) (A2 : Option Addr) (m c2 B : Nat) (ys : List Int) (hs : a.eval s = .slice (some ⟨b, 0, none⟩) 0 0) (hx : a.eval x = .slice A2 m c2) (hr : Rd w B A2 m ys) (h0 : 0 < m) (hm : m ≤ 1099511627776)
    (h : ∀ A' c' w', Ow w' w.heap.size A' m c' ys → Below w.heap.size w w' → K (a.put o.dst (.slice A' m c')) w') :
    if Region.wanted o (yielded ops a.tmps) = true then Oper.wp Tryd.prog o a w K Q else E := by
  obtain ⟨A', c', w', hrun, h1, h2⟩ := fresh_ints o.type b A2 m c2 B ys hr h0 hm
  have hw : Region.wanted o (yielded ops a.tmps) = true := by simp [Region.wanted, hgd]
  rw [if_pos hw]
  unfold Oper.wp execOp
  simp only [ho, resolve, invoke, builtin, Sem.run_bind, Sem.run_pure, Result.andThen_ok, List.map_toArray, List.map_cons, List.map_nil, hs, hx, hrun]
  exact h A' c' w' h1 h2
theorem step_fresh_rules {w : World} {ops : Array Oper} {o : Oper} {a : Act} {K : Act → World → Prop} {Q : Exit → Act → World → Prop} {E : Prop} (hgd : o.guard = none) (s x : Operand)
    (ho : o.op = .call { callee := .builtin .append, args := #[s, x], argTypes := #[24, 24] })
    (b : Nat) (A2 : Option Addr) (m c2 lo lo2 : Nat) (rs2 : List RuleM) (vs2 : List Value) (hs : a.eval s = .slice (some ⟨b, 0, none⟩) 0 0) (hx : a.eval x = .slice A2 m c2) (hl2 : rs2.length = m) (hown2 : w.ownsRow lo2 61 3 (.slice A2 m c2) m vs2) (hin2 : InR w lo (.slice none 0 0) rs2 vs2 m)
    (hlit : w.heap[b]? = some (.cells #[] 61)) (hb : lo ≤ b) (hm : m ≤ 1099511627776) (hlo : lo ≤ w.heap.size)
    (h : ∀ A' c' w', OwR w' lo (.slice A' m c') rs2 m → Below w.heap.size w w' → K (a.put o.dst (.slice A' m c')) w') :
    if Region.wanted o (yielded ops a.tmps) = true then Oper.wp Tryd.prog o a w K Q else E := by
  obtain ⟨A', c', w', hrun, h1, h2⟩ := fresh_rules o.type b A2 m c2 lo lo2 rs2 vs2 hl2 hown2 hin2 hlit hb hm hlo
  have hw : Region.wanted o (yielded ops a.tmps) = true := by simp [Region.wanted, hgd]
  rw [if_pos hw]
  unfold Oper.wp execOp
  simp only [ho, resolve, invoke, builtin, Sem.run_bind, Sem.run_pure, Result.andThen_ok, List.map_toArray, List.map_cons, List.map_nil, hs, hx, hrun]
  exact h A' c' w' h1 h2
end Go.Proofs.YtjdhfknoldginaaDoor
set_option maxRecDepth 8000
namespace Go.Proofs.YtjdhfknoldginaaDoor
open Go.ChangeShapes Go.WideShapes Go.ChangeAt Go.RowKit

theorem OwR.far {w w' : World} {lo n c : Nat} {A : Option Addr} {rs : List RuleM} {row : Option Nat} (h : OwR w lo (.slice A n c) rs n) (hg : w.grownBy w' row) (hr : ∀ g, row = some g → g < lo) : OwR w' lo (.slice A n c) rs n := by
  obtain ⟨vs, hown, hin⟩ := h
  refine ⟨vs, World.ownsRow.kept hown hg (by
    cases e : (Value.slice A n c).ownBlock with
    | none => exact .inl rfl
    | some g => exact .inr (fun he => by have h1 := (World.ownsRow.lt hown g e).1; have h2 := hr g he.symm; omega)), fun i hi => ?_⟩
  obtain ⟨A', c', e0, e1, e2, e3, e4, e5⟩ := hin i hi
  exact ⟨A', c', e0, e1, e2, e3.far hg (fun g hgg e => by have h1 := e3.own_lo g hgg; have h2 := hr g e; omega), e4, e5⟩
theorem lt_set5 {a : Nat} {w : World} {p : Addr} {v : Value} (h : a < w.heap.size) : a < (w.setCell p v).heap.size := by rw [World.size_setCell]; exact h
theorem grown_row {w : World} {g : Nat} {cs : Array Value} : w.grownBy (w.setRow g cs) (some g) :=
  ⟨rfl, rfl, rfl, by simp, fun k hk hne => by unfold World.setRow; simp only [Array.getElem?_modify]; rw [if_neg (fun e => hne (by rw [e]))]⟩
theorem OwR.mono {w : World} {lo lo' n : Nat} {v : Value} {rs : List RuleM} (h : OwR w lo v rs n) (hl : lo' ≤ lo) : OwR w lo' v rs n := by
  obtain ⟨vs, hown, hin⟩ := h
  refine ⟨vs, World.ownsRow.mono hown hl, fun i hi => ?_⟩
  obtain ⟨A', c', e0, e1, e2, e3, e4, e5⟩ := hin i hi
  exact ⟨A', c', e0, e1, e2, e3.mono hl, e4, e5⟩
set_option maxHeartbeats 1000000 in
theorem specOwnPuzzle (s : Int) (Ag : Option Addr) (n cg Bg : Nat) (gi : List Int) (Ar : Option Addr) (nr cr Br : Nat) (rs : List RuleM) (w : World) (hg : Rd w Bg Ag n gi) (hBg : Bg ≤ w.heap.size) (hm : n ≤ 1099511627776) (hr : RdRs w Br Ar nr rs) (hBr : Br ≤ w.heap.size) (hmr : nr ≤ 1099511627775) :
    Calls Tryd.prog 104 #[.agg #[.int .i64 s, .slice Ag n cg, .slice Ar nr cr]] w fun e w' => ∃ A1 c1 A2 c2, e = .returned (.agg #[.int .i64 s, .slice A1 n c1, .slice A2 nr c2]) ∧ Ow w' w.heap.size A1 n c1 gi ∧ OwR w' w.heap.size (.slice A2 nr c2) rs nr ∧ Below w.heap.size w w' := by
  have Hone := Lib.hid puz_one
  have Hi := Lib.hid puz_info
  have hx0 := pbox_new w s Ag n cg Ar nr cr 26
  have hb0 : Below w.heap.size w (w.alloc (.cells #[.int .i64 s, .slice Ag n cg, .slice Ar nr cr] 26)) := (Below.refl _ _).alloc (Nat.le_refl _) _
  have hs0 : w.heap.size < (w.alloc (.cells #[.int .i64 s, .slice Ag n cg, .slice Ar nr cr] 26)).heap.size := by simp
  obtain ⟨V, hV⟩ : ∃ V, V = ((w.alloc (.cells #[.int .i64 s, .slice Ag n cg, .slice Ar nr cr] 26)).alloc (.cells #[.int .i64 0, .slice none 0 0, .slice none 0 0] 26)).alloc (.cells #[.int .i64 s, .slice Ag n cg, .slice Ar nr cr] 26) := ⟨_, rfl⟩
  have hbV : Below w.heap.size w V := by rw [hV]; exact (hb0.alloc hb0.size _).alloc (by simp; omega) _
  have hsV : V.heap.size = w.heap.size + 1 + 1 + 1 := by rw [hV]; simp
  have hv2 : V.heap[w.heap.size + 1 + 1]? = some (.cells #[.int .i64 s, .slice Ag n cg, .slice Ar nr cr] 26) := by
    have := heap_alloc2_new (w.alloc (.cells #[.int .i64 s, .slice Ag n cg, .slice Ar nr cr] 26)) (.cells #[.int .i64 0, .slice none 0 0, .slice none 0 0] 26) (.cells #[.int .i64 s, .slice Ag n cg, .slice Ar nr cr] 26)
    rw [World.size_alloc] at this
    rw [hV]
    exact this
  have hv1 : V.heap[w.heap.size + 1]? = some (.cells #[.int .i64 0, .slice none 0 0, .slice none 0 0] 26) := by
    have := heap_alloc2_old (w.alloc (.cells #[.int .i64 s, .slice Ag n cg, .slice Ar nr cr] 26)) (.cells #[.int .i64 0, .slice none 0 0, .slice none 0 0] 26) (.cells #[.int .i64 s, .slice Ag n cg, .slice Ar nr cr] 26)
    rw [World.size_alloc] at this
    rw [hV]
    exact this
  have hv0 : V.cell? ⟨w.heap.size, 2, none⟩ = some (.slice Ar nr cr) := by
    rw [hV]
    exact (hx0.below hs0 (((Below.refl _ _).alloc (Nat.le_refl _) _).alloc (by simp) _)).2.2
  have HO : Hid (Ow (V.alloc (.cells #[] 3)) (w.heap.size + 1 + 1 + 1) (some ⟨w.heap.size + 1 + 1 + 1, 0, none⟩) 0 0 []) := Lib.hid (by
    have := Ow.made0 V (w.heap.size + 1 + 1 + 1) (by omega)
    rw [hsV] at this
    exact this)
  have hbO : Below V.heap.size V (V.alloc (.cells #[] 3)) := (Below.refl _ _).alloc (Nat.le_refl _) _
  have hwV : w.heap.size ≤ V.heap.size := by omega
  have HR := Lib.hid ((hg.below (hbV.mono hBg)).below (hbO.mono (Nat.le_trans hBg hwV)))
  have hsO : w.heap.size + 1 + 1 + 1 ≤ (V.alloc (.cells #[] 3)).heap.size := by simp; omega
  have hwV0 : w.heap.size < V.heap.size := by omega
  have hwV1 : w.heap.size + 1 < V.heap.size := by omega
  have hwV2 : w.heap.size + 1 + 1 < V.heap.size := by omega
  have hne12 : w.heap.size + 1 ≠ w.heap.size + 1 + 1 := by omega
  have hne02 : w.heap.size ≠ w.heap.size + 1 + 1 := by omega
  have hle2 : w.heap.size ≤ w.heap.size + 1 + 1 := by omega
  have HS := Lib.hid (fun w' (hb : Below w.heap.size w w') => specOwnRules Ar nr cr Br rs w' (hr.below (hb.mono hBr)) (Nat.le_trans hBr hb.size) hmr)
  have HV := Lib.hid hV
  clear hV
  go_enter Tryd.func104, Tryd.ntmps104
  go_wp2_with (first
    | (at_builtin; (rw [← HV.out]); (refine push_new rfl (.tmp 5) (.tmp 7) rfl (w.heap.size + 1 + 1 + 1) (some ⟨w.heap.size + 1 + 1 + 1, 0, none⟩) Ag n cg Bg gi rfl rfl HO.out HR.out hm hsO ?_); intro A1 c1 w1 ho1 hg1; have hbw1 : Below V.heap.size V w1 := hbO.grown hg1 hbO.size (fun k hk => Nat.le_trans (Nat.le_of_eq hsV) (HO.out.own_lo k hk)); have hs1 := Nat.le_trans (Nat.le_of_lt hwV2) hbw1.size; have f1 := (hbw1.block (w.heap.size + 1) hwV1).trans hv1; have f2 := (hbw1.block (w.heap.size + 1 + 1) hwV2).trans hv2; have f0 := (hbw1.cell (p := ⟨w.heap.size, 2, none⟩) hwV0).trans hv0; have g1 := (heap_setCell_other w1 ⟨w.heap.size + 1 + 1, 1, none⟩ (w.heap.size + 1) (.slice A1 n c1) hne12).trans f1; have g2 : (w1.setCell ⟨w.heap.size + 1 + 1, 1, none⟩ (.slice A1 n c1)).heap[w.heap.size + 1 + 1]? = some (.cells #[.int .i64 s, .slice A1 n c1, .slice Ar nr cr] 26) := heap_setCell_same w1 (w.heap.size + 1 + 1) 1 _ _ (.slice A1 n c1) f2; (have fz := frozen_of_row w1 (w.heap.size + 1 + 1) 1 _ _ f2); have m1 : w1.cell? ⟨w.heap.size + 1 + 1, 1, none⟩ = some (.slice Ag n cg) := cell_of_row _ _ 1 _ _ (0, 0) f2; have g0 := (cell_other5 (k := 1) (v := .slice A1 n c1) hne02).trans f0; have l1 : w.heap.size + 1 < (w1.setCell ⟨w.heap.size + 1 + 1, 1, none⟩ (.slice A1 n c1)).heap.size := lt_set5 (Nat.lt_of_lt_of_le hwV1 hbw1.size); have l2 : w.heap.size + 1 + 1 < (w1.setCell ⟨w.heap.size + 1 + 1, 1, none⟩ (.slice A1 n c1)).heap.size := lt_set5 (Nat.lt_of_lt_of_le hwV2 hbw1.size); have hB2 := (hbV.trans (hbw1.mono hwV)).setCell hle2 (.slice A1 n c1) (p := ⟨w.heap.size + 1 + 1, 1, none⟩))
    | (go_at_call 126; (refine (HS.out _ hB2).mono ?_); rintro e w3 ⟨A2, c2, rfl, ho2, hb3⟩; have h1 := (hb3.block (w.heap.size + 1) l1).trans g1; have h2 := (hb3.block (w.heap.size + 1 + 1) l2).trans g2; have fz3 := frozen_of_row w3 (w.heap.size + 1 + 1) 2 _ _ h2; have m5 : w3.cell? ⟨w.heap.size + 1 + 1, 0, none⟩ = some (.int .i64 s) := cell_of_row _ _ 0 _ _ (0, 0) h2; have m6 : w3.cell? ⟨w.heap.size + 1 + 1, 1, none⟩ = some (.slice A1 n c1) := cell_of_row _ _ 1 _ _ (0, 0) h2; have m7 : w3.cell? ⟨w.heap.size + 1 + 1, 2, none⟩ = some (.slice Ar nr cr) := cell_of_row _ _ 2 _ _ (0, 0) h2; have i1 := (heap_setCell_other w3 ⟨w.heap.size + 1 + 1, 2, none⟩ (w.heap.size + 1) (.slice A2 nr c2) hne12).trans h1; have i2 : (w3.setCell ⟨w.heap.size + 1 + 1, 2, none⟩ (.slice A2 nr c2)).heap[w.heap.size + 1 + 1]? = some (.cells #[.int .i64 s, .slice A1 n c1, .slice A2 nr c2] 26) := heap_setCell_same w3 (w.heap.size + 1 + 1) 2 _ _ (.slice A2 nr c2) h2; have k5 : (w3.setCell ⟨w.heap.size + 1 + 1, 2, none⟩ (.slice A2 nr c2)).cell? ⟨w.heap.size + 1 + 1, 0, none⟩ = some (.int .i64 s) := cell_of_row _ _ 0 _ _ (0, 0) i2; have k6 : (w3.setCell ⟨w.heap.size + 1 + 1, 2, none⟩ (.slice A2 nr c2)).cell? ⟨w.heap.size + 1 + 1, 1, none⟩ = some (.slice A1 n c1) := cell_of_row _ _ 1 _ _ (0, 0) i2; have k7 : (w3.setCell ⟨w.heap.size + 1 + 1, 2, none⟩ (.slice A2 nr c2)).cell? ⟨w.heap.size + 1 + 1, 2, none⟩ = some (.slice A2 nr c2) := cell_of_row _ _ 2 _ _ (0, 0) i2)
    | (refine wpList_store_row rfl 26 _ _ rfl (w.heap.size + 1) #[.int .i64 s, .slice A1 n c1, .slice A2 nr c2] rfl rfl 26 #[.int .i64 0, .slice none 0 0, .slice none 0 0] i1 (Hi.out _ _ _ _ _ _ _) rfl (Hone.out _ _ _ _ _ _ _) ?_))
  have hs1' := hbw1.size
  have hs3 := hb3.size
  rw [World.size_setCell] at hs3
  have hBe : Below w.heap.size w ((w3.setCell ⟨w.heap.size + 1 + 1, 2, none⟩ (.slice A2 nr c2)).setRow (w.heap.size + 1) #[.int .i64 s, .slice A1 n c1, .slice A2 nr c2]) := setRow_below5 ((step hB2 hb3).setCell (show w.heap.size ≤ w.heap.size + 1 + 1 by omega) _) (by omega)
  have ho1' : Ow (w1.setCell ⟨w.heap.size + 1 + 1, 1, none⟩ (.slice A1 n c1)) (w.heap.size + 1 + 1 + 1) A1 n c1 gi := ho1.far (row := some (w.heap.size + 1 + 1)) grown_set (fun b hb e => by have := ho1.own_lo b hb; injection e with e; omega)
  have ho3 := ho1'.below hb3
  have ho4 : Ow (w3.setCell ⟨w.heap.size + 1 + 1, 2, none⟩ (.slice A2 nr c2)) (w.heap.size + 1 + 1 + 1) A1 n c1 gi := ho3.far (row := some (w.heap.size + 1 + 1)) grown_set (fun b hb e => by have := ho1.own_lo b hb; injection e with e; omega)
  have ho5 : OwR (w3.setCell ⟨w.heap.size + 1 + 1, 2, none⟩ (.slice A2 nr c2)) (w1.setCell ⟨w.heap.size + 1 + 1, 1, none⟩ (.slice A1 n c1)).heap.size (.slice A2 nr c2) rs nr := ho2.far (row := some (w.heap.size + 1 + 1)) grown_set (fun b e => by injection e with e; omega)
  refine bodyPost_ret (v := .agg #[.int .i64 s, .slice A1 n c1, .slice A2 nr c2]) (results_cell_row (by rfl) _ _ (w.heap.size + 1) 26 _ (0, 0) _ rfl (setRow_heap _ _ _ _ _ _ i1) Tryd.underlying26 rfl (Hi.out _ _ _ _ _ _ _)) rfl ⟨_, _, _, _, rfl, (ho4.row5 (fun b hb => ?_)).mono (by omega), (ho5.far (row := some (w.heap.size + 1)) grown_row (fun b e => ?_)).mono (by rw [World.size_setCell]; omega), hBe⟩
  · have := ho4.own_lo b hb
    omega
  · injection e with e
    omega
end Go.Proofs.YtjdhfknoldginaaDoor
set_option maxRecDepth 8000
namespace Go.Proofs.YtjdhfknoldginaaDoor
open Go.ChangeShapes Go.WideShapes Go.ChangeAt Go.RowKit


def oneB (s : Int) (n : Nat) (gi : List Int) (rs : List RuleM) : Bool := (allS s 2 n gi rs).length == 1
set_option maxHeartbeats 1000000 in
theorem specOne (s : Int) (Ag : Option Addr) (n cg Bg : Nat) (gi : List Int) (Ar : Option Addr) (nr cr Br : Nat) (rs : List RuleM) (w : World) (hp : PGs w s Ag n cg Bg gi Ar nr cr Br rs) :
    Calls Tryd.prog 105 #[.agg #[.int .i64 s, .slice Ag n cg, .slice Ar nr cr]] w fun e w' => e = .returned (.bool (oneB s n gi rs)) ∧ Below w.heap.size w w' := by
  have hx0 := pbox_new w s Ag n cg Ar nr cr 26
  have hb0 : Below w.heap.size w (w.alloc (.cells #[.int .i64 s, .slice Ag n cg, .slice Ar nr cr] 26)) := (Below.refl _ _).alloc (Nat.le_refl _) _
  have HA := Lib.hid (fun w' (hb : Below w.heap.size w w') => (show Calls Tryd.prog 51 #[.agg #[.int .i64 s, .slice Ag n cg, .slice Ar nr cr], .int .i64 2] w' _ from specAll s 2 Ag n cg Bg gi Ar nr cr Br rs w' (hp.below hb) (by omega) (by omega)))
  have hL := allS_len s 2 n gi rs (by omega)
  have HQ := Lib.hid (show (((allS s 2 n gi rs).length : Int) == 1) = oneB s n gi rs by
    unfold oneB
    rw [Bool.eq_iff_iff]
    simp only [beq_iff_eq]
    omega)
  go_enter Tryd.func105, Tryd.ntmps105
  go_wp2_with (go_at_call 51; (refine (HA.out _ hb0).mono ?_); rintro e w1 ⟨P, v, rfl, hrows, hb1⟩; obtain ⟨A1, c1, vs, rfl, _⟩ := hrows)
  go_ret
  exact ⟨by rw [HQ.out]; rfl, step hb0 hb1⟩
set_option maxHeartbeats 1000000 in
theorem specWithout (s : Int) (Ag : Option Addr) (n cg Bg : Nat) (gi : List Int) (Ar : Option Addr) (nr cr : Nat) (k : Nat) (w : World) (hg : Rd w Bg Ag n gi) (hB : Bg ≤ w.heap.size) (hm : n ≤ 1099511627776) (hk : k < n) :
    Calls Tryd.prog 107 #[.agg #[.int .i64 s, .slice Ag n cg, .slice Ar nr cr], .int .i64 k] w fun e w' => ∃ A' c', e = .returned (.agg #[.int .i64 s, .slice A' n c', .slice Ar nr cr]) ∧ Ow w' w.heap.size A' n c' (gi.set k 0) ∧ Below w.heap.size w w' := by
  have hx0 := pbox_new w s Ag n cg Ar nr cr 26
  have hb0 : Below w.heap.size w (w.alloc (.cells #[.int .i64 s, .slice Ag n cg, .slice Ar nr cr] 26)) := (Below.refl _ _).alloc (Nat.le_refl _) _
  have hs0 : w.heap.size < (w.alloc (.cells #[.int .i64 s, .slice Ag n cg, .slice Ar nr cr] 26)).heap.size := by simp
  obtain ⟨b, off, rfl, hbB, _⟩ := hg.at_ hk
  have hn0 : 0 < n := by omega
  obtain ⟨V, hV⟩ : ∃ V, V = (w.alloc (.cells #[.int .i64 s, .slice (some ⟨b, off, none⟩) n cg, .slice Ar nr cr] 26)).alloc (.cells #[.int .i64 0, .slice none 0 0, .slice none 0 0] 26) := ⟨_, rfl⟩
  have hbV : Below w.heap.size w V := by rw [hV]; exact hb0.alloc hb0.size _
  have hsV : V.heap.size = w.heap.size + 1 + 1 := by rw [hV]; simp
  have hwV : w.heap.size < V.heap.size := by omega
  have hwV1 : w.heap.size + 1 < V.heap.size := by omega
  obtain ⟨c0, c1', c2⟩ : PBox V w.heap.size s (some ⟨b, off, none⟩) n cg Ar nr cr := by
    rw [hV]
    exact hx0.below hs0 ((Below.refl _ _).alloc (Nat.le_refl _) _)
  have hrow : V.heap[w.heap.size + 1]? = some (.cells #[.int .i64 0, .slice none 0 0, .slice none 0 0] 26) := by rw [hV]; exact heap_alloc2_new w _ _
  have HO : Hid (Ow (V.alloc (.cells #[] 3)) (w.heap.size + 1 + 1) (some ⟨w.heap.size + 1 + 1, 0, none⟩) 0 0 []) := Lib.hid (by
    have := Ow.made0 V (w.heap.size + 1 + 1) (by omega)
    rw [hsV] at this
    exact this)
  have hbO : Below V.heap.size V (V.alloc (.cells #[] 3)) := (Below.refl _ _).alloc (Nat.le_refl _) _
  have HR := Lib.hid ((hg.below (hbV.mono hB)).below (hbO.mono (Nat.le_trans hB (Nat.le_of_lt hwV))))
  have hsO : w.heap.size + 1 + 1 ≤ (V.alloc (.cells #[] 3)).heap.size := by simp; omega
  have Hone := Lib.hid puz_one
  have Hi := Lib.hid puz_info
  go_enter Tryd.func107, Tryd.ntmps107
  go_wp2_with (first
    | (at_builtin; (rw [← hV]); (refine push_some rfl (.tmp 6) (.tmp 8) rfl (w.heap.size + 1 + 1) (some ⟨w.heap.size + 1 + 1, 0, none⟩) 0 0 [] b off n cg Bg gi rfl rfl HO.out HR.out (by omega) hm hsO ?_); intro A1 c1 w1 ho1 hg1; simp only [Nat.zero_add, List.nil_append] at ho1; (obtain ⟨gb, rfl, hlog, hgw1⟩ := ho1.form hn0); (obtain ⟨hcq, hfq⟩ := ho1.cell hk); have hbw1 : Below V.heap.size V w1 := hbO.grown hg1 hbO.size (fun k hk => Nat.le_trans (Nat.le_of_eq hsV) (HO.out.own_lo k hk)); have hgb0 : w.heap.size ≠ gb := Nat.ne_of_lt (Nat.lt_of_lt_of_le (Nat.lt_of_lt_of_le (Nat.lt_succ_self _) (Nat.le_succ _)) hlog); have hgb1 : w.heap.size + 1 ≠ gb := Nat.ne_of_lt hlog; (have d0 := (cell_other5 (k := k) (v := .int .i64 0) hgb0).trans ((hbw1.cell (p := ⟨w.heap.size, 0, none⟩) hwV).trans c0)); have d2 := (cell_other5 (k := k) (v := .int .i64 0) hgb0).trans ((hbw1.cell (p := ⟨w.heap.size, 2, none⟩) hwV).trans c2); (have hr2 := (heap_setCell_other w1 ⟨gb, k, none⟩ (w.heap.size + 1) (.int .i64 0) hgb1).trans ((hbw1.block (w.heap.size + 1) hwV1).trans hrow)))
    | ((refine wpList_store_row rfl 26 _ _ rfl (w.heap.size + 1) #[.int .i64 s, .slice (some ⟨gb, 0, none⟩) n c1, .slice Ar nr cr] rfl rfl 26 #[.int .i64 0, .slice none 0 0, .slice none 0 0] hr2 (Hi.out _ _ _ _ _ _ _) rfl (Hone.out _ _ _ _ _ _ _) ?_)))
  have ho2 : Ow (w1.setCell ⟨gb, k, none⟩ (.int .i64 0)) (w.heap.size + 1 + 1) (some ⟨gb, 0, none⟩) n c1 (gi.set k 0) := by
    have := (World.ownsRow.stored ho1 k (.int .i64 0)).1
    rw [vals_set] at this
    exact this
  have hBe : Below w.heap.size w ((w1.setCell ⟨gb, k, none⟩ (.int .i64 0)).setRow (w.heap.size + 1) #[.int .i64 s, .slice (some ⟨gb, 0, none⟩) n c1, .slice Ar nr cr]) := setRow_below5 ((hbV.trans (hbw1.mono hbV.size)).setCell (show w.heap.size ≤ gb by omega) _) (by omega)
  refine bodyPost_ret (v := .agg #[.int .i64 s, .slice (some ⟨gb, 0, none⟩) n c1, .slice Ar nr cr]) (results_cell_row (by rfl) _ _ (w.heap.size + 1) 26 _ (0, 0) _ rfl (setRow_heap _ _ _ _ _ _ hr2) Tryd.underlying26 rfl (Hi.out _ _ _ _ _ _ _)) rfl ⟨_, _, rfl, (ho2.row5 (fun b hb => ?_)).mono (by omega), hBe⟩
  have := ho2.own_lo b hb
  omega
end Go.Proofs.YtjdhfknoldginaaDoor
set_option maxRecDepth 8000
namespace Go.Proofs.YtjdhfknoldginaaDoor
open Go.ChangeShapes Go.WideShapes Go.ChangeAt Go.RowKit

/-- the cell is one of the puzzle's, and given. -/
def givenB (n : Nat) (gi : List Int) (i : Int) : Bool := inr i 0 ((n : Int) - 1) && decide (0 < nth gi i.toNat)
def redB (s : Int) (n : Nat) (gi : List Int) (rs : List RuleM) (i : Int) : Bool := pvB s gi rs && givenB n gi i && oneB s n gi rs && oneB s n (gi.set i.toNat 0) rs
set_option maxHeartbeats 2000000 in
theorem specIsRedundant (s : Int) (Ag : Option Addr) (n cg Bg : Nat) (gi : List Int) (Ar : Option Addr) (nr cr Br : Nat) (rs : List RuleM) (i : Int) (w : World) (hp : PGs w s Ag n cg Bg gi Ar nr cr Br rs) :
    Calls Tryd.prog 106 #[.agg #[.int .i64 s, .slice Ag n cg, .slice Ar nr cr], .int .i64 i] w fun e w' => e = .returned (.bool (redB s n gi rs i)) ∧ Below w.heap.size w w' := by
  have hx0 := pbox_new w s Ag n cg Ar nr cr 26
  have hb0 : Below w.heap.size w (w.alloc (.cells #[.int .i64 s, .slice Ag n cg, .slice Ar nr cr] 26)) := (Below.refl _ _).alloc (Nat.le_refl _) _
  have hs0 : w.heap.size < (w.alloc (.cells #[.int .i64 s, .slice Ag n cg, .slice Ar nr cr] 26)).heap.size := by simp
  have HP := Lib.hid (fun w' (hb : Below w.heap.size w w') => specPuzzleValid s Ag n cg Bg gi Ar nr cr Br rs w' (hp.below hb).g (hp.below hb).gB hp.gm (hp.below hb).r (hp.below hb).rB hp.rm)
  have HO := Lib.hid (fun w' (hb : Below w.heap.size w w') => specOne s Ag n cg Bg gi Ar nr cr Br rs w' (hp.below hb))
  have hlen := Lib.hid hp.g.1
  have hm := hp.gm
  cases hv : pvB s gi rs
  · have HL := Lib.hid (show redB s n gi rs i = false by simp [redB, hv])
    go_enter Tryd.func106, Tryd.ntmps106
    go_wp2_with (go_at_call 14; refine (HP.out _ hb0).mono ?_; rintro e w1 ⟨rfl, hb1⟩; rw [hv]; have hB1 := step hb0 hb1; clear hb1)
    go_ret
    exact ⟨by rw [HL.out]; rfl, hB1⟩
  · cases hin : inr i 0 ((n : Int) - 1)
    · have HL := Lib.hid (show redB s n gi rs i = false by simp [redB, givenB, hin])
      have Hin := Lib.hid hin
      clear hin
      go_enter Tryd.func106, Tryd.ntmps106
      go_wp2_with (first | (go_at_call 14; refine (HP.out _ hb0).mono ?_; rintro e w1 ⟨rfl, hb1⟩; rw [hv]; have hB1 := step hb0 hb1; obtain ⟨d0, d1, d2⟩ := hx0.below hs0 hb1; clear hb1) | (go_at_call 57; refine (l1In_any _ _ _ _).mono ?_; rintro e w' ⟨rfl, rfl⟩; (rw [Hin.out])))
      go_ret
      exact ⟨by rw [HL.out]; rfl, hB1⟩
    · obtain ⟨k, rfl⟩ := Int.eq_ofNat_of_zero_le (show 0 ≤ i by simp [inr] at hin; omega)
      have hk : k < n := by simp [inr] at hin; omega
      have Hin := Lib.hid hin
      clear hin
      obtain ⟨b, off, rfl, hbB, hck⟩ := hp.g.at_ hk
      have hbw : b < w.heap.size := Nat.lt_of_lt_of_le hbB hp.gB
      have HW := Lib.hid (fun w' (hb : Below w.heap.size w w') => specWithout (Bg := Bg) s (some ⟨b, off, none⟩) n cg gi Ar nr cr k w' (hp.below hb).g (hp.below hb).gB hm hk)
      have HC := Lib.hid (fun w' (hb : Below w.heap.size w w') => ((hb.cell (p := ⟨b, off + k, none⟩) hbw).trans hck : w'.cell? ⟨b, off + k, none⟩ = some (.int .i64 (nth gi k))))
      by_cases hx : 0 < nth gi k
      · cases ho : oneB s n gi rs
        · have HL := Lib.hid (show redB s n gi rs k = false by simp [redB, ho])
          go_enter Tryd.func106, Tryd.ntmps106
          go_wp2_with (first | (go_at_call 14; refine (HP.out _ hb0).mono ?_; rintro e w1 ⟨rfl, hb1⟩; rw [hv]; have hB1 := step hb0 hb1; obtain ⟨d0, d1, d2⟩ := hx0.below hs0 hb1; have hck1 := HC.out _ hB1; clear hb1) | (go_at_call 57; refine (l1In_any _ _ _ _).mono ?_; rintro e w' ⟨rfl, rfl⟩; (rw [Hin.out])) | (go_at_call 105; refine (HO.out _ hB1).mono ?_; rintro e w2 ⟨rfl, hb2⟩; rw [ho]))
          go_ret
          exact ⟨by rw [HL.out]; rfl, step hB1 hb2⟩
        · cases ho2 : oneB s n (gi.set k 0) rs
          all_goals
            have HL := Lib.hid (show redB s n gi rs k = oneB s n (gi.set k 0) rs by simp [redB, givenB, hv, Hin.out, hx, ho])
            rw [ho2] at HL
            have HO2 := Lib.hid (fun w' (hb : Below w.heap.size w w') A' c' B' (h : Rd w' B' A' n (gi.set k 0)) (hB : B' ≤ w'.heap.size) => specOne s A' n c' B' (gi.set k 0) Ar nr cr Br rs w' ⟨h, hB, hm, (hp.below hb).r, (hp.below hb).rB, hp.rm⟩)
            go_enter Tryd.func106, Tryd.ntmps106
            go_wp2_with (first | (go_at_call 14; refine (HP.out _ hb0).mono ?_; rintro e w1 ⟨rfl, hb1⟩; rw [hv]; have hB1 := step hb0 hb1; obtain ⟨d0, d1, d2⟩ := hx0.below hs0 hb1; have hs1 := Nat.lt_of_lt_of_le hs0 hb1.size; have hck1 := HC.out _ hB1; clear hb1) | (go_at_call 57; refine (l1In_any _ _ _ _).mono ?_; rintro e w' ⟨rfl, rfl⟩; (rw [Hin.out])) | (go_at_call 107; refine (HW.out _ hB2).mono ?_; rintro e w3 ⟨A3, c3, rfl, ho3, hb3⟩; have hB3 := step hB2 hb3; clear hb3) | (go_at_call 105; refine (HO.out _ hB1).mono ?_; rintro e w2 ⟨rfl, hb2⟩; rw [ho]; have hB2 := step hB1 hb2; obtain ⟨e0, e1, e2⟩ := PBox.below ⟨d0, d1, d2⟩ hs1 hb2; clear hb2) | (go_at_call 105; refine (HO2.out _ hB3 _ _ _ ho3.rd (Nat.le_refl _)).mono ?_; rintro e w4 ⟨rfl, hb4⟩; rw [ho2]; have hB4 := step hB3 hb4; clear hb4))
            go_ret
            exact ⟨by rw [HL.out]; rfl, hB4⟩
      · have HL := Lib.hid (show redB s n gi rs k = false by simp [redB, givenB, hx])
        go_enter Tryd.func106, Tryd.ntmps106
        go_wp2_with (first | (go_at_call 14; refine (HP.out _ hb0).mono ?_; rintro e w1 ⟨rfl, hb1⟩; rw [hv]; have hB1 := step hb0 hb1; obtain ⟨d0, d1, d2⟩ := hx0.below hs0 hb1; have hck1 := HC.out _ hB1; clear hb1) | (go_at_call 57; refine (l1In_any _ _ _ _).mono ?_; rintro e w' ⟨rfl, rfl⟩; (rw [Hin.out])))
        go_ret
        exact ⟨by rw [HL.out]; rfl, hB1⟩
end Go.Proofs.YtjdhfknoldginaaDoor
set_option maxRecDepth 8000
namespace Go.Proofs.YtjdhfknoldginaaDoor
open Go.ChangeShapes Go.WideShapes Go.ChangeAt Go.RowKit
/-- what is given, less what is redundant among the first k cells. -/
def minL (s : Int) (n : Nat) (rs : List RuleM) (gi : List Int) : Nat → List Int
  | 0 => gi
  | k + 1 => if redB s n (minL s n rs gi k) rs k = true then (minL s n rs gi k).set k 0 else minL s n rs gi k
theorem minL_length (s : Int) (n : Nat) (rs : List RuleM) (gi : List Int) (k : Nat) : (minL s n rs gi k).length = gi.length := by
  induction k with
  | zero => rfl
  | succ k ih => unfold minL; split <;> simp [ih]
theorem OwR.past {w0 w w' : World} {lo X k : Nat} {v : Value} {rs : List RuleM} (h : OwR w0 lo v rs k) (hb : Below w0.heap.size w0 w) (hg : w.grownBy w' (some X)) (hX : w0.heap.size ≤ X) : OwR w' lo v rs k := by
  obtain ⟨vs, hown, hin⟩ := id h
  obtain ⟨vs', hown', hin'⟩ := h.below hb
  have hv : ∀ b, v.ownBlock = some b → b ≠ X := fun b hbb e => by have := (World.ownsRow.lt hown b hbb).2; omega
  refine ⟨vs, World.ownsRow.kept (World.ownsRow.kept hown (row := none) ⟨hb.os, hb.tape, hb.output, hb.size, fun k hk _ => hb.block k hk⟩ (by cases e : v.ownBlock <;> simp)) hg (by
    cases e : v.ownBlock
    · exact .inl rfl
    · exact .inr (fun e2 => hv _ e (Option.some.inj e2))), fun i hi => ?_⟩
  obtain ⟨A', c', e0, e1, e2, e3, e4, e5⟩ := hin i hi
  exact ⟨A', c', e0, e1, e2, Ow.far (Ow.below e3 hb) hg (fun b hbb e => by have := (World.ownsRow.lt e3 b hbb).2; have := Option.some.inj e; omega), e4, e5⟩
theorem OwR.keptL {w w' : World} {lo G k : Nat} {v : Value} {rs : List RuleM} (h : OwR w lo v rs k) (hg : w.grownBy w' (some G)) (hG : G < lo) : OwR w' lo v rs k := by
  obtain ⟨vs, hown, hin⟩ := h
  refine ⟨vs, World.ownsRow.kept hown hg (by
    cases e : v.ownBlock
    · exact .inl rfl
    · refine .inr (fun e2 => ?_)
      have h1 := (World.ownsRow.lt hown _ e).1
      have h2 := Option.some.inj e2
      omega), fun i hi => ?_⟩
  obtain ⟨A', c', e0, e1, e2, e3, e4, e5⟩ := hin i hi
  exact ⟨A', c', e0, e1, e2, Ow.far e3 hg (fun g hgg e => by have h1 := e3.own_lo g hgg; have h2 := Option.some.inj e; omega), e4, e5⟩
theorem grown_setRow5 {w : World} {g : Nat} {cs : Array Value} : w.grownBy (w.setRow g cs) (some g) :=
  ⟨rfl, rfl, rfl, by simp, fun k hk hne => by unfold World.setRow; simp only [Array.getElem?_modify]; rw [if_neg (fun e => hne (by rw [e]))]⟩
theorem ownsRow_setX {w : World} {lo sz n X : Nat} {e t : TypeId} {v : Value} {xs : List Value} {cs cs' : Array Value} (h : w.ownsRow lo e sz v n xs) (hX : w.heap[X]? = some (.cells cs t)) (hne : t ≠ e) : (w.setRow X cs').ownsRow lo e sz v n xs := by
  refine World.ownsRow.kept h grown_setRow5 ?_
  rcases h.2 with ⟨rfl, _⟩ | ⟨g, cap, cur, rfl, hb, hg, _⟩
  · exact .inl rfl
  · refine .inr (fun e2 => ?_)
    have e3 : g = X := by simpa [Value.ownBlock] using e2
    subst e3
    rw [hX] at hg
    injection hg with hg
    injection hg with _ h2 _
    exact hne h2
theorem Ow.setX {w : World} {lo n c X : Nat} {A : Option Addr} {xs : List Int} {cs cs' : Array Value} (h : Ow w lo A n c xs) (hX : w.heap[X]? = some (.cells cs 26)) : Ow (w.setRow X cs') lo A n c xs := ownsRow_setX h hX (by decide)
theorem OwR.setX {w : World} {lo k X : Nat} {v : Value} {rs : List RuleM} {cs cs' : Array Value} (h : OwR w lo v rs k) (hX : w.heap[X]? = some (.cells cs 26)) : OwR (w.setRow X cs') lo v rs k := by
  obtain ⟨vs, hown, hin⟩ := h
  refine ⟨vs, ownsRow_setX hown hX (by decide), fun i hi => ?_⟩
  obtain ⟨A', c', e0, e1, e2, e3, e4, e5⟩ := hin i hi
  exact ⟨A', c', e0, e1, e2, e3.setX hX, e4, e5⟩
theorem SpQ.setX {w : World} {lo k X : Nat} {v : Value} {Q : Nat → Prop} {cs cs' : Array Value} (h : SpQ w lo v k Q) (hX : w.heap[X]? = some (.cells cs 26)) : SpQ (w.setRow X cs') lo v k Q := h.map fun _ hown => ownsRow_setX hown hX (by decide)
theorem SpQ.mono {w : World} {lo lo' k : Nat} {v : Value} {Q : Nat → Prop} (h : SpQ w lo v k Q) (hl : lo' ≤ lo) : SpQ w lo' v k Q := by
  obtain ⟨vs, h1, h2⟩ := h
  exact ⟨vs, World.ownsRow.mono h1 hl, h2⟩
theorem results_row_tmp {P : Program} {fn : Func} {p q : Tmp} {ty : TypeId} (h : fn.results = #[.cell p ty, .tmp q]) (tmps : Array Value) (w : World) (g : Nat) (t : TypeId) (cs : Array Value) (fr : Nat × Nat) (d : TypeDesc) (b : Value)
    (hp : tmps.getD p undef = .pointer (some ⟨g, 0, none⟩)) (hq : tmps.getD q undef = b) (hg : w.heap[g]? = some (.cells cs t fr))
    (hu : P.underlying ty = some d) (hd : (match d with | .struct _ | .array _ _ => true | _ => false) = true) (hi : (P.info? ty).map (·.size) = some cs.size) :
    (results fn tmps).run P w = .ok (.tuple #[.agg cs, b]) w := by
  have hp' : tmps[p]?.getD undef = .pointer (some ⟨g, 0, none⟩) := by simpa using hp
  have hq' : tmps[q]?.getD undef = b := by simpa using hq
  simp [results, h, hp', hq', asAddr, run_loadVar_row w g t ty cs fr d hg hu hd hi]
def MinPost (s : Int) (n : Nat) (gi : List Int) (nr : Nat) (rs : List RuleM) (w : World) (e : Ending) (w' : World) : Prop :=
  Below w.heap.size w w' ∧ ((e = .returned (.tuple #[.agg #[.int .i64 0, .slice none 0 0, .slice none 0 0], .bool false]) ∧ (pvB s gi rs && oneB s n gi rs) = false) ∨
    ((pvB s gi rs && oneB s n gi rs) = true ∧ ∃ A1 c1 A2 c2 K, e = .returned (.tuple #[.agg #[.int .i64 s, .slice A1 n c1, .slice A2 nr c2], .bool true]) ∧ Ow w' K A1 n c1 (minL s n rs gi n) ∧ w.heap.size ≤ K ∧ OwR w' w.heap.size (.slice A2 nr c2) rs nr ∧ SpQ w' w.heap.size (.slice A2 nr c2) nr (fun g => g < K)))
/-- what the values of 'impl.Puzzle{Size: .., Given: append([]int{}, ..), Rules: append([]impl.Rule{}, ..)}' are, in the order of the text. -/
def MakeG (P lo K n : Nat) (s : Int) (A1 : Option Addr) (c1 : Nat) (A2 : Option Addr) (nr c2 : Nat) (gi : List Int) (rs : List RuleM) : Nat → Value → World → Prop
  | 0, v, _ => v = .pointer (some ⟨P, 0, none⟩)
  | 1, v, _ => v = .int .i64 s
  | 2, v, _ => ∃ b, v = .slice (some ⟨b, 0, none⟩) 0 0
  | 3, v, _ => v = .pointer (some ⟨P, 1, none⟩)
  | 4, v, _ => v = .slice A1 n c1
  | 5, v, w => ∃ A' c', v = .slice A' n c' ∧ Ow w K A' n c' gi
  | 6, v, w => ∃ b, v = .slice (some ⟨b, 0, none⟩) 0 0 ∧ w.heap[b]? = some (.cells #[] 61) ∧ lo ≤ b
  | 7, v, _ => v = .pointer (some ⟨P, 2, none⟩)
  | 8, v, _ => v = .slice A2 nr c2
  | 9, v, w => ∃ A' c', v = .slice A' nr c' ∧ OwR w lo (.slice A' nr c') rs nr ∧ SpQ w lo (.slice A' nr c') nr (fun g => g < K)
  | 10, v, w => ∃ A' c' A'' c'', v = .agg #[.int .i64 s, .slice A' n c', .slice A'' nr c''] ∧ Ow w K A' n c' gi ∧ OwR w lo (.slice A'' nr c'') rs nr ∧ SpQ w lo (.slice A'' nr c'') nr (fun g => g < K)
  | 11, v, w => ∃ X, v = .pointer (some ⟨X, 0, none⟩) ∧ w.heap[X]? = some (.cells #[.int .i64 0, .slice none 0 0, .slice none 0 0] 26) ∧ lo ≤ X
  | _, _, _ => True
theorem makeG_below {P lo K n : Nat} {s : Int} {A1 : Option Addr} {c1 : Nat} {A2 : Option Addr} {nr c2 : Nat} {gi : List Int} {rs : List RuleM} (j : Nat) (v : Value) (w w' : World) (hb : Below w.heap.size w w') (h : MakeG P lo K n s A1 c1 A2 nr c2 gi rs j v w) : MakeG P lo K n s A1 c1 A2 nr c2 gi rs j v w' := by
  match j, h with
  | 0, h => exact h
  | 1, h => exact h
  | 2, h => exact h
  | 3, h => exact h
  | 4, h => exact h
  | 5, ⟨A', c', e, h⟩ => exact ⟨A', c', e, h.below hb⟩
  | 6, ⟨b, e, h, hl⟩ => exact ⟨b, e, (hb.block b (Array.getElem?_eq_some_iff.1 h).1).trans h, hl⟩
  | 7, h => exact h
  | 8, h => exact h
  | 9, ⟨A', c', e, h, h2⟩ => exact ⟨A', c', e, h.below hb, h2.below hb⟩
  | 10, ⟨A', c', A'', c'', e, h, h', h2⟩ => exact ⟨A', c', A'', c'', e, h.below hb, h'.below hb, h2.below hb⟩
  | 11, ⟨X, e, h, hl⟩ => exact ⟨X, e, (hb.block X (Array.getElem?_eq_some_iff.1 h).1).trans h, hl⟩
  | _ + 12, h => exact h
set_option maxHeartbeats 2000000 in
theorem specMakeMinimal (s : Int) (Ag : Option Addr) (n cg Bg : Nat) (gi : List Int) (Ar : Option Addr) (nr cr Br : Nat) (rs : List RuleM) (w : World) (hp : PGs w s Ag n cg Bg gi Ar nr cr Br rs) (hm2 : nr ≤ 1099511627775) :
    Calls Tryd.prog 76 #[.agg #[.int .i64 s, .slice Ag n cg, .slice Ar nr cr]] w (MinPost s n gi nr rs w) := by
  have Hone := Lib.hid puz_one
  have Hi := Lib.hid puz_info
  have hrl := hp.r.1
  obtain ⟨W0, hW0⟩ : ∃ W0, (w.alloc (.cells #[.int .i64 s, .slice Ag n cg, .slice Ar nr cr] 26)).alloc (.cells #[.int .i64 0, .slice none 0 0, .slice none 0 0] 26) = W0 := ⟨_, rfl⟩
  have hb0 : Below w.heap.size w W0 := by rw [← hW0]; exact ((Below.refl _ _).alloc (Nat.le_refl _) _).alloc (by simp) _
  have hs0 : W0.heap.size = w.heap.size + 1 + 1 := by rw [← hW0]; simp
  have hp0 : W0.heap[w.heap.size]? = some (.cells #[.int .i64 s, .slice Ag n cg, .slice Ar nr cr] 26) := by
    rw [← hW0]; exact (Below.heap_alloc _ _ _ (by simp)).trans (heap_alloc_new w _)
  have hq0 : W0.heap[w.heap.size + 1]? = some (.cells #[.int .i64 0, .slice none 0 0, .slice none 0 0] 26) := by
    rw [← hW0]
    have := heap_alloc_new (w.alloc (.cells #[.int .i64 s, .slice Ag n cg, .slice Ar nr cr] 26)) (.cells #[.int .i64 0, .slice none 0 0, .slice none 0 0] 26)
    rwa [World.size_alloc] at this
  have hP0 := hp.below (hb0.mono (Nat.le_refl _))
  have HOP := Lib.hid (specOwnPuzzle s Ag n cg Bg gi Ar nr cr Br rs W0 hP0.g hP0.gB hp.gm hP0.r hP0.rB hm2)
  obtain ⟨z0, z1, z2⟩ : PBox W0 w.heap.size s Ag n cg Ar nr cr := ⟨cell_of_row _ _ 0 _ _ (0, 0) hp0, cell_of_row _ _ 1 _ _ (0, 0) hp0, cell_of_row _ _ 2 _ _ (0, 0) hp0⟩
  have HW0 := Lib.hid hW0
  clear hW0 hP0
  go_enter Tryd.func76, Tryd.ntmps76
  go_wp2_with fail
  rw [HW0.out]
  refine HOP.out.mono ?_
  rintro e w1 ⟨A1, c1, A2, c2, rfl, ho1, hor1, hb1⟩
  have hp1 := (hb1.block w.heap.size (by omega)).trans hp0
  have hq1 := (hb1.block (w.heap.size + 1) (by omega)).trans hq0
  obtain ⟨W2, hW2⟩ : ∃ W2, w1.setRow w.heap.size #[.int .i64 s, .slice A1 n c1, .slice A2 nr c2] = W2 := ⟨_, rfl⟩
  have hb2 : Below w.heap.size w W2 := by rw [← hW2]; exact setRow_below5 (hb0.trans (hb1.mono hb0.size)) (Nat.le_refl _)
  have hp2 : W2.heap[w.heap.size]? = some (.cells #[.int .i64 s, .slice A1 n c1, .slice A2 nr c2] 26) := by rw [← hW2]; exact setRow_heap _ _ _ _ _ _ hp1
  have hq2 : W2.heap[w.heap.size + 1]? = some (.cells #[.int .i64 0, .slice none 0 0, .slice none 0 0] 26) := by
    rw [← hW2]; refine Eq.trans ?_ hq1; unfold World.setRow; simp only [Array.getElem?_modify]; rw [if_neg (by omega)]
  have ho2 : Ow W2 W0.heap.size A1 n c1 gi := by rw [← hW2]; exact ho1.row5 (fun b hb => by have := ho1.own_lo b hb; omega)
  have hor2 : OwR W2 W0.heap.size (.slice A2 nr c2) rs nr := by rw [← hW2]; exact hor1.keptL grown_setRow5 (by omega)
  have hP2 : PGs W2 s A1 n c1 W2.heap.size gi A2 nr c2 W2.heap.size rs := ⟨ho2.rd, Nat.le_refl _, hp.gm, hor2.rd hrl, Nat.le_refl _, hp.rm⟩
  have hs2 : w.heap.size + 1 < W2.heap.size := (Array.getElem?_eq_some_iff.1 hq2).1
  have HV := Lib.hid (fun w' (hb : Below W2.heap.size W2 w') => specPuzzleValid s A1 n c1 W2.heap.size gi A2 nr c2 W2.heap.size rs w' (hP2.below hb).g (hP2.below hb).gB hp.gm (hP2.below hb).r (hP2.below hb).rB hp.rm)
  have HO := Lib.hid (fun w' (hb : Below W2.heap.size W2 w') => specOne s A1 n c1 W2.heap.size gi A2 nr c2 W2.heap.size rs w' (hP2.below hb))
  obtain ⟨y0, y1, y2⟩ : PBox W2 w.heap.size s A1 n c1 A2 nr c2 := ⟨cell_of_row _ _ 0 _ _ (0, 0) hp2, cell_of_row _ _ 1 _ _ (0, 0) hp2, cell_of_row _ _ 2 _ _ (0, 0) hp2⟩
  have HB2 := Lib.hid hb2
  cases hv : pvB s gi rs
  · have hf : (pvB s gi rs && oneB s n gi rs) = false := by rw [hv]; rfl
    go_wp2_with (first | (refine wpList_store_row rfl 26 _ _ rfl w.heap.size #[.int .i64 s, .slice A1 n c1, .slice A2 nr c2] rfl rfl 26 #[.int .i64 s, .slice Ag n cg, .slice Ar nr cr] hp1 (Hi.out _ _ _ _ _ _ _) rfl (Hone.out _ _ _ _ _ _ _) ?_; rw [hW2]) | (go_at_call 14; refine (HV.out _ (Below.refl _ _)).mono ?_; rintro e w3 ⟨rfl, hb3⟩; rw [hv]; have hq3 := (hb3.block (w.heap.size + 1) hs2).trans hq2) | (refine wpList_store_row rfl 26 _ _ rfl (w.heap.size + 1) #[.int .i64 0, .slice none 0 0, .slice none 0 0] rfl rfl 26 #[.int .i64 0, .slice none 0 0, .slice none 0 0] hq3 (Hi.out _ _ _ _ _ _ _) rfl (Hone.out _ _ _ _ _ _ _) ?_))
    have hBe : Below w.heap.size w (w3.setRow (w.heap.size + 1) #[.int .i64 0, .slice none 0 0, .slice none 0 0]) := setRow_below5 (HB2.out.trans (hb3.mono HB2.out.size)) (by omega)
    exact bodyPost_ret (v := .tuple #[.agg #[.int .i64 0, .slice none 0 0, .slice none 0 0], .bool false]) (results_row_tmp (by rfl) _ _ (w.heap.size + 1) 26 _ (0, 0) _ _ rfl rfl (setRow_heap _ _ _ _ _ _ hq3) Tryd.underlying26 rfl (Hi.out _ _ _ _ _ _ _)) rfl ⟨hBe, .inl ⟨rfl, hf⟩⟩
  · have hx2 : PBox W2 w.heap.size s A1 n c1 A2 nr c2 := ⟨y0, y1, y2⟩
    cases ho : oneB s n gi rs
    · have hf : (pvB s gi rs && oneB s n gi rs) = false := by rw [ho, Bool.and_false]
      go_wp2_with (first | (refine wpList_store_row rfl 26 _ _ rfl w.heap.size #[.int .i64 s, .slice A1 n c1, .slice A2 nr c2] rfl rfl 26 #[.int .i64 s, .slice Ag n cg, .slice Ar nr cr] hp1 (Hi.out _ _ _ _ _ _ _) rfl (Hone.out _ _ _ _ _ _ _) ?_; rw [hW2]) | (go_at_call 14; refine (HV.out _ (Below.refl _ _)).mono ?_; rintro e w3 ⟨rfl, hb3⟩; rw [hv]; obtain ⟨x0, x1, x2⟩ := hx2.below (by omega : w.heap.size < W2.heap.size) hb3) | (go_at_call 105; refine (HO.out _ hb3).mono ?_; rintro e w4 ⟨rfl, hb4'⟩; rw [ho]; have hb4 := step hb3 hb4'; have hq4 := (hb4.block (w.heap.size + 1) hs2).trans hq2) | (refine wpList_store_row rfl 26 _ _ rfl (w.heap.size + 1) #[.int .i64 0, .slice none 0 0, .slice none 0 0] rfl rfl 26 #[.int .i64 0, .slice none 0 0, .slice none 0 0] hq4 (Hi.out _ _ _ _ _ _ _) rfl (Hone.out _ _ _ _ _ _ _) ?_))
      have hBe : Below w.heap.size w (w4.setRow (w.heap.size + 1) #[.int .i64 0, .slice none 0 0, .slice none 0 0]) := setRow_below5 (HB2.out.trans (hb4.mono HB2.out.size)) (by omega)
      exact bodyPost_ret (v := .tuple #[.agg #[.int .i64 0, .slice none 0 0, .slice none 0 0], .bool false]) (results_row_tmp (by rfl) _ _ (w.heap.size + 1) 26 _ (0, 0) _ _ rfl rfl (setRow_heap _ _ _ _ _ _ hq4) Tryd.underlying26 rfl (Hi.out _ _ _ _ _ _ _)) rfl ⟨hBe, .inl ⟨rfl, hf⟩⟩
    · have ht : (pvB s gi rs && oneB s n gi rs) = true := by rw [hv, ho]; rfl
      go_wp2_with (first | (refine wpList_store_row rfl 26 _ _ rfl w.heap.size #[.int .i64 s, .slice A1 n c1, .slice A2 nr c2] rfl rfl 26 #[.int .i64 s, .slice Ag n cg, .slice Ar nr cr] hp1 (Hi.out _ _ _ _ _ _ _) rfl (Hone.out _ _ _ _ _ _ _) ?_; rw [hW2]) | (go_at_call 14; refine (HV.out _ (Below.refl _ _)).mono ?_; rintro e w3 ⟨rfl, hb3⟩; rw [hv]; obtain ⟨x0, x1, x2⟩ := hx2.below (by omega : w.heap.size < W2.heap.size) hb3) | (go_at_call 105; refine (HO.out _ hb3).mono ?_; rintro e w4 ⟨rfl, hb4'⟩; rw [ho]; have hb4 := step hb3 hb4'; obtain ⟨x0', x1', x2'⟩ := hx2.below (by omega : w.heap.size < W2.heap.size) hb4))
      obtain ⟨hgi, _, _⟩ := pv_gv hv
      have hn4 : 0 < n := by
        obtain ⟨q2, q4⟩ := gv_size hgi
        have := gv_len hgi
        rw [hp.g.1] at this
        have := (sq_bd q2 q4).1
        omega
      obtain ⟨vs2, hown2, hin2⟩ := id hor2
      have HX := Lib.hid (fun w' (hb : Below w4.heap.size w4 w') => (hx2.below (by omega : w.heap.size < W2.heap.size) (hb4.trans (hb.mono hb4.size))))
      have HR1 := Lib.hid (fun w' (hb : Below w4.heap.size w4 w') => (ho2.rd.below (hb4.trans (hb.mono hb4.size))))
      have HOW := Lib.hid (fun w' (hb : Below w4.heap.size w4 w') => (show w'.ownsRow W0.heap.size 61 3 (.slice A2 nr c2) nr vs2 ∧ InR w' W0.heap.size (.slice none 0 0) rs vs2 nr from by
        have hbb := hb4.trans (hb.mono hb4.size)
        refine ⟨World.ownsRow.kept hown2 (row := none) ⟨hbb.os, hbb.tape, hbb.output, hbb.size, fun k hk _ => hbb.block k hk⟩ (by cases e : (Value.slice A2 nr c2).ownBlock <;> simp), fun i hi => ?_⟩
        obtain ⟨A', c', e0, e1, e2, e3, e4, e5⟩ := hin2 i hi
        exact ⟨A', c', e0, e1, e2, Ow.below e3 hbb, e4, fun g hg e => by simp [Value.ownBlock] at e⟩))
      have hlo4 : W0.heap.size ≤ w4.heap.size := by
        have q1 := hb1.size
        have q2 := hb4.size
        have q3 : W2.heap.size = w1.heap.size := by rw [← hW2]; simp
        omega
      have hlo2 : W0.heap.size ≤ W2.heap.size := by
        have q1 := hb1.size
        have q3 : W2.heap.size = w1.heap.size := by rw [← hW2]; simp
        omega
      have hm1 := hp.gm
      have hK4 : W2.heap.size ≤ w4.heap.size := hb4.size
      have hcb : CbV vs2 nr (fun g => g < W2.heap.size) := fun i A' n' c' hi he g hg => by
        obtain ⟨A2', c2', _, e1, _, ho', _⟩ := hin2 i hi
        rw [he] at e1
        injection e1 with e1
        rw [e1] at hg
        exact ho'.own_hi g hg
      refine wp_region_ds [17, 18, 19, 20, 21, 22, 23, 24, 25, 26, 27, 4] (MakeG w.heap.size W0.heap.size W2.heap.size n s A1 c1 A2 nr c2 gi rs) (by kernel_rfl) (by kernel_rfl) (by simp) makeG_below ?step ?last
      case step =>
        intro i o a w' hi hoo hb hfr hpre
        have e1 : a.eval (.tmp 1) = .pointer (some ⟨w.heap.size, 0, none⟩) := hfr 1 (by simp)
        obtain ⟨x0, x1, x2⟩ := HX.out w' hb
        have hi12 : i < 12 := hi
        have : i = 0 ∨ i = 1 ∨ i = 2 ∨ i = 3 ∨ i = 4 ∨ i = 5 ∨ i = 6 ∨ i = 7 ∨ i = 8 ∨ i = 9 ∨ i = 10 ∨ i = 11 := by omega
        rcases this with rfl | rfl | rfl | rfl | rfl | rfl | rfl | rfl | rfl | rfl | rfl | rfl
        all_goals
          simp only [List.getElem?_toArray, List.getElem?_cons_zero, List.getElem?_cons_succ, Option.some.injEq] at hoo
          subst hoo
        · refine ⟨_, w', ?_, Below.refl _ _, rfl⟩
          unfold execOp
          simp only [e1]
          go_simp
        · have p0 := hpre ⟨0, .data⟩ (by simp) rfl
          have p0' : a.eval (.tmp 17) = .pointer (some ⟨w.heap.size, 0, none⟩) := p0
          refine ⟨_, w', ?_, Below.refl _ _, rfl⟩
          unfold execOp
          simp only [p0']
          go_simp
        · refine ⟨_, _, ?_, (Below.refl _ _).alloc (Nat.le_refl _) (.cells #[] 3), ⟨w'.heap.size, rfl⟩⟩
          unfold execOp
          go_simp
        · refine ⟨_, w', ?_, Below.refl _ _, rfl⟩
          unfold execOp
          simp only [e1]
          go_simp
        · have p0' : a.eval (.tmp 20) = .pointer (some ⟨w.heap.size, 1, none⟩) := hpre ⟨3, .data⟩ (by simp) rfl
          refine ⟨_, w', ?_, Below.refl _ _, rfl⟩
          unfold execOp
          simp only [p0']
          go_simp
        · obtain ⟨b, hb19⟩ : ∃ b, a.eval (.tmp 19) = .slice (some ⟨b, 0, none⟩) 0 0 := hpre ⟨2, .data⟩ (by simp) rfl
          have p21 : a.eval (.tmp 21) = .slice A1 n c1 := hpre ⟨4, .data⟩ (by simp) rfl
          obtain ⟨A', c', w2, hrun, q1, q2⟩ := fresh_ints 23 b A1 n c1 _ gi (HR1.out w' hb) hn4 hm1
          refine ⟨.slice A' n c', w2, ?_, q2, A', c', rfl, q1.mono (Nat.le_trans hK4 hb.size)⟩
          unfold execOp
          simp only [resolve, invoke, builtin, Sem.run_bind, Sem.run_pure, Result.andThen_ok, List.map_toArray, List.map_cons, List.map_nil, hb19, p21, hrun]
        · refine ⟨_, _, ?_, (Below.refl _ _).alloc (Nat.le_refl _) (.cells #[] 61), ⟨w'.heap.size, rfl, heap_alloc_new _ _, Nat.le_trans hlo4 hb.size⟩⟩
          unfold execOp
          go_simp
        · refine ⟨_, w', ?_, Below.refl _ _, rfl⟩
          unfold execOp
          simp only [e1]
          go_simp
        · have p0' : a.eval (.tmp 24) = .pointer (some ⟨w.heap.size, 2, none⟩) := hpre ⟨7, .data⟩ (by simp) rfl
          refine ⟨_, w', ?_, Below.refl _ _, rfl⟩
          unfold execOp
          simp only [p0']
          go_simp
        · obtain ⟨b, hb23, hlit, hbl⟩ : ∃ b, a.eval (.tmp 23) = .slice (some ⟨b, 0, none⟩) 0 0 ∧ w'.heap[b]? = some (.cells #[] 61) ∧ W0.heap.size ≤ b := hpre ⟨6, .data⟩ (by simp) rfl
          have p25 : a.eval (.tmp 25) = .slice A2 nr c2 := hpre ⟨8, .data⟩ (by simp) rfl
          obtain ⟨hw1, hw2⟩ := HOW.out w' hb
          obtain ⟨A', c', w2, hrun, ⟨q1, q1'⟩, q2⟩ := fresh_rulesV 24 b A2 nr c2 W0.heap.size W0.heap.size rs vs2 hrl hw1 hw2 hlit hbl hp.rm (Nat.le_trans hlo4 hb.size)
          refine ⟨.slice A' nr c', w2, ?_, q2, A', c', rfl, ⟨vs2, q1, q1'⟩, ⟨vs2, q1, hcb⟩⟩
          unfold execOp
          simp only [resolve, invoke, builtin, Sem.run_bind, Sem.run_pure, Result.andThen_ok, List.map_toArray, List.map_cons, List.map_nil, hb23, p25, hrun]
        · have p18 : a.eval (.tmp 18) = .int .i64 s := hpre ⟨1, .data⟩ (by simp) rfl
          obtain ⟨A', c', p22, q22⟩ : ∃ A' c', a.eval (.tmp 22) = .slice A' n c' ∧ Ow w' W2.heap.size A' n c' gi := hpre ⟨5, .data⟩ (by simp) rfl
          obtain ⟨A'', c'', p26, q26, q26'⟩ : ∃ A' c', a.eval (.tmp 26) = .slice A' nr c' ∧ OwR w' W0.heap.size (.slice A' nr c') rs nr ∧ SpQ w' W0.heap.size (.slice A' nr c') nr (fun g => g < W2.heap.size) := hpre ⟨9, .data⟩ (by simp) rfl
          refine ⟨.agg #[.int .i64 s, .slice A' n c', .slice A'' nr c''], w', ?_, Below.refl _ _, A', c', A'', c'', rfl, q22, q26, q26'⟩
          unfold execOp
          simp only [List.map_toArray, List.map_cons, List.map_nil, p18, p22, p26]
          go_simp
        · refine ⟨_, _, ?_, (Below.refl _ _).alloc (Nat.le_refl _) (.cells #[.int .i64 0, .slice none 0 0, .slice none 0 0] 26), ⟨w'.heap.size, rfl, heap_alloc_new _ _, Nat.le_trans hlo4 hb.size⟩⟩
          unfold execOp
          go_simp
      case last =>
        intro o a w5 hoo hb5 hdef htm hfr hpre
        simp only [List.length_cons, List.length_nil, Nat.reduceAdd, List.getElem?_toArray, List.getElem?_cons_zero, List.getElem?_cons_succ, Option.some.injEq] at hoo
        subst hoo
        have g17 : a.tmps.getD 17 undef = .pointer (some ⟨w.heap.size, 0, none⟩) := hpre 0 (by simp)
        have g18 : a.tmps.getD 18 undef = .int .i64 s := hpre 1 (by simp)
        obtain ⟨b19, g19⟩ : ∃ b, a.tmps.getD 19 undef = .slice (some ⟨b, 0, none⟩) 0 0 := hpre 2 (by simp)
        have g20 : a.tmps.getD 20 undef = .pointer (some ⟨w.heap.size, 1, none⟩) := hpre 3 (by simp)
        have g21 : a.tmps.getD 21 undef = .slice A1 n c1 := hpre 4 (by simp)
        obtain ⟨A22, c22, g22, _⟩ : ∃ A' c', a.tmps.getD 22 undef = .slice A' n c' ∧ _ := hpre 5 (by simp)
        obtain ⟨b23, g23, _⟩ : ∃ b, a.tmps.getD 23 undef = .slice (some ⟨b, 0, none⟩) 0 0 ∧ _ := hpre 6 (by simp)
        have g24 : a.tmps.getD 24 undef = .pointer (some ⟨w.heap.size, 2, none⟩) := hpre 7 (by simp)
        have g25 : a.tmps.getD 25 undef = .slice A2 nr c2 := hpre 8 (by simp)
        obtain ⟨A26, c26, g26, _⟩ : ∃ A' c', a.tmps.getD 26 undef = .slice A' nr c' ∧ _ := hpre 9 (by simp)
        obtain ⟨A3, c3, A4, c4, g27, ho5, hor5, hsp5⟩ : ∃ A' c' A'' c'', a.tmps.getD 27 undef = .agg #[.int .i64 s, .slice A' n c', .slice A'' nr c''] ∧ Ow w5 W2.heap.size A' n c' gi ∧ OwR w5 W0.heap.size (.slice A'' nr c'') rs nr ∧ SpQ w5 W0.heap.size (.slice A'' nr c'') nr (fun g => g < W2.heap.size) := hpre 10 (by simp)
        obtain ⟨X, g4, hrX, hloX⟩ : ∃ X, a.tmps.getD 4 undef = .pointer (some ⟨X, 0, none⟩) ∧ w5.heap[X]? = some (.cells #[.int .i64 0, .slice none 0 0, .slice none 0 0] 26) ∧ W0.heap.size ≤ X := hpre 11 (by simp)
        have h4 : a.eval (.tmp 4) = .pointer (some ⟨X, 0, none⟩) := g4
        have h27 : a.eval (.tmp 27) = .agg #[.int .i64 s, .slice A3 n c3, .slice A4 nr c4] := g27
        refine ⟨w5.setRow X #[.int .i64 s, .slice A3 n c3, .slice A4 nr c4], ?_, ?_⟩
        · have hst := run_storeVar_row (P := Tryd.prog) w5 X 26 26 _ #[.int .i64 s, .slice A3 n c3, .slice A4 nr c4] hrX (Hi.out _ _ _ _ _ _ _) rfl (Hone.out _ _ _ _ _ _ _)
          unfold execOp
          simp only [h4, h27, Instr.storeAt, Instr.sureAddr, Sem.run_bind, Sem.run_pure, Result.andThen_ok, hst]
        · have key := htm
          simp only [List.foldl_cons, List.foldl_nil, g17, g18, g19, g20, g21, g22, g23, g24, g25, g26, g27, g4, List.setIfInBounds_toArray, List.set_cons_succ, List.set_cons_zero] at key
          clear htm hfr hpre g17 g18 g19 g20 g21 g22 g23 g24 g25 g26 g27 g4 h4 h27
          obtain ⟨tm, df⟩ := a
          dsimp only at key hdef
          subst key hdef
          have hr5 := setRow_heap (w := w5) X _ #[.int .i64 s, .slice A3 n c3, .slice A4 nr c4] 26 _ hrX
          have ho6 := ho5.setX (cs' := #[.int .i64 s, .slice A3 n c3, .slice A4 nr c4]) hrX
          have hor6 := hor5.setX (cs' := #[.int .i64 s, .slice A3 n c3, .slice A4 nr c4]) hrX
          have hsp6 := hsp5.setX (cs' := #[.int .i64 s, .slice A3 n c3, .slice A4 nr c4]) hrX
          have hB6 : Below W0.heap.size W2 (w5.setRow X #[.int .i64 s, .slice A3 n c3, .slice A4 nr c4]) := setRow_below5 ((hb4.mono hlo2).trans (hb5.mono hlo4)) hloX
          obtain ⟨w6, hw6⟩ : ∃ w6, w5.setRow X #[.int .i64 s, .slice A3 n c3, .slice A4 nr c4] = w6 := ⟨_, rfl⟩
          rw [hw6] at hr5 ho6 hor6 hsp6 hB6 ⊢
          clear hw6 ho5 hor5 hsp5 hrX
          have HB6 := Lib.hid hB6
          go_wp2
          go_loopw [5] (fun i wr => ∃ (k : Nat) (A7 A8 : Option Addr) (c7 c8 : Nat), k ≤ n ∧ i = .int .i64 k ∧ wr.heap[X]? = some (.cells #[.int .i64 s, .slice A7 n c7, .slice A8 nr c8] 26) ∧ Ow wr W2.heap.size A7 n c7 (minL s n rs gi k) ∧ (OwR wr W0.heap.size (.slice A8 nr c8) rs nr ∧ SpQ wr W0.heap.size (.slice A8 nr c8) nr (fun g => g < W2.heap.size)) ∧ Below W0.heap.size W2 wr) (fun i _ => n - (intOf i).toNat)
          case atStart => exact ⟨0, A3, A4, c3, c4, Nat.zero_le _, rfl, hr5, ho6, ⟨hor6, hsp6⟩, hB6⟩
          case round =>
            obtain ⟨k, A7, A8, c7, c8, hk, rfl, hr7, ho7, ⟨hor7, hsp7⟩, hb7⟩ := hrel
            obtain ⟨x0, x1, x2⟩ : PBox wr X s A7 n c7 A8 nr c8 := ⟨cell_of_row _ _ 0 _ _ (0, 0) hr7, cell_of_row _ _ 1 _ _ (0, 0) hr7, cell_of_row _ _ 2 _ _ (0, 0) hr7⟩
            by_cases hlt : k < n
            · have hltI : (k : Int) < (n : Int) := by omega
              have hPk : PGs wr s A7 n c7 wr.heap.size (minL s n rs gi k) A8 nr c8 wr.heap.size rs := ⟨ho7.rd, Nat.le_refl _, hm1, hor7.rd hrl, Nat.le_refl _, hp.rm⟩
              have hsX := (Array.getElem?_eq_some_iff.1 hr7).1
              have hsW : W0.heap.size ≤ wr.heap.size := by
                have q1 := hb7.size
                omega
              have HRd := Lib.hid (specIsRedundant s A7 n c7 wr.heap.size (minL s n rs gi k) A8 nr c8 wr.heap.size rs (k : Int) wr hPk)
              have HWo := Lib.hid (fun w' (hb : Below wr.heap.size wr w') => specWithout (Bg := wr.heap.size) s A7 n c7 (minL s n rs gi k) A8 nr c8 k w' (hPk.below hb).g (hPk.below hb).gB hm1 hlt)
              have hb7' := hb7
              cases hred : redB s n (minL s n rs gi k) rs k
              · have hml : minL s n rs gi (k + 1) = minL s n rs gi k := by rw [minL, hred]; rfl
                have Hml := Lib.hid hml
                clear hml
                go_wp2_with (go_at_call 106; refine HRd.out.mono ?_; rintro e w8 ⟨rfl, hb8⟩; rw [hred]; have hr8 := (hb8.block X hsX).trans hr7; have ho8 := ho7.below hb8; have hor8 := hor7.below hb8; have hsp8 := hsp7.below hb8; have hB8 := hb7'.trans (hb8.mono hsW))
                refine ⟨⟨k + 1, A7, A8, c7, c8, hlt, by simp, hr8, by rw [Hml.out]; exact ho8, ⟨hor8, hsp8⟩, hB8⟩, by simp [intOf]; omega⟩
              · have hml : minL s n rs gi (k + 1) = (minL s n rs gi k).set k 0 := by rw [minL, hred]; rfl
                have Hml := Lib.hid hml
                clear hml
                go_wp2_with (first | (go_at_call 106; refine HRd.out.mono ?_; rintro e w8 ⟨rfl, hb8⟩; rw [hred]; have hr8 := (hb8.block X hsX).trans hr7; have ho8 := ho7.below hb8; have hor8 := hor7.below hb8; have hsp8 := hsp7.below hb8; have hB8 := hb7'.trans (hb8.mono hsW); obtain ⟨y0, y1, y2⟩ : PBox w8 X s A7 n c7 A8 nr c8 := ⟨cell_of_row _ _ 0 _ _ (0, 0) hr8, cell_of_row _ _ 1 _ _ (0, 0) hr8, cell_of_row _ _ 2 _ _ (0, 0) hr8⟩) | (go_at_call 107; refine (HWo.out _ hb8).mono ?_; rintro e w9 ⟨A9, c9, rfl, ho9, hb9⟩; have hr9 := (hb9.block X (Nat.lt_of_lt_of_le hsX hb8.size)).trans hr8) | (refine wpList_store_row rfl 26 _ _ rfl X #[.int .i64 s, .slice A9 n c9, .slice A8 nr c8] rfl rfl 26 #[.int .i64 s, .slice A7 n c7, .slice A8 nr c8] hr9 (Hi.out _ _ _ _ _ _ _) rfl (Hone.out _ _ _ _ _ _ _) ?_))
                have ho10 : Ow (w9.setRow X #[.int .i64 s, .slice A9 n c9, .slice A8 nr c8]) W2.heap.size A9 n c9 ((minL s n rs gi k).set k 0) := (ho9.mono (Nat.le_trans hb7.size hb8.size)).setX hr9
                refine ⟨⟨k + 1, A9, A8, c9, c8, hlt, by simp, setRow_heap _ _ _ _ _ _ hr9, by rw [Hml.out]; exact ho10, ⟨(hor8.below hb9).setX hr9, (hsp8.below hb9).setX hr9⟩, setRow_below5 (hB8.trans (hb9.mono (Nat.le_trans hsW hb8.size))) hloX⟩, by simp [intOf]; omega⟩
            · obtain rfl : k = n := by omega
              have hq7 := (hb7.block (w.heap.size + 1) (by omega)).trans hq2
              go_wp2_with (refine wpList_store_row rfl 26 _ _ rfl (w.heap.size + 1) #[.int .i64 s, .slice A7 k c7, .slice A8 nr c8] rfl rfl 26 #[.int .i64 0, .slice none 0 0, .slice none 0 0] hq7 (Hi.out _ _ _ _ _ _ _) rfl (Hone.out _ _ _ _ _ _ _) ?_)
              have hBe : Below w.heap.size w (wr.setRow (w.heap.size + 1) #[.int .i64 s, .slice A7 k c7, .slice A8 nr c8]) := setRow_below5 (HB2.out.trans (hb7.mono (by omega))) (by omega)
              exact bodyPost_ret (v := .tuple #[.agg #[.int .i64 s, .slice A7 k c7, .slice A8 nr c8], .bool true]) (results_row_tmp (by rfl) _ _ (w.heap.size + 1) 26 _ (0, 0) _ _ rfl rfl (setRow_heap _ _ _ _ _ _ hq7) Tryd.underlying26 rfl (Hi.out _ _ _ _ _ _ _)) rfl ⟨hBe, .inr ⟨ht, A7, c7, A8, c8, W2.heap.size, rfl, ho7.setX hq7, by omega, (hor7.setX hq7).mono (by omega), (hsp7.setX hq7).mono (by omega)⟩⟩
end Go.Proofs.YtjdhfknoldginaaDoor
set_option maxRecDepth 8000
namespace Go.Proofs.YtjdhfknoldginaaDoor
open Go.ChangeShapes Go.WideShapes Go.ChangeAt Go.RowKit
/-- a store of a number into any row of numbers: a row of the call's own is still one, whatever it holds now. -/
theorem ow_any {w : World} {lo n c : Nat} {A : Option Addr} {xs : List Int} (h : Ow w lo A n c xs) (g j : Nat) (z : Int) : ∃ xs', xs'.length = xs.length ∧ Ow (w.setCell ⟨g, j, none⟩ (.int .i64 z)) lo A n c xs' := by
  by_cases e : (Value.slice A n c).ownBlock = some g
  · obtain ⟨b, hA⟩ : ∃ b : Addr, A = some b := by cases A with
      | none => simp [Value.ownBlock] at e
      | some b => exact ⟨b, rfl⟩
    have hg : A = some ⟨g, 0, none⟩ := by
      rcases h.2 with ⟨h1, _⟩ | ⟨g', cap, cur, hv, _⟩
      · rw [hA] at h1; cases h1
      · injection hv with e1 _ _
        rw [e1] at e ⊢
        simp [Value.ownBlock] at e
        rw [e]
    subst hg
    refine ⟨xs.set j z, by simp, ?_⟩
    have := (World.ownsRow.stored h j (.int .i64 z)).1
    unfold Ow
    rwa [show vals (xs.set j z) = (vals xs).set j (.int .i64 z) by simp [vals, List.map_set]]
  · exact ⟨xs, rfl, World.ownsRow.kept h (row := some g) grown_set (.inr e)⟩
theorem owR_any {w : World} {lo k : Nat} {v : Value} {rs : List RuleM} (h : OwR w lo v rs k) (g j : Nat) (z : Int) {cs : Array Value} (hg : w.heap[g]? = some (.cells cs 3)) :
    ∃ rs', rs'.length = k ∧ OwR (w.setCell ⟨g, j, none⟩ (.int .i64 z)) lo v rs' k := by
  obtain ⟨vs, hown, hin⟩ := h
  have hx : ∀ i, ∃ xs' : List Int, i < k → xs'.length = (rat rs i).xs.length ∧ ∃ A' c', vs[i * 3]? = some (.int .i64 (rat rs i).k) ∧ vs[i * 3 + 1]? = some (.slice A' (rat rs i).xs.length c') ∧ vs[i * 3 + 2]? = some (.int .i64 (rat rs i).v) ∧ Ow (w.setCell ⟨g, j, none⟩ (.int .i64 z)) lo A' (rat rs i).xs.length c' xs' ∧ (rat rs i).xs.length ≤ 1099511627776 ∧ ∀ b, (Value.slice A' (rat rs i).xs.length c').ownBlock = some b → v.ownBlock ≠ some b := by
    intro i
    by_cases hi : i < k
    · obtain ⟨A', c', e0, e1, e2, e3, e4, e5⟩ := hin i hi
      obtain ⟨xs', hl, ho⟩ := ow_any e3 g j z
      exact ⟨xs', fun _ => ⟨hl, A', c', e0, e1, e2, ho, e4, e5⟩⟩
    · exact ⟨[], fun h => absurd h hi⟩
  obtain ⟨f, hf⟩ := Classical.skolem.1 hx
  refine ⟨(List.range k).map (fun i => ⟨(rat rs i).k, f i, (rat rs i).v⟩), by simp, vs, World.ownsRow.kept hown (row := some g) grown_set ?_, fun i hi => ?_⟩
  · rcases hown.2 with ⟨rfl, _⟩ | ⟨g', cap, cur, rfl, hb, hg', _⟩
    · exact .inl rfl
    · refine .inr (fun e2 => ?_)
      have e3 : g' = g := by simpa [Value.ownBlock] using e2
      subst e3
      rw [hg] at hg'
      injection hg' with hg'
      injection hg' with _ h2 _
      exact absurd h2 (by decide)
  · have hr : rat ((List.range k).map (fun i => (⟨(rat rs i).k, f i, (rat rs i).v⟩ : RuleM))) i = ⟨(rat rs i).k, f i, (rat rs i).v⟩ := by
      simp [rat, List.getD_eq_getElem?_getD, hi]
    obtain ⟨hl, A', c', e0, e1, e2, e3, e4, e5⟩ := hf i hi
    rw [hr]
    simp only
    rw [hl]
    exact ⟨A', c', e0, e1, e2, e3, e4, e5⟩
/-- 'append(rs, x)': one rule, whose value lies in a literal's block. -/
theorem run_push_oneV {w : World} (ty : TypeId) (lo : Nat) (A : Option Addr) (n c b : Nat) (rs : List RuleM) (k v : Int) (A3 : Option Addr) (m c3 : Nat) (xs : List Int) (hl : rs.length = n) (vs1 : List Value) (hown : w.ownsRow lo 61 3 (.slice A n c) n vs1) (hin : InR w lo (.slice A n c) rs vs1 n) (ho : Ow w lo A3 m c3 xs)
    (hlit : w.heap[b]? = some (.cells #[.int .i64 k, .slice A3 m c3, .int .i64 v] 61)) (hn : n ≤ 1099511627775) (hm : m ≤ 1099511627776) (hlo : lo ≤ w.heap.size) :
    ∃ A' c' w', (Builtin.append_ #[24, 24] ty #[.slice A n c, .slice (some ⟨b, 0, none⟩) 1 1]).run Tryd.prog w = .ok (.slice A' (n + 1) c') w' ∧ (w'.ownsRow lo 61 3 (.slice A' (n + 1) c') (n + 1) (vs1 ++ [.int .i64 k, .slice A3 m c3, .int .i64 v]) ∧ InR w' lo (.slice A' (n + 1) c') (rs ++ [⟨k, xs, v⟩]) (vs1 ++ [.int .i64 k, .slice A3 m c3, .int .i64 v]) (n + 1)) ∧ w.grownBy w' (Value.slice A n c).ownBlock := by
  have hxl := ho.len
  have hl2 : w.ownsRow 0 61 3 (.slice (some ⟨b, 0, none⟩) 1 1) 1 [.int .i64 k, .slice A3 m c3, .int .i64 v] := ⟨rfl, .inr ⟨b, 1, _, rfl, Nat.zero_le _, hlit, Nat.le_refl _, by simp [maxLen], rfl, rfl⟩⟩
  have hin2 : InR w lo (.slice A n c) [⟨k, xs, v⟩] [.int .i64 k, .slice A3 m c3, .int .i64 v] 1 := by
    intro i hi
    obtain rfl : i = 0 := by omega
    refine ⟨A3, c3, rfl, by simp [rat, hxl], rfl, by simp only [rat, List.getD_cons_zero]; rw [hxl]; exact ho, by simp only [rat, List.getD_cons_zero]; omega, fun g hg e => ?_⟩
    simp only [rat, List.getD_cons_zero] at hg
    rcases hown.2 with ⟨e1, _⟩ | ⟨g1, cap1, cur1, e1, _, hr1, _⟩
    · rw [e1] at e; simp [Value.ownBlock] at e
    · rcases ho.2 with ⟨e2, _⟩ | ⟨g2, cap2, cur2, e2, _, hr2, _⟩
      · injection e2 with e2 _ _
        rw [e2] at hg; simp [Value.ownBlock] at hg
      · injection e2 with e2 _ _
        rw [e1] at e
        rw [e2] at hg
        simp [Value.ownBlock] at e hg
        subst e
        subst hg
        rw [hr1] at hr2
        injection hr2 with hr2
        injection hr2 with _ h2 _
        exact absurd h2 (by decide)
  obtain ⟨A', c', w', hrun, h1, h2, _⟩ := run_push_rulesV ty lo A n c rs vs1 (some ⟨b, 0, none⟩) 1 1 [⟨k, xs, v⟩] _ 0 hl hown hin hl2 hin2 (.inl (by omega)) (by omega) (by omega) hlo
  exact ⟨A', c', w', hrun, h1, h2⟩
theorem run_push_one {w : World} (ty : TypeId) (lo : Nat) (A : Option Addr) (n c b : Nat) (rs : List RuleM) (k v : Int) (A3 : Option Addr) (m c3 : Nat) (xs : List Int) (hl : rs.length = n) (h : OwR w lo (.slice A n c) rs n) (ho : Ow w lo A3 m c3 xs)
    (hlit : w.heap[b]? = some (.cells #[.int .i64 k, .slice A3 m c3, .int .i64 v] 61)) (hn : n ≤ 1099511627775) (hm : m ≤ 1099511627776) (hlo : lo ≤ w.heap.size) :
    ∃ A' c' w', (Builtin.append_ #[24, 24] ty #[.slice A n c, .slice (some ⟨b, 0, none⟩) 1 1]).run Tryd.prog w = .ok (.slice A' (n + 1) c') w' ∧ OwR w' lo (.slice A' (n + 1) c') (rs ++ [⟨k, xs, v⟩]) (n + 1) ∧ w.grownBy w' (Value.slice A n c).ownBlock := by
  obtain ⟨vs1, hown, hin⟩ := id h
  obtain ⟨A', c', w', hrun, ⟨k1, k2⟩, k3⟩ := run_push_oneV ty lo A n c b rs k v A3 m c3 xs hl vs1 hown hin ho hlit hn hm hlo
  exact ⟨A', c', w', hrun, ⟨_, k1, k2⟩, k3⟩
/-- at a step of a region that draws its order. -/
theorem step_push_one {w : World} {ops : Array Oper} {o : Oper} {a : Act} {K : Act → World → Prop} {Q : Exit → Act → World → Prop} {E : Prop} (hgd : o.guard = none) (s x : Operand)
    (ho' : o.op = .call { callee := .builtin .append, args := #[s, x], argTypes := #[24, 24] })
    (lo : Nat) (A : Option Addr) (n c b : Nat) (rs : List RuleM) (k v : Int) (A3 : Option Addr) (m c3 : Nat) (xs : List Int) (hs : a.eval s = .slice A n c) (hx : a.eval x = .slice (some ⟨b, 0, none⟩) 1 1) (hl : rs.length = n) (h : OwR w lo (.slice A n c) rs n) (ho : Ow w lo A3 m c3 xs)
    (hlit : w.heap[b]? = some (.cells #[.int .i64 k, .slice A3 m c3, .int .i64 v] 61)) (hn : n ≤ 1099511627775) (hm : m ≤ 1099511627776) (hlo : lo ≤ w.heap.size)
    (hK : ∀ A' c' w', OwR w' lo (.slice A' (n + 1) c') (rs ++ [⟨k, xs, v⟩]) (n + 1) → w.grownBy w' (Value.slice A n c).ownBlock → K (a.put o.dst (.slice A' (n + 1) c')) w') :
    if Region.wanted o (yielded ops a.tmps) = true then Oper.wp Tryd.prog o a w K Q else E := by
  obtain ⟨A', c', w', hrun, h1, h2⟩ := run_push_one o.type lo A n c b rs k v A3 m c3 xs hl h ho hlit hn hm hlo
  have hw : Region.wanted o (yielded ops a.tmps) = true := by simp [Region.wanted, hgd]
  rw [if_pos hw]
  unfold Oper.wp execOp
  simp only [ho', resolve, invoke, builtin, Sem.run_bind, Sem.run_pure, Result.andThen_ok, List.map_toArray, List.map_cons, List.map_nil, hs, hx, hrun]
  exact hK A' c' w' h1 h2
/-- in a region whose order is written. -/
theorem push_rules {w : World} {ops : Array Oper} {rest : List Oper} {o : Oper} {a : Act} {Q : Exit → Act → World → Prop} (hgd : o.guard = none) (s x : Operand)
    (ho : o.op = .call { callee := .builtin .append, args := #[s, x], argTypes := #[24, 24] })
    (lo : Nat) (A : Option Addr) (n c : Nat) (rs1 : List RuleM) (vs1 : List Value) (A2 : Option Addr) (m c2 : Nat) (rs2 : List RuleM) (vs2 : List Value) (lo2 : Nat) (hs : a.eval s = .slice A n c) (hx : a.eval x = .slice A2 m c2) (l1 : rs1.length = n)
    (hown : w.ownsRow lo 61 3 (.slice A n c) n vs1) (hin1 : InR w lo (.slice A n c) rs1 vs1 n) (hown2 : w.ownsRow lo2 61 3 (.slice A2 m c2) m vs2) (hin2 : InR w lo (.slice A n c) rs2 vs2 m) (hmn : 0 < m ∨ n = 0)
    (hn : n ≤ 1099511627776) (hm : m ≤ 1099511627776) (hlo : lo ≤ w.heap.size)
    (h : ∀ A' c' w', OwR w' lo (.slice A' (n + m) c') (rs1 ++ rs2) (n + m) → w.grownBy w' (Value.slice A n c).ownBlock → wpList Tryd.prog ops Q rest (a.put o.dst (.slice A' (n + m) c')) w') :
    wpList Tryd.prog ops Q (o :: rest) a w := by
  refine wpList_plain hgd fun K hK => ?_
  obtain ⟨A', c', w', hrun, h1, h2, h3⟩ := run_push_rules o.type lo A n c rs1 vs1 A2 m c2 rs2 vs2 lo2 l1 hown hin1 hown2 hin2 hmn hn hm hlo
  unfold Oper.wp
  simp [execOp, ho, resolve, invoke, builtin, hs, hx, hrun, Result.andThen]
  exact hK _ _ (h A' c' w' h1 h2)
theorem push_rulesV {w : World} {ops : Array Oper} {rest : List Oper} {o : Oper} {a : Act} {Q : Exit → Act → World → Prop} (hgd : o.guard = none) (s x : Operand)
    (ho : o.op = .call { callee := .builtin .append, args := #[s, x], argTypes := #[24, 24] })
    (lo : Nat) (A : Option Addr) (n c : Nat) (rs1 : List RuleM) (vs1 : List Value) (A2 : Option Addr) (m c2 : Nat) (rs2 : List RuleM) (vs2 : List Value) (lo2 : Nat) (hs : a.eval s = .slice A n c) (hx : a.eval x = .slice A2 m c2) (l1 : rs1.length = n)
    (hown : w.ownsRow lo 61 3 (.slice A n c) n vs1) (hin1 : InR w lo (.slice A n c) rs1 vs1 n) (hown2 : w.ownsRow lo2 61 3 (.slice A2 m c2) m vs2) (hin2 : InR w lo (.slice A n c) rs2 vs2 m) (hmn : 0 < m ∨ n = 0)
    (hn : n ≤ 1099511627776) (hm : m ≤ 1099511627776) (hlo : lo ≤ w.heap.size)
    (h : ∀ A' c' w', w'.ownsRow lo 61 3 (.slice A' (n + m) c') (n + m) (vs1 ++ vs2) → InR w' lo (.slice A' (n + m) c') (rs1 ++ rs2) (vs1 ++ vs2) (n + m) → w.grownBy w' (Value.slice A n c).ownBlock → wpList Tryd.prog ops Q rest (a.put o.dst (.slice A' (n + m) c')) w') :
    wpList Tryd.prog ops Q (o :: rest) a w := by
  refine wpList_plain hgd fun K hK => ?_
  obtain ⟨A', c', w', hrun, ⟨h1, h1'⟩, h2, h3⟩ := run_push_rulesV o.type lo A n c rs1 vs1 A2 m c2 rs2 vs2 lo2 l1 hown hin1 hown2 hin2 hmn hn hm hlo
  unfold Oper.wp
  simp [execOp, ho, resolve, invoke, builtin, hs, hx, hrun, Result.andThen]
  exact hK _ _ (h A' c' w' h1 h1' h2)
/-- what is written in blocks of the call's own: the lower ones stay. -/
theorem grown_own {w2 w w' : World} {G lo : Nat} {v : Value} {e : TypeId} {sz n : Nat} {xs : List Value} (h : w2.grownBy w (some G)) (hown : w.ownsRow lo e sz v n xs) (hlo : w2.heap.size ≤ lo) (hg : w.grownBy w' v.ownBlock) : w2.grownBy w' (some G) :=
  ⟨hg.os.trans h.os, hg.tape.trans h.tape, hg.output.trans h.output, Nat.le_trans h.size hg.size, fun k hk hne => (hg.block k (Nat.lt_of_lt_of_le hk h.size) (fun e => by have := (World.ownsRow.lt hown k e.symm).1; omega)).trans (h.block k hk hne)⟩
/-- a puzzle's row, kept by a write into a row of numbers or rules. -/
theorem row_own {w w' : World} {lo X : Nat} {v : Value} {e t : TypeId} {sz n : Nat} {xs : List Value} {cs : Array Value} (hX : w.heap[X]? = some (.cells cs t)) (hown : w.ownsRow lo e sz v n xs) (hne : t ≠ e) (hg : w.grownBy w' v.ownBlock) : w'.heap[X]? = some (.cells cs t) := by
  refine (hg.block X (Array.getElem?_eq_some_iff.1 hX).1 (fun e2 => ?_)).trans hX
  rcases hown.2 with ⟨rfl, _⟩ | ⟨g, cap, cur, rfl, hb, hg', _⟩
  · simp [Value.ownBlock] at e2
  · have e3 : X = g := by simpa [Value.ownBlock] using e2
    subst e3
    rw [hX] at hg'
    injection hg' with hg'
    injection hg' with _ h2 _
    exact hne h2
/-- a row of numbers, kept by a write into a row of rules. -/
theorem ow_own {w w' : World} {lo lo' A n c} {xs : List Int} {v : Value} {e : TypeId} {sz k : Nat} {vs : List Value} (h : Ow w lo A n c xs) (hown : w.ownsRow lo' e sz v k vs) (hne : 3 ≠ e) (hg : w.grownBy w' v.ownBlock) : Ow w' lo A n c xs := by
  refine World.ownsRow.kept h hg ?_
  rcases h.2 with ⟨e1, _⟩ | ⟨g1, cap1, cur1, e1, _, hr1, _⟩
  · rw [e1]; exact .inl rfl
  · refine .inr (fun e2 => ?_)
    rcases hown.2 with ⟨e3, _⟩ | ⟨g2, cap2, cur2, e3, _, hr2, _⟩
    · rw [e1, e3] at e2; simp [Value.ownBlock] at e2
    · rw [e1, e3] at e2
      simp [Value.ownBlock] at e2
      subst e2
      rw [hr1] at hr2
      injection hr2 with hr2
      injection hr2 with _ h2 _
      exact hne h2
end Go.Proofs.YtjdhfknoldginaaDoor
set_option maxRecDepth 8000
namespace Go.Proofs.YtjdhfknoldginaaDoor
open Go.ChangeShapes Go.WideShapes Go.ChangeAt Go.RowKit

/-- the box of a cell. -/
def boxC (k : Nat) : Int := ((k / 8 * 2 + k % 4 / 2 : Nat) : Int)
set_option maxHeartbeats 1000000 in
theorem specBoxRegions (w : World) : Calls Tryd.prog 74 #[] w (RetSl w (mapTo boxC 16)) := by
  have hb0 : Below w.heap.size w (w.alloc (.cells #[] 3)) := (Below.refl _ _).alloc (Nat.le_refl _) _
  go_enter Tryd.func74, Tryd.ntmps74
  go_wp2
  go_loopw [1, 2] (fun v i wr => ∃ (u : Nat) (A' : Option Addr) (c' : Nat), u ≤ 16 ∧ i = .int .i64 u ∧ v = .slice A' u c' ∧ Ow wr w.heap.size A' u c' (mapTo boxC u) ∧ Below w.heap.size w wr) (fun _ i _ => 16 - (intOf i).toNat)
  case atStart => exact ⟨0, _, _, Nat.zero_le _, rfl, rfl, Ow.made0 _ _ (Nat.le_refl _), hb0⟩
  case round =>
    obtain ⟨u, A', c', hu, rfl, rfl, ho, hb⟩ := hrel
    have hs := hb.size
    by_cases hlt : u < 16
    · have hlt' : (u : Int) < 16 := by omega
      have hu1 : u ≤ 1099511627776 := by omega
      go_wp2_with (at_builtin; refine push_int rfl (.tmp 8) (.tmp 16) rfl w.heap.size A' u c' (mapTo boxC u) _ rfl rfl ho hu1 hs ?_; intro A5 c5 w5 ho5 hg5)
      go_roundw
      case rel => exact ⟨u + 1, _, _, by omega, by go_num, rfl, by rw [mapTo_succ]; exact ho5, push_below hb ho (Nat.le_refl _) hs hg5⟩
      case measure => simp [intOf]; omega
    · obtain rfl : u = 16 := by omega
      go_wp2
      go_ret
      exact retSl_mk ho hb
theorem all_f5 {xs : List Int} {p : Int → Bool} {k n : Nat} (hl : xs.length = n) (hk : k < n) (h : p (nth xs k) = false) : xs.all p = false := by
  refine List.all_eq_false.2 ⟨nth xs k, ?_, by simp [h]⟩
  have hk' : k < xs.length := by omega
  have e : nth xs k = xs[k] := by simp [nth, List.getD_eq_getElem?_getD, hk']
  rw [e]
  exact List.getElem_mem _
/-- the numbers of the regions are valid. -/
def regB (rg : List Int) (s : Int) : Bool := (rg.all fun x => inr x 0 (s - 1)) && inr s 2 4 && ((rg.length : Int) == s * s)
set_option maxHeartbeats 1000000 in
theorem specRegionsValid (A : Option Addr) (c n B : Nat) (rg : List Int) (s : Int) (w : World) (h : Rd w B A n rg) (hm : n ≤ 1099511627776) :
    Calls Tryd.prog 101 #[.slice A n c, .int .i64 s] w fun e w' => e = .returned (.bool (regB rg s)) ∧ w = w' := by
  obtain ⟨q, hq⟩ : ∃ q, wrap64 (s - 1) = q := ⟨_, rfl⟩
  have hreg : regB rg s = ((rg.all fun x => inr x 0 q) && inr s 2 4 && ((rg.length : Int) == s * s)) := by
    cases hs : inr s 2 4
    · simp [regB, hs]
    · obtain ⟨h2, h4⟩ := inr_t hs
      rw [IntWalk.wrap64_in _ ⟨by omega, by omega⟩] at hq
      subst hq
      simp only [regB, hs]
  have Hreg := Lib.hid hreg
  clear hreg
  go_enter Tryd.func101, Tryd.ntmps101
  go_wp2
  go_loop [5] (fun i => ∃ k : Nat, k ≤ n ∧ i = .int .i64 k ∧ okTo rg q k) (fun i => n - (intOf i).toNat)
  case atStart => exact ⟨0, Nat.zero_le _, rfl, okTo_zero⟩
  case round =>
    obtain ⟨k, hk, rfl, hok⟩ := hrel
    by_cases hlt : k < n
    · have hlen := Lib.hid h.1
      obtain ⟨b, off, rfl, hb, hck⟩ := h.at_ hlt
      cases hv : inr (nth rg k) 0 q
      · go_wp2_with (go_at_call 57; (try simp only [hq]); refine (l1In_any _ _ _ _).mono ?_; rintro e w' ⟨rfl, rfl⟩)
        go_ret
        exact ⟨by rw [Hreg.out, all_f5 hlen.out hlt (p := fun x => inr x 0 q) hv]; rfl, rfl⟩
      · go_wp2_with (go_at_call 57; (try simp only [hq]); refine (l1In_any _ _ _ _).mono ?_; rintro e w' ⟨rfl, rfl⟩)
        go_round
        case rel => exact ⟨k + 1, by omega, by go_num, okTo_succ hok hv⟩
        case measure => simp [intOf]; omega
    · obtain rfl : k = n := by omega
      have hall := Lib.hid (okTo_all hok h.1)
      have hlen := Lib.hid h.1
      cases hs : inr s 2 4
      · clear hq
        go_wp2_with (go_at_call 57; refine (l1In_any _ _ _ _).mono ?_; rintro e w' ⟨rfl, rfl⟩)
        go_ret
        exact ⟨by rw [Hreg.out, hs]; simp, rfl⟩
      · obtain ⟨h2, h4⟩ := inr_t hs
        clear hq
        have hsq : s = 2 ∨ s = 3 ∨ s = 4 := by omega
        rcases hsq with rfl | rfl | rfl
        all_goals
          go_wp2_with (go_at_call 57; refine (l1In_any _ _ _ _).mono ?_; rintro e w' ⟨rfl, rfl⟩)
          go_ret
          exact ⟨by rw [Hreg.out, hs, hall.out, hlen.out]; simp, rfl⟩
end Go.Proofs.YtjdhfknoldginaaDoor
set_option maxRecDepth 8000
namespace Go.Proofs.YtjdhfknoldginaaDoor
open Go.ChangeShapes Go.WideShapes Go.ChangeAt Go.RowKit

/-- the cells before the u-th that lie in a region. -/
def pickTo (rg : List Int) (r : Int) : Nat → List Int
  | 0 => []
  | u + 1 => if nth rg u = r then pickTo rg r u ++ [(u : Int)] else pickTo rg r u
theorem pickTo_len (rg : List Int) (r : Int) (u : Nat) : (pickTo rg r u).length ≤ u := by
  induction u with
  | zero => exact Nat.le_refl _
  | succ u ih =>
    simp only [pickTo]
    split
    · simp; omega
    · omega
def cellsL (rg : List Int) (s r : Int) (n : Nat) : List Int := if regB rg s = true then pickTo rg r n else []
set_option maxHeartbeats 1000000 in
theorem specRegionCells (A : Option Addr) (c n B : Nat) (rg : List Int) (s r : Int) (w : World) (h : Rd w B A n rg) (hB : B ≤ w.heap.size) (hm : n ≤ 1099511627776) :
    Calls Tryd.prog 102 #[.slice A n c, .int .i64 s, .int .i64 r] w (RetSl w (cellsL rg s r n)) := by
  have hb0 : Below w.heap.size w (w.alloc (.cells #[] 3)) := (Below.refl _ _).alloc (Nat.le_refl _) _
  have HV := Lib.hid (fun w' (hb : Below w.heap.size w w') => specRegionsValid A c n B rg s w' (h.below (hb.mono hB)) hm)
  cases hv : regB rg s
  · have HL := Lib.hid (show cellsL rg s r n = [] by simp [cellsL, hv])
    go_enter Tryd.func102, Tryd.ntmps102
    go_wp2
    go_loopw [7, 8] (fun v i wr => v = .slice (some ⟨w.heap.size, 0, none⟩) 0 0 ∧ i = .int .i64 0 ∧ wr = w.alloc (.cells #[] 3)) (fun _ _ _ => 0)
    case atStart => exact ⟨rfl, rfl, rfl⟩
    case round =>
      obtain ⟨rfl, rfl, rfl⟩ := hrel
      by_cases hlt : 0 < n
      · have hlt' : (0 : Int) < (n : Int) := by omega
        go_wp2_with (go_at_call 101; refine (HV.out _ hb0).mono ?_; rintro e w1 ⟨rfl, rfl⟩; rw [hv])
        go_ret
        rw [HL.out]
        exact ⟨_, _, rfl, Ow.made0 _ _ (Nat.le_refl _), hb0⟩
      · obtain rfl : n = 0 := by omega
        go_wp2
        go_ret
        rw [HL.out]
        exact ⟨_, _, rfl, Ow.made0 _ _ (Nat.le_refl _), hb0⟩
  · have HL := Lib.hid (show cellsL rg s r n = pickTo rg r n by simp [cellsL, hv])
    go_enter Tryd.func102, Tryd.ntmps102
    go_wp2
    go_loopw [7, 8] (fun v i wr => ∃ (u m : Nat) (A' : Option Addr) (c' : Nat), u ≤ n ∧ i = .int .i64 u ∧ v = .slice A' m c' ∧ Hid ((pickTo rg r u).length = m) ∧ Ow wr w.heap.size A' m c' (pickTo rg r u) ∧ Below w.heap.size w wr) (fun _ i _ => n - (intOf i).toNat)
    case atStart => exact ⟨0, 0, _, _, Nat.zero_le _, rfl, rfl, Lib.hid rfl, Ow.made0 _ _ (Nat.le_refl _), hb0⟩
    case round =>
      obtain ⟨u, m, A', c', hu, rfl, rfl, hlen, ho, hb⟩ := hrel
      have hs := hb.size
      by_cases hlt : u < n
      · obtain ⟨b, off, hA, hbB, hck⟩ := (h.below (hb.mono hB)).at_ hlt
        subst hA
        have hm1 : m ≤ 1099511627776 := by have := hlen.out; have := pickTo_len rg r u; omega
        by_cases e : nth rg u = r
        · have hq : (nth rg u == r) = true := by simp [e]
          have Hp := Lib.hid (show pickTo rg r (u + 1) = pickTo rg r u ++ [(u : Int)] by simp only [pickTo]; rw [if_pos e])
          have Hl := Lib.hid (show (pickTo rg r (u + 1)).length = m + 1 by rw [Hp.out, List.length_append, hlen.out]; rfl)
          clear e
          go_wp2_with (first
            | (go_at_call 101; refine (HV.out _ hb).mono ?_; rintro e w1 ⟨rfl, rfl⟩; rw [hv])
            | (at_builtin; refine push_int rfl (.tmp 27) (.tmp 29) rfl w.heap.size A' m c' (pickTo rg r u) _ rfl rfl ho hm1 hs ?_; intro A5 c5 w5 ho5 hg5))
          go_roundw
          case rel => exact ⟨u + 1, _, _, _, by omega, by go_num, rfl, Hl, by rw [Hp.out]; exact ho5, push_below hb ho (Nat.le_refl _) hs hg5⟩
          case measure => simp [intOf]; omega
        · have hq : (nth rg u == r) = false := by simp [e]
          have Hp := Lib.hid (show pickTo rg r (u + 1) = pickTo rg r u by simp only [pickTo]; rw [if_neg e])
          clear e
          go_wp2_with (go_at_call 101; refine (HV.out _ hb).mono ?_; rintro e w1 ⟨rfl, rfl⟩; rw [hv])
          go_roundw
          case rel => exact ⟨u + 1, _, _, _, by omega, by go_num, rfl, Lib.hid (by rw [Hp.out]; exact hlen.out), by rw [Hp.out]; exact ho, hb⟩
          case measure => simp [intOf]; omega
      · obtain rfl : u = n := by omega
        go_wp2
        go_ret
        rw [HL.out]
        exact retSl_mk ho hb
end Go.Proofs.YtjdhfknoldginaaDoor
set_option maxRecDepth 8000
namespace Go.Proofs.YtjdhfknoldginaaDoor
open Go.ChangeShapes Go.WideShapes Go.ChangeAt Go.RowKit

theorem rat_app {rs : List RuleM} {r : RuleM} {i : Nat} (h : i < rs.length) : rat (rs ++ [r]) i = rat rs i := by
  simp [rat, List.getD_eq_getElem?_getD, List.getElem?_append_left h]
theorem rat_last {rs : List RuleM} {r : RuleM} {m : Nat} (h : rs.length = m) : rat (rs ++ [r]) m = r := by
  subst h
  simp [rat, List.getD_eq_getElem?_getD]
/-- the rules of the regions before the u-th. -/
def rrTo (rg : List Int) (s : Int) (n : Nat) : Nat → List RuleM
  | 0 => []
  | u + 1 => if 2 ≤ (cellsL rg s u n).length then rrTo rg s n u ++ [⟨1, cellsL rg s u n, 0⟩] else rrTo rg s n u
theorem rrTo_len (rg : List Int) (s : Int) (n u : Nat) : (rrTo rg s n u).length ≤ u := by
  induction u with
  | zero => exact Nat.le_refl _
  | succ u ih =>
    simp only [rrTo]
    split
    · simp; omega
    · omega
def rrFit (rg : List Int) (s : Int) (n : Nat) : Bool := (List.range s.toNat).all fun u => decide ((cellsL rg s u n).length ≤ 4)
def rrB (rg : List Int) (s : Int) (n : Nat) : Bool := regB rg s && rrFit rg s n
def rrL (rg : List Int) (s : Int) (n : Nat) : List RuleM := if rrB rg s n = true then rrTo rg s n s.toNat else []
set_option maxHeartbeats 2000000 in
theorem specRegionRules (A : Option Addr) (c n B : Nat) (rg : List Int) (s : Int) (w : World) (h : Rd w B A n rg) (hB : B ≤ w.heap.size) (hm : n ≤ 1099511627776) :
    Calls Tryd.prog 73 #[.slice A n c, .int .i64 s] w fun e w' => ∃ A' c', e = .returned (.tuple #[.slice A' (rrL rg s n).length c', .bool (rrB rg s n)]) ∧ OwR w' w.heap.size (.slice A' (rrL rg s n).length c') (rrL rg s n) (rrL rg s n).length ∧ Below w.heap.size w w' := by
  have hb0 : Below w.heap.size w (w.alloc (.cells #[] 61)) := (Below.refl _ _).alloc (Nat.le_refl _) _
  have hr0 : ∀ rs, OwR (w.alloc (.cells #[] 61)) w.heap.size (.slice (some ⟨w.heap.size, 0, none⟩) 0 0) rs 0 := fun rs => ⟨[], World.ownsRow_made _ #[] 0 (Nat.le_refl _) (by simp [maxLen]) rfl, fun i hi => absurd hi (by omega)⟩
  have HV := Lib.hid (fun w' (hb : Below w.heap.size w w') => specRegionsValid A c n B rg s w' (h.below (hb.mono hB)) hm)
  cases hv : regB rg s
  · have HL := Lib.hid (show rrL rg s n = [] by simp [rrL, rrB, hv])
    have HL2 := Lib.hid (show rrB rg s n = false by simp [rrB, hv])
    go_enter Tryd.func73, Tryd.ntmps73
    go_wp2_with (go_at_call 101; refine (HV.out _ hb0).mono ?_; rintro e w1 ⟨rfl, rfl⟩; rw [hv])
    go_ret2
    rw [HL.out, HL2.out]
    exact ⟨_, _, rfl, hr0 _, hb0⟩
  · have hs24 : inr s 2 4 = true := by
      simp only [regB, Bool.and_eq_true] at hv
      exact hv.1.2
    obtain ⟨h2, h4⟩ := inr_t hs24
    obtain ⟨t, rfl⟩ := Int.eq_ofNat_of_zero_le (show 0 ≤ s by omega)
    have HC := Lib.hid (fun (u : Nat) w' (hb : Below w.heap.size w w') => specRegionCells A c n B rg t u w' (h.below (hb.mono hB)) (Nat.le_trans hB hb.size) hm)
    have hHV := Lib.hid hv
    clear hv hs24
    go_enter Tryd.func73, Tryd.ntmps73
    go_wp2_with (go_at_call 101; refine (HV.out _ hb0).mono ?_; rintro e w1 ⟨rfl, rfl⟩; rw [hHV.out])
    go_loopw [6, 7] (fun v i wr => ∃ (u m : Nat) (A' : Option Addr) (c' : Nat), u ≤ t ∧ i = .int .i64 u ∧ v = .slice A' m c' ∧ Hid ((rrTo rg t n u).length = m) ∧ Hid (∀ j, j < u → (cellsL rg t j n).length ≤ 4) ∧ OwR wr w.heap.size (.slice A' m c') (rrTo rg t n u) m ∧ Below w.heap.size w wr) (fun _ i _ => t - (intOf i).toNat)
    case atStart => exact ⟨0, 0, _, _, Nat.zero_le _, rfl, rfl, Lib.hid rfl, Lib.hid (fun j hj => absurd hj (by omega)), hr0 _, hb0⟩
    case round =>
      obtain ⟨u, m, A', c', hu, rfl, rfl, hlen, hfit, hown, hb⟩ := hrel
      have hsw := hb.size
      by_cases hlt : u < t
      · have hlt' : (u : Int) < (t : Int) := by omega
        obtain ⟨q, hq⟩ : ∃ q, q = (cellsL rg t u n).length := ⟨_, rfl⟩
        have Hq := Lib.hid hq
        have HCu : Hid (∀ w', Below w.heap.size w w' → Calls Tryd.prog 102 #[.slice A n c, .int .i64 t, .int .i64 u] w' fun e w'' => ∃ A3 c3, e = .returned (.slice A3 q c3) ∧ Ow w'' w'.heap.size A3 q c3 (cellsL rg t u n) ∧ Below w'.heap.size w' w'') := Lib.hid (fun w' hb => by
          rw [hq]
          exact HC.out u w' hb)
        clear hq
        by_cases h5 : 4 < q
        · have h5' : (4 : Int) < (q : Int) := by omega
          have HL2 := Lib.hid (show rrB rg t n = false by
            have : rrFit rg t n = false := by
              cases e : rrFit rg t n
              · rfl
              · simp only [rrFit, List.all_eq_true, List.mem_range, decide_eq_true_eq] at e
                have := e u (by simpa using hlt)
                have := Hq.out
                omega
            simp [rrB, this])
          have HL := Lib.hid (show rrL rg t n = [] by simp [rrL, HL2.out])
          have HM := Lib.hid (fun w3 (hb3 : Below wr.heap.size wr w3) => (⟨⟨[], World.ownsRow_made w3 #[] 0 (Nat.le_trans hsw hb3.size) (by simp [maxLen]) rfl, fun i hi => absurd hi (by omega)⟩, ((hb.trans (hb3.mono hsw)).alloc (Nat.le_trans hsw hb3.size) _)⟩ : OwR (w3.alloc (.cells #[] 61)) w.heap.size (.slice (some ⟨w3.heap.size, 0, none⟩) 0 0) [] 0 ∧ Below w.heap.size w (w3.alloc (.cells #[] 61))))
          go_wp2_with (go_at_call 102; refine (HCu.out _ hb).mono ?_; rintro e w3 ⟨A3, c3, rfl, ho3, hb3⟩)
          go_ret2
          rw [HL.out, HL2.out]
          exact ⟨_, _, rfl, (HM.out _ hb3).1, (HM.out _ hb3).2⟩
        · have h5' : ¬ (4 : Int) < (q : Int) := by omega
          have Hfit := Lib.hid (show ∀ j, j < u + 1 → (cellsL rg t j n).length ≤ 4 by
            intro j hj
            by_cases e : j = u
            · subst e; have := Hq.out; omega
            · exact hfit.out j (by omega))
          by_cases h6 : 2 ≤ q
          · have h6' : (2 : Int) ≤ (q : Int) := by omega
            have Hp := Lib.hid (show rrTo rg t n (u + 1) = rrTo rg t n u ++ [⟨1, cellsL rg t u n, 0⟩] by simp only [rrTo]; rw [if_pos (by have := Hq.out; omega)])
            have Hl := Lib.hid (show (rrTo rg t n (u + 1)).length = m + 1 by rw [Hp.out, List.length_append, hlen.out]; rfl)
            obtain ⟨vs, hown, hin⟩ := hown
            have HK : Hid (∀ w', Below wr.heap.size wr w' → w'.ownsRow w.heap.size 61 3 (.slice A' m c') m vs) := Lib.hid (fun w' hb => World.ownsRow.kept hown (row := none) ⟨hb.os, hb.tape, hb.output, hb.size, fun k hk _ => hb.block k hk⟩ (by
              cases e : (Value.slice A' m c').ownBlock
              · exact .inl rfl
              · exact .inr (by simp)))
            have Hin := Lib.hid hin
            clear hin
            have hm1 : m ≤ 1099511627776 := by have := hlen.out; have := rrTo_len rg t n u; omega
            go_wp2_with (first
              | (go_at_call 102; refine (HCu.out _ hb).mono ?_; rintro e w3 ⟨A3, c3, rfl, ho3, hb3⟩; have hlo3 := Nat.le_trans hsw hb3.size; have hown3 := World.ownsRow.alloc (HK.out _ hb3) (.cells #[.int .i64 1, .slice A3 q c3, .int .i64 0] 61))
              | (at_builtin; (refine push_rule rfl (.tmp 31) (.tmp 34) rfl w.heap.size (.slice A' m c') m vs w3.heap.size 1 A3 q c3 0 rfl rfl hown3 (heap_alloc_new w3 _) hm1 (le_alloc5 hlo3) ?_); intro g5 cap5 w5 ho5 hg5 hl5))
            have hR := rat_last (r := ⟨1, cellsL rg t u n, 0⟩) hlen.out
            have Hpush : OwR w5 w.heap.size (.slice (some ⟨g5, 0, none⟩) (m + 1) cap5) (rrTo rg t n u ++ [⟨1, cellsL rg t u n, 0⟩]) (m + 1) := by
              have hx : (rat (rrTo rg t n u ++ [⟨1, cellsL rg t u n, 0⟩]) m).xs = cellsL rg t u n := by rw [hR]
              refine OwR.push (c3 := c3) (A3 := A3) hown (fun i hi => ?_) hsw hb3 (by rw [hx, ← Hq.out]; exact ho3) (by rw [hx, ← Hq.out]; omega) (by rw [hx, ← Hq.out, hR]; exact ho5) hg5 hl5
              rw [rat_app (by rw [hlen.out]; exact hi)]
              exact Hin.out i hi
            have hBe : Below w.heap.size w w5 := ((hb.trans (hb3.mono hsw)).alloc hlo3 _).grown hg5 (le_alloc5 hlo3) (fun k hk => (World.ownsRow.lt hown k hk).1)
            clear hR
            go_roundw
            case rel => exact ⟨u + 1, _, _, _, by omega, by go_num, rfl, Hl, Hfit, by rw [Hp.out]; exact Hpush, hBe⟩
            case measure => simp [intOf]; omega
          · have h6' : ¬ (2 : Int) ≤ (q : Int) := by omega
            have Hp := Lib.hid (show rrTo rg t n (u + 1) = rrTo rg t n u by simp only [rrTo]; rw [if_neg (by have := Hq.out; omega)])
            go_wp2_with (go_at_call 102; refine (HCu.out _ hb).mono ?_; rintro e w3 ⟨A3, c3, rfl, ho3, hb3⟩)
            go_roundw
            case rel => exact ⟨u + 1, _, _, _, by omega, by go_num, rfl, Lib.hid (by rw [Hp.out]; exact hlen.out), Hfit, by rw [Hp.out]; exact hown.below hb3, hb.trans (hb3.mono hsw)⟩
            case measure => simp [intOf]; omega
      · obtain rfl : u = t := by omega
        have HL2 := Lib.hid (show rrB rg u n = true by
          have : rrFit rg u n = true := by
            simp only [rrFit, List.all_eq_true, List.mem_range, decide_eq_true_eq]
            intro j hj
            exact hfit.out j (by simpa using hj)
          simp [rrB, this, hHV.out])
        have HL := Lib.hid (show rrL rg u n = rrTo rg u n u by simp [rrL, HL2.out])
        go_wp2
        go_ret2
        rw [HL.out, HL2.out, hlen.out]
        exact ⟨_, _, rfl, hown, hb⟩
end Go.Proofs.YtjdhfknoldginaaDoor
set_option maxRecDepth 8000
namespace Go.Proofs.YtjdhfknoldginaaDoor
open Go.ChangeShapes Go.WideShapes Go.ChangeAt Go.RowKit

theorem results_c2 {P : Program} {fn : Func} {p q r : Tmp} {ty : TypeId} (h : fn.results = #[.cell p ty, .tmp q, .tmp r]) (tmps : Array Value) (w : World) (g : Nat) (t : TypeId) (cs : Array Value) (fr : Nat × Nat) (d : TypeDesc) (b c : Value)
    (hp : tmps.getD p undef = .pointer (some ⟨g, 0, none⟩)) (hq : tmps.getD q undef = b) (hr : tmps.getD r undef = c) (hg : w.heap[g]? = some (.cells cs t fr))
    (hu : P.underlying ty = some d) (hd : (match d with | .struct _ | .array _ _ => true | _ => false) = true) (hi : (P.info? ty).map (·.size) = some cs.size) :
    (results fn tmps).run P w = .ok (.tuple #[.agg cs, b, c]) w := by
  have hp' : tmps[p]?.getD undef = .pointer (some ⟨g, 0, none⟩) := by simpa using hp
  have hq' : tmps[q]?.getD undef = b := by simpa using hq
  have hr' : tmps[r]?.getD undef = c := by simpa using hr
  simp [results, h, hp', hq', hr', asAddr, run_loadVar_row w g t ty cs fr d hg hu hd hi]
theorem solved_gv {s : Int} {n : Nat} {g : List Int} (h2 : 2 ≤ s) (h4 : s ≤ 4) (hn : (n : Int) = s * s) (hm : g ∈ sols s n (zeros n) 0) : gv g s = true :=
  okAll_gv (by have := sols_length s _ _ _ _ hm; rw [zeros_length] at this; exact this) hn h2 h4 (sols_ok (by omega : 0 ≤ s) n _ _ _ (okAll_zeros (by omega) n) _ hm)
/-- a drawn rule in block X, and a drawn grid: each in memory of its own. -/
def CaseRel (w0 : World) (B G P X : Nat) (k : Int) (A : Option Addr) (n c : Nat) (v : Int) (xs : List Int) (gv : Value) (wx : World) : Prop :=
  wx.heap[X]? = some (.cells #[.int .i64 k, .slice A n c, .int .i64 v] 61) ∧ Ow wx w0.heap.size A n c xs ∧ (∀ b, (Value.slice A n c).ownBlock = some b → b ≠ X) ∧
    (∃ (gb ng cg : Nat) (g : List Int), gv = .slice (some ⟨gb, 0, none⟩) ng cg ∧ Ow wx w0.heap.size (some ⟨gb, 0, none⟩) ng cg g ∧ 4 ≤ ng ∧ ng ≤ 16 ∧ gb ≠ X ∧ ∀ b, (Value.slice A n c).ownBlock = some b → b ≠ gb) ∧ Rdr wx B G P ∧ w0.grownBy wx (some G)
theorem case_set {w0 wx : World} {B G P X : Nat} {k : Int} {A : Option Addr} {n c : Nat} {v : Int} {xs g : List Int} {gb ng cg : Nat} (hG : G < w0.heap.size) (hB : B ≤ w0.heap.size) (hrow : wx.heap[X]? = some (.cells #[.int .i64 k, .slice A n c, .int .i64 v] 61)) (ho : Ow wx w0.heap.size A n c xs) (hne : ∀ b, (Value.slice A n c).ownBlock = some b → b ≠ X)
    (hog : Ow wx w0.heap.size (some ⟨gb, 0, none⟩) ng cg g) (h4 : 4 ≤ ng) (h16 : ng ≤ 16) (hgX : gb ≠ X) (hgA : ∀ b, (Value.slice A n c).ownBlock = some b → b ≠ gb) (hr : Rdr wx B G P) (hg : w0.grownBy wx (some G)) (j : Nat) (z : Int) :
    CaseRel w0 B G P X k A n c v xs (.slice (some ⟨gb, 0, none⟩) ng cg) (wx.setCell ⟨gb, j, none⟩ (.int .i64 z)) := by
  have hlo := hog.own_lo gb rfl
  have hb : Below w0.heap.size wx (wx.setCell ⟨gb, j, none⟩ (.int .i64 z)) := (Below.refl _ _).setCell hlo _
  exact ⟨(heap_setCell_other wx ⟨gb, j, none⟩ X _ (fun e => hgX e.symm)).trans hrow, ho.far (row := some gb) grown_set (fun b hb' e => hgA b hb' (by injection e with e; omega)), hne,
    ⟨gb, ng, cg, _, rfl, hog.put j z, h4, h16, hgX, hgA⟩, hr.belowN hb hG hB, grown_low hg hb⟩
theorem CaseRel.keep {w0 wx wy : World} {B G P P' X : Nat} {k : Int} {A : Option Addr} {n c : Nat} {v : Int} {xs : List Int} {gv : Value} (h : CaseRel w0 B G P X k A n c v xs gv wx) (hG : G < w0.heap.size) (hX : w0.heap.size ≤ X) (hg : wx.grownBy wy (some G)) (hr : Rdr wy B G P') : CaseRel w0 B G P' X k A n c v xs gv wy := by
  obtain ⟨h1, h2, h3, ⟨gb, ng, cg, g, h4, h5, h6, h7, h8, h9⟩, h10, h11⟩ := h
  have hXl : X < wx.heap.size := (Array.getElem?_eq_some_iff.1 h1).1
  exact ⟨(hg.block X hXl (fun e => by injection e with e; omega)).trans h1, h2.keptG hg hG, h3, ⟨gb, ng, cg, g, h4, h5.keptG hg hG, h6, h7, h8, h9⟩, hr, h11.trans hg⟩
theorem CaseRel.alloc {w0 wx : World} {B G P X : Nat} {k : Int} {A : Option Addr} {n c : Nat} {v : Int} {xs : List Int} {gv : Value} (h : CaseRel w0 B G P X k A n c v xs gv wx) (hG : G < w0.heap.size) (hB : B ≤ w0.heap.size) (hX : w0.heap.size ≤ X) (o : Obj) : CaseRel w0 B G P X k A n c v xs gv (wx.alloc o) :=
  h.keep hG hX (only_alloc (World.grownBy.refl _ _) o) (h.2.2.2.2.1.alloc (Nat.le_trans hB h.2.2.2.2.2.size) o)
end Go.Proofs.YtjdhfknoldginaaDoor
set_option maxRecDepth 8000
namespace Go.Proofs.YtjdhfknoldginaaDoor
open Go.ChangeShapes Go.WideShapes Go.ChangeAt Go.RowKit
theorem own_ne_row {w : World} {lo X : Nat} {v : Value} {e t : TypeId} {sz n : Nat} {xs : List Value} {cs : Array Value} (hX : w.heap[X]? = some (.cells cs t)) (hown : w.ownsRow lo e sz v n xs) (hne : t ≠ e) : v.ownBlock ≠ some X := fun e2 => by
  rcases hown.2 with ⟨rfl, _⟩ | ⟨g, cap, cur, rfl, hb, hg', _⟩
  · simp [Value.ownBlock] at e2
  · have e3 : X = g := by have := e2; simp [Value.ownBlock] at this; omega
    subst e3
    rw [hX] at hg'
    injection hg' with hg'
    injection hg' with _ h2 _
    exact hne h2
theorem rd_drop_ {w : World} {B g n : Nat} {xs : List Int} (h : Rd w B (some ⟨g, 0, none⟩) n xs) (hn : 1 ≤ n) : Rd w B (some ⟨g, 1, none⟩) (n - 1) (xs.drop 1) := by
  refine ⟨by rw [List.length_drop, h.1], fun hn1 => ?_⟩
  obtain ⟨b, off, e, hlt, hc⟩ := h.2 (by omega)
  injection e with e
  injection e with e1 e2 _
  subst e1 e2
  refine ⟨_, 1, rfl, hlt, fun k hk => ?_⟩
  have := hc (k + 1) (by omega)
  rw [show nth (xs.drop 1) k = nth xs (k + 1) by simp [nth, List.getD_eq_getElem?_getD]]
  rw [← this]
  congr 2
  omega
theorem make_rules21 (w : World) : (Instr.makeSlice 24 (.int .i64 21) (.int .i64 21)).run Tryd.prog w = .ok (.slice (some ⟨w.heap.size, 0, none⟩) 21 21) (w.alloc (.cells (madeCells #[.int .i64 0, .slice none 0 0, .int .i64 0] 63) 61)) := by
  obtain ⟨i0, hi, hz0, hz1, hz2⟩ := info_parts rule_parts
  have hr := run_make (P := Tryd.prog) w 24 61 i0 (.agg #[.int .i64 0, .slice none 0 0, .int .i64 0]) Tryd.underlying24 hi hz0 .i64 .i64 21 21 (by omega) (Int.le_refl _) (by rw [hz2]; decide) (by omega)
  rw [hz1] at hr
  exact hr
theorem made_get (z : Array Value) {n j : Nat} (h : j < n) : (madeCells z n).toList[j]? = some (z[j % z.size]!) := by simp [madeCells, h]
theorem rules21_own (w : World) {lo : Nat} (hlo : lo ≤ w.heap.size) : (w.alloc (.cells (madeCells #[.int .i64 0, .slice none 0 0, .int .i64 0] 63) 61)).ownsRow lo 61 3 (.slice (some ⟨w.heap.size, 0, none⟩) 21 21) 21 (madeCells #[.int .i64 0, .slice none 0 0, .int .i64 0] 63).toList ∧
    InR (w.alloc (.cells (madeCells #[.int .i64 0, .slice none 0 0, .int .i64 0] 63) 61)) lo (.slice (some ⟨w.heap.size, 0, none⟩) 21 21) (List.replicate 21 ⟨0, [], 0⟩) (madeCells #[.int .i64 0, .slice none 0 0, .int .i64 0] 63).toList 21 := by
  refine ⟨World.ownsRow_lit (e := 61) (size := 3) w _ 21 hlo (by simp only [maxLen]; omega) (by simp [size_madeCells]), fun i hi => ?_⟩
  have hr : rat (List.replicate 21 ⟨0, [], 0⟩) i = ⟨0, [], 0⟩ := by
    simp only [rat, List.getD_eq_getElem?_getD]
    rw [List.getElem?_replicate, if_pos hi]
    rfl
  rw [hr]
  refine ⟨none, 0, ?_, ?_, ?_, Ow.nil_ _ _, by simp, fun g hg => by simp [Value.ownBlock] at hg⟩
  · rw [made_get _ (by omega)]
    show some (#[Value.int .i64 0, .slice none 0 0, .int .i64 0][i * 3 % 3]!) = _
    rw [Nat.mul_mod_left]; rfl
  · rw [made_get _ (by omega)]
    show some (#[Value.int .i64 0, .slice none 0 0, .int .i64 0][(i * 3 + 1) % 3]!) = _
    rw [show (i * 3 + 1) % 3 = 1 by omega]; rfl
  · rw [made_get _ (by omega)]
    show some (#[Value.int .i64 0, .slice none 0 0, .int .i64 0][(i * 3 + 2) % 3]!) = _
    rw [show (i * 3 + 2) % 3 = 2 by omega]; rfl
end Go.Proofs.YtjdhfknoldginaaDoor
set_option maxRecDepth 8000
namespace Go.Proofs.YtjdhfknoldginaaDoor
open Go.ChangeShapes Go.WideShapes Go.ChangeAt Go.RowKit
/-- what a draw of a puzzle hands back: a puzzle that can be read, of blocks of its own. -/
def DrewPuz (w : World) (B G P : Nat) (m : Int) (e : Ending) (w' : World) : Prop :=
  ∃ (s : Int) (A1 : Option Addr) (n c1 : Nat) (gi : List Int) (A2 : Option Addr) (nr c2 : Nat) (rs : List RuleM), e = .returned (.agg #[.int .i64 s, .slice A1 n c1, .slice A2 nr c2]) ∧ 2 ≤ s ∧ s ≤ 4 ∧ Rd w' w'.heap.size A1 n gi ∧ n ≤ 16 ∧ (∀ b off, A1 = some ⟨b, off, none⟩ → w.heap.size ≤ b) ∧ OwR w' w.heap.size (.slice A2 nr c2) rs nr ∧ rs.length = nr ∧ nr ≤ 100 ∧ Rdr w' B G P ∧ w.grownBy w' (some G) ∧ (m < 1 → pvB s gi rs = true)
/-- the word between the parts: a puzzle of own blocks in block Pz, at most N rules. -/
def PSt (w2 : World) (B G P Pz : Nat) (s : Int) (N : Nat) (wr : World) : Prop :=
  ∃ (A1 : Option Addr) (n c1 : Nat) (gi : List Int) (A2 : Option Addr) (nr c2 : Nat) (rs : List RuleM), wr.heap[Pz]? = some (.cells #[.int .i64 s, .slice A1 n c1, .slice A2 nr c2] 26) ∧ (n : Int) = s * s ∧ Ow wr w2.heap.size A1 n c1 gi ∧ OwR wr w2.heap.size (.slice A2 nr c2) rs nr ∧ rs.length = nr ∧ nr ≤ N ∧ Rdr wr B G P ∧ w2.grownBy wr (some G) ∧ SpQ wr w2.heap.size (.slice A2 nr c2) nr (fun g => (Value.slice A1 n c1).ownBlock ≠ some g) ∧ (N < 10 → pvB s gi rs = true)
theorem pv_nil {s : Int} {g : List Int} (h : gv g s = true) : pvB s g [] = true := by simp [pvB, h]
theorem pv_app {s : Int} {gi : List Int} {rs rs2 : List RuleM} (h : pvB s gi rs = true) (hl : rs.length + rs2.length ≤ 20) (hv : ∀ i, i < rs2.length → rvR s (rat rs2 i) = true) : pvB s gi (rs ++ rs2) = true := by
  obtain ⟨h1, h2, h3⟩ := pv_gv h
  unfold pvB
  rw [h1, decide_eq_true (by simpa using hl : (rs ++ rs2).length ≤ 20)]
  simp only [Bool.and_true, List.all_eq_true, List.mem_range, List.length_append]
  intro i hi
  by_cases hlt : i < rs.length
  · rw [rat_left rfl hlt]; exact h3 i hlt
  · obtain ⟨q, rfl⟩ : ∃ q, i = rs.length + q := ⟨i - rs.length, by omega⟩
    rw [rat_right rfl]; exact hv q (by omega)
theorem pv_set {s : Int} {gi : List Int} {rs : List RuleM} {j : Nat} {z : Int} (h : pvB s gi rs = true) (hz : 0 ≤ z ∧ z ≤ s) : pvB s (gi.set j z) rs = true := by
  have hg : gv (gi.set j z) s = true := by
    obtain ⟨h1, _, _⟩ := pv_gv h
    simp only [gv, Bool.and_eq_true, List.all_eq_true, List.length_set] at h1 ⊢
    refine ⟨h1.1, fun y hy => ?_⟩
    rcases List.mem_or_eq_of_mem_set hy with h2 | rfl
    · exact h1.2 y h2
    · simp [inr, hz]
  obtain ⟨h1, _, _⟩ := pv_gv h
  unfold pvB at h ⊢
  rw [hg]
  rw [h1] at h
  exact h
theorem pv_min {s : Int} {n : Nat} {rs : List RuleM} {gi : List Int} (h : pvB s gi rs = true) (k : Nat) : pvB s (minL s n rs gi k) rs = true := by
  have hs := gv_size (pv_gv h).1
  induction k with
  | zero => exact h
  | succ k ih =>
    unfold minL
    split
    · exact pv_set ih (by omega)
    · exact ih
theorem rr_valid : ∀ i, i < 4 → rvR 4 (rat (rrL (mapTo boxC 16) 4 16) i) = true := by decide
theorem below_ownR {w w' : World} {N lo n sz : Nat} {v : Value} {e : TypeId} {xs : List Value} (hown : w.ownsRow lo e sz v n xs) (hN : N ≤ lo) (hNw : N ≤ w.heap.size) (hg : w.grownBy w' v.ownBlock) : Below N w w' :=
  ⟨hg.os, hg.tape, hg.output, hg.size, fun k hk => hg.block k (Nat.lt_of_lt_of_le hk hNw) (fun e2 => by have := (World.ownsRow.lt hown k e2.symm).1; omega)⟩
theorem ownsRow_cellX {w : World} {lo sz n X j : Nat} {e t : TypeId} {v u : Value} {xs : List Value} {cs : Array Value} (h : w.ownsRow lo e sz v n xs) (hX : w.heap[X]? = some (.cells cs t)) (hne : t ≠ e) : (w.setCell ⟨X, j, none⟩ u).ownsRow lo e sz v n xs := by
  refine World.ownsRow.kept h (row := some X) grown_set ?_
  rcases h.2 with ⟨rfl, _⟩ | ⟨g, cap, cur, rfl, hb, hg, _⟩
  · exact .inl rfl
  · refine .inr (fun e2 => ?_)
    have e3 : g = X := by simpa [Value.ownBlock] using e2
    subst e3
    rw [hX] at hg
    injection hg with hg
    injection hg with _ h2 _
    exact hne h2
theorem SpQ.cellX {w : World} {lo k X j : Nat} {v u : Value} {Q : Nat → Prop} {cs : Array Value} (h : SpQ w lo v k Q) (hX : w.heap[X]? = some (.cells cs 26)) : SpQ (w.setCell ⟨X, j, none⟩ u) lo v k Q := h.map fun _ hown => ownsRow_cellX hown hX (by decide)
theorem OwR.cellX {w : World} {lo k X j : Nat} {v u : Value} {rs : List RuleM} {cs : Array Value} (h : OwR w lo v rs k) (hX : w.heap[X]? = some (.cells cs 26)) : OwR (w.setCell ⟨X, j, none⟩ u) lo v rs k := by
  obtain ⟨vs, hown, hin⟩ := h
  refine ⟨vs, ownsRow_cellX hown hX (by decide), fun i hi => ?_⟩
  obtain ⟨A', c', e0, e1, e2, e3, e4, e5⟩ := hin i hi
  exact ⟨A', c', e0, e1, e2, ownsRow_cellX e3 hX (by decide), e4, e5⟩
/-- rules pushed and stored: by 'append' to the rules at wr, behind what a call and literals made. -/
theorem pst_push {w2 wr w5 w6 : World} {B G P' Pz N n c1 nr c2 nr' c' : Nat} {s : Int} {A1 A2 A' : Option Addr} {gi : List Int} {rs rs' : List RuleM} (hrow : wr.heap[Pz]? = some (.cells #[.int .i64 s, .slice A1 n c1, .slice A2 nr c2] 26)) (hn : (n : Int) = s * s) (ho : Ow wr w2.heap.size A1 n c1 gi)
    (hR : OwR wr w2.heap.size (.slice A2 nr c2) rs nr) (hg : w2.grownBy wr (some G)) (hG : G < w2.heap.size) (hPz : w2.heap.size ≤ Pz) (hB : B ≤ w2.heap.size)
    (hr5 : Rdr w5 B G P') (hg5 : wr.grownBy w5 (some G)) (hR6 : OwR w6 w2.heap.size (.slice A' nr' c') rs' nr') (hl' : rs'.length = nr') (hN : nr' ≤ N) (hg6 : w5.grownBy w6 (Value.slice A2 nr c2).ownBlock) (hS6 : SpQ w6 w2.heap.size (.slice A' nr' c') nr' (fun g => (Value.slice A1 n c1).ownBlock ≠ some g)) (hV : N < 10 → pvB s gi rs' = true) :
    PSt w2 B G P' Pz s N (w6.setCell ⟨Pz, 2, none⟩ (.slice A' nr' c')) := by
  obtain ⟨vs, hown, _⟩ := hR.keptL hg5 hG
  have hrow5 := (hg5.block Pz (Array.getElem?_eq_some_iff.1 hrow).1 (by intro e; injection e with e; omega)).trans hrow
  have hrow6 := row_own hrow5 hown (by decide) hg6
  have ho6 := ow_own (ho.keptG hg5 hG) hown (by decide) hg6
  have hg25 := hg.trans hg5
  have hb56 := below_ownR hown (Nat.le_refl _) hg25.size hg6
  have hr6 := hr5.belowN hb56 hG hB
  have hg26 := grown_own hg25 hown (Nat.le_refl _) hg6
  exact ⟨A1, n, c1, gi, A', nr', c', rs', heap_setCell_same w6 Pz 2 _ _ _ hrow6, hn, ownsRow_cellX ho6 hrow6 (by decide), hR6.cellX hrow6, hl', hN, hr6.belowN ((Below.refl _ _).setCell hPz _) hG hB, grown_low hg26 ((Below.refl _ _).setCell hPz _), hS6.cellX hrow6, hV⟩
theorem pst_row {w2 wr w6 w7 : World} {G lo Pz nr c2 : Nat} {A2 : Option Addr} {rs : List RuleM} {cs : Array Value} (hrow : wr.heap[Pz]? = some (.cells cs 26)) (hG : G < w2.heap.size) (hPz : w2.heap.size ≤ Pz) (hg6 : wr.grownBy w6 (some G)) (hR6 : OwR w6 lo (.slice A2 nr c2) rs nr) (hg7 : w6.grownBy w7 (Value.slice A2 nr c2).ownBlock) : w7.heap[Pz]? = some (.cells cs 26) := by
  obtain ⟨vs, hown, _⟩ := hR6
  exact row_own ((hg6.block Pz (Array.getElem?_eq_some_iff.1 hrow).1 (by intro e; injection e with e; omega)).trans hrow) hown (by decide) hg7
theorem pst_row6 {w2 wr w6 : World} {G Pz : Nat} {cs : Array Value} (hrow : wr.heap[Pz]? = some (.cells cs 26)) (hG : G < w2.heap.size) (hPz : w2.heap.size ≤ Pz) (hg6 : wr.drew.grownBy w6 (some G)) : w6.heap[Pz]? = some (.cells cs 26) :=
  (hg6.block Pz (Array.getElem?_eq_some_iff.1 hrow).1 (by intro e; injection e with e; omega)).trans hrow
theorem pst_fact {w2 wr w6 : World} {G nr c2 n6 c6 : Nat} {A2 A6 : Option Addr} {rs : List RuleM} {xs6 : List Int} (hR : OwR wr w2.heap.size (.slice A2 nr c2) rs nr) (hgw : w2.grownBy wr (some G)) (hG : G < w2.heap.size) (ho6 : Ow w6 wr.drew.heap.size A6 n6 c6 xs6) (hg6 : wr.drew.grownBy w6 (some G)) (k v : Int) :
    OwR (w6.alloc (.cells #[.int .i64 k, .slice A6 n6 c6, .int .i64 v] 61)) w2.heap.size (.slice A2 nr c2) rs nr ∧ Ow (w6.alloc (.cells #[.int .i64 k, .slice A6 n6 c6, .int .i64 v] 61)) w2.heap.size A6 n6 c6 xs6 ∧ w2.heap.size ≤ (w6.alloc (.cells #[.int .i64 k, .slice A6 n6 c6, .int .i64 v] 61)).heap.size ∧ wr.grownBy (w6.alloc (.cells #[.int .i64 k, .slice A6 n6 c6, .int .i64 v] 61)) (some G) := by
  have hg : wr.grownBy w6 (some G) := ⟨hg6.os, hg6.tape, hg6.output, hg6.size, hg6.block⟩
  have h1 : w2.heap.size ≤ w6.heap.size := Nat.le_trans hgw.size hg.size
  exact ⟨(hR.keptL hg hG).below ((Below.refl _ _).alloc (Nat.le_refl _) _), World.ownsRow.alloc (ho6.mono hgw.size) _, le_alloc5 h1, only_alloc hg _⟩
theorem ne_ty {w : World} {lo lo' n c k sz : Nat} {A : Option Addr} {xs : List Int} {v : Value} {e : TypeId} {vs : List Value} (ho : Ow w lo A n c xs) (hown : w.ownsRow lo' e sz v k vs) (hne : 3 ≠ e) : ∀ g, (Value.slice A n c).ownBlock = some g → v.ownBlock ≠ some g := by
  intro g hg e1
  rcases hown.2 with ⟨e2, _⟩ | ⟨g1, cap1, cur1, e2, _, hr1, _⟩
  · rw [e2] at e1; simp [Value.ownBlock] at e1
  · rcases ho.2 with ⟨e3, _⟩ | ⟨g2, cap2, cur2, e3, _, hr2, _⟩
    · rw [e3] at hg; simp [Value.ownBlock] at hg
    · rw [e2] at e1
      rw [e3] at hg
      simp [Value.ownBlock] at e1 hg
      subst e1
      subst hg
      rw [hr1] at hr2
      injection hr2 with hr2
      injection hr2 with _ h2 _
      exact hne h2.symm
theorem pst_below {w2 wr w' : World} {B G P Pz N : Nat} {s : Int} (h : PSt w2 B G P Pz s N wr) (hB : B ≤ w2.heap.size) (hb : Below wr.heap.size wr w') : PSt w2 B G P Pz s N w' := by
  obtain ⟨A1, n, c1, gi, A2, nr, c2, rs, hrow, hn, ho, hR, hl, hN, hr, hg, hS, hV⟩ := h
  exact ⟨A1, n, c1, gi, A2, nr, c2, rs, (hb.block Pz (Array.getElem?_eq_some_iff.1 hrow).1).trans hrow, hn, ho.below hb, hR.below hb, hl, hN, hr.belowN hb hr.lt (Nat.le_trans hB hg.size), grown_low hg (hb.mono hg.size), hS.below hb, hV⟩
theorem pst_more {w2 wr : World} {B G P P' Pz N N' : Nat} {s : Int} (h : PSt w2 B G P Pz s N wr) (hP : P ≤ P') (hN : N ≤ N') : PSt w2 B G P' Pz s N' wr := by
  obtain ⟨A1, n, c1, gi, A2, nr, c2, rs, hrow, hn, ho, hR, hl, hN', hr, hg, hS, hV⟩ := h
  exact ⟨A1, n, c1, gi, A2, nr, c2, rs, hrow, hn, ho, hR, hl, Nat.le_trans hN' hN, hr.more hP, hg, hS, fun h => hV (by omega)⟩
theorem pst_pick {w2 wr w' : World} {B G P P' Pz N : Nat} {s : Int} (h : PSt w2 B G P Pz s N wr) (hG : G < w2.heap.size) (hPz : w2.heap.size ≤ Pz) (hg' : wr.grownBy w' (some G)) (hr' : Rdr w' B G P') : PSt w2 B G P' Pz s N w' := by
  obtain ⟨A1, n, c1, gi, A2, nr, c2, rs, hrow, hn, ho, hR, hl, hN, hr, hg, hS, hV⟩ := h
  exact ⟨A1, n, c1, gi, A2, nr, c2, rs, (hg'.block Pz (Array.getElem?_eq_some_iff.1 hrow).1 (by intro e; injection e with e; omega)).trans hrow, hn, ho.keptG hg' hG, hR.keptL hg' hG, hl, hN, hr', hg.trans hg', hS.keptL hg' hG, hV⟩
theorem pst_store {w2 w : World} {B G P Pz N n c1 nr c2 g1 : Nat} {s : Int} {A2 : Option Addr} {gi : List Int} {rs : List RuleM} (hrow : w.heap[Pz]? = some (.cells #[.int .i64 s, .slice (some ⟨g1, 0, none⟩) n c1, .slice A2 nr c2] 26)) (hn : (n : Int) = s * s) (ho : Ow w w2.heap.size (some ⟨g1, 0, none⟩) n c1 gi)
    (hR : OwR w w2.heap.size (.slice A2 nr c2) rs nr) (hl : rs.length = nr) (hN : nr ≤ N) (hr : Rdr w B G P) (hg : w2.grownBy w (some G)) (hS : SpQ w w2.heap.size (.slice A2 nr c2) nr (fun g => (Value.slice (some ⟨g1, 0, none⟩) n c1).ownBlock ≠ some g)) (hV : N < 10 → pvB s gi rs = true) (hG : G < w2.heap.size) (hB : B ≤ w2.heap.size) (j : Nat) (z : Int) (hz : 0 ≤ z ∧ z ≤ s) : PSt w2 B G P Pz s N (w.setCell ⟨g1, j, none⟩ (.int .i64 z)) := by
  have hlo : w2.heap.size ≤ g1 := ho.own_lo g1 rfl
  obtain ⟨cs, hcs⟩ : ∃ cs, w.heap[g1]? = some (.cells cs 3) := by
    rcases ho.2 with ⟨e, _⟩ | ⟨g, cap, cur, e, _, hg, _⟩
    · cases e
    · injection e with e _ _
      injection e with e
      injection e with e _ _
      subst e
      exact ⟨_, hg⟩
  have ho' : Ow (w.setCell ⟨g1, j, none⟩ (.int .i64 z)) w2.heap.size (some ⟨g1, 0, none⟩) n c1 (gi.set j z) := by
    have := (World.ownsRow.stored ho j (.int .i64 z)).1
    unfold Ow
    rwa [show vals (gi.set j z) = (vals gi).set j (.int .i64 z) by simp [vals, List.map_set]]
  have hown' : ∀ vs, w.ownsRow w2.heap.size 61 3 (.slice A2 nr c2) nr vs → (w.setCell ⟨g1, j, none⟩ (.int .i64 z)).ownsRow w2.heap.size 61 3 (.slice A2 nr c2) nr vs := fun vs hown => by
    refine World.ownsRow.kept hown (row := some g1) grown_set ?_
    rcases hown.2 with ⟨e1, _⟩ | ⟨g', cap, cur, e1, hb, hg', _⟩
    · rw [e1]; exact .inl rfl
    · refine .inr (fun e2 => ?_)
      rw [e1] at e2
      have e3 : g' = g1 := by simpa [Value.ownBlock] using e2
      subst e3
      rw [hcs] at hg'
      injection hg' with hg'
      injection hg' with _ h2 _
      exact absurd h2 (by decide)
  obtain ⟨vs, hown, hin, hcb⟩ := hR.with_ hS
  have hR' : OwR (w.setCell ⟨g1, j, none⟩ (.int .i64 z)) w2.heap.size (.slice A2 nr c2) rs nr := by
    refine ⟨vs, hown' vs hown, fun i hi => ?_⟩
    obtain ⟨A', c', e0, e1, e2, e3, e4, e5⟩ := hin i hi
    exact ⟨A', c', e0, e1, e2, Ow.far e3 (row := some g1) grown_set (fun b hbb e => hcb i A' _ c' hi e1 b hbb e), e4, e5⟩
  have hb : Below w2.heap.size w (w.setCell ⟨g1, j, none⟩ (.int .i64 z)) := (Below.refl _ _).setCell hlo _
  exact ⟨_, n, c1, _, A2, nr, c2, rs, row_own hrow ho (by decide) grown_set, hn, ho', hR', hl, hN, hr.belowN hb hG hB, grown_low hg hb, hS.map hown', fun h => pv_set (hV h) hz⟩
theorem rr_box : (rrL (mapTo boxC 16) 4 16).length = 4 := by decide
/-- what one operation of the region that pushes a drawn rule may do. -/
def RelP (w2 : World) (B G Pz P' : Nat) (w w' : World) : Prop :=
  w.heap.size ≤ w'.heap.size ∧ (w2.grownBy w (some G) → w2.grownBy w' (some G)) ∧ (∀ cs, w.heap[Pz]? = some (.cells cs 26) → w'.heap[Pz]? = some (.cells cs 26)) ∧ (∀ A n c xs, Ow w w2.heap.size A n c xs → Ow w' w2.heap.size A n c xs) ∧ (w2.heap.size ≤ w.heap.size → Rdr w B G P' → Rdr w' B G P')
theorem relP_refl {w2 : World} {B G Pz P' : Nat} (w : World) : RelP w2 B G Pz P' w w := ⟨Nat.le_refl _, fun h => h, fun _ h => h, fun _ _ _ _ h => h, fun _ h => h⟩
theorem relP_trans {w2 : World} {B G Pz P' : Nat} {w w' w'' : World} (h : RelP w2 B G Pz P' w w') (h' : RelP w2 B G Pz P' w' w'') : RelP w2 B G Pz P' w w'' :=
  ⟨Nat.le_trans h.1 h'.1, fun x => h'.2.1 (h.2.1 x), fun cs x => h'.2.2.1 cs (h.2.2.1 cs x), fun A n c xs x => h'.2.2.2.1 A n c xs (h.2.2.2.1 A n c xs x), fun hs x => h'.2.2.2.2 (Nat.le_trans hs h.1) (h.2.2.2.2 hs x)⟩
theorem relP_grown {w2 : World} {B G Pz P' : Nat} {w w' : World} (hG : G < w2.heap.size) (hPz : w2.heap.size ≤ Pz) (hg : w.grownBy w' (some G)) (hr : Rdr w B G P' → Rdr w' B G P') : RelP w2 B G Pz P' w w' :=
  ⟨hg.size, fun x => x.trans hg, fun cs x => (hg.block Pz (Array.getElem?_eq_some_iff.1 x).1 (by intro e; injection e with e; omega)).trans x, fun A n c xs x => x.keptG hg hG, fun _ x => hr x⟩
theorem relP_own {w2 : World} {B G Pz P' nr c2 : Nat} {A2 : Option Addr} {vs : List Value} {w w' : World} (hG : G < w2.heap.size) (hB : B ≤ w2.heap.size) (hown : w.ownsRow w2.heap.size 61 3 (.slice A2 nr c2) nr vs) (hg : w.grownBy w' (Value.slice A2 nr c2).ownBlock) : RelP w2 B G Pz P' w w' :=
  ⟨hg.size, fun x => grown_own x hown (Nat.le_refl _) hg, fun cs x => row_own x hown (by decide) hg, fun A n c xs x => ow_own x hown (by decide) hg, fun hs x => x.belowN (below_ownR hown (Nat.le_refl _) hs hg) hG hB⟩
/-- the values, in the order of the text. -/
def RuleG (w2 : World) (G Pz : Nat) (s : Int) (Ag : Option Addr) (ng cg : Nat) (A2 : Option Addr) (nr c2 : Nat) (X : Option Nat) (gi : List Int) (m' : Int) : Nat → Value → World → Prop
  | 0, v, _ => v = .pointer (some ⟨Pz, 2, none⟩)
  | 1, v, _ => v = .slice A2 nr c2
  | 2, v, _ => v = .pointer (some ⟨G, 0, none⟩)
  | 3, v, _ => v = .slice Ag ng cg
  | 4, v, _ => v = .int .i64 s
  | 5, v, w => ∃ k A n c u xs, v = .agg #[.int .i64 k, .slice A n c, .int .i64 u] ∧ Ow w w2.heap.size A n c xs ∧ n ≤ 5 ∧ (m' < 1 → rv k xs u s = true) ∧ ∀ g, (Value.slice A n c).ownBlock = some g → X ≠ some g
  | 6, v, w => ∃ b k A n c u xs, v = .slice (some ⟨b, 0, none⟩) 1 1 ∧ w.heap[b]? = some (.cells #[.int .i64 k, .slice A n c, .int .i64 u] 61) ∧ Ow w w2.heap.size A n c xs ∧ n ≤ 5 ∧ some b ≠ (Value.slice A2 nr c2).ownBlock ∧ b ≠ G ∧ (m' < 1 → rv k xs u s = true) ∧ ∀ g, (Value.slice A n c).ownBlock = some g → X ≠ some g
  | 7, v, w => ∃ A' c' rs', v = .slice A' (nr + 1) c' ∧ OwR w w2.heap.size (.slice A' (nr + 1) c') rs' (nr + 1) ∧ rs'.length = nr + 1 ∧ SpQ w w2.heap.size (.slice A' (nr + 1) c') (nr + 1) (fun g => X ≠ some g) ∧ (m' < 1 → pvB s gi rs' = true)
  | 8, v, _ => v = .pointer (some ⟨Pz, 2, none⟩)
  | _, _, _ => True
def RuleEff (w2 : World) (G nr c2 : Nat) (A2 : Option Addr) (i : Nat) (w w' : World) : Prop :=
  if i = 7 then w.grownBy w' (Value.slice A2 nr c2).ownBlock ∧ ∃ vs, w.ownsRow w2.heap.size 61 3 (.slice A2 nr c2) nr vs else w.grownBy w' (some G)
theorem ruleG_eff {w2 : World} {G Pz ng cg nr c2 : Nat} {s : Int} {Ag A2 : Option Addr} {X : Option Nat} {gi : List Int} {m' : Int} (hG : G < w2.heap.size) (j i : Nat) (v : Value) (w w' : World) (hji : j ≠ i) (h : RuleEff w2 G nr c2 A2 i w w') (hg : RuleG w2 G Pz s Ag ng cg A2 nr c2 X gi m' j v w) : RuleG w2 G Pz s Ag ng cg A2 nr c2 X gi m' j v w' := by
  unfold RuleEff at h
  by_cases hi : i = 7
  · rw [if_pos hi] at h
    obtain ⟨hgr, vs, hown⟩ := h
    match j, hg with
    | 0, hg => exact hg
    | 1, hg => exact hg
    | 2, hg => exact hg
    | 3, hg => exact hg
    | 4, hg => exact hg
    | 5, ⟨k, A, n, c, u, xs, e, ho, hn, hq⟩ => exact ⟨k, A, n, c, u, xs, e, ow_own ho hown (by decide) hgr, hn, hq⟩
    | 6, ⟨b, k, A, n, c, u, xs, e, hr, ho, hn, hb, hbG⟩ => exact ⟨b, k, A, n, c, u, xs, e, (hgr.block b (Array.getElem?_eq_some_iff.1 hr).1 hb).trans hr, ow_own ho hown (by decide) hgr, hn, hb, hbG⟩
    | 7, _ => exact absurd hi.symm hji
    | 8, hg => exact hg
    | _ + 9, hg => exact hg
  · rw [if_neg hi] at h
    match j, hg with
    | 0, hg => exact hg
    | 1, hg => exact hg
    | 2, hg => exact hg
    | 3, hg => exact hg
    | 4, hg => exact hg
    | 5, ⟨k, A, n, c, u, xs, e, ho, hn, hq⟩ => exact ⟨k, A, n, c, u, xs, e, ho.keptG h hG, hn, hq⟩
    | 6, ⟨b, k, A, n, c, u, xs, e, hr, ho, hn, hb, hbG⟩ => exact ⟨b, k, A, n, c, u, xs, e, (h.block b (Array.getElem?_eq_some_iff.1 hr).1 (by intro e; injection e with e; exact hbG.1 e)).trans hr, ho.keptG h hG, hn, hb, hbG⟩
    | 7, ⟨A', c', rs', e, ho, hl, hS, hV⟩ => exact ⟨A', c', rs', e, ho.keptL h hG, hl, hS.keptL h hG, hV⟩
    | 8, hg => exact hg
    | _ + 9, hg => exact hg
def RuleC (w2 : World) (B G P nr c2 : Nat) (A2 : Option Addr) (rs : List RuleM) (X : Option Nat) (j : Nat) (w : World) : Prop :=
  (j = 5 → Rdr w B G P) ∧ (j = 7 → OwR w w2.heap.size (.slice A2 nr c2) rs nr ∧ SpQ w w2.heap.size (.slice A2 nr c2) nr (fun g => X ≠ some g))
/-- the word at the end: the given cells can be read, they need not be the whole of their row. -/
def FSt (w2 : World) (B G P Pz : Nat) (s m : Int) (wr : World) : Prop :=
  ∃ (A1 : Option Addr) (n c1 : Nat) (gi : List Int) (A2 : Option Addr) (nr c2 : Nat) (rs : List RuleM), wr.heap[Pz]? = some (.cells #[.int .i64 s, .slice A1 n c1, .slice A2 nr c2] 26) ∧ n ≤ 16 ∧ Rd wr wr.heap.size A1 n gi ∧ (∀ b off, A1 = some ⟨b, off, none⟩ → w2.heap.size ≤ b) ∧ OwR wr w2.heap.size (.slice A2 nr c2) rs nr ∧ rs.length = nr ∧ nr ≤ 100 ∧ Rdr wr B G P ∧ w2.grownBy wr (some G) ∧ (m < 1 → pvB s gi rs = true)
theorem fst_of {w2 wr : World} {B G P P' Pz N : Nat} {s m : Int} (h : PSt w2 B G P Pz s N wr) (hs : s * s ≤ 16) (hP : P ≤ P') (hN : N ≤ 100) (hm : N < 10 ∨ 1 ≤ m) : FSt w2 B G P' Pz s m wr := by
  obtain ⟨A1, n, c1, gi, A2, nr, c2, rs, hrow, hn, ho, hR, hl, hN', hr, hg, hS, hV⟩ := h
  exact ⟨A1, n, c1, gi, A2, nr, c2, rs, hrow, by omega, ho.rd, fun b off e => (by subst e; exact ho.own_lo b (by simp [Value.ownBlock])), hR, hl, Nat.le_trans hN' hN, hr.more hP, hg, fun h => hV (by omega)⟩
set_option maxHeartbeats 20000000 in
theorem l20Puzzle_any (B G P : Nat) (m : Int) (w : World) (h : Rdr w B G P) (hBG : B ≤ G) (hP : P ≤ 100) (hm : m ≤ 1000000) :
    Calls Tryd.prog 38 #[.pointer (some ⟨G, 0, none⟩), .int .i64 m] w (DrewPuz w B G (P + 800) m) := by
  have Hone := Lib.hid puz_one
  have Hi := Lib.hid puz_info
  have hGw := h.lt
  have hBw : B ≤ w.heap.size := by omega
  have hr0 := h.alloc hBw (.cells #[.int .i64 0, .slice none 0 0, .slice none 0 0] 26)
  have hg0 : w.grownBy (w.alloc (.cells #[.int .i64 0, .slice none 0 0, .slice none 0 0] 26)) (some G) := only_alloc (World.grownBy.refl w _) _
  go_enter Tryd.func38, Tryd.ntmps38
  go_wp2_with fail
  obtain ⟨w0, hW⟩ : ∃ w0, w0 = w.alloc (.cells #[.int .i64 0, .slice none 0 0, .slice none 0 0] 26) := ⟨_, rfl⟩
  rw [← hW] at hr0 hg0 ⊢
  have hR0 : w0.heap[w.heap.size]? = some (.cells #[.int .i64 0, .slice none 0 0, .slice none 0 0] 26) := by rw [hW]; exact heap_alloc_new w _
  have hRw : w0.heap.size = w.heap.size + 1 := by rw [hW]; simp
  clear hW
  obtain ⟨R0, hR⟩ : ∃ R0, R0 = w.heap.size := ⟨_, rfl⟩
  rw [← hR] at hR0 hRw hGw hBw ⊢
  have HR := Lib.hid hR
  clear hR
  refine (l20Size_any B G P 0 _ hr0 hBG (by omega) (by omega)).mono ?_
  rintro e w1 ⟨s, rfl, ⟨_, _, hs⟩, hr1, hg1⟩
  obtain ⟨hs2, hs4⟩ := hs (by omega)
  clear hs
  go_wp2_with fail
  refine (l20Solved_any B G (P + 2) s _ hr1 hBG (by omega) hs2 hs4).mono ?_
  rintro e w2 ⟨Ag, ng, cg, g, rfl, hog, hng, hgs, hr2, hg2⟩
  have hgr2 : w0.grownBy w2 (some G) := hg1.trans hg2
  have hR2 : w2.heap[R0]? = some (.cells #[.int .i64 0, .slice none 0 0, .slice none 0 0] 26) := (hgr2.block R0 (by omega) (by intro e; injection e with e; omega)).trans hR0
  obtain ⟨q4, q16⟩ := sq_bd hs2 hs4
  have hng1 : 0 < ng ∧ ng ≤ 16 := by omega
  have hB2 : B ≤ w2.heap.size := by have := hr2.lt; omega
  have hrdg := hog.rd
  have hmade : Ow (w2.alloc (.cells #[] 3)) w2.heap.size (some ⟨w2.heap.size, 0, none⟩) 0 0 [] := Ow.made0 _ _ (Nat.le_refl _)
  have hrdg' : Rd (w2.alloc (.cells #[] 3)) w2.heap.size Ag ng g := hrdg.below ((Below.refl _ _).alloc (Nat.le_refl _) _)
  go_wp2_with (first | (at_builtin; refine push_new rfl (.tmp 21) (.tmp 22) rfl w2.heap.size (some ⟨w2.heap.size, 0, none⟩) Ag ng cg w2.heap.size g rfl rfl hmade hrdg' (by omega) (by simp) ?_; intro A1 c1 w3 ho3 hg3) | (refine wpList_store_row rfl 26 _ _ rfl w3.heap.size #[.int .i64 s, .slice A1 ng c1, .slice none 0 0] rfl rfl 26 #[.int .i64 0, .slice none 0 0, .slice none 0 0] (heap_alloc_new w3 _) (Hi.out _ _ _ _ _ _ _) rfl (Hone.out _ _ _ _ _ _ _) ?_) | fail)
  have hb3 : Below w2.heap.size w2 w3 := ((Below.refl _ _).alloc (Nat.le_refl _) _).trans (below_ownR hmade (Nat.le_refl _) (by simp) hg3)
  have hbP : Below w2.heap.size w2 (w3.alloc (.cells #[.int .i64 0, .slice none 0 0, .slice none 0 0] 26)) := hb3.alloc hb3.size _
  have hPz : w2.heap.size ≤ w3.heap.size := hb3.size
  have hG2 : G < w2.heap.size := hr2.lt
  have hst : PSt w2 B G (P + 4) w3.heap.size s 0 ((w3.alloc (.cells #[.int .i64 0, .slice none 0 0, .slice none 0 0] 26)).setRow w3.heap.size #[.int .i64 s, .slice A1 ng c1, .slice none 0 0]) :=
    ⟨A1, ng, c1, g, none, 0, 0, [], setRow_heap _ _ _ _ _ _ (heap_alloc_new w3 _), hng, Ow.setX (World.ownsRow.alloc ho3 _) (heap_alloc_new w3 _), ⟨[], World.ownsRow_nil _ _ _ _, fun i hi => absurd hi (by omega)⟩, rfl, Nat.le_refl _, hr2.belowN (setRow_below5 hbP hPz) hG2 hB2, grown_low (World.grownBy.refl _ _) (setRow_below5 hbP hPz), SpQ.nil, fun _ => pv_nil (solved_gv hs2 hs4 hng hgs)⟩
  obtain ⟨w4, hw4⟩ : ∃ w4, (w3.alloc (.cells #[.int .i64 0, .slice none 0 0, .slice none 0 0] 26)).setRow w3.heap.size #[.int .i64 s, .slice A1 ng c1, .slice none 0 0] = w4 := ⟨_, rfl⟩
  rw [hw4] at hst ⊢
  clear hw4 hbP hmade hrdg'
  obtain ⟨Pz, hPe⟩ : ∃ Pz, w3.heap.size = Pz := ⟨_, rfl⟩
  rw [hPe] at hst hPz ⊢
  clear hPe hb3 hg3 ho3
  obtain ⟨gv2, hG1⟩ : gv g s = true ∧ G < w1.heap.size := ⟨solved_gv hs2 hs4 hng hgs, hr1.lt⟩
  have HGr := Lib.hid (fun wr (hgw : w2.grownBy wr (some G)) => (hog.keptG hgw hG1))
  have HR2 := Lib.hid (fun wr (hgw : w2.grownBy wr (some G)) => ((hgw.block R0 (by have := hgr2.size; omega) (by intro e; injection e with e; omega)).trans hR2 : wr.heap[R0]? = some (.cells #[.int .i64 0, .slice none 0 0, .slice none 0 0] 26)))
  have hneG : ∀ b off, Ag = some ⟨b, off, none⟩ → b ≠ G := fun b off e => by
    subst e
    have := hog.own_lo b (by simp [Value.ownBlock])
    omega
  obtain ⟨_, _, _, _, _, _, _, _, _, _, _, _, _, _, hr4, hg4, _, _⟩ := id hst
  refine (pick_any B G (P + 4) 5 _ hr4 hBG (by omega)).mono ?_
  rintro e w5 ⟨v, rfl, ⟨v0, v1, _⟩, hr5, hg5⟩
  have hv5 := v1 (by omega)
  clear v1
  obtain ⟨v, rfl⟩ := Int.eq_ofNat_of_zero_le v0
  have hst5 : PSt w2 B G (P + 5) Pz s 0 w5 := pst_pick hst hG2 hPz hg5 hr5
  go_wp2
  go_loopw [8] (fun kv wr => ∃ u q : Nat, kv = .int .i64 q ∧ u + q = v ∧ PSt w2 B G (P + 5 + 100 * u) Pz s u wr) (fun kv _ => (intOf kv).toNat)
  case atStart => exact ⟨0, v, rfl, by omega, hst5⟩
  case round =>
    obtain ⟨u, q, rfl, huq, A1, n, c1, gi, A2, nr, c2, rs, hrow, hn, ho, hR, hl, hN, hr, hgw, hSp, hV⟩ := hrel
    by_cases hq : 0 < q
    · have hqI : (0 : Int) < (q : Int) := by omega
      obtain ⟨x0, x1, x2⟩ : PBox wr Pz s A1 n c1 A2 nr c2 := ⟨cell_of_row _ _ 0 _ _ (0, 0) hrow, cell_of_row _ _ 1 _ _ (0, 0) hrow, cell_of_row _ _ 2 _ _ (0, 0) hrow⟩
      go_wp2
      have hP1 : P + 5 + 100 * u ≤ 1000 := by omega
      have hu4 : nr ≤ 5 := by omega
      refine wp_region_dsR [31, 32, 33, 34, 35, 36, 37, 38, 39] (RuleG w2 G Pz s Ag ng cg A2 nr c2 (Value.slice A1 n c1).ownBlock gi 0) (RelP w2 B G Pz (P + 5 + 100 * u + 100)) (RuleEff w2 G nr c2 A2) (RuleC w2 B G (P + 5 + 100 * u) nr c2 A2 rs (Value.slice A1 n c1).ownBlock) ?C0 ?refl (fun _ _ h h' => relP_trans h h') (by kernel_rfl) (by kernel_rfl) (by simp) (fun j i v w w' hji _ he hg => ruleG_eff hG2 j i v w w' hji he hg) ?step ?last
      case C0 => exact fun j => ⟨fun _ => hr, fun _ => ⟨hR, hSp⟩⟩
      case refl => exact relP_grown hG2 hPz (grown_drew (World.grownBy.refl wr _)) (fun h => h)
      case step =>
        intro i o a w' K hi hoo hrel hfr hpre hC hK
        have e0 : a.eval (.tmp 0) = .pointer (some ⟨G, 0, none⟩) := hfr 0 (by simp)
        have e5 : a.eval (.tmp 5) = .int .i64 s := hfr 5 (by simp)
        have e6 : a.eval (.tmp 6) = .slice Ag ng cg := hfr 6 (by simp)
        have e7 : a.eval (.tmp 7) = .pointer (some ⟨Pz, 0, none⟩) := hfr 7 (by simp)
        have hrow' := hrel.2.2.1 _ hrow
        have hsW := Nat.le_trans hgw.size hrel.1
        have hgw' := hrel.2.1 hgw
        have hi9 : i < 9 := hi
        have : i = 0 ∨ i = 1 ∨ i = 2 ∨ i = 3 ∨ i = 4 ∨ i = 5 ∨ i = 6 ∨ i = 7 ∨ i = 8 := by omega
        rcases this with rfl | rfl | rfl | rfl | rfl | rfl | rfl | rfl | rfl
        all_goals
          simp only [List.getElem?_toArray, List.getElem?_cons_zero, List.getElem?_cons_succ, Option.some.injEq] at hoo
          subst hoo
        · refine oper_val (v := .pointer (some ⟨Pz, 2, none⟩)) (w' := w') ?_ (hK _ w' (relP_refl w') (World.grownBy.refl _ _) (fun j _ h => h) rfl)
          unfold execOp
          simp only [e7]
          go_simp
        · have p0 : a.eval (.tmp 31) = .pointer (some ⟨Pz, 2, none⟩) := hpre ⟨0, .data⟩ (by simp) rfl
          have c2' := cell_of_row _ _ 2 _ _ (0, 0) hrow'
          refine oper_val (v := .slice A2 nr c2) (w' := w') ?_ (hK _ w' (relP_refl w') (World.grownBy.refl _ _) (fun j _ h => h) rfl)
          unfold execOp
          simp only [p0]
          go_simp
        · refine oper_val (v := .pointer (some ⟨G, 0, none⟩)) (w' := w') ?_ (hK _ w' (relP_refl w') (World.grownBy.refl _ _) (fun j _ h => h) rfl)
          unfold execOp
          simp only [e0]
          go_simp
        · refine oper_val (v := .slice Ag ng cg) (w' := w') ?_ (hK _ w' (relP_refl w') (World.grownBy.refl _ _) (fun j _ h => h) rfl)
          unfold execOp
          simp only [e6]
          go_simp
        · refine oper_val (v := .int .i64 s) (w' := w') ?_ (hK _ w' (relP_refl w') (World.grownBy.refl _ _) (fun j _ h => h) rfl)
          unfold execOp
          simp only [e5]
          go_simp
        · have p33 : a.eval (.tmp 33) = .pointer (some ⟨G, 0, none⟩) := hpre ⟨2, .data⟩ (by simp) rfl
          have p34 : a.eval (.tmp 34) = .slice Ag ng cg := hpre ⟨3, .data⟩ (by simp) rfl
          have p35 : a.eval (.tmp 35) = .int .i64 s := hpre ⟨4, .data⟩ (by simp) rfl
          refine oper_call (f := 72) (args := #[.pointer (some ⟨G, 0, none⟩), .slice Ag ng cg, .int .i64 s, .int .i64 0]) ?_ (l20Rule_any B G (P + 5 + 100 * u) Ag cg ng w'.heap.size g s 0 w' (hC.1 rfl) hBG hP1 (HGr.out _ hgw').rd (Nat.le_refl _) hneG gv2 (by omega)) ?_
          · unfold execOp
            go_simp
            exact ⟨by simpa [Act.eval] using p33, by simpa [Act.eval] using p34, by simpa [Act.eval] using p35⟩
          · rintro e w6 ⟨k6, A6, n6, c6, v6, xs6, rfl, ho6, hn6, hrv6, hr6, hg6⟩
            refine ⟨_, rfl, hK _ w6 (relP_grown hG2 hPz hg6 (fun _ => hr6)) hg6 (fun j hj h => ⟨fun e => absurd e hj, fun e => ⟨(h.2 e).1.keptL hg6 hG2, (h.2 e).2.keptL hg6 hG2⟩⟩) ⟨k6, A6, n6, c6, v6, xs6, rfl, ho6.mono hsW, hn6, hrv6, fun g hg e => by have q1 := ho6.own_lo g hg; have q2 := ho.own_hi g e; have q3 := hrel.1; omega⟩⟩
        · obtain ⟨k6, A6, n6, c6, v6, xs6, p36, ho6, hn6, hq6⟩ : ∃ k A n' c u xs, a.eval (.tmp 36) = .agg #[.int .i64 k, .slice A n' c, .int .i64 u] ∧ Ow w' w2.heap.size A n' c xs ∧ n' ≤ 5 ∧ (_ → rv k xs u s = true) ∧ ∀ g, (Value.slice A n' c).ownBlock = some g → (Value.slice A1 n c1).ownBlock ≠ some g := hpre ⟨5, .data⟩ (by simp) rfl
          have hgA : w'.grownBy (w'.alloc (.cells #[.int .i64 k6, .slice A6 n6 c6, .int .i64 v6] 61)) (some G) := only_alloc (World.grownBy.refl _ _) _
          refine oper_val (v := .slice (some ⟨w'.heap.size, 0, none⟩) 1 1) (w' := w'.alloc (.cells #[.int .i64 k6, .slice A6 n6 c6, .int .i64 v6] 61)) ?_ (hK _ _ (relP_grown hG2 hPz hgA (fun h => h.alloc (by omega) _)) hgA (fun j hj h => ⟨fun e => (h.1 e).alloc (by omega) _, fun e => ⟨(h.2 e).1.keptL hgA hG2, (h.2 e).2.keptL hgA hG2⟩⟩) ⟨_, k6, A6, n6, c6, v6, xs6, rfl, heap_alloc_new _ _, World.ownsRow.alloc ho6 _, hn6, ?_, by omega, hq6⟩)
          · have p36' : a.tmps[36]?.getD undef = .agg #[.int .i64 k6, .slice A6 n6 c6, .int .i64 v6] := by simpa [Act.eval] using p36
            unfold execOp
            go_simp
          · intro e
            obtain ⟨vs, hown, _⟩ := id hR
            have := (World.ownsRow.lt hown _ e.symm).2
            have := hrel.1
            omega
        · have p32 : a.eval (.tmp 32) = .slice A2 nr c2 := hpre ⟨1, .data⟩ (by simp) rfl
          obtain ⟨b, k6, A6, n6, c6, v6, xs6, p37, hlit, ho6, hn6, hb6, _, hv6, hX6⟩ : ∃ b k A n' c u xs, a.eval (.tmp 37) = .slice (some ⟨b, 0, none⟩) 1 1 ∧ w'.heap[b]? = some (.cells #[.int .i64 k, .slice A n' c, .int .i64 u] 61) ∧ Ow w' w2.heap.size A n' c xs ∧ n' ≤ 5 ∧ some b ≠ (Value.slice A2 nr c2).ownBlock ∧ b ≠ G ∧ (_ → rv k xs u s = true) ∧ ∀ g, (Value.slice A n' c).ownBlock = some g → (Value.slice A1 n c1).ownBlock ≠ some g := hpre ⟨6, .data⟩ (by simp) rfl
          have hR7 := hC.2 rfl
          obtain ⟨vs7, hown7, hin7, hcb7⟩ := hR7.1.with_ hR7.2
          obtain ⟨A7, c7, w7, hrun, ⟨q1, q1'⟩, q2⟩ := run_push_oneV 24 w2.heap.size A2 nr c2 b rs k6 v6 A6 n6 c6 xs6 hl vs7 hown7 hin7 ho6 hlit (by omega) (by omega) hsW
          refine oper_val (v := .slice A7 (nr + 1) c7) (w' := w7) ?_ (hK _ w7 (relP_own hG2 hB2 hown7 q2) ⟨q2, vs7, hown7⟩ (fun j hj h => ⟨fun e => (h.1 e).belowN (below_ownR hown7 (Nat.le_refl _) hsW q2) hG2 hB2, fun e => absurd e hj⟩) ⟨A7, c7, _, rfl, ⟨_, q1, q1'⟩, by simp [hl], ⟨_, q1, hcb7.app hown7.1 (CbV.one hX6)⟩, fun h => pv_app (hV (by omega)) (by simp only [List.length_cons, List.length_nil]; omega) (fun i hi => by obtain rfl : i = 0 := (by simpa using hi); exact hv6 h)⟩)
          unfold execOp
          simp only [resolve, invoke, builtin, Sem.run_bind, Sem.run_pure, Result.andThen_ok, List.map_toArray, List.map_cons, List.map_nil, p32, p37, hrun]
        · refine oper_val (v := .pointer (some ⟨Pz, 2, none⟩)) (w' := w') ?_ (hK _ w' (relP_refl w') (World.grownBy.refl _ _) (fun j _ h => h) rfl)
          unfold execOp
          simp only [e7]
          go_simp
      case last =>
        intro o a w5 hoo hrel hdef htm hfr hpre
        simp only [List.length_cons, List.length_nil, Nat.reduceAdd, List.getElem?_toArray, List.getElem?_cons_zero, List.getElem?_cons_succ, Option.some.injEq] at hoo
        subst hoo
        have g31 : a.tmps.getD 31 undef = .pointer (some ⟨Pz, 2, none⟩) := hpre 0 (by simp)
        have g32 : a.tmps.getD 32 undef = .slice A2 nr c2 := hpre 1 (by simp)
        have g33 : a.tmps.getD 33 undef = .pointer (some ⟨G, 0, none⟩) := hpre 2 (by simp)
        have g34 : a.tmps.getD 34 undef = .slice Ag ng cg := hpre 3 (by simp)
        have g35 : a.tmps.getD 35 undef = .int .i64 s := hpre 4 (by simp)
        obtain ⟨k6, A6, n6, c6, v6, xs6, g36, _, _⟩ : ∃ k A n' c u xs, a.tmps.getD 36 undef = .agg #[.int .i64 k, .slice A n' c, .int .i64 u] ∧ Ow w5 w2.heap.size A n' c xs ∧ _ := hpre 5 (by simp)
        obtain ⟨b7, _, _, _, _, _, _, g37, _⟩ : ∃ b k A n' c u xs, a.tmps.getD 37 undef = .slice (some ⟨b, 0, none⟩) 1 1 ∧ w5.heap[b]? = some (.cells #[.int .i64 k, .slice A n' c, .int .i64 u] 61) ∧ Ow w5 w2.heap.size A n' c xs ∧ _ := hpre 6 (by simp)
        obtain ⟨A7, c7, rs7, g38, ho7, hl7, hS7, hV7⟩ : ∃ A' c' rs', a.tmps.getD 38 undef = .slice A' (nr + 1) c' ∧ OwR w5 w2.heap.size (.slice A' (nr + 1) c') rs' (nr + 1) ∧ rs'.length = nr + 1 ∧ SpQ w5 w2.heap.size (.slice A' (nr + 1) c') (nr + 1) (fun g => (Value.slice A1 n c1).ownBlock ≠ some g) ∧ (_ → pvB s gi rs' = true) := hpre 7 (by simp)
        have g39 : a.tmps.getD 39 undef = .pointer (some ⟨Pz, 2, none⟩) := hpre 8 (by simp)
        have h38 : a.eval (.tmp 38) = .slice A7 (nr + 1) c7 := g38
        have h39 : a.eval (.tmp 39) = .pointer (some ⟨Pz, 2, none⟩) := g39
        have hrow5 := hrel.2.2.1 _ hrow
        have hc5 := cell_of_row _ _ 2 _ _ (0, 0) hrow5
        have hf5 := frozen_of_row _ Pz 2 _ _ hrow5
        have hg5 := hrel.2.1 hgw
        have hr5 := hrel.2.2.2.2 hgw.size (hr.more (by omega))
        have ho5 := hrel.2.2.2.1 _ _ _ _ ho
        have hnew : PSt w2 B G (P + 5 + 100 * u + 100) Pz s (u + 1) (w5.setCell ⟨Pz, 2, none⟩ (.slice A7 (nr + 1) c7)) :=
          ⟨A1, n, c1, gi, A7, nr + 1, c7, rs7, heap_setCell_same w5 Pz 2 _ _ _ hrow5, hn, ownsRow_cellX ho5 hrow5 (by decide), ho7.cellX hrow5, hl7, by omega, hr5.belowN ((Below.refl _ _).setCell hPz _) hG2 hB2, grown_low hg5 ((Below.refl _ _).setCell hPz _), hS7.cellX hrow5, fun _ => hV7 (by decide)⟩
        refine ⟨w5.setCell ⟨Pz, 2, none⟩ (.slice A7 (nr + 1) c7), ?_, ?_⟩
        · unfold execOp
          simp only [h38, h39]
          go_simp
        · have key := htm
          simp only [List.foldl_cons, List.foldl_nil, g31, g32, g33, g34, g35, g36, g37, g38, g39, List.setIfInBounds_toArray, List.set_cons_succ, List.set_cons_zero] at key
          clear htm hfr hpre g31 g32 g33 g34 g35 g36 g37 g38 g39 h38 h39
          obtain ⟨tm, df⟩ := a
          dsimp only at key hdef
          subst key hdef
          go_wp2
          refine ⟨⟨u + 1, q - 1, by rw [show ((q - 1 : Nat) : Int) = (q : Int) - 1 by omega], by omega, by rw [show P + 5 + 100 * (u + 1) = P + 5 + 100 * u + 100 by omega]; exact hnew⟩, by simp [intOf]; omega⟩
    · obtain rfl : q = 0 := by omega
      obtain rfl : u = v := by omega
      have hstA : PSt w2 B G (P + 510) Pz s 5 wr := ⟨A1, n, c1, gi, A2, nr, c2, rs, hrow, hn, ho, hR, hl, by omega, hr.more (by omega), hgw, hSp, fun _ => hV (by omega)⟩
      clear hrow hn ho hR hl hN hr hSp hV
      go_upto_region 8 with fail
      go_cut [46] from 15 (fun bv wx => ∃ bb : Bool, bv = .bool bb ∧ Hid (bb = true → s = 4) ∧ PSt w2 B G (P + 511) Pz s 5 wx)
      case first =>
        by_cases hs44 : s = 4
        · subst hs44
          go_wp2_with fail
          obtain ⟨_, _, _, _, _, _, _, _, _, _, _, _, _, _, hrA, hgA, _, _⟩ := id hstA
          refine (pick_any B G (P + 510) 3 _ hrA hBG (by omega)).mono ?_
          rintro e w6 ⟨v6, rfl, ⟨y0, y1, _⟩, hr6, hg6⟩
          go_wp2
          go_meet
          case rel => exact ⟨_, rfl, Lib.hid (fun _ => by first | trivial | rfl), pst_pick hstA hG2 hPz hg6 hr6⟩
        · go_wp2
          go_meet
          case rel => first | exact ⟨_, rfl, Lib.hid (fun h => absurd h (by decide)), pst_more hstA (by omega) (Nat.le_refl _)⟩ | exact ⟨Lib.hid (fun h => absurd h (by decide)), pst_more hstA (by omega) (Nat.le_refl _)⟩
      case rest =>
        obtain ⟨bb, rfl, hb4, hstB⟩ := hcut
        go_upto_if 46 with fail
        go_cut [] from 15 (fun wx => PSt w2 B G (P + 511) Pz s 9 wx)
        case first =>
          cases bb
          · go_wp2
            go_meet
            case rel => exact pst_more hstB (Nat.le_refl _) (by omega)
          · obtain rfl := hb4.out rfl
            obtain ⟨B1, nB, d1, giB, B2, nrB, d2, rsB, hrowB, hnB, hoB, hRB, hlB, hNB, hrB, hgB, hSB, hVB⟩ := id hstB
            obtain ⟨vsB, hownB, hinB⟩ := id hRB
            have hmp : (mapTo boxC 16).length = 16 := by decide
            go_wp2_with (first
              | (go_at_call 74; refine (specBoxRegions _).mono ?_; rintro e w10 ⟨A10, c10, rfl, ho10, hb10⟩; rw [hmp] at ho10 ⊢)
              | (go_at_call 73; refine (specRegionRules A10 c10 16 w10.heap.size (mapTo boxC 16) 4 _ ho10.rd (Nat.le_refl _) (by omega)).mono ?_; rintro e w11 ⟨A11, c11, rfl, ho11, hb11⟩; rw [rr_box] at ho11 ⊢))
            have hb0B := hb10.trans (hb11.mono hb10.size)
            have hg11 : w2.grownBy w11 (some G) := grown_low hgB (hb0B.mono hgB.size)
            have hrg := (HGr.out _ hg11).rd
            have hrr := ho11.rd rr_box
            have hm4 : ng ≤ 1099511627776 := by omega
            refine (specPuzzleSolved 4 Ag ng cg w11.heap.size g A11 4 c11 w11.heap.size _ Ag ng cg w11.heap.size g _ ⟨hrg, Nat.le_refl _, hm4, hrr, Nat.le_refl _, by omega⟩ hrg (Nat.le_refl _) hm4).mono ?_
            rintro e w12 ⟨rfl, hb12⟩
            have hb0C := hb0B.trans (hb12.mono hb0B.size)
            cases hps : psB 4 g (rrL (mapTo boxC 16) 4 16) g
            · go_wp2
              go_meet
              case rel => exact pst_more (pst_below hstB hB2 hb0C) (Nat.le_refl _) (by omega)
            · have hstC := pst_below hstB hB2 hb0C
              have hrowC := (hb0C.block Pz (Array.getElem?_eq_some_iff.1 hrowB).1).trans hrowB
              have hRC := hRB.below hb0C
              obtain ⟨vsC, hownC, hinC, hcbC⟩ := hRC.with_ (hSB.below hb0C)
              obtain ⟨vs12, hown12, hin12⟩ := ho11.below hb12
              have hin12' : InR w12 w2.heap.size (.slice B2 nrB d2) (rrL (mapTo boxC 16) 4 16) vs12 4 := fun i hi => by
                obtain ⟨A', c', e0, e1, e2, e3, e4, _⟩ := hin12 i hi
                exact ⟨A', c', e0, e1, e2, e3.mono (Nat.le_trans hgB.size hb10.size), e4, ne_ty e3 hownC (by decide)⟩
              have hc12 := cell_of_row _ _ 2 _ _ (0, 0) hrowC
              have hs12 := Nat.le_trans hgB.size hb0C.size
              go_wp2_with (at_builtin; refine push_rulesV rfl (.tmp 58) (.tmp 59) rfl w2.heap.size B2 nrB d2 rsB vsC A11 4 c11 _ vs12 w10.heap.size rfl rfl hlB hownC hinC hown12 hin12' (.inl (by omega)) (by omega) (by omega) hs12 ?_; intro A7 c7 w13 hR13o hR13i hg13; have hrow13 := row_own hrowC hownC (by decide) hg13; have hf13 := frozen_of_row _ Pz 2 _ _ hrow13; have hc13 := cell_of_row _ _ 2 _ _ (0, 0) hrow13)
              have hcb12 : CbV vs12 4 (fun g => (Value.slice B1 nB d1).ownBlock ≠ some g) := fun i A' n' c' hi he g hg e => by
                obtain ⟨A2', c2', _, e1, _, ho', _⟩ := hin12 i hi
                rw [he] at e1
                injection e1 with e1
                rw [e1] at hg
                have q1 := ho'.own_lo g hg
                have q2 := hoB.own_hi g e
                have q3 := hb10.size
                omega
              have hS13 : SpQ w13 w2.heap.size (.slice A7 (nrB + 4) c7) (nrB + 4) (fun g => (Value.slice B1 nB d1).ownBlock ≠ some g) := ⟨_, hR13o, hcbC.app hownC.1 hcb12⟩
              go_meet
              case rel =>
                exact pst_push hrowB hnB hoB hRB hgB hG2 hPz hB2 (hrB.belowN hb0C hrB.lt (Nat.le_trans hB2 hgB.size)) (grown_low (World.grownBy.refl _ _) hb0C) ⟨_, hR13o, hR13i⟩ (by simp [hlB, rr_box]) (by omega) hg13 hS13 (fun _ => pv_app (hVB (by omega)) (by rw [rr_box]; omega) (fun i hi => rr_valid i (by rw [rr_box] at hi; exact hi)))
        case rest =>
          have hstD := hcut
          go_upto_region 12 with fail
          go_cut [64] from 15 (fun bv wx => ∃ bb : Bool, bv = .bool bb ∧ PSt w2 B G (P + 512) Pz s 9 wx)
          case first =>
            obtain ⟨_, _, _, _, _, _, _, _, _, _, _, _, _, _, hrD, hgD, _, _⟩ := id hstD
            go_wp2_with fail
            refine (pick_any B G (P + 511) 3 _ hrD hBG (by omega)).mono ?_
            rintro e w6 ⟨v6, rfl, ⟨y0, y1, _⟩, hr6, hg6⟩
            go_wp2
            go_meet
            case rel => exact ⟨_, rfl, pst_pick hstD hG2 hPz hg6 hr6⟩
          case rest =>
            obtain ⟨bb, rfl, hstE⟩ := hcut
            go_upto_if 64 with fail
            go_cut [] from 15 (fun wx => PSt w2 B G (P + 600) Pz s 9 wx)
            case first =>
              obtain ⟨A1, n, c1, gi, A2, nr, c2, rs, hrow, hn, ho, hR, hl, hN, hr, hgE, hSE, hVE⟩ := id hstE
              obtain ⟨x0, x1, x2⟩ : PBox wc Pz s A1 n c1 A2 nr c2 := ⟨cell_of_row _ _ 0 _ _ (0, 0) hrow, cell_of_row _ _ 1 _ _ (0, 0) hrow, cell_of_row _ _ 2 _ _ (0, 0) hrow⟩
              cases bb
              · go_wp2_with fail
                refine (pick_any B G (P + 512) 3 _ hr hBG (by omega)).mono ?_
                rintro e w6 ⟨v6, rfl, ⟨z0, z1, _⟩, hr6, hg6⟩
                have hz1 := z1 (by omega)
                clear z1
                have hst6 := pst_pick hstE hG2 hPz hg6 hr6
                clear x0 x1 x2
                go_wp2
                go_loopw [14] (fun kv wx => ∃ k : Nat, k ≤ ng ∧ kv = .int .i64 k ∧ PSt w2 B G (P + 513 + k) Pz s 9 wx) (fun kv _ => ng - (intOf kv).toNat)
                case atStart => exact ⟨0, Nat.zero_le _, rfl, hst6⟩
                case round =>
                  obtain ⟨k, hk, rfl, hstk⟩ := hrel
                  obtain ⟨B1, nB, d1, giB, B2, nrB, d2, rsB, hrowB, hnB, hoB, hRB, hlB, hNB, hrB, hgB, hSB, hVB⟩ := id hstk
                  obtain rfl : nB = ng := by omega
                  obtain ⟨x0, x1, x2⟩ : PBox wr Pz s B1 nB d1 B2 nrB d2 := ⟨cell_of_row _ _ 0 _ _ (0, 0) hrowB, cell_of_row _ _ 1 _ _ (0, 0) hrowB, cell_of_row _ _ 2 _ _ (0, 0) hrowB⟩
                  by_cases hlt : k < nB
                  · have hltI : (k : Int) < (nB : Int) := by omega
                    obtain ⟨g1, rfl, hg1, hg1w⟩ := hoB.form (by omega)
                    go_wp2_with fail
                    refine (pick_any B G (P + 513 + k) 4 _ hrB hBG (by omega)).mono ?_
                    rintro e w7 ⟨v7, rfl, ⟨y0, y1, _⟩, hr7, hg7⟩
                    have hst7 := pst_pick hstk hG2 hPz hg7 hr7
                    have hrow7 := (hg7.block Pz (Array.getElem?_eq_some_iff.1 hrowB).1 (by intro e; injection e with e; omega)).trans hrowB
                    have ho7 := hoB.keptG hg7 hG2
                    obtain ⟨hc7, hf7⟩ := ho7.cell hlt
                    have hstS := pst_store hrow7 hnB ho7 (hRB.keptL hg7 hG2) hlB hNB hr7 (hgB.trans hg7) (hSB.keptL hg7 hG2) hVB hG2 hB2 k 0 (by omega)
                    obtain ⟨y0', y1', y2'⟩ : PBox w7 Pz s (some ⟨g1, 0, none⟩) nB d1 B2 nrB d2 := ⟨cell_of_row _ _ 0 _ _ (0, 0) hrow7, cell_of_row _ _ 1 _ _ (0, 0) hrow7, cell_of_row _ _ 2 _ _ (0, 0) hrow7⟩
                    go_wp2
                    all_goals
                      refine ⟨⟨k + 1, hlt, by simp, ?_⟩, by simp [intOf]; omega⟩
                      rw [show P + 513 + (k + 1) = P + 513 + k + 1 by omega]
                      first | exact hstS | exact hst7
                  · obtain rfl : k = nB := by omega
                    go_wp2
                    go_meet
                    case rel => exact pst_more hstk (by omega) (Nat.le_refl _)
              · have hMM := specMakeMinimal s A1 n c1 wc.heap.size gi A2 nr c2 wc.heap.size rs wc ⟨ho.rd, Nat.le_refl _, by omega, hR.rd hl, Nat.le_refl _, by omega⟩ (by omega)
                go_wp2_with fail
                refine hMM.mono ?_
                rintro e w6 ⟨hb6, hpost⟩
                have hrow6 := (hb6.block Pz (Array.getElem?_eq_some_iff.1 hrow).1).trans hrow
                rcases hpost with ⟨rfl, _⟩ | ⟨_, B1, d1, B2, d2, K, rfl, hoM, hKM, hRM, hSM⟩
                · go_wp2_with (refine wpList_store_row rfl 26 _ _ rfl w6.heap.size #[.int .i64 0, .slice none 0 0, .slice none 0 0] rfl rfl 26 #[.int .i64 0, .slice none 0 0, .slice none 0 0] (heap_alloc_new w6 _) (Hi.out _ _ _ _ _ _ _) rfl (Hone.out _ _ _ _ _ _ _) ?_)
                  go_meet
                  case rel => exact pst_more (pst_below hstE hB2 (setRow_below5 (hb6.alloc hb6.size _) hb6.size)) (by omega) (Nat.le_refl _)
                · have hPz6 : Pz < w6.heap.size := (Array.getElem?_eq_some_iff.1 hrow6).1
                  have hrow7 : ((w6.alloc (.cells #[.int .i64 0, .slice none 0 0, .slice none 0 0] 26)).setRow w6.heap.size #[.int .i64 s, .slice B1 n d1, .slice B2 nr d2]).heap[Pz]? = some (.cells #[.int .i64 s, .slice A1 n c1, .slice A2 nr c2] 26) := by
                    refine Eq.trans ?_ ((Below.heap_alloc w6 (.cells #[.int .i64 0, .slice none 0 0, .slice none 0 0] 26) Pz hPz6).trans hrow6)
                    unfold World.setRow; simp only [Array.getElem?_modify]; rw [if_neg (by omega)]
                  have hrowX := setRow_heap (w := w6.alloc (.cells #[.int .i64 0, .slice none 0 0, .slice none 0 0] 26)) w6.heap.size _ #[.int .i64 s, .slice B1 n d1, .slice B2 nr d2] 26 _ (heap_alloc_new w6 _)
                  have hb7 : Below wc.heap.size wc ((w6.alloc (.cells #[.int .i64 0, .slice none 0 0, .slice none 0 0] 26)).setRow w6.heap.size #[.int .i64 s, .slice B1 n d1, .slice B2 nr d2]) := setRow_below5 (hb6.alloc hb6.size _) hb6.size
                  have ho7 := Ow.setX (cs' := #[.int .i64 s, .slice B1 n d1, .slice B2 nr d2]) (World.ownsRow.alloc (hoM.mono (Nat.le_trans hgE.size hKM)) (.cells #[.int .i64 0, .slice none 0 0, .slice none 0 0] 26)) (heap_alloc_new w6 _)
                  have hR7 := OwR.setX (cs' := #[.int .i64 s, .slice B1 n d1, .slice B2 nr d2]) ((hRM.mono hgE.size).below ((Below.refl _ _).alloc (Nat.le_refl _) (.cells #[.int .i64 0, .slice none 0 0, .slice none 0 0] 26))) (heap_alloc_new w6 _)
                  have hS7 := SpQ.setX (cs' := #[.int .i64 s, .slice B1 n d1, .slice B2 nr d2]) ((hSM.mono hgE.size).below ((Below.refl _ _).alloc (Nat.le_refl _) (.cells #[.int .i64 0, .slice none 0 0, .slice none 0 0] 26))) (heap_alloc_new w6 _)
                  obtain ⟨y0, y1, y2⟩ : PBox ((w6.alloc (.cells #[.int .i64 0, .slice none 0 0, .slice none 0 0] 26)).setRow w6.heap.size #[.int .i64 s, .slice B1 n d1, .slice B2 nr d2]) w6.heap.size s B1 n d1 B2 nr d2 := ⟨cell_of_row _ _ 0 _ _ (0, 0) hrowX, cell_of_row _ _ 1 _ _ (0, 0) hrowX, cell_of_row _ _ 2 _ _ (0, 0) hrowX⟩
                  have hst7 : PSt w2 B G (P + 600) Pz s 9 ((((w6.alloc (.cells #[.int .i64 0, .slice none 0 0, .slice none 0 0] 26)).setRow w6.heap.size #[.int .i64 s, .slice B1 n d1, .slice B2 nr d2])).setRow Pz #[.int .i64 s, .slice B1 n d1, .slice B2 nr d2]) := by
                    refine ⟨B1, n, d1, _, B2, nr, d2, rs, setRow_heap _ _ _ _ _ _ hrow7, hn, ho7.setX hrow7, hR7.setX hrow7, hl, hN, ?_, ?_, (hS7.setX hrow7).imp (fun g hg e => by have q1 := hoM.own_lo g e; omega), fun _ => pv_min (hVE (by omega)) n⟩
                    · exact ((hr.belowN hb7 hr.lt (Nat.le_trans hB2 hgE.size)).belowN (setRow_below5 (Below.refl _ _) hPz) hG2 hB2).more (by omega)
                    · exact grown_low (grown_low hgE (hb7.mono hgE.size)) (setRow_below5 (Below.refl _ _) hPz)
                  go_wp2_with (first | (refine wpList_store_row rfl 26 _ _ rfl w6.heap.size #[.int .i64 s, .slice B1 n d1, .slice B2 nr d2] rfl rfl 26 #[.int .i64 0, .slice none 0 0, .slice none 0 0] (heap_alloc_new w6 _) (Hi.out _ _ _ _ _ _ _) rfl (Hone.out _ _ _ _ _ _ _) ?_) | (refine wpList_store_row rfl 26 _ _ rfl Pz #[.int .i64 s, .slice B1 n d1, .slice B2 nr d2] rfl rfl 26 #[.int .i64 s, .slice A1 n c1, .slice A2 nr c2] hrow7 (Hi.out _ _ _ _ _ _ _) rfl (Hone.out _ _ _ _ _ _ _) ?_))
                  go_meet
                  case rel => exact hst7
            case rest =>
              have hstF := hcut
              clear hstE hstD
              go_upto_region 22 with fail
              go_cut [92] from 15 (fun bv wx => ∃ bb : Bool, bv = .bool bb ∧ PSt w2 B G (P + 601) Pz s 9 wx)
              case first =>
                obtain ⟨_, _, _, _, _, _, _, _, _, _, _, _, _, _, hrF, hgF, _, _⟩ := id hstF
                go_wp2_with fail
                refine (pick_any B G (P + 600) 8 _ hrF hBG (by omega)).mono ?_
                rintro e w6 ⟨v6, rfl, ⟨y0, y1, _⟩, hr6, hg6⟩
                go_wp2
                go_meet
                case rel => exact ⟨_, rfl, pst_pick hstF hG2 hPz hg6 hr6⟩
              case rest =>
                obtain ⟨bb, rfl, hstH⟩ := hcut
                go_upto_if 92 with fail
                go_cut [] from 15 (fun wx => PSt w2 B G (P + 610) Pz s 9 wx)
                case first =>
                  obtain ⟨B1, nB, d1, giB, B2, nrB, d2, rsB, hrowB, hnB, hoB, hRB, hlB, hNB, hrB, hgB, hSB, hVB⟩ := id hstH
                  cases bb
                  · go_wp2
                    go_meet
                    case rel => exact pst_more hstH (by omega) (Nat.le_refl _)
                  · obtain rfl : nB = ng := by omega
                    obtain ⟨g1, rfl, hg1, hg1w⟩ := hoB.form (by omega)
                    obtain ⟨x0, x1, x2⟩ : PBox wc Pz s (some ⟨g1, 0, none⟩) nB d1 B2 nrB d2 := ⟨cell_of_row _ _ 0 _ _ (0, 0) hrowB, cell_of_row _ _ 1 _ _ (0, 0) hrowB, cell_of_row _ _ 2 _ _ (0, 0) hrowB⟩
                    have hP1 : P + 601 ≤ 1099511627776 := by omega
                    have hP2 : P + 602 ≤ 1099511627776 := by omega
                    have hF1 := Lib.hid (fun (w' : World) (hg : wc.grownBy w' (some G)) => (⟨cell_of_row _ _ 1 _ _ (0, 0) ((hg.block Pz (Array.getElem?_eq_some_iff.1 hrowB).1 (by intro e; injection e with e; omega)).trans hrowB), hoB.keptG hg hG2⟩ : w'.cell? ⟨Pz, 1, none⟩ = some (.slice (some ⟨g1, 0, none⟩) nB d1) ∧ Ow w' w2.heap.size (some ⟨g1, 0, none⟩) nB d1 giB))
                    have hFS := Lib.hid (fun (w' : World) (hg : wc.grownBy w' (some G)) (hr : Rdr w' B G (P + 603)) (j : Nat) (z : Int) (hz : 0 ≤ z ∧ z ≤ s) => pst_more (pst_store ((hg.block Pz (Array.getElem?_eq_some_iff.1 hrowB).1 (by intro e; injection e with e; omega)).trans hrowB) hnB (hoB.keptG hg hG2) (hRB.keptL hg hG2) hlB hNB hr (hgB.trans hg) (hSB.keptL hg hG2) hVB hG2 hB2 j z hz) (show P + 603 ≤ P + 610 by omega) (Nat.le_refl _))
                    clear hnB hng
                    go_upto_region 23 with fail
                    go_region_with (first
                      | (go_at_call 71; (with_reducible refine (pick_any B G (P + 601) (nB : Int) _ ?hd hBG hP1).mono ?_); (case hd => exact hrB); rintro e w7 ⟨v7, rfl, ⟨a0, a1, _⟩, hd7, hg7d⟩; have ht7 := a1 (by omega); clear a1; have hg7 : wc.grownBy w7 (some G) := ⟨hg7d.os, hg7d.tape, hg7d.output, hg7d.size, hg7d.block⟩; obtain ⟨z7, rfl⟩ := Int.eq_ofNat_of_zero_le a0; obtain ⟨k7, hO7⟩ := hF1.out _ hg7)
                      | (go_at_call 71; (with_reducible refine (pick_any B G (P + 602) s _ ?hd hBG hP2).mono ?_); (case hd => exact hd7); rintro e w8 ⟨v8, rfl, ⟨b0, b1, _⟩, hd8, hg8d⟩; have ht8 := b1 (by omega); clear b1; have hg8 : wc.grownBy w8 (some G) := hg7.trans ⟨hg8d.os, hg8d.tape, hg8d.output, hg8d.size, hg8d.block⟩; obtain ⟨k8, hO8⟩ := hF1.out _ hg8; obtain ⟨c8, f8⟩ := hO8.cell (show z7 < nB by omega)))
                    all_goals
                      go_wp2
                      go_meet
                      case rel => exact hFS.out _ hg8 hd8 _ _ (by have q := IntWalk.i64_in (1 + v8) (by omega); omega)
                case rest =>
                  have hstJ := hcut
                  clear hstH hstF
                  obtain ⟨_, _, _, _, _, _, _, _, _, _, _, _, _, _, hrJ, hgJ, _, _⟩ := id hstJ
                  go_upto_region 24 with fail
                  go_cut [107] from 15 (fun bv wx => ∃ bb : Bool, bv = .bool bb ∧ Hid (m ≤ 0 → bb = false) ∧ PSt w2 B G (P + 611) Pz s 9 wx)
                  case first =>
                    go_wp2_with fail
                    refine (odd_any B G (P + 610) m _ hrJ hBG (by omega) hm).mono ?_
                    rintro e w9 ⟨b9, rfl, hb9, hr9, hg9⟩
                    have hb9 := Lib.hid hb9
                    go_wp2
                    go_meet
                    case rel => exact ⟨_, rfl, hb9, pst_pick hstJ hG2 hPz hg9 hr9⟩
                  case rest =>
                    obtain ⟨bb, rfl, hbm, hstK⟩ := hcut
                    go_upto_if 107 with fail
                    go_cut [] from 15 (fun wx => FSt w2 B G (P + 800) Pz s m wx)
                    case first =>
                      cases bb
                      · go_wp2
                        go_meet
                        case rel => exact fst_of hstK q16 (by omega) (by omega) (.inl (by omega))
                      · have Hm1 := Lib.hid (show 1 ≤ m by
                          rcases Int.lt_or_le 0 m with h | h
                          · omega
                          · exact absurd (hbm.out h) (by decide))
                        obtain ⟨A1, n, c1, gi, A2, nr, c2, rs, hrow0, hn, ho0, hR0', hl, hN, hr0', hgK, hS0', hV⟩ := id hstK
                        go_wp2_with fail
                        refine (pick_any B G (P + 611) 3 _ hr0' hBG (by omega)).mono ?_
                        rintro e wr ⟨v9, rfl, ⟨y0, y1, _⟩, hr, hg9⟩
                        have hv9 := y1 (by omega)
                        have hgw := hgK.trans hg9
                        have hrow := (hg9.block Pz (Array.getElem?_eq_some_iff.1 hrow0).1 (by intro e; injection e with e; omega)).trans hrow0
                        have ho := ho0.keptG hg9 hG2
                        have hR := hR0'.keptL hg9 hG2
                        have hSp := hS0'.keptL hg9 hG2
                        clear hrow0 ho0 hR0' hr0' hS0' y1
                        obtain ⟨x0, x1, x2⟩ : PBox wr Pz s A1 n c1 A2 nr c2 := ⟨cell_of_row _ _ 0 _ _ (0, 0) hrow, cell_of_row _ _ 1 _ _ (0, 0) hrow, cell_of_row _ _ 2 _ _ (0, 0) hrow⟩
                        have f1 := frozen_of_row _ Pz 1 _ _ hrow
                        have f2 := frozen_of_row _ Pz 2 _ _ hrow
                        have hv3 : v9 = 0 ∨ v9 = 1 ∨ v9 = 2 := by omega
                        rcases hv3 with rfl | rfl | rfl
                        · have hP1 : P + 612 ≤ 1000 := by omega
                          go_wp2
                          refine wp_region_dsR [114, 115, 116, 117, 118, 119, 120, 121, 122] (RuleG w2 G Pz s Ag ng cg A2 nr c2 (Value.slice A1 n c1).ownBlock gi 1) (RelP w2 B G Pz (P + 712)) (RuleEff w2 G nr c2 A2) (RuleC w2 B G (P + 612) nr c2 A2 rs (Value.slice A1 n c1).ownBlock) ?C0 ?refl (fun _ _ h h' => relP_trans h h') (by kernel_rfl) (by kernel_rfl) (by simp) (fun j i v w w' hji _ he hg => ruleG_eff hG2 j i v w w' hji he hg) ?step ?last
                          case C0 => exact fun j => ⟨fun _ => hr, fun _ => ⟨hR, hSp⟩⟩
                          case refl => exact relP_grown hG2 hPz (grown_drew (World.grownBy.refl wr _)) (fun h => h)
                          case step =>
                            intro i o a w' K hi hoo hrel hfr hpre hC hK
                            have e0 : a.eval (.tmp 0) = .pointer (some ⟨G, 0, none⟩) := hfr 0 (by simp)
                            have e5 : a.eval (.tmp 5) = .int .i64 s := hfr 5 (by simp)
                            have e6 : a.eval (.tmp 6) = .slice Ag ng cg := hfr 6 (by simp)
                            have e7 : a.eval (.tmp 7) = .pointer (some ⟨Pz, 0, none⟩) := hfr 7 (by simp)
                            have hrow' := hrel.2.2.1 _ hrow
                            have hsW := Nat.le_trans hgw.size hrel.1
                            have hgw' := hrel.2.1 hgw
                            have hi9 : i < 9 := hi
                            have : i = 0 ∨ i = 1 ∨ i = 2 ∨ i = 3 ∨ i = 4 ∨ i = 5 ∨ i = 6 ∨ i = 7 ∨ i = 8 := by omega
                            rcases this with rfl | rfl | rfl | rfl | rfl | rfl | rfl | rfl | rfl
                            all_goals
                              simp only [List.getElem?_toArray, List.getElem?_cons_zero, List.getElem?_cons_succ, Option.some.injEq] at hoo
                              subst hoo
                            · refine oper_val (v := .pointer (some ⟨Pz, 2, none⟩)) (w' := w') ?_ (hK _ w' (relP_refl w') (World.grownBy.refl _ _) (fun j _ h => h) rfl)
                              unfold execOp
                              simp only [e7]
                              go_simp
                            · have p0 : a.eval (.tmp 114) = .pointer (some ⟨Pz, 2, none⟩) := hpre ⟨0, .data⟩ (by simp) rfl
                              have c2' := cell_of_row _ _ 2 _ _ (0, 0) hrow'
                              refine oper_val (v := .slice A2 nr c2) (w' := w') ?_ (hK _ w' (relP_refl w') (World.grownBy.refl _ _) (fun j _ h => h) rfl)
                              unfold execOp
                              simp only [p0]
                              go_simp
                            · refine oper_val (v := .pointer (some ⟨G, 0, none⟩)) (w' := w') ?_ (hK _ w' (relP_refl w') (World.grownBy.refl _ _) (fun j _ h => h) rfl)
                              unfold execOp
                              simp only [e0]
                              go_simp
                            · refine oper_val (v := .slice Ag ng cg) (w' := w') ?_ (hK _ w' (relP_refl w') (World.grownBy.refl _ _) (fun j _ h => h) rfl)
                              unfold execOp
                              simp only [e6]
                              go_simp
                            · refine oper_val (v := .int .i64 s) (w' := w') ?_ (hK _ w' (relP_refl w') (World.grownBy.refl _ _) (fun j _ h => h) rfl)
                              unfold execOp
                              simp only [e5]
                              go_simp
                            · have p116 : a.eval (.tmp 116) = .pointer (some ⟨G, 0, none⟩) := hpre ⟨2, .data⟩ (by simp) rfl
                              have p117 : a.eval (.tmp 117) = .slice Ag ng cg := hpre ⟨3, .data⟩ (by simp) rfl
                              have p118 : a.eval (.tmp 118) = .int .i64 s := hpre ⟨4, .data⟩ (by simp) rfl
                              refine oper_call (f := 72) (args := #[.pointer (some ⟨G, 0, none⟩), .slice Ag ng cg, .int .i64 s, .int .i64 1]) ?_ (l20Rule_any B G (P + 612) Ag cg ng w'.heap.size g s 1 w' (hC.1 rfl) hBG hP1 (HGr.out _ hgw').rd (Nat.le_refl _) hneG gv2 (by omega)) ?_
                              · unfold execOp
                                go_simp
                                exact ⟨by simpa [Act.eval] using p116, by simpa [Act.eval] using p117, by simpa [Act.eval] using p118⟩
                              · rintro e w6 ⟨k6, A6, n6, c6, v6, xs6, rfl, ho6, hn6, hrv6, hr6, hg6⟩
                                refine ⟨_, rfl, hK _ w6 (relP_grown hG2 hPz hg6 (fun _ => hr6)) hg6 (fun j hj h => ⟨fun e => absurd e hj, fun e => ⟨(h.2 e).1.keptL hg6 hG2, (h.2 e).2.keptL hg6 hG2⟩⟩) ⟨k6, A6, n6, c6, v6, xs6, rfl, ho6.mono hsW, hn6, hrv6, fun g hg e => by have q1 := ho6.own_lo g hg; have q2 := ho.own_hi g e; have q3 := hrel.1; omega⟩⟩
                            · obtain ⟨k6, A6, n6, c6, v6, xs6, p119, ho6, hn6, hq6⟩ : ∃ k A n' c u xs, a.eval (.tmp 119) = .agg #[.int .i64 k, .slice A n' c, .int .i64 u] ∧ Ow w' w2.heap.size A n' c xs ∧ n' ≤ 5 ∧ (_ → rv k xs u s = true) ∧ ∀ g, (Value.slice A n' c).ownBlock = some g → (Value.slice A1 n c1).ownBlock ≠ some g := hpre ⟨5, .data⟩ (by simp) rfl
                              have hgA : w'.grownBy (w'.alloc (.cells #[.int .i64 k6, .slice A6 n6 c6, .int .i64 v6] 61)) (some G) := only_alloc (World.grownBy.refl _ _) _
                              refine oper_val (v := .slice (some ⟨w'.heap.size, 0, none⟩) 1 1) (w' := w'.alloc (.cells #[.int .i64 k6, .slice A6 n6 c6, .int .i64 v6] 61)) ?_ (hK _ _ (relP_grown hG2 hPz hgA (fun h => h.alloc (by omega) _)) hgA (fun j hj h => ⟨fun e => (h.1 e).alloc (by omega) _, fun e => ⟨(h.2 e).1.keptL hgA hG2, (h.2 e).2.keptL hgA hG2⟩⟩) ⟨_, k6, A6, n6, c6, v6, xs6, rfl, heap_alloc_new _ _, World.ownsRow.alloc ho6 _, hn6, ?_, by omega, hq6⟩)
                              · have p119' : a.tmps[119]?.getD undef = .agg #[.int .i64 k6, .slice A6 n6 c6, .int .i64 v6] := by simpa [Act.eval] using p119
                                unfold execOp
                                go_simp
                              · intro e
                                obtain ⟨vs, hown, _⟩ := id hR
                                have := (World.ownsRow.lt hown _ e.symm).2
                                have := hrel.1
                                omega
                            · have p115 : a.eval (.tmp 115) = .slice A2 nr c2 := hpre ⟨1, .data⟩ (by simp) rfl
                              obtain ⟨b, k6, A6, n6, c6, v6, xs6, p120, hlit, ho6, hn6, hb6, _, hv6, hX6⟩ : ∃ b k A n' c u xs, a.eval (.tmp 120) = .slice (some ⟨b, 0, none⟩) 1 1 ∧ w'.heap[b]? = some (.cells #[.int .i64 k, .slice A n' c, .int .i64 u] 61) ∧ Ow w' w2.heap.size A n' c xs ∧ n' ≤ 5 ∧ some b ≠ (Value.slice A2 nr c2).ownBlock ∧ b ≠ G ∧ (_ → rv k xs u s = true) ∧ ∀ g, (Value.slice A n' c).ownBlock = some g → (Value.slice A1 n c1).ownBlock ≠ some g := hpre ⟨6, .data⟩ (by simp) rfl
                              have hR7 := hC.2 rfl
                              obtain ⟨vs7, hown7, hin7, hcb7⟩ := hR7.1.with_ hR7.2
                              obtain ⟨A7, c7, w7, hrun, ⟨q1, q1'⟩, q2⟩ := run_push_oneV 24 w2.heap.size A2 nr c2 b rs k6 v6 A6 n6 c6 xs6 hl vs7 hown7 hin7 ho6 hlit (by omega) (by omega) hsW
                              refine oper_val (v := .slice A7 (nr + 1) c7) (w' := w7) ?_ (hK _ w7 (relP_own hG2 hB2 hown7 q2) ⟨q2, vs7, hown7⟩ (fun j hj h => ⟨fun e => (h.1 e).belowN (below_ownR hown7 (Nat.le_refl _) hsW q2) hG2 hB2, fun e => absurd e hj⟩) ⟨A7, c7, _, rfl, ⟨_, q1, q1'⟩, by simp [hl], ⟨_, q1, hcb7.app hown7.1 (CbV.one hX6)⟩, fun h => absurd h (by decide)⟩)
                              unfold execOp
                              simp only [resolve, invoke, builtin, Sem.run_bind, Sem.run_pure, Result.andThen_ok, List.map_toArray, List.map_cons, List.map_nil, p115, p120, hrun]
                            · refine oper_val (v := .pointer (some ⟨Pz, 2, none⟩)) (w' := w') ?_ (hK _ w' (relP_refl w') (World.grownBy.refl _ _) (fun j _ h => h) rfl)
                              unfold execOp
                              simp only [e7]
                              go_simp
                          case last =>
                            intro o a w5 hoo hrel hdef htm hfr hpre
                            simp only [List.length_cons, List.length_nil, Nat.reduceAdd, List.getElem?_toArray, List.getElem?_cons_zero, List.getElem?_cons_succ, Option.some.injEq] at hoo
                            subst hoo
                            have g114 : a.tmps.getD 114 undef = .pointer (some ⟨Pz, 2, none⟩) := hpre 0 (by simp)
                            have g115 : a.tmps.getD 115 undef = .slice A2 nr c2 := hpre 1 (by simp)
                            have g116 : a.tmps.getD 116 undef = .pointer (some ⟨G, 0, none⟩) := hpre 2 (by simp)
                            have g117 : a.tmps.getD 117 undef = .slice Ag ng cg := hpre 3 (by simp)
                            have g118 : a.tmps.getD 118 undef = .int .i64 s := hpre 4 (by simp)
                            obtain ⟨k6, A6, n6, c6, v6, xs6, g119, _, _⟩ : ∃ k A n' c u xs, a.tmps.getD 119 undef = .agg #[.int .i64 k, .slice A n' c, .int .i64 u] ∧ Ow w5 w2.heap.size A n' c xs ∧ _ := hpre 5 (by simp)
                            obtain ⟨b7, _, _, _, _, _, _, g120, _⟩ : ∃ b k A n' c u xs, a.tmps.getD 120 undef = .slice (some ⟨b, 0, none⟩) 1 1 ∧ w5.heap[b]? = some (.cells #[.int .i64 k, .slice A n' c, .int .i64 u] 61) ∧ Ow w5 w2.heap.size A n' c xs ∧ _ := hpre 6 (by simp)
                            obtain ⟨A7, c7, rs7, g121, ho7, hl7, hS7, hV7⟩ : ∃ A' c' rs', a.tmps.getD 121 undef = .slice A' (nr + 1) c' ∧ OwR w5 w2.heap.size (.slice A' (nr + 1) c') rs' (nr + 1) ∧ rs'.length = nr + 1 ∧ SpQ w5 w2.heap.size (.slice A' (nr + 1) c') (nr + 1) (fun g => (Value.slice A1 n c1).ownBlock ≠ some g) ∧ (_ → pvB s gi rs' = true) := hpre 7 (by simp)
                            have g122 : a.tmps.getD 122 undef = .pointer (some ⟨Pz, 2, none⟩) := hpre 8 (by simp)
                            have h121 : a.eval (.tmp 121) = .slice A7 (nr + 1) c7 := g121
                            have h122 : a.eval (.tmp 122) = .pointer (some ⟨Pz, 2, none⟩) := g122
                            have hrow5 := hrel.2.2.1 _ hrow
                            have hc5 := cell_of_row _ _ 2 _ _ (0, 0) hrow5
                            have hf5 := frozen_of_row _ Pz 2 _ _ hrow5
                            have hg5 := hrel.2.1 hgw
                            have hr5 := hrel.2.2.2.2 hgw.size (hr.more (by omega))
                            have ho5 := hrel.2.2.2.1 _ _ _ _ ho
                            have hnew : PSt w2 B G (P + 712) Pz s 10 (w5.setCell ⟨Pz, 2, none⟩ (.slice A7 (nr + 1) c7)) :=
                              ⟨A1, n, c1, gi, A7, nr + 1, c7, rs7, heap_setCell_same w5 Pz 2 _ _ _ hrow5, hn, ownsRow_cellX ho5 hrow5 (by decide), ho7.cellX hrow5, hl7, by omega, hr5.belowN ((Below.refl _ _).setCell hPz _) hG2 hB2, grown_low hg5 ((Below.refl _ _).setCell hPz _), hS7.cellX hrow5, fun h => absurd h (by decide)⟩
                            refine ⟨w5.setCell ⟨Pz, 2, none⟩ (.slice A7 (nr + 1) c7), ?_, ?_⟩
                            · unfold execOp
                              simp only [h121, h122]
                              go_simp
                            · have key := htm
                              simp only [List.foldl_cons, List.foldl_nil, g114, g115, g116, g117, g118, g119, g120, g121, g122, List.setIfInBounds_toArray, List.set_cons_succ, List.set_cons_zero] at key
                              clear htm hfr hpre g114 g115 g116 g117 g118 g119 g120 g121 g122 h121 h122
                              obtain ⟨tm, df⟩ := a
                              dsimp only at key hdef
                              subst key hdef
                              go_wp2
                              go_meet
                              case rel => exact fst_of hnew q16 (by omega) (by omega) (.inr Hm1.out)
                        · have hn4 : 4 ≤ n := by omega
                          obtain ⟨g1, rfl, hg1, hg1w⟩ := ho.form (by omega)
                          have hcap := ho.le_cap
                          have hcI : (1 : Int) ≤ (c1 : Int) := by omega
                          have hnI : (1 : Int) ≤ (n : Int) := by omega
                          have hcI2 : (1 : Int) < (c1 : Int) := by omega
                          have hneP : g1 ≠ Pz := fun e => own_ne_row hrow ho (by decide) (by rw [e]; rfl)
                          have hbS : Below w2.heap.size wr (wr.setCell ⟨Pz, 1, none⟩ (.slice (some ⟨g1, 1, none⟩) (n - 1) (c1 - 1))) := Below.setCell (p := (⟨Pz, 1, none⟩ : Addr)) (Below.refl _ _) hPz _
                          have hfin : FSt w2 B G (P + 800) Pz s m (wr.setCell ⟨Pz, 1, none⟩ (.slice (some ⟨g1, 1, none⟩) (n - 1) (c1 - 1))) :=
                            ⟨some ⟨g1, 1, none⟩, n - 1, c1 - 1, gi.drop 1, A2, nr, c2, rs, heap_setCell_same wr Pz 1 _ _ _ hrow, by omega, by simpa using (rd_drop_ ho.rd (by omega)).grown (w' := wr.setCell ⟨Pz, 1, none⟩ (.slice (some ⟨g1, 1, none⟩) (n - 1) (c1 - 1))) grown_set (fun b off e => by injection e with e; injection e with e _ _; rw [← e]; exact hneP) (Nat.le_refl _), fun b off e => by injection e with e; injection e with e _ _; rw [← e]; exact hg1, hR.cellX hrow, hl, by omega, (hr.belowN hbS hG2 hB2).more (by omega), grown_low hgw hbS, fun h => absurd h (by have := Hm1.out; omega)⟩
                          clear hneP hbS
                          go_wp2
                          go_meet
                          case rel => exact hfin
                        · have hmk := make_rules21 wr
                          obtain ⟨hown21, hin21⟩ := rules21_own wr hgw.size
                          obtain ⟨W, hW⟩ : ∃ W, wr.alloc (.cells (madeCells #[.int .i64 0, .slice none 0 0, .int .i64 0] 63) 61) = W := ⟨_, rfl⟩
                          rw [hW] at hmk hown21 hin21
                          have hPl : Pz < wr.heap.size := (Array.getElem?_eq_some_iff.1 hrow).1
                          have hbW : Below wr.heap.size wr W := by rw [← hW]; exact (Below.refl _ _).alloc (Nat.le_refl _) _
                          have hrowW := (hbW.block Pz hPl).trans hrow
                          have f2W := frozen_of_row _ Pz 2 _ _ hrowW
                          have x2W := cell_of_row _ _ 2 _ _ (0, 0) hrowW
                          have hbS : Below w2.heap.size W (W.setCell ⟨Pz, 2, none⟩ (.slice (some ⟨wr.heap.size, 0, none⟩) 21 21)) := Below.setCell (p := (⟨Pz, 2, none⟩ : Addr)) (Below.refl _ _) hPz _
                          have hgW : w2.grownBy W (some G) := grown_low hgw (hbW.mono hgw.size)
                          have hoW := ho.below hbW
                          have hneP : ∀ b, A1 = some ⟨b, 0, none⟩ → b ≠ Pz := fun b e1 e => own_ne_row hrowW hoW (by decide) (by rw [e1, e]; rfl)
                          have hfin : FSt w2 B G (P + 800) Pz s m (W.setCell ⟨Pz, 2, none⟩ (.slice (some ⟨wr.heap.size, 0, none⟩) 21 21)) :=
                            ⟨A1, n, c1, gi, some ⟨wr.heap.size, 0, none⟩, 21, 21, List.replicate 21 ⟨0, [], 0⟩, heap_setCell_same W Pz 2 _ _ _ hrowW, by omega, by
                              have hq := hoW.rd.grown (w' := W.setCell ⟨Pz, 2, none⟩ (.slice (some ⟨wr.heap.size, 0, none⟩) 21 21)) grown_set (fun b off e => by
                                obtain ⟨g1, e1, _⟩ := hoW.form (by omega)
                                rw [e] at e1
                                injection e1 with e1
                                injection e1 with e1 e2 _
                                subst e2
                                exact hneP b e) (Nat.le_refl _)
                              simpa using hq, fun b off e => (by
                                obtain ⟨g1, e1, h1, _⟩ := hoW.form (by omega)
                                rw [e] at e1
                                injection e1 with e1
                                injection e1 with e1 e2 _
                                omega), OwR.cellX ⟨_, hown21, hin21⟩ hrowW, by simp, by omega, ((hr.belowN (hbW.mono hgw.size) hG2 hB2).belowN hbS hG2 hB2).more (by omega), grown_low hgW hbS, fun h => absurd h (by have := Hm1.out; omega)⟩
                          clear hneP hbS hgW hoW hown21 hin21 hrowW hbW hPl
                          go_wp2
                          go_meet
                          case rel => exact hfin
                    case rest =>
                      obtain ⟨A1, n, c1, gi, A2, nr, c2, rs, hrow, hn, hrd, hlo1, hR, hl, hN, hr, hgL, hVf⟩ := hcut
                      have hR0c := HR2.out _ hgL
                      obtain ⟨x0, x1, x2⟩ : PBox wc Pz s A1 n c1 A2 nr c2 := ⟨cell_of_row _ _ 0 _ _ (0, 0) hrow, cell_of_row _ _ 1 _ _ (0, 0) hrow, cell_of_row _ _ 2 _ _ (0, 0) hrow⟩
                      have hR0l : R0 < w2.heap.size := by have := hgr2.size; omega
                      have hwR : w.heap.size ≤ R0 := Nat.le_of_eq HR.out.symm
                      go_wp2_with (refine wpList_store_row rfl 26 _ _ rfl R0 #[.int .i64 s, .slice A1 n c1, .slice A2 nr c2] rfl rfl 26 #[.int .i64 0, .slice none 0 0, .slice none 0 0] hR0c (Hi.out _ _ _ _ _ _ _) rfl (Hone.out _ _ _ _ _ _ _) ?_)
                      refine bodyPost_ret (v := .agg #[.int .i64 s, .slice A1 n c1, .slice A2 nr c2]) (results_cell_row (by rfl) _ _ R0 26 _ (0, 0) _ rfl (setRow_heap _ _ _ _ _ _ hR0c) Tryd.underlying26 rfl (Hi.out _ _ _ _ _ _ _)) rfl ⟨s, A1, n, c1, gi, A2, nr, c2, rs, rfl, hs2, hs4, ?_, hn, fun b off e => Nat.le_trans hwR (Nat.le_of_lt (Nat.lt_of_lt_of_le hR0l (hlo1 b off e))), (hR.setX hR0c).mono (by omega), hl, hN, hr.belowN (setRow_below5 (Below.refl _ _) (Nat.le_refl _)) hGw hBw, grown_low ((hg0.trans hgr2).trans hgL) (setRow_below5 (Below.refl _ _) hwR), hVf⟩
                      have := hrd.grown grown_setRow5 (fun b off e => (by have := hlo1 b off e; omega)) (Nat.le_refl _) (w' := wc.setRow R0 #[.int .i64 s, .slice A1 n c1, .slice A2 nr c2])
                      simpa using this
end Go.Proofs.YtjdhfknoldginaaDoor
set_option maxRecDepth 8000
namespace Go.Proofs.YtjdhfknoldginaaDoor
open Go.ChangeShapes Go.WideShapes Go.ChangeAt Go.RowKit

theorem RdB.alloc_ {w : World} {A : Option Addr} {n : Nat} {bs : List Int} (h : RdB w w.heap.size A n bs) (o : Obj) : RdB (w.alloc o) (w.alloc o).heap.size A n bs := by
  have h' := h.below ((Below.refl w.heap.size w).alloc (Nat.le_refl _) o)
  refine ⟨h'.1, fun hn => ?_, h'.2.2⟩
  obtain ⟨b, off, e, hb, hc⟩ := h'.2.1 hn
  exact ⟨b, off, e, by rw [World.size_alloc]; omega, hc⟩
theorem results_ct {P : Program} {fn : Func} {p q : Tmp} {ty : TypeId} (h : fn.results = #[.cell p ty, .tmp q]) (tmps : Array Value) (w : World) (g : Nat) (t : TypeId) (cs : Array Value) (fr : Nat × Nat) (d : TypeDesc) (b : Value)
    (hp : tmps.getD p undef = .pointer (some ⟨g, 0, none⟩)) (hq : tmps.getD q undef = b) (hg : w.heap[g]? = some (.cells cs t fr))
    (hu : P.underlying ty = some d) (hd : (match d with | .struct _ | .array _ _ => true | _ => false) = true) (hi : (P.info? ty).map (·.size) = some cs.size) :
    (results fn tmps).run P w = .ok (.tuple #[.agg cs, b]) w := by
  have hp' : tmps[p]?.getD undef = .pointer (some ⟨g, 0, none⟩) := by simpa using hp
  have hq' : tmps[q]?.getD undef = b := by simpa using hq
  simp [results, h, hp', hq', asAddr, run_loadVar_row w g t ty cs fr d hg hu hd hi]
def DrawnCase (w : World) (e : Ending) (w' : World) : Prop :=
  ∃ (k : Int) (A : Option Addr) (n c : Nat) (v : Int) (xs : List Int) (Ag : Option Addr) (ng cg : Nat) (g : List Int) (s : Int), e = .returned (.tuple #[.agg #[.int .i64 k, .slice A n c, .int .i64 v], .slice Ag ng cg, .int .i64 s]) ∧ Ow w' w.heap.size A n c xs ∧ n ≤ 5 ∧ Ow w' w.heap.size Ag ng cg g ∧ ng ≤ 16 ∧ 2 ≤ s ∧ s ≤ 4 ∧ Below w.heap.size w w'
end Go.Proofs.YtjdhfknoldginaaDoor
set_option maxRecDepth 8000
namespace Go.Proofs.YtjdhfknoldginaaDoor
open Go.ChangeShapes Go.WideShapes Go.ChangeAt Go.RowKit
/-- what a draw of a puzzle hands back. -/
def DrawnP (w : World) (e : Ending) (w' : World) : Prop := ∃ s A1 n c1 gi A2 nr c2 rs, e = .returned (.agg #[.int .i64 s, .slice A1 n c1, .slice A2 nr c2]) ∧ 2 ≤ s ∧ s ≤ 4 ∧ Rd w' w'.heap.size A1 n gi ∧ n ≤ 16 ∧ OwR w' w.heap.size (.slice A2 nr c2) rs nr ∧ rs.length = nr ∧ nr ≤ 100 ∧ Below w.heap.size w w'
theorem rd_keepV {w w' : World} {G B n : Nat} {A : Option Addr} {xs : List Int} (h : Rd w B A n xs) (hB : B ≤ w.heap.size) (hg : w.grownBy w' (some G)) (hne : ∀ b off, A = some ⟨b, off, none⟩ → G < b) : Rd w' B A n xs := by
  refine ⟨h.1, fun hn => ?_⟩
  obtain ⟨b, off, e, hlt, hc⟩ := h.2 hn
  exact ⟨b, off, e, hlt, fun k hk => (grown_at hg _ _ (hne b off e) (by omega)).trans (hc k hk)⟩
/-- without rules a valid puzzle is valid; with a rule of no kind it is not. -/
theorem pv_none {s : Int} {gi : List Int} {rs : List RuleM} (h : pvB s gi rs = true) : pvB s gi [] = true := pv_nil (pv_gv h).1
theorem rv_zero {v s : Int} {xs : List Int} : rv 0 xs v s = false := by
  have : kindOk 0 v xs.length s = false := by unfold kindOk; simp
  unfold rv
  rw [this, Bool.and_false]
theorem pv_zero {s v : Int} {gi xs : List Int} {rs : List RuleM} : pvB s gi (rs ++ [⟨0, xs, v⟩]) = false := by
  cases h : pvB s gi (rs ++ [⟨0, xs, v⟩])
  · rfl
  · have := (pv_gv h).2.2 rs.length (by simp)
    rw [show rs.length = rs.length + 0 from rfl, rat_right rfl] at this
    have e : rat [(⟨0, xs, v⟩ : RuleM)] 0 = ⟨0, xs, v⟩ := rfl
    rw [e, rvR] at this
    rw [rv_zero] at this
    cases this

set_option maxHeartbeats 4000000 in
theorem draw_DrawStartMasks (A : Option Addr) (n c : Nat) (bs : List Int) (w : World) (h : Code_ w A n c bs) : Calls Tryd.prog 10 #[.slice A n c] w (DrawnP w) := by
  have Hone := Lib.hid puz_one
  have Hi := Lib.hid puz_info
  have h1 := h.1.alloc_ (.cells #[.int .i64 0, .slice none 0 0, .slice none 0 0] 26)
  obtain ⟨w0, hW⟩ : ∃ w0, w0 = w.alloc (.cells #[.int .i64 0, .slice none 0 0, .slice none 0 0] 26) := ⟨_, rfl⟩
  rw [← hW] at h1
  have hRw : w.heap.size < w0.heap.size := by rw [hW]; simp
  have hb00 : Below w.heap.size w w0 := by rw [hW]; exact (Below.refl _ _).alloc (Nat.le_refl _) _
  have hR0 : w0.heap[w.heap.size]? = some (.cells #[.int .i64 0, .slice none 0 0, .slice none 0 0] 26) := by rw [hW]; exact heap_alloc_new w _
  have HW := Lib.hid hW
  clear hW
  go_enter Tryd.func10, Tryd.ntmps10
  go_wp2_with fail
  rw [← HW.out]
  refine (specOpen A c n bs w0 h1 h.2.1 h.2.2).mono ?_
  rintro e w1 ⟨rfl, hr, hb⟩
  have hR1 := (hb.block w.heap.size hRw).trans hR0
  have hG1 := hr.lt
  go_wp2_with fail
  refine (l20Puzzle_any w0.heap.size w0.heap.size 0 9 w1 hr (Nat.le_refl _) (by omega) (by omega)).mono ?_
  rintro e w2 ⟨s, A1, n1, c1, gi, A2, nr, c2, rs, rfl, s2, s4, hrd, hn16, hlo, hR, hl, hnr, hr2, hg, _⟩
  have h12 := hg.size
  have hR4 := (hg.block w.heap.size (Nat.lt_of_lt_of_le hRw hb.size) (fun e => by injection e with e; omega)).trans hR1
  have hb17 : Below w.heap.size w w2 := (hb00.trans (hb.mono hb00.size)).trans ⟨hg.os, hg.tape, hg.output, hg.size, fun j hj => hg.block j (Nat.lt_of_lt_of_le hj (Nat.le_trans hb00.size hb.size)) (fun e => by injection e with e; omega)⟩
  have hf : DrawnP w (.returned (.agg #[.int .i64 s, .slice A1 n1 c1, .slice A2 nr c2])) (w2.setRow w.heap.size #[.int .i64 s, .slice A1 n1 c1, .slice A2 nr c2]) := by
    have hgr : w2.grownBy (w2.setRow w.heap.size #[.int .i64 s, .slice A1 n1 c1, .slice A2 nr c2]) (some w.heap.size) := grown_row
    have hsz := hgr.size
    exact ⟨s, A1, n1, c1, gi, A2, nr, c2, rs, rfl, s2, s4, (rd_keepV hrd (Nat.le_refl _) hgr (fun b off e => by have := hlo b off e; omega)).more hsz, hn16, (hR.setX hR4).mono (by omega), hl, hnr, setRow_below5 hb17 (Nat.le_refl _)⟩
  clear hrd hR hlo hr hr2 hg
  go_wp2_with (refine wpList_store_row rfl 26 _ _ rfl w.heap.size #[.int .i64 s, .slice A1 n1 c1, .slice A2 nr c2] rfl rfl 26 #[.int .i64 0, .slice none 0 0, .slice none 0 0] hR4 (Hi.out _ _ _ _ _ _ _) rfl (Hone.out _ _ _ _ _ _ _) ?_)
  exact bodyPost_ret (v := .agg #[.int .i64 s, .slice A1 n1 c1, .slice A2 nr c2]) (results_cell_row (by rfl) _ _ w.heap.size 26 _ (0, 0) _ rfl (setRow_heap _ _ _ _ _ _ hR4) Tryd.underlying26 rfl (Hi.out _ _ _ _ _ _ _)) rfl hf

set_option maxHeartbeats 4000000 in
theorem draw_DrawSolveFirst (A : Option Addr) (n c : Nat) (bs : List Int) (w : World) (h : Code_ w A n c bs) : Calls Tryd.prog 20 #[.slice A n c] w (DrawnP w) := by
  have Hone := Lib.hid puz_one
  have Hi := Lib.hid puz_info
  have h1 := h.1.alloc_ (.cells #[.int .i64 0, .slice none 0 0, .slice none 0 0] 26)
  obtain ⟨w0, hW⟩ : ∃ w0, w0 = w.alloc (.cells #[.int .i64 0, .slice none 0 0, .slice none 0 0] 26) := ⟨_, rfl⟩
  rw [← hW] at h1
  have hRw : w.heap.size < w0.heap.size := by rw [hW]; simp
  have hb00 : Below w.heap.size w w0 := by rw [hW]; exact (Below.refl _ _).alloc (Nat.le_refl _) _
  have hR0 : w0.heap[w.heap.size]? = some (.cells #[.int .i64 0, .slice none 0 0, .slice none 0 0] 26) := by rw [hW]; exact heap_alloc_new w _
  have HW := Lib.hid hW
  clear hW
  go_enter Tryd.func20, Tryd.ntmps20
  go_wp2_with fail
  rw [← HW.out]
  refine (specOpen A c n bs w0 h1 h.2.1 h.2.2).mono ?_
  rintro e w1 ⟨rfl, hr, hb⟩
  have hR1 := (hb.block w.heap.size hRw).trans hR0
  have hG1 := hr.lt
  go_wp2_with fail
  refine (l20Puzzle_any w0.heap.size w0.heap.size 0 12 w1 hr (Nat.le_refl _) (by omega) (by omega)).mono ?_
  rintro e w2 ⟨s, A1, n1, c1, gi, A2, nr, c2, rs, rfl, s2, s4, hrd, hn16, hlo, hR, hl, hnr, hr2, hg, _⟩
  have h12 := hg.size
  have hR4 := (hg.block w.heap.size (Nat.lt_of_lt_of_le hRw hb.size) (fun e => by injection e with e; omega)).trans hR1
  have hb17 : Below w.heap.size w w2 := (hb00.trans (hb.mono hb00.size)).trans ⟨hg.os, hg.tape, hg.output, hg.size, fun j hj => hg.block j (Nat.lt_of_lt_of_le hj (Nat.le_trans hb00.size hb.size)) (fun e => by injection e with e; omega)⟩
  have hf : DrawnP w (.returned (.agg #[.int .i64 s, .slice A1 n1 c1, .slice A2 nr c2])) (w2.setRow w.heap.size #[.int .i64 s, .slice A1 n1 c1, .slice A2 nr c2]) := by
    have hgr : w2.grownBy (w2.setRow w.heap.size #[.int .i64 s, .slice A1 n1 c1, .slice A2 nr c2]) (some w.heap.size) := grown_row
    have hsz := hgr.size
    exact ⟨s, A1, n1, c1, gi, A2, nr, c2, rs, rfl, s2, s4, (rd_keepV hrd (Nat.le_refl _) hgr (fun b off e => by have := hlo b off e; omega)).more hsz, hn16, (hR.setX hR4).mono (by omega), hl, hnr, setRow_below5 hb17 (Nat.le_refl _)⟩
  clear hrd hR hlo hr hr2 hg
  go_wp2_with (refine wpList_store_row rfl 26 _ _ rfl w.heap.size #[.int .i64 s, .slice A1 n1 c1, .slice A2 nr c2] rfl rfl 26 #[.int .i64 0, .slice none 0 0, .slice none 0 0] hR4 (Hi.out _ _ _ _ _ _ _) rfl (Hone.out _ _ _ _ _ _ _) ?_)
  exact bodyPost_ret (v := .agg #[.int .i64 s, .slice A1 n1 c1, .slice A2 nr c2]) (results_cell_row (by rfl) _ _ w.heap.size 26 _ (0, 0) _ rfl (setRow_heap _ _ _ _ _ _ hR4) Tryd.underlying26 rfl (Hi.out _ _ _ _ _ _ _)) rfl hf

end Go.Proofs.YtjdhfknoldginaaDoor
set_option maxRecDepth 8000
namespace Go.Proofs.YtjdhfknoldginaaDoor
open Go.ChangeShapes Go.WideShapes Go.ChangeAt Go.RowKit
theorem sf_noneL {s : Int} {n : Nat} {gi : List Int} {rs : List RuleM} (h : sfB s n gi rs = false) : sfL s n gi rs = [] := by
  unfold sfB at h
  unfold sfL
  cases hL : allS s 1 n gi rs with
  | nil => rfl
  | cons y L => rw [hL] at h; simp at h
theorem filt_le {p q : List Int → Bool} (h : ∀ y, p y = true → q y = true) : ∀ (L : List (List Int)), (L.filter p).length ≤ (L.filter q).length := by
  intro L
  induction L with
  | nil => exact Nat.le_refl _
  | cons a L ih =>
    by_cases e : p a = true
    · rw [List.filter_cons_of_pos e, List.filter_cons_of_pos (h a e), List.length_cons, List.length_cons]; omega
    · rw [List.filter_cons_of_neg e]
      by_cases e2 : q a = true
      · rw [List.filter_cons_of_pos e2, List.length_cons]; omega
      · rw [List.filter_cons_of_neg e2]; exact ih
theorem cv_sqL {s : Nat} {gi : List Int} {rs : List RuleM} {n : Nat} (hl : gi.length = n) (hv : pvB s gi rs = true) (hn : n = s * s) : cv s gi rs (s * s) [] = (sqL s).filter (psB s gi rs) := by
  rw [← solL_is hv, ← hn, ← hl]; exact cv_is hv
theorem cs_lenL {s : Nat} {gi : List Int} {rs : List RuleM} {n : Nat} (hl : gi.length = n) (hv : pvB s gi rs = true) (hn : n = s * s) : csI s n gi rs 600 = ((min 600 ((sqL s).filter (psB s gi rs)).length : Nat) : Int) := by
  have : inr (600 : Int) 1 600 = true := by decide
  simp only [csI, hv, this, Bool.true_and, if_true]
  rw [show (600 : Int).toNat = 600 from rfl, allS_cv hl hv (by omega) hn, List.length_take, cv_sqL hl hv hn]
theorem pv_rules0 {s : Int} {gi : List Int} {rs : List RuleM} (h : pvB s gi rs = true) : pvB s gi [] = true := by
  simp only [pvB, (pv_gv h).1]; simp
theorem pv_zeros {s : Int} {gi : List Int} {rs : List RuleM} (h : pvB s gi rs = true) : pvB s (zeros gi.length) rs = true := by
  have h1 := gv_zeros (pv_gv h).1
  simp only [pvB, Bool.and_eq_true] at h ⊢
  exact ⟨⟨h.1.1, h1⟩, h.2⟩
theorem ps_rules0 {s : Int} {gi g : List Int} {rs : List RuleM} (h : psB s gi rs g = true) : psB s gi [] g = true := by
  unfold psB at h ⊢
  rw [Bool.and_eq_true] at h ⊢
  exact ⟨fp_nil h.1, h.2⟩
theorem ps_zeros {s : Int} {gi g : List Int} {rs : List RuleM} (h : psB s gi rs g = true) : psB s (zeros gi.length) rs g = true := by
  unfold psB at h ⊢
  rw [Bool.and_eq_true] at h ⊢
  refine ⟨?_, h.2⟩
  obtain ⟨hp, hg, h1, h2, h3⟩ := fp_parts.1 h.1
  exact fp_parts.2 ⟨pv_zeros hp, hg, fun i hi => by unfold giveOk; rw [zeros_nth]; simp, h2, h3⟩
theorem less_count {s : Nat} {gi : List Int} {rs : List RuleM} {n : Nat} (hl : gi.length = n) (hv : pvB s gi rs = true) (hn : n = s * s) : csI s n gi rs 600 ≤ csI s n gi [] 600 ∧ csI s n gi rs 600 ≤ csI s n (zeros n) rs 600 := by
  subst hl
  rw [cs_lenL rfl hv hn, cs_lenL rfl (pv_rules0 hv) hn, cs_lenL (by rw [zeros_length]) (pv_zeros hv) hn]
  have h1 := filt_le (p := psB s gi rs) (q := psB s gi []) (fun y h => ps_rules0 h) (sqL s)
  have h2 := filt_le (p := psB s gi rs) (q := psB s (zeros gi.length) rs) (fun y h => ps_zeros h) (sqL s)
  omega
set_option maxHeartbeats 4000000 in
theorem rulesLess_walk (A : Option Addr) (c n : Nat) (bs : List Int) (w : World) (h : Code_ w A n c bs) (hT : Tz w) :
    Calls Tryd.prog 4 #[.slice A n c] w fun e w' => e = .returned (.bool true) ∧ Below w.heap.size w w' := by
  by_cases hn : n ≤ 1048576
  · go_enter Tryd.func4, Tryd.ntmps4
    go_wp2_with fail
    refine (draw_DrawSolveFirst _ _ _ _ _ h).mono ?_
    rintro e w1 ⟨s, A1, n1, c1, gi, A2, nr, c2, rs, rfl, s2, s4, hrd, hn16, hR, hl, hnr, hb1⟩
    have hx0 := pbox_new w1 s A1 n1 c1 A2 nr c2 26
    have hbA : Below w1.heap.size w1 (w1.alloc (.cells #[.int .i64 s, .slice A1 n1 c1, .slice A2 nr c2] 26)) := (Below.refl _ _).alloc (Nat.le_refl _) _
    have hpc0 : PGc w1 s A1 n1 c1 w1.heap.size gi A2 nr c2 w1.heap.size rs := ⟨hrd, Nat.le_refl _, by omega, hR.rdc hl, Nat.le_refl _, by omega⟩
    have hpcA := hpc0.below hbA
    have hsA : w1.heap.size < (w1.alloc (.cells #[.int .i64 s, .slice A1 n1 c1, .slice A2 nr c2] 26)).heap.size := by simp
    obtain ⟨W, hW⟩ : ∃ W, w1.alloc (.cells #[.int .i64 s, .slice A1 n1 c1, .slice A2 nr c2] 26) = W := ⟨_, rfl⟩
    rw [hW] at hx0 hbA hpcA hsA
    have hb0W : Below w.heap.size w W := step hb1 hbA
    have HX := Lib.hid (fun w' (hb : Below W.heap.size W w') => hx0.below (by omega : w1.heap.size < W.heap.size) hb)
    have HPc := Lib.hid (fun w' (hb : Below W.heap.size W w') => hpcA.below hb)
    have HTz := Lib.hid (fun w' (hb : Below W.heap.size W w') => hT.below hT.lt (step hb0W hb))
    have HB := Lib.hid (fun w' (hb : Below W.heap.size W w') => step hb0W hb)
    obtain ⟨FL, hFL⟩ : ∃ FL, FL = sfL s n1 gi rs := ⟨_, rfl⟩
    obtain ⟨bb, hbb⟩ : ∃ bb, bb = sfB s n1 gi rs := ⟨_, rfl⟩
    have hFl : (bb = true → FL.length = n1) → FL.length ≤ 16 := fun h => by
      cases hb : bb
      · rw [hFL, sf_noneL (by rw [← hbb]; exact hb)]; simp
      · rw [h hb]; exact hn16
    have hgl := hrd.1
    have HI0 := implSolveFirst _ _ _ _ _ _ _ _ _ _ _ _ hpcA (HTz.out _ (Below.refl _ _))
    rw [← hFL, ← hbb] at HI0
    have HI0 := Lib.hid HI0
    have HS := Lib.hid (fun w' (hb : Below W.heap.size W w') => by
      have := specSolveFirst _ _ _ _ _ _ _ _ _ _ _ _ (hpcA.below hb).rd
      rw [← hFL, ← hbb] at this
      exact this)
    have HPV := Lib.hid (fun w' (hb : Below W.heap.size W w') => specPuzzleValid s A1 n1 c1 w1.heap.size gi A2 nr c2 w1.heap.size rs w' (hpcA.below hb).rd.g (hpcA.below hb).rd.gB (hpcA.below hb).rd.gm (hpcA.below hb).rd.r (hpcA.below hb).rd.rB (hpcA.below hb).rd.rm)
    have HW := Lib.hid hW
    obtain ⟨z0, z1, z2⟩ := id hx0
    have hne : (bb != bb) = false := by simp
    clear hW hFL hbb hpc0 hpcA hbA hx0 hR hrd
    have hsame : same FL FL = true := by simp [same]
    cases hv : pvB s gi rs
    · go_wp2_with (first
        | (go_at_call 17; rw [HW.out]; refine HI0.out.mono ?_; rintro e w2 ⟨Ax, mx, cx, rfl, hmx, hox, hb2⟩; (obtain rfl : mx = FL.length := hox.len.symm); obtain ⟨y0, y1, y2⟩ := HX.out _ hb2)
        | (go_at_call 21; refine (HS.out _ hb2).mono ?_; rintro e w3 ⟨Ay, my, cy, rfl, hmy, hoy, hb3⟩; (obtain rfl : my = FL.length := hoy.len.symm); have h23 := step hb2 hb3; have hox3 := hox.rd.below hb3; have hB3 := hb3.size; have hlen := hFl hmx)
        | (go_at_call 12; refine (sameInts_any _ _ _ _ _ _ _ _ FL FL _ hox3 hoy.rd (by omega)).mono ?_; rintro e w4 ⟨rfl, hb4⟩; rw [hsame]; have h24 := step h23 hb4; obtain ⟨v0, v1, v2⟩ := HX.out _ h24)
        | (go_at_call 14; refine (HPV.out _ h24).mono ?_; rintro e w5 ⟨rfl, hb5⟩; rw [hv]; have h25 := step h24 hb5)
        | (go_at_call 15; (with_reducible refine (alive_any _).mono ?_); rintro e w6 ⟨rfl, hb6⟩))
      go_ret
      exact ⟨rfl, HB.out _ (step h25 hb6)⟩
    · obtain ⟨t, rfl, hs, hnn, _, hok⟩ := pv_grid hv hgl
      have hnn2 : n1 = t * t := by simp at hs; rcases hs with rfl | rfl | rfl <;> omega
      obtain ⟨l1, l2⟩ := less_count hgl hv hnn2
      have HC0 := Lib.hid (fun w' (hb : Below W.heap.size W w') => implCountSolutions t A1 n1 c1 w1.heap.size gi A2 nr c2 w1.heap.size rs 600 w' (HPc.out _ hb) (HTz.out _ hb))
      have HC1 := Lib.hid (fun w' (hb : Below W.heap.size W w') => implCountSolutions t A1 n1 c1 w1.heap.size gi none 0 0 w1.heap.size [] 600 w' ⟨(HPc.out _ hb).g, (HPc.out _ hb).gB, (HPc.out _ hb).gm, ⟨rfl, fun h => absurd h (by omega)⟩, (HPc.out _ hb).rB, by omega⟩ (HTz.out _ hb))
      have HC2 := Lib.hid (fun w' (hb : Below W.heap.size W w') (A' : Option Addr) (c' B' : Nat) (hr : Rd w' B' A' n1 (zeros n1)) (hB : B' ≤ w'.heap.size) => implCountSolutions t A' n1 c' B' (zeros n1) A2 nr c2 w1.heap.size rs 600 w' ⟨hr, hB, (HPc.out _ hb).gm, (HPc.out _ hb).r, (HPc.out _ hb).rB, (HPc.out _ hb).rm⟩ (HTz.out _ hb))
      have hmk : ∀ w', (Instr.makeSlice 23 (.int .i64 (n1 : Int)) (.int .i64 (n1 : Int))).run Tryd.prog w' = .ok (.slice (some ⟨w'.heap.size, 0, none⟩) n1 n1) (w'.alloc (.cells (zeroArr n1) 3)) := fun w' => make_ints (by omega) w'
      obtain ⟨q0, hq0⟩ : ∃ q, csI t n1 gi rs 600 = q := ⟨_, rfl⟩
      obtain ⟨q1, hq1⟩ : ∃ q, csI t n1 gi [] 600 = q := ⟨_, rfl⟩
      obtain ⟨q2, hq2⟩ : ∃ q, csI t n1 (zeros n1) rs 600 = q := ⟨_, rfl⟩
      rw [hq0] at HC0 l1 l2
      rw [hq1] at HC1 l1
      rw [hq2] at HC2 l2
      clear hok hnn hnn2 hs hq0 hq1 hq2 hgl
      go_wp2_with (first
        | (go_at_call 17; rw [HW.out]; refine HI0.out.mono ?_; rintro e w2 ⟨Ax, mx, cx, rfl, hmx, hox, hb2⟩; (obtain rfl : mx = FL.length := hox.len.symm); obtain ⟨y0, y1, y2⟩ := HX.out _ hb2)
        | (go_at_call 21; refine (HS.out _ hb2).mono ?_; rintro e w3 ⟨Ay, my, cy, rfl, hmy, hoy, hb3⟩; (obtain rfl : my = FL.length := hoy.len.symm); have h23 := step hb2 hb3; have hox3 := hox.rd.below hb3; have hB3 := hb3.size; have hlen := hFl hmx)
        | (go_at_call 12; refine (sameInts_any _ _ _ _ _ _ _ _ FL FL _ hox3 hoy.rd (by omega)).mono ?_; rintro e w4 ⟨rfl, hb4⟩; rw [hsame]; have h24 := step h23 hb4; obtain ⟨v0, v1, v2⟩ := HX.out _ h24)
        | (go_at_call 14; refine (HPV.out _ h24).mono ?_; rintro e w5 ⟨rfl, hb5⟩; rw [hv]; have h25 := step h24 hb5; obtain ⟨u0, u1, u2⟩ := HX.out _ h25)
        | (go_at_call 22; refine (HC0.out _ h25).mono ?_; rintro e w6 ⟨rfl, hb6⟩; have h26 := step h25 hb6))
      obtain ⟨r0, r1, r2⟩ := HX.out _ h26
      have hws : w1.heap.size < w6.heap.size := Nat.lt_of_lt_of_le hsA h26.size
      have HS6 := Lib.hid (fun w' (hb : Below w6.heap.size w6 w') => HX.out _ (step h26 hb))
      clear hmx hox hmy hoy hox3 hlen hb2 hb3 hb4 hb5 hb6 h23 h24 h25 y0 y1 y2 v0 v1 v2 u0 u1 u2 z0 z1 z2 hFl hne hsame h hT
      go_region_held3 (fun w' => w'.cell? ⟨w1.heap.size, 0, none⟩ = some (.int .i64 (t : Int)) ∧ w'.cell? ⟨w1.heap.size, 1, none⟩ = some (.slice A1 n1 c1) ∧ w'.cell? ⟨w1.heap.size, 2, none⟩ = some (.slice A2 nr c2))
        (first | go_keep | exact HS6.out _ hb9 | exact HS6.out _ hb8 | exact HS6.out _ hb7)
        ((first
          | (go_simp; go_at_call 22; (with_reducible refine (HC2.out _ (step h26 hb8) _ _ _ hrz (Nat.le_refl _)).mono ?_); rintro e w9 ⟨rfl, hb9'⟩; have hb9 : Below w6.heap.size w6 w9 := step hb8 hb9')
          | (go_simp; go_at_call 22; refine (HC1.out _ (step h26 ((Below.refl _ _).drew))).mono ?_; rintro e w7 ⟨rfl, hb7'⟩; have hb7 : Below w6.heap.size w6 w7 := ((Below.refl _ _).drew).trans hb7'; have hb8 : Below w6.heap.size w6 (w7.alloc (.cells (zeroArr n1) 3)) := hb7.alloc hb7.size _; have hrz := (zeroArr_ow (n := n1) (by omega) w7 (Nat.le_refl _)).rd)))
      all_goals
        go_wp2
        go_ret
        exact ⟨by trivial, HB.out _ (step h26 hb9)⟩
  · go_enter Tryd.func4, Tryd.ntmps4
    go_wp2
    go_ret
    exact ⟨rfl, Below.refl _ _⟩
end Go.Proofs.YtjdhfknoldginaaDoor
