import Derived.Test.YtcjdjcpappfkgaaDoorXSqNum
import Derived.Test.YtcjdjcpappfkgaaDoorXSv
import Derived.Test.YtcjdjcpappfkgaaDoorC1
import Derived.Test.YtcjdjcpappfkgaaDoorBase
import Derived.Shelf.Abstract
import Derived.Test.YtcjdjcpappfkgaaDoorCln
import Derived.Test.YtcjdjcpappfkgaaDoorXMadeA
import Derived.Laws.Append
set_option maxRecDepth 8000
namespace Go.Proofs.YtcjdjcpappfkgaaDoor
open Go.ChangeShapes Go.WideShapes Go.ChangeAt Go.RowKit


def oneB (s : Int) (n : Nat) (gi : List Int) (rs : List RuleM) : Bool := (allS s 2 n gi rs).length == 1
set_option maxHeartbeats 1000000 in
theorem specOne (s : Int) (Ag : Option Addr) (n cg Bg : Nat) (gi : List Int) (Ar : Option Addr) (nr cr Br : Nat) (rs : List RuleM) (w : World) (hp : PGs w s Ag n cg Bg gi Ar nr cr Br rs) :
    Calls Tryd.prog 58 #[.agg #[.int .i64 s, .slice Ag n cg, .slice Ar nr cr]] w fun e w' => e = .returned (.bool (oneB s n gi rs)) ∧ Below w.heap.size w w' := by
  have hx0 := pbox_new w s Ag n cg Ar nr cr 30
  have hb0 : Below w.heap.size w (w.alloc (.cells #[.int .i64 s, .slice Ag n cg, .slice Ar nr cr] 30)) := (Below.refl _ _).alloc (Nat.le_refl _) _
  have HA := Lib.hid (fun w' (hb : Below w.heap.size w w') => (show Calls Tryd.prog 45 #[.agg #[.int .i64 s, .slice Ag n cg, .slice Ar nr cr], .int .i64 2] w' _ from specAll s 2 Ag n cg Bg gi Ar nr cr Br rs w' (hp.below hb) (by omega) (by omega)))
  have hL := allS_len s 2 n gi rs (by omega)
  have HQ := Lib.hid (show (((allS s 2 n gi rs).length : Int) == 1) = oneB s n gi rs by
    unfold oneB
    rw [Bool.eq_iff_iff]
    simp only [beq_iff_eq]
    omega)
  go_enter Tryd.func58, Tryd.ntmps58
  go_wp2_with (go_at_call 45; (refine (HA.out _ hb0).mono ?_); rintro e w1 ⟨P, v, rfl, hrows, hb1⟩; obtain ⟨A1, c1, vs, rfl, _⟩ := hrows)
  go_ret
  exact ⟨by rw [HQ.out]; rfl, step hb0 hb1⟩
set_option maxHeartbeats 1000000 in
theorem specWithout (s : Int) (Ag : Option Addr) (n cg Bg : Nat) (gi : List Int) (Ar : Option Addr) (nr cr : Nat) (k : Nat) (w : World) (hg : Rd w Bg Ag n gi) (hB : Bg ≤ w.heap.size) (hm : n ≤ 1099511627776) (hk : k < n) :
    Calls Tryd.prog 59 #[.agg #[.int .i64 s, .slice Ag n cg, .slice Ar nr cr], .int .i64 k] w fun e w' => ∃ A' c', e = .returned (.agg #[.int .i64 s, .slice A' n c', .slice Ar nr cr]) ∧ Ow w' w.heap.size A' n c' (gi.set k 0) ∧ Below w.heap.size w w' := by
  have hx0 := pbox_new w s Ag n cg Ar nr cr 30
  have hb0 : Below w.heap.size w (w.alloc (.cells #[.int .i64 s, .slice Ag n cg, .slice Ar nr cr] 30)) := (Below.refl _ _).alloc (Nat.le_refl _) _
  have hs0 : w.heap.size < (w.alloc (.cells #[.int .i64 s, .slice Ag n cg, .slice Ar nr cr] 30)).heap.size := by simp
  obtain ⟨b, off, rfl, hbB, _⟩ := hg.at_ hk
  have hn0 : 0 < n := by omega
  obtain ⟨V, hV⟩ : ∃ V, V = (w.alloc (.cells #[.int .i64 s, .slice (some ⟨b, off, none⟩) n cg, .slice Ar nr cr] 30)).alloc (.cells #[.int .i64 0, .slice none 0 0, .slice none 0 0] 30) := ⟨_, rfl⟩
  have hbV : Below w.heap.size w V := by rw [hV]; exact hb0.alloc hb0.size _
  have hsV : V.heap.size = w.heap.size + 1 + 1 := by rw [hV]; simp
  have hwV : w.heap.size < V.heap.size := by omega
  have hwV1 : w.heap.size + 1 < V.heap.size := by omega
  obtain ⟨c0, c1', c2⟩ : PBox V w.heap.size s (some ⟨b, off, none⟩) n cg Ar nr cr := by
    rw [hV]
    exact hx0.below hs0 ((Below.refl _ _).alloc (Nat.le_refl _) _)
  have hrow : V.heap[w.heap.size + 1]? = some (.cells #[.int .i64 0, .slice none 0 0, .slice none 0 0] 30) := by rw [hV]; exact heap_alloc2_new w _ _
  have HO : Hid (Ow (V.alloc (.cells #[] 3)) (w.heap.size + 1 + 1) (some ⟨w.heap.size + 1 + 1, 0, none⟩) 0 0 []) := Lib.hid (by
    have := Ow.made0 V (w.heap.size + 1 + 1) (by omega)
    rw [hsV] at this
    exact this)
  have hbO : Below V.heap.size V (V.alloc (.cells #[] 3)) := (Below.refl _ _).alloc (Nat.le_refl _) _
  have HR := Lib.hid ((hg.below (hbV.mono hB)).below (hbO.mono (Nat.le_trans hB (Nat.le_of_lt hwV))))
  have hsO : w.heap.size + 1 + 1 ≤ (V.alloc (.cells #[] 3)).heap.size := by simp; omega
  have Hone := Lib.hid puz_one
  have Hi := Lib.hid puz_info
  go_enter Tryd.func59, Tryd.ntmps59
  go_wp2_with (first
    | (at_builtin; (rw [← hV]); (refine push_some rfl (.tmp 6) (.tmp 8) rfl (w.heap.size + 1 + 1) (some ⟨w.heap.size + 1 + 1, 0, none⟩) 0 0 [] b off n cg Bg gi rfl rfl HO.out HR.out (by omega) hm hsO ?_); intro A1 c1 w1 ho1 hg1; simp only [Nat.zero_add, List.nil_append] at ho1; (obtain ⟨gb, rfl, hlog, hgw1⟩ := ho1.form hn0); (obtain ⟨hcq, hfq⟩ := ho1.cell hk); have hbw1 : Below V.heap.size V w1 := hbO.grown hg1 hbO.size (fun k hk => Nat.le_trans (Nat.le_of_eq hsV) (HO.out.own_lo k hk)); have hgb0 : w.heap.size ≠ gb := Nat.ne_of_lt (Nat.lt_of_lt_of_le (Nat.lt_of_lt_of_le (Nat.lt_succ_self _) (Nat.le_succ _)) hlog); have hgb1 : w.heap.size + 1 ≠ gb := Nat.ne_of_lt hlog; (have d0 := (cell_other5 (k := k) (v := .int .i64 0) hgb0).trans ((hbw1.cell (p := ⟨w.heap.size, 0, none⟩) hwV).trans c0)); have d2 := (cell_other5 (k := k) (v := .int .i64 0) hgb0).trans ((hbw1.cell (p := ⟨w.heap.size, 2, none⟩) hwV).trans c2); (have hr2 := (heap_setCell_other w1 ⟨gb, k, none⟩ (w.heap.size + 1) (.int .i64 0) hgb1).trans ((hbw1.block (w.heap.size + 1) hwV1).trans hrow)))
    | ((refine wpList_store_row rfl 30 _ _ rfl (w.heap.size + 1) #[.int .i64 s, .slice (some ⟨gb, 0, none⟩) n c1, .slice Ar nr cr] rfl rfl 30 #[.int .i64 0, .slice none 0 0, .slice none 0 0] hr2 (Hi.out _ _ _ _ _ _ _) rfl (Hone.out _ _ _ _ _ _ _) ?_)))
  have ho2 : Ow (w1.setCell ⟨gb, k, none⟩ (.int .i64 0)) (w.heap.size + 1 + 1) (some ⟨gb, 0, none⟩) n c1 (gi.set k 0) := by
    have := (World.ownsRow.stored ho1 k (.int .i64 0)).1
    rw [vals_set] at this
    exact this
  have hBe : Below w.heap.size w ((w1.setCell ⟨gb, k, none⟩ (.int .i64 0)).setRow (w.heap.size + 1) #[.int .i64 s, .slice (some ⟨gb, 0, none⟩) n c1, .slice Ar nr cr]) := setRow_below5 ((hbV.trans (hbw1.mono hbV.size)).setCell (show w.heap.size ≤ gb by omega) _) (by omega)
  refine bodyPost_ret (v := .agg #[.int .i64 s, .slice (some ⟨gb, 0, none⟩) n c1, .slice Ar nr cr]) (results_cell_row (by rfl) _ _ (w.heap.size + 1) 30 _ (0, 0) _ rfl (setRow_heap _ _ _ _ _ _ hr2) Tryd.underlying30 rfl (Hi.out _ _ _ _ _ _ _)) rfl ⟨_, _, rfl, (ho2.row5 (fun b hb => ?_)).mono (by omega), hBe⟩
  have := ho2.own_lo b hb
  omega
end Go.Proofs.YtcjdjcpappfkgaaDoor
set_option maxRecDepth 8000
namespace Go.Proofs.YtcjdjcpappfkgaaDoor
open Go.ChangeShapes Go.WideShapes Go.ChangeAt Go.RowKit Go.Shelf
attribute [local go_sem] Oper.semAt_some
/-- how many solutions, but at most most. -/
def csI (s : Int) (n : Nat) (gi : List Int) (rs : List RuleM) (most : Int) : Int := if (pvB s gi rs && inr most 1 600) = true then ((allS s most.toNat n gi rs).length : Nat) else -1
set_option maxHeartbeats 1000000 in
theorem specCountSolutions (s : Int) (Ag : Option Addr) (n cg Bg : Nat) (gi : List Int) (Ar : Option Addr) (nr cr Br : Nat) (rs : List RuleM) (most : Int) (w : World) (hp : PGs w s Ag n cg Bg gi Ar nr cr Br rs) :
    Calls Tryd.prog 16 #[.agg #[.int .i64 s, .slice Ag n cg, .slice Ar nr cr], .int .i64 most] w fun e w' => e = .returned (.int .i64 (csI s n gi rs most)) ∧ Below w.heap.size w w' := by
  have hx0 := pbox_new w s Ag n cg Ar nr cr 30
  have hb0 : Below w.heap.size w (w.alloc (.cells #[.int .i64 s, .slice Ag n cg, .slice Ar nr cr] 30)) := (Below.refl _ _).alloc (Nat.le_refl _) _
  have hs0 : w.heap.size < (w.alloc (.cells #[.int .i64 s, .slice Ag n cg, .slice Ar nr cr] 30)).heap.size := by simp
  obtain ⟨z0, z1, z2⟩ := id hx0
  have HP := Lib.hid (fun w' (hb : Below w.heap.size w w') => specPuzzleValid s Ag n cg Bg gi Ar nr cr Br rs w' (hp.below hb).g (hp.below hb).gB hp.gm (hp.below hb).r (hp.below hb).rB hp.rm)
  cases hv : pvB s gi rs
  · have HL := Lib.hid (show csI s n gi rs most = -1 by simp [csI, hv])
    go_enter Tryd.func16, Tryd.ntmps16
    go_wp2_with (go_at_call 24; refine (HP.out _ hb0).mono ?_; rintro e w1 ⟨rfl, hb1⟩; rw [hv]; have h01 := step hb0 hb1)
    go_ret
    exact ⟨by rw [HL.out]; rfl, h01⟩
  · cases hin : inr most 1 600
    · have HL := Lib.hid (show csI s n gi rs most = -1 by simp [csI, hin])
      go_enter Tryd.func16, Tryd.ntmps16
      go_wp2_with (first
        | (go_at_call 24; refine (HP.out _ hb0).mono ?_; rintro e w1 ⟨rfl, hb1⟩; rw [hv]; have h01 := step hb0 hb1; obtain ⟨c0, c1, c2⟩ := hx0.below hs0 hb1)
        | (go_at_call 44; refine (l1In_any _ _ _ _).mono ?_; rintro e wq ⟨rfl, rfl⟩; rw [hin]))
      go_ret
      exact ⟨by rw [HL.out]; rfl, h01⟩
    · obtain ⟨m1, m6⟩ := inr_t hin
      obtain ⟨M, rfl⟩ := Int.eq_ofNat_of_zero_le (show 0 ≤ most by omega)
      have HL := Lib.hid (show csI s n gi rs (M : Nat) = ((allS s M n gi rs).length : Nat) by simp [csI, hv, hin])
      have HA := Lib.hid (fun w' (hb : Below w.heap.size w w') => specAll s M Ag n cg Bg gi Ar nr cr Br rs w' (hp.below hb) (by omega) (by omega))
      go_enter Tryd.func16, Tryd.ntmps16
      go_wp2_with (first
        | (go_at_call 24; refine (HP.out _ hb0).mono ?_; rintro e w1 ⟨rfl, hb1⟩; rw [hv]; have h01 := step hb0 hb1; obtain ⟨c0, c1, c2⟩ := hx0.below hs0 hb1)
        | (go_at_call 44; refine (l1In_any _ _ _ _).mono ?_; rintro e wq ⟨rfl, rfl⟩; rw [hin])
        | (go_at_call 45; refine (HA.out _ h01).mono ?_; rintro e w2 ⟨P, v, rfl, ⟨A, c, vs, rfl, hown, _, hin2⟩, hb2⟩))
      go_ret
      exact ⟨by rw [HL.out]; rfl, step h01 hb2⟩
theorem cs_take {L : List (List Int)} {M : Nat} (h : L.length < M) : (L.take M).length = L.length := by rw [List.length_take]; omega
set_option maxHeartbeats 2000000 in
theorem countP_any (s : Int) (Ag : Option Addr) (n cg Bg : Nat) (gi : List Int) (Ar : Option Addr) (nr cr Br : Nat) (rs : List RuleM) (M : Nat) (w : World) (hp : PGc w s Ag n cg Bg gi Ar nr cr Br rs) (hv : pvB s gi rs = true) (hM1 : 0 < M) (hM6 : M ≤ 600) (hT : Tz w) :
    Calls Tryd.prog 49 #[.agg #[.int .i64 s, .slice Ag n cg, .slice Ar nr cr], .int .i64 (M : Nat)] w fun e w' => e = .returned (.int .i64 ((allS s M n gi rs).length : Nat)) ∧ Below w.heap.size w w' := by
  have hx0 := pbox_new w s Ag n cg Ar nr cr 30
  obtain ⟨W1, hW1⟩ : ∃ W1, w.alloc (.cells #[.int .i64 s, .slice Ag n cg, .slice Ar nr cr] 30) = W1 := ⟨_, rfl⟩
  rw [hW1] at hx0
  have hb1 : Below w.heap.size w W1 := by rw [← hW1]; exact (Below.refl _ _).alloc (Nat.le_refl _) _
  have hs1 : W1.heap.size = w.heap.size + 1 := by rw [← hW1]; simp
  obtain ⟨W2, hW2⟩ : ∃ W2, W1.alloc (.cells #[.int .i64 (M : Nat)] 3) = W2 := ⟨_, rfl⟩
  have hb2 : Below W1.heap.size W1 W2 := by rw [← hW2]; exact (Below.refl _ _).alloc (Nat.le_refl _) _
  have hs2 : W2.heap.size = w.heap.size + 1 + 1 := by rw [← hW2]; simp [hs1]
  have hr2 : W2.heap[w.heap.size + 1]? = some (.cells #[.int .i64 (M : Nat)] 3) := by rw [← hW2, ← hs1]; exact heap_alloc_new _ _
  have hx2 := hx0.below (by omega) hb2
  have hbW : Below w.heap.size w W2 := hb1.trans (hb2.mono (by omega))
  obtain ⟨V5, hV5⟩ : ∃ V5, W2.alloc (.cells #[.int .i64 0] 3) = V5 := ⟨_, rfl⟩
  have hvb : Below W2.heap.size W2 V5 := by rw [← hV5]; exact (Below.refl _ _).alloc (Nat.le_refl _) _
  have hvr : V5.heap[W2.heap.size]? = some (.cells #[.int .i64 0] 3) := by rw [← hV5]; exact heap_alloc_new _ _
  have hvc := cell_of_row _ _ 0 _ _ (0, 0) hvr
  have hvf := frozen_of_row _ _ 0 _ _ hvr
  have hvs : V5.heap.size = W2.heap.size + 1 := by rw [← hV5]; simp
  obtain ⟨W5, hW5⟩ : ∃ W5, V5.setCell ⟨W2.heap.size, 0, none⟩ (.int .i64 0) = W5 := ⟨_, rfl⟩
  have hb5 : Below W2.heap.size W2 W5 := by rw [← hW5]; exact hvb.setCell (p := ⟨W2.heap.size, 0, none⟩) (Nat.le_refl _) _
  have hs5 : W5.heap.size = W2.heap.size + 1 := by rw [← hW5]; simp [World.setCell, hvs]
  have hq5 : W5.heap[W2.heap.size]? = some (.cells #[.int .i64 0] 3) := by rw [← hW5]; exact heap_setCell_same V5 W2.heap.size 0 _ _ _ hvr
  rw [hs2] at hvc hvf hW5
  obtain ⟨y0, y1, y2⟩ := hx2.below (by omega) hb5
  obtain ⟨t, rfl, hs, hnn, hn16, hok⟩ := pv_grid hv hp.g.1
  have hn : n = t * t := by simp at hs; rcases hs with rfl | rfl | rfl <;> omega
  have hgl := hp.g.1
  have hmr : nr ≤ 20 := by have := (pv_gv hv).2.1; have := hp.r.1; omega
  have H1 := Lib.hid (show ((allS t M n gi rs).length : Nat) = ((cv t gi rs (t * t) []).take M).length by rw [allS_cv hgl hv hM1 hn])
  have HG := Lib.hid (hp.g.more hp.gB)
  have HR := Lib.hid (hp.r.more hp.rB)
  have HT := Lib.hid (fun X (hb : Below w.heap.size w X) => hT.below hT.lt hb)
  have HN := Lib.hid hn
  have HV2 := Lib.hid hv
  have HB2 := Lib.hid hbW
  have HR2 := Lib.hid hr2
  have HSL := Lib.hid (solutions_any t n Ag cg Ar nr cr W5)
  clear hok hnn hn hgl hp hT hb1 hb2 hr2 hx0 hx2 hbW hvb
  refine (callsIn_wide (n := 9)).1 ?_
  refine callsIn_of_wp_marks Tryd.func49 rfl trivial ?_ rfl
  simp only [Tryd.ntmps49, List.size_toArray, List.length_cons, List.length_nil, Nat.reduceAdd, Nat.reduceSub, Array.replicate_succ, Array.replicate_zero, List.push_toArray, List.append_toArray, List.nil_append, List.cons_append]
  gi_wp2_with ((try refine ⟨trivial, ?_⟩); gi_at_call 54; refine (callsIn_wide.2 HSL.out).mono ?_; rintro e w6 ⟨PB, rfl, hPl, hpb, hb6⟩)
  have h6 := hb6.size
  have hb26 : Below W2.heap.size W2 w6 := hb5.trans (hb6.mono hb5.size)
  have hb06 : Below w.heap.size w w6 := HB2.out.trans (hb26.mono (by omega))
  obtain ⟨CB, hCB⟩ : ∃ CB, CB = w.heap.size + 1 + 1 := ⟨_, rfl⟩
  rw [hs2] at hq5
  have hq6 : w6.heap[CB]? = some (.cells #[.int .i64 ((0 : Nat) : Int)] 3) := by rw [hCB]; exact (hb6.block _ (by omega)).trans hq5
  have hm6 : w6.heap[w.heap.size + 1]? = some (.cells #[.int .i64 (M : Int)] 3) := (hb26.block _ (by omega)).trans HR2.out
  have hPB := cell_lt hpb.1
  have d1 : CB < w6.heap.size := by omega
  have d2 : w.heap.size + 1 < CB := by omega
  have d3 : CB < PB := by omega
  rw [← hCB]
  clear y0 y1 y2 hb5 hb6 hb26 hq5 hW1 hW2 hW5 hV5 hvr hvc hvf hvs hs1 hs2 hs5 h6 hPl hv hCB HB2 HR2 HSL
  obtain ⟨CV, hCV⟩ : ∃ CV, CV = cv t gi rs (t * t) [] := ⟨_, rfl⟩
  have HSq := sols_seq w w.heap.size PB t n Ag cg gi Ar nr cr rs (Nat.le_refl _) hs HN.out HG.out HR.out hmr HV2.out HT.out
  rw [← hCV] at HSq H1
  clear hCV
  refine range_skipP 9 (by rfl) (enters_of Tryd.func86 (by kernel_rfl) rfl) HSq
    (fun pre X => SBase w w.heap.size PB t Ag n cg Ar nr cr X ∧ X.heap[CB]? = some (.cells #[.int .i64 ((pre.length : Nat) : Int)] 3) ∧ pre.length < M ∧ X.heap[w.heap.size + 1]? = some (.cells #[.int .i64 (M : Int)] 3))
    (fun cc X => cc = .exit 0 ∧ Below w.heap.size w X ∧ X.heap[CB]? = some (.cells #[.int .i64 (M : Int)] 3) ∧ M ≤ CV.length)
    (fun pre X h => h.1)
    (fun pre X Y h hb => ⟨⟨h.1.1.trans (hb.mono (by omega)), h.1.2.below hPB hb⟩, (hb.block _ d1).trans h.2.1, h.2.2.1, (hb.block _ (by omega)).trans h.2.2.2⟩)
    (fun cc X o h hX => ⟨h.1, h.2.1.trans (below_put_at _ (by omega) hX), (World.putObj_heap_other (by omega)).trans h.2.2.1, h.2.2.2⟩)
    ⟨⟨hb06, hpb⟩, hq6, hM1, hm6⟩ ?body ?done ?stop
  case body =>
    rintro l pre x X b n' c' ⟨⟨hBX, hpX⟩, hcX, hlt, hmX⟩ ⟨zs, hzs⟩ hbb hXs hrd
    have hlen : (pre ++ [x]).length = pre.length + 1 := by simp
    have hCl : pre.length + 1 ≤ CV.length := by rw [hzs]; simp
    obtain ⟨k, hk⟩ : ∃ k, k = pre.length := ⟨_, rfl⟩
    rw [← hk] at hcX hlt hlen hCl
    have hcc := cell_of_row _ _ 0 _ _ (0, 0) hcX
    have hfc := frozen_of_row _ _ 0 _ _ hcX
    have hcm := cell_of_row _ _ 0 _ _ (0, 0) hmX
    have Hlen := Lib.hid hlen
    have HpX := Lib.hid hpX
    have HBX := Lib.hid hBX
    have HcX := Lib.hid hcX
    have HmX := Lib.hid hmX
    have hk6 : k < 600 := by omega
    clear hlen hpX hBX hcX hmX hrd hzs hk
    simp only [List.setIfInBounds_toArray, List.set_cons_zero, List.set_cons_succ]
    have hm1 : w6.heap.size ≤ X.heap.size := by omega
    have HCl := Lib.hid hCl
    have HE : Hid (∀ v : Int, v = (k : Int) + 1 → (X.setCell ⟨CB, 0, none⟩ (.int .i64 ((k : Int) + 1))).heap[CB]? = some (.cells #[.int .i64 v] 3) ∧ (X.setCell ⟨CB, 0, none⟩ (.int .i64 ((k : Int) + 1))).heap[w.heap.size + 1]? = some (.cells #[.int .i64 (M : Int)] 3) ∧ Below w.heap.size w (X.setCell ⟨CB, 0, none⟩ (.int .i64 ((k : Int) + 1))) ∧ PBox (X.setCell ⟨CB, 0, none⟩ (.int .i64 ((k : Int) + 1))) PB t Ag n cg Ar nr cr) := Lib.hid (fun v hv => by
      subst hv
      have hcell : ∀ i, (X.setCell ⟨CB, 0, none⟩ (.int .i64 ((k : Int) + 1))).cell? ⟨PB, i, none⟩ = X.cell? ⟨PB, i, none⟩ := fun i => World.cell?_of_block (a := ⟨PB, i, none⟩) (heap_setCell_other X ⟨CB, 0, none⟩ PB _ (fun e => by dsimp only at e; omega))
      exact ⟨heap_setCell_same X CB 0 _ _ (.int .i64 ((k : Int) + 1)) HcX.out, (heap_setCell_other X ⟨CB, 0, none⟩ (w.heap.size + 1) _ (fun e => by dsimp only at e; omega)).trans HmX.out, HBX.out.setCell (p := ⟨CB, 0, none⟩) (by show w.heap.size ≤ CB; omega) _, (hcell 0).trans HpX.out.1, (hcell 1).trans HpX.out.2.1, (hcell 2).trans HpX.out.2.2⟩)
    have HM := Lib.hid (Mid.setCell w6.heap.size CB 0 X (.int .i64 ((k : Int) + 1)) d1)
    by_cases e : k + 1 = M
    · have hq : ((k : Int) + 1 == (M : Int)) = true := by rw [beq_iff_eq]; omega
      have he := Lib.hid e
      clear e hlt hCl
      gi_wp2
      obtain ⟨e1, e2, e3, e4⟩ := HE.out M (by have := he.out; omega)
      exact ⟨HM.out, rfl, e3, e1, by have := he.out; have := HCl.out; omega⟩
    · have hq : ((k : Int) + 1 == (M : Int)) = false := by rw [beq_eq_false_iff_ne]; omega
      have he := Lib.hid e
      have hl := Lib.hid hlt
      clear e hlt hCl
      gi_wp2
      obtain ⟨e1, e2, e3, e4⟩ := HE.out (((pre ++ [x]).length : Nat) : Int) (by rw [Hlen.out]; omega)
      exact ⟨HM.out, ⟨e3, e4⟩, e1, by rw [Hlen.out]; have := he.out; have := hl.out; omega, e2⟩
  case done =>
    rintro D W hD ⟨⟨hBX, _⟩, hcX, hlt, _⟩ hK
    have hcc := cell_of_row _ _ 0 _ _ (0, 0) hcX
    have H2 := Lib.hid (show (CV.take M).length = CV.length from cs_take hlt)
    clear hlt
    gi_wp2
    refine ⟨by simp, .inl ⟨_, _, rfl, run_takeDeferred hK, ?_⟩⟩
    exact ⟨_, results_tmp rfl _ _ _, by rw [H1.out, H2.out]; rfl, hBX.trans (below_put _ (by omega) hK)⟩
  case stop =>
    rintro D cc W hD ⟨rfl, hBX, hcX, hM⟩ hK
    have hcc := cell_of_row _ _ 0 _ _ (0, 0) hcX
    have H2 := Lib.hid (show (CV.take M).length = M by rw [List.length_take]; omega)
    clear hM
    gi_wp2
    refine ⟨by simp, .inl ⟨_, _, rfl, run_takeDeferred hK, ?_⟩⟩
    exact ⟨_, results_tmp rfl _ _ _, by rw [H1.out, H2.out]; rfl, hBX.trans (below_put _ (by omega) hK)⟩
set_option maxHeartbeats 1000000 in
theorem hasOne_any (s : Int) (Ag : Option Addr) (n cg Bg : Nat) (gi : List Int) (Ar : Option Addr) (nr cr Br : Nat) (rs : List RuleM) (w : World) (hp : PGc w s Ag n cg Bg gi Ar nr cr Br rs) (hv : pvB s gi rs = true) (hT : Tz w) :
    Calls Tryd.prog 90 #[.agg #[.int .i64 s, .slice Ag n cg, .slice Ar nr cr]] w fun e w' => e = .returned (.bool (oneB s n gi rs)) ∧ Below w.heap.size w w' := by
  have hx0 := pbox_new w s Ag n cg Ar nr cr 30
  have hb0 : Below w.heap.size w (w.alloc (.cells #[.int .i64 s, .slice Ag n cg, .slice Ar nr cr] 30)) := (Below.refl _ _).alloc (Nat.le_refl _) _
  have HC := Lib.hid (show Calls Tryd.prog 49 #[.agg #[.int .i64 s, .slice Ag n cg, .slice Ar nr cr], .int .i64 2] _ _ from countP_any s Ag n cg Bg gi Ar nr cr Br rs 2 _ (hp.below hb0) hv (by omega) (by omega) (hT.below hT.lt hb0))
  obtain ⟨z0, z1, z2⟩ := id hx0
  have HQ := Lib.hid (show ((((allS s 2 n gi rs).length : Nat) : Int) == 1) = oneB s n gi rs by
    unfold oneB
    rw [Bool.eq_iff_iff]
    simp only [beq_iff_eq]
    omega)
  go_enter Tryd.func90, Tryd.ntmps90
  go_wp2_with (go_at_call 49; refine HC.out.mono ?_; rintro e w1 ⟨rfl, hb1⟩)
  go_ret
  exact ⟨by rw [HQ.out]; rfl, step hb0 hb1⟩
set_option maxHeartbeats 2000000 in
theorem implCountSolutions (s : Int) (Ag : Option Addr) (n cg Bg : Nat) (gi : List Int) (Ar : Option Addr) (nr cr Br : Nat) (rs : List RuleM) (most : Int) (w : World) (hp : PGc w s Ag n cg Bg gi Ar nr cr Br rs) (hT : Tz w) :
    Calls Tryd.prog 18 #[.agg #[.int .i64 s, .slice Ag n cg, .slice Ar nr cr], .int .i64 most] w fun e w' => e = .returned (.int .i64 (csI s n gi rs most)) ∧ Below w.heap.size w w' := by
  have hx0 := pbox_new w s Ag n cg Ar nr cr 30
  have hb0 : Below w.heap.size w (w.alloc (.cells #[.int .i64 s, .slice Ag n cg, .slice Ar nr cr] 30)) := (Below.refl _ _).alloc (Nat.le_refl _) _
  have hs0 : w.heap.size < (w.alloc (.cells #[.int .i64 s, .slice Ag n cg, .slice Ar nr cr] 30)).heap.size := by simp
  obtain ⟨z0, z1, z2⟩ := id hx0
  have HV := Lib.hid (valid_any s Ag n cg Bg gi Ar nr cr Br rs _ (hp.below hb0))
  cases hv : pvB s gi rs
  · have H1 := Lib.hid (show csI s n gi rs most = -1 by simp [csI, hv])
    go_enter Tryd.func18, Tryd.ntmps18
    go_wp2_with (go_at_call 48; refine HV.out.mono ?_; rintro e w4 ⟨rfl, hb4⟩; rw [hv])
    go_ret
    exact ⟨by rw [H1.out]; rfl, step hb0 hb4⟩
  · by_cases hlo : most < 1
    · have H1 := Lib.hid (show csI s n gi rs most = -1 by
        have : inr most 1 600 = false := by unfold inr; simp; omega
        simp [csI, this])
      go_enter Tryd.func18, Tryd.ntmps18
      go_wp2_with (go_at_call 48; refine HV.out.mono ?_; rintro e w4 ⟨rfl, hb4⟩; rw [hv])
      go_ret
      exact ⟨by rw [H1.out]; rfl, step hb0 hb4⟩
    · by_cases hhi : 600 < most
      · have H1 := Lib.hid (show csI s n gi rs most = -1 by
          have : inr most 1 600 = false := by unfold inr; simp; omega
          simp [csI, this])
        go_enter Tryd.func18, Tryd.ntmps18
        go_wp2_with (go_at_call 48; refine HV.out.mono ?_; rintro e w4 ⟨rfl, hb4⟩; rw [hv])
        go_ret
        exact ⟨by rw [H1.out]; rfl, step hb0 hb4⟩
      · obtain ⟨M, rfl⟩ := Int.eq_ofNat_of_zero_le (show 0 ≤ most by omega)
        have H1 := Lib.hid (show csI s n gi rs (M : Nat) = ((allS s M n gi rs).length : Nat) by
          have : inr (M : Int) 1 600 = true := by unfold inr; simp; omega
          simp only [csI, hv, this, Bool.true_and, if_true, Int.toNat_natCast])
        have HC := Lib.hid (fun w' (hb : Below w.heap.size w w') => countP_any s Ag n cg Bg gi Ar nr cr Br rs M w' (hp.below hb) hv (by omega) (by omega) (hT.below hT.lt hb))
        go_enter Tryd.func18, Tryd.ntmps18
        go_wp2_with (first
          | (go_at_call 48; refine HV.out.mono ?_; rintro e w4 ⟨rfl, hb4⟩; rw [hv]; have h04 := step hb0 hb4; obtain ⟨y0, y1, y2⟩ := hx0.below hs0 hb4)
          | (go_at_call 49; refine (HC.out _ h04).mono ?_; rintro e w5 ⟨rfl, hb5⟩))
        go_ret
        exact ⟨by rw [H1.out]; rfl, step h04 hb5⟩
end Go.Proofs.YtcjdjcpappfkgaaDoor
set_option maxRecDepth 8000
namespace Go.Proofs.YtcjdjcpappfkgaaDoor
open Go.ChangeShapes Go.WideShapes Go.ChangeAt Go.RowKit

/-- the cell is one of the puzzle's, and given. -/
def givenB (n : Nat) (gi : List Int) (i : Int) : Bool := inr i 0 ((n : Int) - 1) && decide (0 < nth gi i.toNat)
def redB (s : Int) (n : Nat) (gi : List Int) (rs : List RuleM) (i : Int) : Bool := pvB s gi rs && givenB n gi i && oneB s n gi rs && oneB s n (gi.set i.toNat 0) rs
set_option maxHeartbeats 2000000 in
theorem specIsRedundant (s : Int) (Ag : Option Addr) (n cg Bg : Nat) (gi : List Int) (Ar : Option Addr) (nr cr Br : Nat) (rs : List RuleM) (i : Int) (w : World) (hp : PGs w s Ag n cg Bg gi Ar nr cr Br rs) :
    Calls Tryd.prog 26 #[.agg #[.int .i64 s, .slice Ag n cg, .slice Ar nr cr], .int .i64 i] w fun e w' => e = .returned (.bool (redB s n gi rs i)) ∧ Below w.heap.size w w' := by
  have hx0 := pbox_new w s Ag n cg Ar nr cr 30
  have hb0 : Below w.heap.size w (w.alloc (.cells #[.int .i64 s, .slice Ag n cg, .slice Ar nr cr] 30)) := (Below.refl _ _).alloc (Nat.le_refl _) _
  have hs0 : w.heap.size < (w.alloc (.cells #[.int .i64 s, .slice Ag n cg, .slice Ar nr cr] 30)).heap.size := by simp
  have HP := Lib.hid (fun w' (hb : Below w.heap.size w w') => specPuzzleValid s Ag n cg Bg gi Ar nr cr Br rs w' (hp.below hb).g (hp.below hb).gB hp.gm (hp.below hb).r (hp.below hb).rB hp.rm)
  have HO := Lib.hid (fun w' (hb : Below w.heap.size w w') => specOne s Ag n cg Bg gi Ar nr cr Br rs w' (hp.below hb))
  have hlen := Lib.hid hp.g.1
  have hm := hp.gm
  cases hv : pvB s gi rs
  · have HL := Lib.hid (show redB s n gi rs i = false by simp [redB, hv])
    go_enter Tryd.func26, Tryd.ntmps26
    go_wp2_with (go_at_call 24; refine (HP.out _ hb0).mono ?_; rintro e w1 ⟨rfl, hb1⟩; rw [hv]; have hB1 := step hb0 hb1; clear hb1)
    go_ret
    exact ⟨by rw [HL.out]; rfl, hB1⟩
  · cases hin : inr i 0 ((n : Int) - 1)
    · have HL := Lib.hid (show redB s n gi rs i = false by simp [redB, givenB, hin])
      have Hin := Lib.hid hin
      clear hin
      go_enter Tryd.func26, Tryd.ntmps26
      go_wp2_with (first | (go_at_call 24; refine (HP.out _ hb0).mono ?_; rintro e w1 ⟨rfl, hb1⟩; rw [hv]; have hB1 := step hb0 hb1; obtain ⟨d0, d1, d2⟩ := hx0.below hs0 hb1; clear hb1) | (go_at_call 44; refine (l1In_any _ _ _ _).mono ?_; rintro e w' ⟨rfl, rfl⟩; (rw [Hin.out])))
      go_ret
      exact ⟨by rw [HL.out]; rfl, hB1⟩
    · obtain ⟨k, rfl⟩ := Int.eq_ofNat_of_zero_le (show 0 ≤ i by simp [inr] at hin; omega)
      have hk : k < n := by simp [inr] at hin; omega
      have Hin := Lib.hid hin
      clear hin
      obtain ⟨b, off, rfl, hbB, hck⟩ := hp.g.at_ hk
      have hbw : b < w.heap.size := Nat.lt_of_lt_of_le hbB hp.gB
      have HW := Lib.hid (fun w' (hb : Below w.heap.size w w') => specWithout (Bg := Bg) s (some ⟨b, off, none⟩) n cg gi Ar nr cr k w' (hp.below hb).g (hp.below hb).gB hm hk)
      have HC := Lib.hid (fun w' (hb : Below w.heap.size w w') => ((hb.cell (p := ⟨b, off + k, none⟩) hbw).trans hck : w'.cell? ⟨b, off + k, none⟩ = some (.int .i64 (nth gi k))))
      by_cases hx : 0 < nth gi k
      · cases ho : oneB s n gi rs
        · have HL := Lib.hid (show redB s n gi rs k = false by simp [redB, ho])
          go_enter Tryd.func26, Tryd.ntmps26
          go_wp2_with (first | (go_at_call 24; refine (HP.out _ hb0).mono ?_; rintro e w1 ⟨rfl, hb1⟩; rw [hv]; have hB1 := step hb0 hb1; obtain ⟨d0, d1, d2⟩ := hx0.below hs0 hb1; have hck1 := HC.out _ hB1; clear hb1) | (go_at_call 44; refine (l1In_any _ _ _ _).mono ?_; rintro e w' ⟨rfl, rfl⟩; (rw [Hin.out])) | (go_at_call 58; refine (HO.out _ hB1).mono ?_; rintro e w2 ⟨rfl, hb2⟩; rw [ho]))
          go_ret
          exact ⟨by rw [HL.out]; rfl, step hB1 hb2⟩
        · cases ho2 : oneB s n (gi.set k 0) rs
          all_goals
            have HL := Lib.hid (show redB s n gi rs k = oneB s n (gi.set k 0) rs by simp [redB, givenB, hv, Hin.out, hx, ho])
            rw [ho2] at HL
            have HO2 := Lib.hid (fun w' (hb : Below w.heap.size w w') A' c' B' (h : Rd w' B' A' n (gi.set k 0)) (hB : B' ≤ w'.heap.size) => specOne s A' n c' B' (gi.set k 0) Ar nr cr Br rs w' ⟨h, hB, hm, (hp.below hb).r, (hp.below hb).rB, hp.rm⟩)
            go_enter Tryd.func26, Tryd.ntmps26
            go_wp2_with (first | (go_at_call 24; refine (HP.out _ hb0).mono ?_; rintro e w1 ⟨rfl, hb1⟩; rw [hv]; have hB1 := step hb0 hb1; obtain ⟨d0, d1, d2⟩ := hx0.below hs0 hb1; have hs1 := Nat.lt_of_lt_of_le hs0 hb1.size; have hck1 := HC.out _ hB1; clear hb1) | (go_at_call 44; refine (l1In_any _ _ _ _).mono ?_; rintro e w' ⟨rfl, rfl⟩; (rw [Hin.out])) | (go_at_call 59; refine (HW.out _ hB2).mono ?_; rintro e w3 ⟨A3, c3, rfl, ho3, hb3⟩; have hB3 := step hB2 hb3; clear hb3) | (go_at_call 58; refine (HO.out _ hB1).mono ?_; rintro e w2 ⟨rfl, hb2⟩; rw [ho]; have hB2 := step hB1 hb2; obtain ⟨e0, e1, e2⟩ := PBox.below ⟨d0, d1, d2⟩ hs1 hb2; clear hb2) | (go_at_call 58; refine (HO2.out _ hB3 _ _ _ ho3.rd (Nat.le_refl _)).mono ?_; rintro e w4 ⟨rfl, hb4⟩; rw [ho2]; have hB4 := step hB3 hb4; clear hb4))
            go_ret
            exact ⟨by rw [HL.out]; rfl, hB4⟩
      · have HL := Lib.hid (show redB s n gi rs k = false by simp [redB, givenB, hx])
        go_enter Tryd.func26, Tryd.ntmps26
        go_wp2_with (first | (go_at_call 24; refine (HP.out _ hb0).mono ?_; rintro e w1 ⟨rfl, hb1⟩; rw [hv]; have hB1 := step hb0 hb1; obtain ⟨d0, d1, d2⟩ := hx0.below hs0 hb1; have hck1 := HC.out _ hB1; clear hb1) | (go_at_call 44; refine (l1In_any _ _ _ _).mono ?_; rintro e w' ⟨rfl, rfl⟩; (rw [Hin.out])))
        go_ret
        exact ⟨by rw [HL.out]; rfl, hB1⟩
end Go.Proofs.YtcjdjcpappfkgaaDoor
set_option maxRecDepth 8000
namespace Go.Proofs.YtcjdjcpappfkgaaDoor
/-! making puzzles: what the lists mean. -/
def Le0 (a b : List Int) : Prop := a.length = b.length ∧ ∀ i, nth a i = nth b i ∨ nth a i = 0
theorem Le0.refl (a : List Int) : Le0 a a := ⟨rfl, fun _ => .inl rfl⟩
theorem Le0.trans {a b c : List Int} (h : Le0 a b) (h' : Le0 b c) : Le0 a c := ⟨h.1.trans h'.1, fun i => by
  rcases h.2 i with e | e
  · rcases h'.2 i with e' | e'
    · exact .inl (e.trans e')
    · exact .inr (e.trans e')
  · exact .inr e⟩
theorem Le0.set (a : List Int) (k : Nat) : Le0 (a.set k 0) a := ⟨by simp, nth_set0 a k⟩
theorem nth_setM {a : List Int} {k i : Nat} {z : Int} (hk : k < a.length) : nth (a.set k z) i = if i = k then z else nth a i := by
  by_cases e : i = k
  · subst e; rw [if_pos rfl]; simp [nth, List.getD_eq_getElem?_getD, hk]
  · rw [if_neg e]; simp [nth, List.getD_eq_getElem?_getD, List.getElem?_set_ne (fun h => e h.symm)]
theorem Le0.set2 {a b : List Int} (h : Le0 a b) (k : Nat) : Le0 (a.set k 0) (b.set k 0) := ⟨by simpa using h.1, fun i => by
  by_cases hk : k < a.length
  · rw [nth_setM hk, nth_setM (by rw [← h.1]; exact hk)]
    by_cases e : i = k
    · rw [if_pos e, if_pos e]; exact .inl rfl
    · rw [if_neg e, if_neg e]; exact h.2 i
  · rw [List.set_eq_of_length_le (by omega), List.set_eq_of_length_le (by rw [← h.1]; omega)]; exact h.2 i⟩
theorem pv_put {s : Int} {gi : List Int} {rs : List RuleM} (h : pvB s gi rs = true) (c : Nat) : pvB s (gi.set c 0) rs = true := by
  simp only [pvB, Bool.and_eq_true] at h ⊢
  exact ⟨⟨h.1.1, gv_put h.1.2 c⟩, h.2⟩
theorem ps_mono {s : Int} {gi gi' g : List Int} {rs : List RuleM} (hv : pvB s gi' rs = true) (hle : Le0 gi' gi) (h : psB s gi rs g = true) : psB s gi' rs g = true := by
  unfold psB at h ⊢
  rw [Bool.and_eq_true] at h ⊢
  obtain ⟨h1, h2⟩ := h
  obtain ⟨_, b, c, d, e⟩ := fp_parts.1 h1
  refine ⟨fp_parts.2 ⟨hv, b, fun i hi => ?_, d, e⟩, h2⟩
  have h3 := c i hi
  unfold giveOk at h3 ⊢
  rcases hle.2 i with e | e
  · rw [e]; exact h3
  · rw [e]; simp
theorem filt_leM {p q : List Int → Bool} (h : ∀ y, p y = true → q y = true) : ∀ L : List (List Int), (L.filter p).length ≤ (L.filter q).length := by
  intro L
  induction L with
  | nil => exact Nat.le_refl _
  | cons a L ih =>
    by_cases e : p a = true
    · rw [List.filter_cons_of_pos e, List.filter_cons_of_pos (h a e)]; simp only [List.length_cons]; omega
    · rw [List.filter_cons_of_neg e]
      by_cases e' : q a = true
      · rw [List.filter_cons_of_pos e']; simp only [List.length_cons]; omega
      · rw [List.filter_cons_of_neg e']; exact ih
theorem cv_sqM {s : Nat} {gi : List Int} {rs : List RuleM} {n : Nat} (hl : gi.length = n) (hv : pvB s gi rs = true) (hn : n = s * s) : cv s gi rs (s * s) [] = (sqL s).filter (psB s gi rs) := by
  rw [← solL_is hv, ← hn, ← hl]; exact cv_is hv
theorem cv_le {s : Nat} {gi gi' : List Int} {rs : List RuleM} {n : Nat} (hl : gi.length = n) (hv : pvB s gi rs = true) (hv' : pvB s gi' rs = true) (hn : n = s * s) (hle : Le0 gi' gi) : (cv s gi rs (s * s) []).length ≤ (cv s gi' rs (s * s) []).length := by
  rw [cv_sqM hl hv hn, cv_sqM (hle.1.trans hl) hv' hn]
  exact filt_leM (fun y h => ps_mono hv' hle h) _
theorem one_iff {s : Nat} {gi : List Int} {rs : List RuleM} {n : Nat} (hl : gi.length = n) (hv : pvB s gi rs = true) (hn : n = s * s) : oneB s n gi rs = true ↔ (cv s gi rs (s * s) []).length = 1 := by
  unfold oneB
  rw [beq_iff_eq, allS_cv hl hv (by omega) hn, List.length_take]
  omega
theorem one_same {s : Nat} {gi gi' : List Int} {rs : List RuleM} {n : Nat} (hl : gi.length = n) (hv : pvB s gi rs = true) (hv' : pvB s gi' rs = true) (hn : n = s * s) (hle : Le0 gi' gi) (h : oneB s n gi rs = true) (h' : oneB s n gi' rs = true) : cv s gi rs (s * s) [] = cv s gi' rs (s * s) [] := by
  have hl' := hle.1.trans hl
  have h1 := (one_iff hl hv hn).1 h
  have h2 := (one_iff hl' hv' hn).1 h'
  obtain ⟨y, hy⟩ := List.length_eq_one_iff.1 h1
  obtain ⟨z, hz⟩ := List.length_eq_one_iff.1 h2
  have e1 : y ∈ (sqL s).filter (psB s gi rs) := by rw [← cv_sqM hl hv hn, hy]; simp
  have e2 : y ∈ (sqL s).filter (psB s gi' rs) := List.mem_filter.2 ⟨(List.mem_filter.1 e1).1, ps_mono hv' hle (List.mem_filter.1 e1).2⟩
  rw [← cv_sqM hl' hv' hn, hz] at e2
  rw [hy, hz]
  simp at e2
  rw [e2]
theorem sf_same {s : Nat} {gi gi' : List Int} {rs : List RuleM} {n : Nat} (hl : gi.length = n) (hv : pvB s gi rs = true) (hv' : pvB s gi' rs = true) (hn : n = s * s) (hle : Le0 gi' gi) (h : oneB s n gi rs = true) (h' : oneB s n gi' rs = true) : sfL s n gi' rs = sfL s n gi rs ∧ sfB s n gi' rs = sfB s n gi rs := by
  have hl' := hle.1.trans hl
  have e := one_same hl hv hv' hn hle h h'
  obtain ⟨y, hy⟩ := List.length_eq_one_iff.1 ((one_iff hl hv hn).1 h)
  have a := sf_cons hl hv hn hy
  have b := sf_cons hl' hv' hn (e ▸ hy)
  exact ⟨b.1.trans a.1.symm, b.2.trans a.2.symm⟩
theorem one_cs {s : Int} {gi : List Int} {rs : List RuleM} {n : Nat} (hv : pvB s gi rs = true) : (csI s n gi rs 2 == 1) = oneB s n gi rs := by
  have h2 : inr (2 : Int) 1 600 = true := by decide
  simp only [csI, hv, h2, Bool.true_and, if_true, oneB]
  rw [show (2 : Int).toNat = 2 from rfl, Bool.eq_iff_iff]
  simp only [beq_iff_eq]
  omega
theorem one_cs' {s : Int} {gi : List Int} {rs : List RuleM} {n : Nat} (hv : pvB s gi rs = true) (h : oneB s n gi rs = true) : csI s n gi rs 2 = 1 := by
  have := one_cs (n := n) hv
  rw [h] at this
  simpa using this
/-- between a puzzle with one solution and one with fewer given and one solution every puzzle has one. -/
theorem one_mid {s : Nat} {a b c : List Int} {rs : List RuleM} {n : Nat} (hl : c.length = n) (ha : pvB s a rs = true) (hb : pvB s b rs = true) (hc : pvB s c rs = true) (hn : n = s * s) (hab : Le0 a b) (hbc : Le0 b c) (h1 : oneB s n a rs = true) (h2 : oneB s n c rs = true) : oneB s n b rs = true := by
  have hlb := hbc.1.trans hl
  have q1 := cv_le hl hc hb hn hbc
  have q2 := cv_le hlb hb ha hn hab
  have q3 := (one_iff (hab.1.trans hlb) ha hn).1 h1
  have q4 := (one_iff hl hc hn).1 h2
  exact (one_iff hlb hb hn).2 (by omega)
def redTo (s : Int) (n : Nat) (gi : List Int) (rs : List RuleM) : Nat → Bool
  | 0 => false
  | k + 1 => redTo s n gi rs k || redB s n gi rs k
theorem redTo_hit {s : Int} {n : Nat} {gi : List Int} {rs : List RuleM} {k m : Nat} (hk : k < m) (e : redB s n gi rs k = true) : redTo s n gi rs m = true := by
  induction m with
  | zero => omega
  | succ m ih =>
    simp only [redTo, Bool.or_eq_true]
    by_cases h : k = m
    · subst h; exact .inr e
    · exact .inl (ih (by omega))
theorem redTo_none {s : Int} {n : Nat} {gi : List Int} {rs : List RuleM} {m : Nat} (h : ∀ k : Nat, k < m → redB s n gi rs k = false) : redTo s n gi rs m = false := by
  induction m with
  | zero => rfl
  | succ m ih => simp only [redTo, ih (fun k hk => h k (by omega)), h m (by omega)]; rfl
def minB (s : Int) (n : Nat) (gi : List Int) (rs : List RuleM) : Bool := pvB s gi rs && oneB s n gi rs && !redTo s n gi rs n
theorem red_iff {s : Int} {n : Nat} {gi : List Int} {rs : List RuleM} {k : Nat} (hl : gi.length = n) (hv : pvB s gi rs = true) (h1 : oneB s n gi rs = true) (hk : k < n) : redB s n gi rs k = ((nth gi k != 0) && oneB s n (gi.set k 0) rs) := by
  have h0 := (gv_nth (pv_gv hv).1 (show k < gi.length by omega)).1
  have e1 : inr (k : Int) 0 ((n : Int) - 1) = true := by unfold inr; simp; omega
  have e2 : decide (0 < nth gi k) = (nth gi k != 0) := by
    rw [Bool.eq_iff_iff, decide_eq_true_iff, bne_iff_ne]; omega
  simp only [redB, givenB, hv, h1, e1, Int.toNat_natCast, e2, Bool.true_and, Bool.and_true]
theorem red_false {s : Int} {n : Nat} {gi : List Int} {rs : List RuleM} {i : Int} (h : (pvB s gi rs && oneB s n gi rs) = false) : redB s n gi rs i = false := by
  unfold redB
  cases h1 : pvB s gi rs <;> cases h2 : oneB s n gi rs <;> simp_all
end Go.Proofs.YtcjdjcpappfkgaaDoor
set_option maxRecDepth 8000
namespace Go.Proofs.YtcjdjcpappfkgaaDoor
open Go.ChangeShapes Go.WideShapes Go.ChangeAt Go.RowKit Go.Shelf
/-! slices.ContainsFunc over ints, with a closure that may make blocks. -/
def anyN (f : Int → Bool) (xs : List Int) : Nat → Bool
  | 0 => false
  | k + 1 => anyN f xs k || f (nth xs k)
theorem anyN_hit {f : Int → Bool} {xs : List Int} {k n : Nat} (hk : k < n) (e : f (nth xs k) = true) : anyN f xs n = true := by
  induction n with
  | zero => omega
  | succ n ih =>
    simp only [anyN, Bool.or_eq_true]
    by_cases h : k = n
    · subst h; exact .inr e
    · exact .inl (ih (by omega))
/-- what is asked of the closure: it answers f, and leaves what was there. -/
def CloB (g : Nat) (lb : Array Value) (f : Int → Bool) (xs : List Int) (n : Nat) (w : World) : Prop :=
  ∀ (W : World) (i : Nat), i < n → Below w.heap.size w W → Calls Tryd.prog g (#[.int .i64 (nth xs i)] ++ lb) W fun e w' => e = .returned (.bool (f (nth xs i))) ∧ Below W.heap.size W w'
set_option maxHeartbeats 1000000 in
theorem indexFunc_any (A : Option Addr) (c n B : Nat) (xs : List Int) (f : Int → Bool) (g : Nat) (lb : Array Value) (eg : ∀ args w, (callFunc g args).run Tryd.prog w = .ok (.enter g args) w) (w : World) (h : Rd w B A n xs) (hB : B ≤ w.heap.size) (hm : n ≤ 1099511627776) (hp : CloB g lb f xs n w) :
    Calls Tryd.prog 109 #[.slice A n c, .func (.func g) #[] lb] w fun e w' => ∃ r : Int, e = .returned (.int .i64 r) ∧ decide (0 ≤ r) = anyN f xs n ∧ Below w.heap.size w w' := by
  have HP := Lib.hid hp
  have HH := Lib.hid (fun (W : World) (hb : Below w.heap.size w W) => h.below (hb.mono hB))
  clear hp
  go_enter Tryd.func109, Tryd.ntmps109
  go_wp2
  go_loopw [8] (fun i wr => ∃ k : Nat, k ≤ n ∧ i = .int .i64 k ∧ Below w.heap.size w wr ∧ Hid (anyN f xs k = false)) (fun i _ => n - (intOf i).toNat)
  case atStart => exact ⟨0, Nat.zero_le _, rfl, Below.refl _ _, Lib.hid rfl⟩
  case round =>
    obtain ⟨k, hk, rfl, hR, hno⟩ := hrel
    by_cases hlt : k < n
    · obtain ⟨b, off, rfl, hbB, hck⟩ := (HH.out _ hR).at_ hlt
      have hcall := HP.out wr k hlt hR
      obtain ⟨y, hy⟩ : ∃ y, nth xs k = y := ⟨_, rfl⟩
      rw [hy] at hck hcall
      have Hy := Lib.hid hy
      clear hy
      cases e : f y
      · have Hn := Lib.hid (show anyN f xs (k + 1) = false by simp only [anyN, hno.out, Hy.out, e]; rfl)
        rw [e] at hcall
        go_wp2_with (go_at_fn g; refine hcall.mono ?_; rintro e w1 ⟨rfl, hb1⟩; have hR1 := step hR hb1)
        go_roundw
        case rel => exact ⟨k + 1, by omega, by go_num, hR1, Hn⟩
        case measure => simp [intOf]; omega
      · have Hn := Lib.hid (show anyN f xs n = true from anyN_hit hlt (by rw [Hy.out]; exact e))
        rw [e] at hcall
        go_wp2_with (go_at_fn g; refine hcall.mono ?_; rintro e w1 ⟨rfl, hb1⟩; have hR1 := step hR hb1)
        go_ret
        exact ⟨_, rfl, by rw [Hn.out]; simp, hR1⟩
    · obtain rfl : k = n := by omega
      go_wp2
      go_ret
      exact ⟨_, rfl, by rw [hno.out]; rfl, hR⟩
theorem containsFunc_any (A : Option Addr) (c n B : Nat) (xs : List Int) (f : Int → Bool) (g : Nat) (lb : Array Value) (eg : ∀ args w, (callFunc g args).run Tryd.prog w = .ok (.enter g args) w) (w : World) (h : Rd w B A n xs) (hB : B ≤ w.heap.size) (hm : n ≤ 1099511627776) (hp : CloB g lb f xs n w) :
    Calls Tryd.prog 91 #[.slice A n c, .func (.func g) #[] lb] w fun e w' => e = .returned (.bool (anyN f xs n)) ∧ Below w.heap.size w w' := by
  have HI := Lib.hid (indexFunc_any A c n B xs f g lb eg w h hB hm hp)
  clear hp h eg
  go_enter Tryd.func91, Tryd.ntmps91
  go_wp2_with (go_at_call 109; refine HI.out.mono ?_; rintro e w1 ⟨r, rfl, hr, hb1⟩; have hr' : decide (r ≥ 0) = anyN f xs n := hr)
  go_ret
  exact ⟨by first | (rw [← hr]; rfl) | (rw [← hr]), hb1⟩
end Go.Proofs.YtcjdjcpappfkgaaDoor
set_option maxRecDepth 8000
namespace Go.Proofs.YtcjdjcpappfkgaaDoor
open Go.ChangeShapes Go.WideShapes Go.ChangeAt Go.RowKit
set_option maxHeartbeats 1000000 in
theorem makeable_any (s : Int) (Ag : Option Addr) (n cg Bg : Nat) (gi : List Int) (Ar : Option Addr) (nr cr Br : Nat) (rs : List RuleM) (w : World) (hp : PGc w s Ag n cg Bg gi Ar nr cr Br rs) (hT : Tz w) :
    Calls Tryd.prog 60 #[.agg #[.int .i64 s, .slice Ag n cg, .slice Ar nr cr]] w fun e w' => e = .returned (.bool (pvB s gi rs && oneB s n gi rs)) ∧ Below w.heap.size w w' := by
  have hx0 := pbox_new w s Ag n cg Ar nr cr 30
  have hb0 : Below w.heap.size w (w.alloc (.cells #[.int .i64 s, .slice Ag n cg, .slice Ar nr cr] 30)) := (Below.refl _ _).alloc (Nat.le_refl _) _
  have hs0 : w.heap.size < (w.alloc (.cells #[.int .i64 s, .slice Ag n cg, .slice Ar nr cr] 30)).heap.size := by simp
  obtain ⟨z0, z1, z2⟩ := id hx0
  have HV := Lib.hid (valid_any s Ag n cg Bg gi Ar nr cr Br rs _ (hp.below hb0))
  cases hv : pvB s gi rs
  · go_enter Tryd.func60, Tryd.ntmps60
    go_wp2_with (go_at_call 48; refine HV.out.mono ?_; rintro e w4 ⟨rfl, hb4⟩; rw [hv])
    go_ret
    exact ⟨rfl, step hb0 hb4⟩
  · have HC := Lib.hid (fun w' (hb : Below w.heap.size w w') => hasOne_any s Ag n cg Bg gi Ar nr cr Br rs w' (hp.below hb) hv (hT.below hT.lt hb))
    obtain ⟨o, ho⟩ : ∃ o, o = oneB s n gi rs := ⟨_, rfl⟩
    rw [← ho] at HC
    rw [← ho]
    clear ho hp hT
    go_enter Tryd.func60, Tryd.ntmps60
    go_wp2_with (first
      | (go_at_call 48; refine HV.out.mono ?_; rintro e w4 ⟨rfl, hb4⟩; rw [hv]; have h04 := step hb0 hb4; obtain ⟨y0, y1, y2⟩ := hx0.below hs0 hb4)
      | (go_at_call 90; refine (HC.out _ h04).mono ?_; rintro e w5 ⟨rfl, hb5⟩))
    go_ret
    exact ⟨by cases o <;> rfl, step h04 hb5⟩
def setL (gi cs : List Int) : Nat → List Int
  | 0 => gi
  | k + 1 => (setL gi cs k).set (nth cs k).toNat 0
theorem setL_length (gi cs : List Int) (k : Nat) : (setL gi cs k).length = gi.length := by
  induction k with
  | zero => rfl
  | succ k ih => simp [setL, ih]
theorem pv_setL {s : Int} {gi cs : List Int} {rs : List RuleM} (h : pvB s gi rs = true) (k : Nat) : pvB s (setL gi cs k) rs = true := by
  induction k with
  | zero => exact h
  | succ k ih => exact pv_put ih _
set_option maxHeartbeats 2000000 in
theorem without_any (s : Int) (Ag : Option Addr) (n cg Bg : Nat) (gi : List Int) (Ar : Option Addr) (nr cr : Nat) (Ac : Option Addr) (m cc Bc : Nat) (cs : List Int) (w : World) (hg : Rd w Bg Ag n gi) (hB : Bg ≤ w.heap.size) (hn : 0 < n) (hm : n ≤ 1099511627776) (hc : Rd w Bc Ac m cs) (hBc : Bc ≤ w.heap.size) (hmc : m ≤ 1099511627776) (hin : ∀ i, i < m → 0 ≤ nth cs i ∧ nth cs i < n) :
    Calls Tryd.prog 93 #[.agg #[.int .i64 s, .slice Ag n cg, .slice Ar nr cr], .slice Ac m cc] w fun e w' => ∃ A' c', e = .returned (.agg #[.int .i64 s, .slice A' n c', .slice Ar nr cr]) ∧ Ow w' w.heap.size A' n c' (setL gi cs m) ∧ Below w.heap.size w w' := by
  have hx0 := pbox_new w s Ag n cg Ar nr cr 30
  have hb0 : Below w.heap.size w (w.alloc (.cells #[.int .i64 s, .slice Ag n cg, .slice Ar nr cr] 30)) := (Below.refl _ _).alloc (Nat.le_refl _) _
  have hs0 : w.heap.size < (w.alloc (.cells #[.int .i64 s, .slice Ag n cg, .slice Ar nr cr] 30)).heap.size := by simp
  obtain ⟨V, hV⟩ : ∃ V, V = (w.alloc (.cells #[.int .i64 s, .slice Ag n cg, .slice Ar nr cr] 30)).alloc (.cells #[.int .i64 0, .slice none 0 0, .slice none 0 0] 30) := ⟨_, rfl⟩
  have hbV : Below w.heap.size w V := by rw [hV]; exact hb0.alloc hb0.size _
  have hsV : V.heap.size = w.heap.size + 1 + 1 := by rw [hV]; simp
  have hxV : PBox V w.heap.size s Ag n cg Ar nr cr := by
    rw [hV]
    exact hx0.below hs0 ((Below.refl _ _).alloc (Nat.le_refl _) _)
  have hrow : V.heap[w.heap.size + 1]? = some (.cells #[.int .i64 0, .slice none 0 0, .slice none 0 0] 30) := by rw [hV]; exact heap_alloc2_new w _ _
  have Hone := Lib.hid puz_one
  have Hi := Lib.hid puz_info
  have HCl := Lib.hid (clone_any Ag n cg Bg gi V (hg.below (hbV.mono hB)) (by omega) hn hm)
  have HCs := Lib.hid (fun (w' : World) (hb : Below V.heap.size V w') => (hc.below (hbV.mono hBc)).below (hb.mono (by omega)))
  have HX := Lib.hid (fun (w' : World) (hb : Below V.heap.size V w') => (⟨hxV.below (by omega) hb, (hb.block (w.heap.size + 1) (by omega)).trans hrow⟩ : PBox w' w.heap.size s Ag n cg Ar nr cr ∧ w'.heap[w.heap.size + 1]? = some (.cells #[.int .i64 0, .slice none 0 0, .slice none 0 0] 30)))
  have HV := Lib.hid hV
  obtain ⟨z0, z1, z2⟩ := id hxV
  have Hin := Lib.hid hin
  clear hV hx0 hb0 hs0 hg hc hxV hrow hin
  go_enter Tryd.func93, Tryd.ntmps93
  go_wp2_with fail
  rw [← HV.out]
  refine HCl.out.mono ?_
  rintro e w1 ⟨A1, c1, rfl, ho1, hb1⟩
  obtain ⟨gb, rfl, hlo, _⟩ := ho1.form hn
  clear z0 z1 z2 HCl
  go_wp2
  go_loopw [13] (fun i wr => ∃ k : Nat, k ≤ m ∧ i = .int .i64 k ∧ Ow wr V.heap.size (some ⟨gb, 0, none⟩) n c1 (setL gi cs k) ∧ Below V.heap.size V wr) (fun i _ => m - (intOf i).toNat)
  case atStart => exact ⟨0, Nat.zero_le _, rfl, ho1, hb1⟩
  case round =>
    obtain ⟨k, hk, rfl, ho, hb⟩ := hrel
    by_cases hlt : k < m
    · obtain ⟨b, off, rfl, hbB, hck⟩ := (HCs.out _ hb).at_ hlt
      obtain ⟨q0, q1⟩ := Hin.out k hlt
      obtain ⟨j, hj⟩ := Int.eq_ofNat_of_zero_le q0
      have Hset := Lib.hid (show setL gi cs (k + 1) = (setL gi cs k).set j 0 by rw [setL, hj]; rfl)
      rw [hj] at hck q1
      have hjn : j < n := by omega
      obtain ⟨hold, hfr⟩ := ho.cell hjn
      have Hst := Lib.hid ((World.ownsRow.stored ho j (.int .i64 0)).1)
      have Hbs := Lib.hid (hb.setCell (p := ⟨gb, j, none⟩) (show V.heap.size ≤ gb by omega) (.int .i64 0))
      clear hj ho hb q0
      go_wp2
      go_roundw
      case rel =>
        have h1 := Hst.out
        rw [vals_set] at h1
        exact ⟨k + 1, by omega, by go_num, by rw [Hset.out]; exact h1, Hbs.out⟩
      case measure => simp [intOf]; omega
    · obtain rfl : k = m := by omega
      obtain ⟨⟨y0, y1, y2⟩, hr⟩ := HX.out _ hb
      have Ho := Lib.hid ho
      have Hb := Lib.hid hb
      clear ho hb
      go_wp2_with (refine wpList_store_row rfl 30 _ _ rfl (w.heap.size + 1) #[.int .i64 s, .slice (some ⟨gb, 0, none⟩) n c1, .slice Ar nr cr] rfl rfl 30 #[.int .i64 0, .slice none 0 0, .slice none 0 0] hr (Hi.out _ _ _ _ _ _ _) rfl (Hone.out _ _ _ _ _ _ _) ?_)
      have hBe : Below w.heap.size w (wr.setRow (w.heap.size + 1) #[.int .i64 s, .slice (some ⟨gb, 0, none⟩) n c1, .slice Ar nr cr]) := setRow_below5 (hbV.trans (Hb.out.mono hbV.size)) (by omega)
      exact bodyPost_ret (v := .agg #[.int .i64 s, .slice (some ⟨gb, 0, none⟩) n c1, .slice Ar nr cr]) (results_cell_row (by rfl) _ _ (w.heap.size + 1) 30 _ (0, 0) _ rfl (setRow_heap _ _ _ _ _ _ hr) Tryd.underlying30 rfl (Hi.out _ _ _ _ _ _ _)) rfl ⟨_, _, rfl, (Ho.out.row5 (fun b hb => by have := Ho.out.own_lo b hb; omega)).mono (by omega), hBe⟩
/-- something is given in the cells, and without it there is one solution. -/
def redC (s : Int) (n : Nat) (gi : List Int) (rs : List RuleM) (cs : List Int) (m : Nat) : Bool := anyN (fun x => nth gi x.toNat != 0) cs m && oneB s n (setL gi cs m) rs
set_option maxHeartbeats 1000000 in
theorem redClo (s : Int) (Ag : Option Addr) (n cg Bg : Nat) (gi : List Int) (Ar : Option Addr) (nr cr PB : Nat) (x : Int) (w : World) (hx : PBox w PB s Ag n cg Ar nr cr) (hg : Rd w Bg Ag n gi) (h0 : 0 ≤ x) (h1 : x < n) :
    Calls Tryd.prog 92 #[.int .i64 x, .pointer (some ⟨PB, 0, none⟩)] w fun e w' => e = .returned (.bool (nth gi x.toNat != 0)) ∧ Below w.heap.size w w' := by
  obtain ⟨j, rfl⟩ := Int.eq_ofNat_of_zero_le h0
  have hj : j < n := by omega
  obtain ⟨b, off, rfl, hbB, hck⟩ := hg.at_ hj
  obtain ⟨z0, z1, z2⟩ := hx
  clear hg
  go_enter Tryd.func92, Tryd.ntmps92
  go_wp2
  go_ret
  exact ⟨by first | rfl | simp, Below.refl _ _⟩
set_option maxHeartbeats 2000000 in
theorem redundant_any (s : Int) (Ag : Option Addr) (n cg Bg : Nat) (gi : List Int) (Ar : Option Addr) (nr cr Br : Nat) (rs : List RuleM) (Ac : Option Addr) (m cc Bc : Nat) (cs : List Int) (w : World) (hp : PGc w s Ag n cg Bg gi Ar nr cr Br rs) (hv : pvB s gi rs = true) (hn : 0 < n) (hT : Tz w) (hc : Rd w Bc Ac m cs) (hBc : Bc ≤ w.heap.size) (hmc : m ≤ 1099511627776) (hin : ∀ i, i < m → 0 ≤ nth cs i ∧ nth cs i < n) :
    Calls Tryd.prog 61 #[.agg #[.int .i64 s, .slice Ag n cg, .slice Ar nr cr], .slice Ac m cc] w fun e w' => e = .returned (.bool (redC s n gi rs cs m)) ∧ Below w.heap.size w w' := by
  have hx0 := pbox_new w s Ag n cg Ar nr cr 30
  have hb0 : Below w.heap.size w (w.alloc (.cells #[.int .i64 s, .slice Ag n cg, .slice Ar nr cr] 30)) := (Below.refl _ _).alloc (Nat.le_refl _) _
  have hs0 : w.heap.size < (w.alloc (.cells #[.int .i64 s, .slice Ag n cg, .slice Ar nr cr] 30)).heap.size := by simp
  obtain ⟨V, hV⟩ : ∃ V, V = w.alloc (.cells #[.int .i64 s, .slice Ag n cg, .slice Ar nr cr] 30) := ⟨_, rfl⟩
  rw [← hV] at hx0 hb0 hs0
  have HClo : Hid (CloB 92 #[.pointer (some ⟨w.heap.size, 0, none⟩)] (fun x => nth gi x.toNat != 0) cs m V) := Lib.hid (fun W i hi hbW => redClo s Ag n cg Bg gi Ar nr cr w.heap.size (nth cs i) W (hx0.below hs0 hbW) ((hp.g.below (hb0.mono hp.gB)).below (hbW.mono (Nat.le_trans hp.gB hb0.size))) (hin i hi).1 (hin i hi).2)
  have HCF := Lib.hid (containsFunc_any Ac cc m Bc cs (fun x => nth gi x.toNat != 0) 92 #[.pointer (some ⟨w.heap.size, 0, none⟩)] (enters_of Tryd.func92 (by kernel_rfl) rfl) V (hc.below (hb0.mono hBc)) (Nat.le_trans hBc hb0.size) hmc HClo.out)
  have HW := Lib.hid (fun (w' : World) (hb : Below w.heap.size w w') => without_any s Ag n cg Bg gi Ar nr cr Ac m cc Bc cs w' (hp.below hb).g (hp.below hb).gB hn hp.gm (hc.below (hb.mono hBc)) (Nat.le_trans hBc hb.size) hmc hin)
  have HX := Lib.hid (fun (w' : World) (hb : Below V.heap.size V w') => hx0.below hs0 hb)
  have HO := Lib.hid (fun (w' : World) (hb : Below w.heap.size w w') (A' : Option Addr) (c' B' : Nat) (h : Rd w' B' A' n (setL gi cs m)) (hB' : B' ≤ w'.heap.size) => hasOne_any s A' n c' B' (setL gi cs m) Ar nr cr Br rs w' ⟨h, hB', hp.gm, (hp.below hb).r, (hp.below hb).rB, hp.rm⟩ (pv_setL hv m) (hT.below hT.lt hb))
  have hmf : ∀ (fn : Fn) (first cap : Array Value) (w : World), (Instr.makeFunc fn first cap).run Tryd.prog w = .ok (.func fn first cap) w := fun _ _ _ _ => rfl
  obtain ⟨z0, z1, z2⟩ := id hx0
  have HV := Lib.hid hV
  have Hb0 := Lib.hid hb0
  cases ha : anyN (fun x => nth gi x.toNat != 0) cs m
  · have HL := Lib.hid (show redC s n gi rs cs m = false by unfold redC; rw [ha]; rfl)
    rw [ha] at HCF
    clear hV hx0 hb0 hs0 hp hc hT ha hv hin HClo
    go_enter Tryd.func61, Tryd.ntmps61
    go_wp2_with (go_at_call 91; rw [← HV.out]; refine HCF.out.mono ?_; rintro e w1 ⟨rfl, hb1⟩)
    go_ret
    exact ⟨by rw [HL.out]; rfl, step Hb0.out hb1⟩
  · obtain ⟨o, ho⟩ : ∃ o, o = oneB s n (setL gi cs m) rs := ⟨_, rfl⟩
    have HL := Lib.hid (show redC s n gi rs cs m = o by unfold redC; rw [ha, ← ho]; rfl)
    rw [ha] at HCF
    rw [← ho] at HO
    clear hV hx0 hb0 hs0 hp hc hT ha ho hv hin HClo
    go_enter Tryd.func61, Tryd.ntmps61
    go_wp2_with (first
      | (go_at_call 91; rw [← HV.out]; refine HCF.out.mono ?_; rintro e w1 ⟨rfl, hb1⟩; have h01 := step Hb0.out hb1; obtain ⟨y0, y1, y2⟩ := HX.out _ hb1)
      | (go_at_call 93; refine (HW.out _ h01).mono ?_; rintro e w2 ⟨A2, c2, rfl, ho2, hb2⟩; have h02 := step h01 hb2)
      | (go_at_call 90; refine (HO.out _ h02 _ _ _ ho2.rd (Nat.le_refl _)).mono ?_; rintro e w3 ⟨rfl, hb3⟩; have h03 := step h02 hb3))
    go_ret
    exact ⟨by rw [HL.out]; cases o <;> rfl, h03⟩
set_option maxHeartbeats 2000000 in
theorem reducedBy_any (s : Int) (Ag : Option Addr) (n cg Bg : Nat) (gi : List Int) (Ar : Option Addr) (nr cr Br : Nat) (rs : List RuleM) (Ac : Option Addr) (m cc Bc : Nat) (cs : List Int) (w : World) (hp : PGc w s Ag n cg Bg gi Ar nr cr Br rs) (hv : pvB s gi rs = true) (hn : 0 < n) (hT : Tz w) (hc : Rd w Bc Ac m cs) (hBc : Bc ≤ w.heap.size) (hmc : m ≤ 1099511627776) (hin : ∀ i, i < m → 0 ≤ nth cs i ∧ nth cs i < n) :
    Calls Tryd.prog 64 #[.agg #[.int .i64 s, .slice Ag n cg, .slice Ar nr cr], .slice Ac m cc] w fun e w' => (∃ A' c', e = .returned (.agg #[.int .i64 s, .slice A' n c', .slice Ar nr cr]) ∧ ((redC s n gi rs cs m = false ∧ A' = Ag ∧ c' = cg) ∨ (redC s n gi rs cs m = true ∧ Ow w' w.heap.size A' n c' (setL gi cs m)))) ∧ Below w.heap.size w w' := by
  have hx0 := pbox_new w s Ag n cg Ar nr cr 30
  have hb0 : Below w.heap.size w (w.alloc (.cells #[.int .i64 s, .slice Ag n cg, .slice Ar nr cr] 30)) := (Below.refl _ _).alloc (Nat.le_refl _) _
  have hs0 : w.heap.size < (w.alloc (.cells #[.int .i64 s, .slice Ag n cg, .slice Ar nr cr] 30)).heap.size := by simp
  obtain ⟨V, hV⟩ : ∃ V, V = (w.alloc (.cells #[.int .i64 s, .slice Ag n cg, .slice Ar nr cr] 30)).alloc (.cells #[.int .i64 0, .slice none 0 0, .slice none 0 0] 30) := ⟨_, rfl⟩
  have hbV : Below w.heap.size w V := by rw [hV]; exact hb0.alloc hb0.size _
  have hsV : V.heap.size = w.heap.size + 1 + 1 := by rw [hV]; simp
  have hxV : PBox V w.heap.size s Ag n cg Ar nr cr := by
    rw [hV]
    exact hx0.below hs0 ((Below.refl _ _).alloc (Nat.le_refl _) _)
  have hrow0 : V.heap[w.heap.size]? = some (.cells #[.int .i64 s, .slice Ag n cg, .slice Ar nr cr] 30) := by rw [hV]; exact (Below.heap_alloc _ _ _ (by simp)).trans (heap_alloc_new w _)
  have hrow : V.heap[w.heap.size + 1]? = some (.cells #[.int .i64 0, .slice none 0 0, .slice none 0 0] 30) := by rw [hV]; exact heap_alloc2_new w _ _
  have Hone := Lib.hid puz_one
  have Hi := Lib.hid puz_info
  have HR := Lib.hid (redundant_any s Ag n cg Bg gi Ar nr cr Br rs Ac m cc Bc cs V (hp.below hbV) hv hn (hT.below hT.lt hbV) (hc.below (hbV.mono hBc)) (Nat.le_trans hBc hbV.size) hmc hin)
  have HW := Lib.hid (fun (w' : World) (hb : Below w.heap.size w w') => without_any s Ag n cg Bg gi Ar nr cr Ac m cc Bc cs w' (hp.below hb).g (hp.below hb).gB hn hp.gm (hc.below (hb.mono hBc)) (Nat.le_trans hBc hb.size) hmc hin)
  have HX := Lib.hid (fun (w' : World) (hb : Below V.heap.size V w') => (⟨hxV.below (by omega) hb, (hb.block (w.heap.size + 1) (by omega)).trans hrow⟩ : PBox w' w.heap.size s Ag n cg Ar nr cr ∧ w'.heap[w.heap.size + 1]? = some (.cells #[.int .i64 0, .slice none 0 0, .slice none 0 0] 30)))
  have HX0 := Lib.hid (fun (w' : World) (hb : Below V.heap.size V w') => (hb.block w.heap.size (by omega)).trans hrow0)
  have HV := Lib.hid hV
  have HbV := Lib.hid hbV
  obtain ⟨z0, z1, z2⟩ := id hxV
  cases hr : redC s n gi rs cs m
  · rw [hr] at HR
    clear hV hx0 hb0 hs0 hp hc hT hv hin hxV hrow hr hrow0 hbV
    go_enter Tryd.func64, Tryd.ntmps64
    go_wp2_with (first
      | (go_at_call 61; rw [← HV.out]; refine HR.out.mono ?_; rintro e w1 ⟨rfl, hb1⟩; obtain ⟨⟨y0, y1, y2⟩, hr1⟩ := HX.out _ hb1)
      | (refine wpList_store_row rfl 30 _ _ rfl (w.heap.size + 1) #[.int .i64 s, .slice Ag n cg, .slice Ar nr cr] rfl rfl 30 #[.int .i64 0, .slice none 0 0, .slice none 0 0] hr1 (Hi.out _ _ _ _ _ _ _) rfl (Hone.out _ _ _ _ _ _ _) ?_))
    have hBe : Below w.heap.size w (w1.setRow (w.heap.size + 1) #[.int .i64 s, .slice Ag n cg, .slice Ar nr cr]) := setRow_below5 (HbV.out.trans (hb1.mono HbV.out.size)) (by omega)
    exact bodyPost_ret (v := .agg #[.int .i64 s, .slice Ag n cg, .slice Ar nr cr]) (results_cell_row (by rfl) _ _ (w.heap.size + 1) 30 _ (0, 0) _ rfl (setRow_heap _ _ _ _ _ _ hr1) Tryd.underlying30 rfl (Hi.out _ _ _ _ _ _ _)) rfl ⟨⟨_, _, rfl, .inl ⟨by trivial, rfl, rfl⟩⟩, hBe⟩
  · rw [hr] at HR
    clear hV hx0 hb0 hs0 hp hc hT hv hin hxV hrow hr hrow0 hbV
    go_enter Tryd.func64, Tryd.ntmps64
    go_wp2_with (first
      | (go_at_call 61; rw [← HV.out]; refine HR.out.mono ?_; rintro e w1 ⟨rfl, hb1⟩; have h01 := HbV.out.trans (hb1.mono HbV.out.size); obtain ⟨⟨y0, y1, y2⟩, hr1⟩ := HX.out _ hb1)
      | (go_at_call 93; refine (HW.out _ h01).mono ?_; rintro e w2 ⟨A2, c2, rfl, ho2, hb2⟩; have hr2 := (HX.out _ (step hb1 hb2)).2)
      | (refine wpList_store_row rfl 30 _ _ rfl (w.heap.size + 1) #[.int .i64 s, .slice A2 n c2, .slice Ar nr cr] rfl rfl 30 #[.int .i64 0, .slice none 0 0, .slice none 0 0] hr2 (Hi.out _ _ _ _ _ _ _) rfl (Hone.out _ _ _ _ _ _ _) ?_))
    have h02 := step h01 hb2
    have hBe : Below w.heap.size w (w2.setRow (w.heap.size + 1) #[.int .i64 s, .slice A2 n c2, .slice Ar nr cr]) := setRow_below5 h02 (by omega)
    have hs1 := hb1.size
    exact bodyPost_ret (v := .agg #[.int .i64 s, .slice A2 n c2, .slice Ar nr cr]) (results_cell_row (by rfl) _ _ (w.heap.size + 1) 30 _ (0, 0) _ rfl (setRow_heap _ _ _ _ _ _ hr2) Tryd.underlying30 rfl (Hi.out _ _ _ _ _ _ _)) rfl ⟨⟨_, _, rfl, .inr ⟨by trivial, (ho2.row5 (fun b hb => by have := ho2.own_lo b hb; omega)).mono (by omega)⟩⟩, hBe⟩
theorem redC_one {s : Int} {n : Nat} {gi : List Int} {rs : List RuleM} {k : Nat} {cs : List Int} (hc : nth cs 0 = k) : redC s n gi rs cs 1 = ((nth gi k != 0) && oneB s n (gi.set k 0) rs) := by
  simp only [redC, anyN, setL, hc, Bool.false_or, Int.toNat_natCast]
theorem rd_one {w : World} {x : Int} : Rd (w.alloc (.cells #[.int .i64 x] 3)) (w.heap.size + 1) (some ⟨w.heap.size, 0, none⟩) 1 [x] := by
  refine ⟨rfl, fun _ => ⟨w.heap.size, 0, rfl, Nat.lt_succ_self _, fun k hk => ?_⟩⟩
  obtain rfl : k = 0 := by omega
  rw [cell_of_row _ _ 0 _ _ (0, 0) (heap_alloc_new w (.cells #[.int .i64 x] 3))]
  rfl
set_option maxHeartbeats 2000000 in
theorem implIsRedundant (s : Int) (Ag : Option Addr) (n cg Bg : Nat) (gi : List Int) (Ar : Option Addr) (nr cr Br : Nat) (rs : List RuleM) (i : Int) (w : World) (hp : PGc w s Ag n cg Bg gi Ar nr cr Br rs) (hT : Tz w) :
    Calls Tryd.prog 27 #[.agg #[.int .i64 s, .slice Ag n cg, .slice Ar nr cr], .int .i64 i] w fun e w' => e = .returned (.bool (redB s n gi rs i)) ∧ Below w.heap.size w w' := by
  have hx0 := pbox_new w s Ag n cg Ar nr cr 30
  have hb0 : Below w.heap.size w (w.alloc (.cells #[.int .i64 s, .slice Ag n cg, .slice Ar nr cr] 30)) := (Below.refl _ _).alloc (Nat.le_refl _) _
  have hs0 : w.heap.size < (w.alloc (.cells #[.int .i64 s, .slice Ag n cg, .slice Ar nr cr] 30)).heap.size := by simp
  obtain ⟨z0, z1, z2⟩ := id hx0
  have HM := Lib.hid (makeable_any s Ag n cg Bg gi Ar nr cr Br rs _ (hp.below hb0) (hT.below hT.lt hb0))
  have hgm := hp.gm
  cases hok : (pvB s gi rs && oneB s n gi rs)
  · have HL := Lib.hid (red_false (i := i) hok)
    rw [hok] at HM
    go_enter Tryd.func27, Tryd.ntmps27
    go_wp2_with (go_at_call 60; refine HM.out.mono ?_; rintro e w1 ⟨rfl, hb1⟩)
    go_ret
    exact ⟨by rw [HL.out]; rfl, step hb0 hb1⟩
  · rw [hok] at HM
    by_cases hlo : i < 0
    · have HL := Lib.hid (show redB s n gi rs i = false by
        have : inr i 0 ((n : Int) - 1) = false := by unfold inr; simp; omega
        simp [redB, givenB, this])
      have hge : ¬ 0 ≤ i := by omega
      go_enter Tryd.func27, Tryd.ntmps27
      go_wp2_with (go_at_call 60; refine HM.out.mono ?_; rintro e w1 ⟨rfl, hb1⟩; obtain ⟨y0, y1, y2⟩ := hx0.below hs0 hb1)
      go_ret
      exact ⟨by rw [HL.out]; rfl, step hb0 hb1⟩
    · by_cases hhi : (n : Int) ≤ i
      · have HL := Lib.hid (show redB s n gi rs i = false by
          have : inr i 0 ((n : Int) - 1) = false := by unfold inr; simp; omega
          simp [redB, givenB, this])
        have hge : 0 ≤ i := by omega
        have hlt : ¬ i < (n : Int) := by omega
        go_enter Tryd.func27, Tryd.ntmps27
        go_wp2_with (go_at_call 60; refine HM.out.mono ?_; rintro e w1 ⟨rfl, hb1⟩; obtain ⟨y0, y1, y2⟩ := hx0.below hs0 hb1)
        go_ret
        exact ⟨by rw [HL.out]; rfl, step hb0 hb1⟩
      · obtain ⟨k, rfl⟩ := Int.eq_ofNat_of_zero_le (show 0 ≤ i by omega)
        have hkn : k < n := by omega
        have hk0 : (0 : Int) ≤ (k : Int) := by omega
        have hkI : (k : Int) < (n : Int) := by omega
        rw [Bool.and_eq_true] at hok
        have HL := Lib.hid ((red_iff hp.g.1 hok.1 hok.2 hkn).trans (redC_one (s := s) (n := n) (gi := gi) (rs := rs) (k := k) (cs := [(k : Int)]) rfl).symm)
        have HR := Lib.hid (fun (w' : World) (hb : Below w.heap.size w w') (Ac : Option Addr) (Bc : Nat) (hc : Rd w' Bc Ac 1 [(k : Int)]) (hB : Bc ≤ w'.heap.size) => redundant_any s Ag n cg Bg gi Ar nr cr Br rs Ac 1 1 Bc [(k : Int)] w' (hp.below hb) hok.1 (by omega) (hT.below hT.lt hb) hc hB (by omega) (fun i hi => by
          obtain rfl : i = 0 := by omega
          exact ⟨hk0, hkI⟩))
        have hgl := hp.g.1
        obtain ⟨bb, hbb⟩ : ∃ bb, bb = redC s n gi rs [(k : Int)] 1 := ⟨_, rfl⟩
        rw [← hbb] at HL HR
        clear hok hp hT hbb hlo hhi
        go_enter Tryd.func27, Tryd.ntmps27
        go_wp2_with (first
          | (go_at_call 60; refine HM.out.mono ?_; rintro e w1 ⟨rfl, hb1⟩; have h01 := step hb0 hb1; obtain ⟨y0, y1, y2⟩ := hx0.below hs0 hb1)
          | (go_at_call 61; refine (HR.out _ (h01.alloc h01.size _) _ _ rd_one (by simp)).mono ?_; rintro e w2 ⟨rfl, hb2⟩; have h02 := step (h01.alloc h01.size _) hb2))
        go_ret
        exact ⟨by rw [HL.out]; cases bb <;> rfl, h02⟩
set_option maxHeartbeats 2000000 in
theorem implIsMinimal (s : Int) (Ag : Option Addr) (n cg Bg : Nat) (gi : List Int) (Ar : Option Addr) (nr cr Br : Nat) (rs : List RuleM) (w : World) (hp : PGc w s Ag n cg Bg gi Ar nr cr Br rs) (hT : Tz w) :
    Calls Tryd.prog 29 #[.agg #[.int .i64 s, .slice Ag n cg, .slice Ar nr cr]] w fun e w' => e = .returned (.bool (minB s n gi rs)) ∧ Below w.heap.size w w' := by
  have hx0 := pbox_new w s Ag n cg Ar nr cr 30
  have hb0 : Below w.heap.size w (w.alloc (.cells #[.int .i64 s, .slice Ag n cg, .slice Ar nr cr] 30)) := (Below.refl _ _).alloc (Nat.le_refl _) _
  have hs0 : w.heap.size < (w.alloc (.cells #[.int .i64 s, .slice Ag n cg, .slice Ar nr cr] 30)).heap.size := by simp
  obtain ⟨z0, z1, z2⟩ := id hx0
  have HM := Lib.hid (makeable_any s Ag n cg Bg gi Ar nr cr Br rs _ (hp.below hb0) (hT.below hT.lt hb0))
  have hgm := hp.gm
  cases hok : (pvB s gi rs && oneB s n gi rs)
  · have HL := Lib.hid (show minB s n gi rs = false by unfold minB; rw [hok]; rfl)
    rw [hok] at HM
    go_enter Tryd.func29, Tryd.ntmps29
    go_wp2_with (go_at_call 60; refine HM.out.mono ?_; rintro e w1 ⟨rfl, hb1⟩)
    go_ret
    exact ⟨by rw [HL.out]; rfl, step hb0 hb1⟩
  · rw [hok] at HM
    have HL := Lib.hid (show minB s n gi rs = !redTo s n gi rs n by unfold minB; rw [hok]; rfl)
    rw [Bool.and_eq_true] at hok
    have HRe := Lib.hid (fun (k : Nat) (hk : k < n) => (red_iff hp.g.1 hok.1 hok.2 hk).trans (redC_one (s := s) (n := n) (gi := gi) (rs := rs) (k := k) (cs := [(k : Int)]) rfl).symm)
    have HR := Lib.hid (fun (k : Nat) (hk : k < n) (w' : World) (hb : Below w.heap.size w w') (Ac : Option Addr) (Bc : Nat) (hc : Rd w' Bc Ac 1 [(k : Int)]) (hB : Bc ≤ w'.heap.size) => redundant_any s Ag n cg Bg gi Ar nr cr Br rs Ac 1 1 Bc [(k : Int)] w' (hp.below hb) hok.1 (by omega) (hT.below hT.lt hb) hc hB (by omega) (fun i hi => by
      obtain rfl : i = 0 := by omega
      show 0 ≤ (k : Int) ∧ (k : Int) < n
      omega))
    have HX := Lib.hid (fun (w' : World) (hb : Below (w.alloc (.cells #[.int .i64 s, .slice Ag n cg, .slice Ar nr cr] 30)).heap.size (w.alloc (.cells #[.int .i64 s, .slice Ag n cg, .slice Ar nr cr] 30)) w') => hx0.below hs0 hb)
    clear hok hp hT
    go_enter Tryd.func29, Tryd.ntmps29
    go_wp2_with (go_at_call 60; refine HM.out.mono ?_; rintro e w1 ⟨rfl, hb1⟩; have h01 := step hb0 hb1; obtain ⟨y0, y1, y2⟩ := HX.out _ hb1)
    go_loopw [10] (fun i wr => ∃ k : Nat, k ≤ n ∧ i = .int .i64 k ∧ Below w1.heap.size w1 wr ∧ Hid (redTo s n gi rs k = false)) (fun i _ => n - (intOf i).toNat)
    case atStart => exact ⟨0, Nat.zero_le _, rfl, Below.refl _ _, Lib.hid rfl⟩
    case round =>
      obtain ⟨k, hk, rfl, hR, hno⟩ := hrel
      obtain ⟨p0, p1, p2⟩ := HX.out _ (step hb1 hR)
      by_cases hlt : k < n
      · have h0k := step h01 hR
        have HC := Lib.hid (HR.out k hlt _ (h0k.alloc h0k.size (.cells #[.int .i64 (k : Int)] 3)) _ _ rd_one (by simp))
        have hba : Below w1.heap.size w1 (wr.alloc (.cells #[.int .i64 (k : Int)] 3)) := hR.alloc hR.size _
        cases hr : redC s n gi rs [(k : Int)] 1
        · rw [hr] at HC
          have Hn := Lib.hid (show redTo s n gi rs (k + 1) = false by simp only [redTo, hno.out, HRe.out k hlt, hr]; rfl)
          clear hr h0k
          go_wp2_with (go_at_call 61; refine HC.out.mono ?_; rintro e w2 ⟨rfl, hb2⟩; have hR2 := step hba hb2)
          go_roundw
          case rel => exact ⟨k + 1, by omega, by go_num, hR2, Hn⟩
          case measure => simp [intOf]; omega
        · rw [hr] at HC
          have Hn := Lib.hid (show redTo s n gi rs n = true from redTo_hit hlt (by rw [HRe.out k hlt, hr]))
          clear hr h0k
          go_wp2_with (go_at_call 61; refine HC.out.mono ?_; rintro e w2 ⟨rfl, hb2⟩; have hR2 := step hba hb2)
          go_ret
          exact ⟨by rw [HL.out, Hn.out]; rfl, step h01 hR2⟩
      · obtain rfl : k = n := by omega
        go_wp2
        go_ret
        exact ⟨by rw [HL.out, hno.out]; rfl, step h01 hR⟩
end Go.Proofs.YtcjdjcpappfkgaaDoor
set_option maxRecDepth 8000
namespace Go.Proofs.YtcjdjcpappfkgaaDoor
open Go.ChangeShapes Go.WideShapes Go.ChangeAt Go.RowKit
/-! 'append([]int{}, t...)', 'append([]impl.Rule{}, t...)': nothing that lay there changes, wherever the empty literal lies. -/
theorem below_none {w w' : World} (h : w.grownBy w' none) : Below w.heap.size w w' := ⟨h.os, h.tape, h.output, h.size, fun k hk => h.block k hk (by simp)⟩
theorem fresh_same {e t : TypeId} (ty : TypeId) {i0 : TypeInfo} {z : Value} (ht : Tryd.prog.underlying t = some (.slice e)) (hi : Tryd.prog.info? e = some i0) (hz : i0.zero = some z) {w : World} (b : Nat) (ad : Addr) (m c2 : Nat) (news : List Value) (hl : news.length = m * i0.size) (hnews : ∀ j u, news[j]? = some u → w.cell? (ad.add j) = some u)
    (hm : 0 < m) (h63 : (m : Int) ≤ 9223372036854775807) (hfit : m * i0.bytes ≤ 281474976710656) :
    (Builtin.append_ #[t, t] ty #[.slice (some ⟨b, 0, none⟩) 0 0, .slice (some ad) m c2]).run Tryd.prog w = (Builtin.append_ #[t, t] ty #[.slice none 0 0, .slice (some ad) m c2]).run Tryd.prog w := by
  rw [run_append_grow w t ty e i0 z ht hi hz ⟨b, 0, none⟩ 0 0 [] (by simp) (by simp) ad m c2 news hl hnews (by omega) (by simpa using h63) (by rw [Nat.zero_add, nextslicecap_zero hm]; exact hfit)]
  rw [run_append_nil w t ty e i0 z ht hi hz ad m c2 news hl hnews (by omega) h63 hfit]
  simp
theorem fresh_ints {w : World} (ty : TypeId) (b : Nat) (A2 : Option Addr) (m c2 B : Nat) (ys : List Int) (hr : Rd w B A2 m ys) (h0 : 0 < m) (hm : m ≤ 1099511627776) :
    ∃ A' c' w', (Builtin.append_ #[22, 22] ty #[.slice (some ⟨b, 0, none⟩) 0 0, .slice A2 m c2]).run Tryd.prog w = .ok (.slice A' m c') w' ∧ Ow w' w.heap.size A' m c' ys ∧ Below w.heap.size w w' := by
  obtain ⟨i0, hi, hz0, hz1, hz2⟩ := info_parts int_info
  obtain ⟨A', c', w', hrun, h1, h2, _⟩ := run_push_all ty w.heap.size none 0 0 [] A2 m c2 B ys (Ow.nil_ _ _) hr (.inr rfl) (by omega) hm (Nat.le_refl _)
  obtain ⟨b2, off, rfl, _, _⟩ := hr.at_ h0
  rw [Nat.zero_add] at hrun h1
  rw [List.nil_append] at h1
  exact ⟨A', c', w', (fresh_same ty Tryd.underlying22 hi hz0 b _ m c2 (vals ys) (by rw [vals_length, hr.1, hz1]; omega) hr.news h0 (by omega) (by rw [hz2]; omega)).trans hrun, h1, below_none h2⟩
theorem fresh_rulesV {w : World} (ty : TypeId) (b : Nat) (A2 : Option Addr) (m c2 lo lo2 : Nat) (rs2 : List RuleM) (vs2 : List Value) (hl2 : rs2.length = m) (hown2 : w.ownsRow lo2 65 3 (.slice A2 m c2) m vs2) (hin2 : InR w lo (.slice none 0 0) rs2 vs2 m)
    (hlit : w.heap[b]? = some (.cells #[] 65)) (hb : lo ≤ b) (hm : m ≤ 1099511627776) (hlo : lo ≤ w.heap.size) :
    ∃ A' c' w', (Builtin.append_ #[28, 28] ty #[.slice (some ⟨b, 0, none⟩) 0 0, .slice A2 m c2]).run Tryd.prog w = .ok (.slice A' m c') w' ∧ (w'.ownsRow lo 65 3 (.slice A' m c') m vs2 ∧ InR w' lo (.slice A' m c') rs2 vs2 m) ∧ Below w.heap.size w w' := by
  obtain ⟨i0, hi, hz0, hz1, hz2⟩ := info_parts rule_parts
  by_cases h0 : 0 < m
  · obtain ⟨A', c', w', hrun, h1, h2, _⟩ := run_push_rulesV ty lo none 0 0 [] [] A2 m c2 rs2 vs2 lo2 rfl (World.ownsRow_nil _ _ _ _) (fun i hi => absurd hi (by omega)) hown2 hin2 (.inl h0) (by omega) hm hlo
    obtain ⟨hvl2, hcase⟩ := id hown2
    rcases hcase with ⟨_, h00⟩ | ⟨g2, cap2, cur, hv, _, hrow, q1, q2, q3, q4⟩
    · omega
    · injection hv with e1 _ e2
      subst e1
      have hcell : ∀ j u, vs2[j]? = some u → w.cell? ((⟨g2, 0, none⟩ : Addr).add j) = some u := fun j u hj => by
        have hadd : (⟨g2, 0, none⟩ : Addr).add j = ⟨g2, j, none⟩ := by unfold Addr.add; split <;> simp_all
        rw [hadd, cell_of_row w g2 j cur _ _ hrow]
        rw [← q4, List.getElem?_take] at hj
        split at hj
        · simpa using hj
        · cases hj
      rw [Nat.zero_add] at hrun h1
      rw [List.nil_append, List.nil_append] at h1
      exact ⟨A', c', w', (fresh_same ty Tryd.underlying28 hi hz0 b _ m c2 vs2 (by rw [hvl2, hz1]) hcell h0 (by omega) (by rw [hz2]; omega)).trans hrun, h1, below_none h2⟩
  · obtain rfl : m = 0 := by omega
    have hsrc : Go.Src Tryd.prog i0.size 28 (.slice A2 0 c2) 0 [] w := by
      cases A2 with
      | none => exact Go.Src.ofNil w Tryd.underlying28 c2
      | some a => exact Go.Src.ofSlice w Tryd.underlying28 a 0 c2 [] (by simp) (fun j u hj => by simp at hj) (fun u hu => by simp at hu)
    refine ⟨some ⟨b, 0, none⟩, 0, w, run_append_nothing w 28 28 ty 65 i0 Tryd.underlying28 hi (some ⟨b, 0, none⟩) 0 0 (Nat.zero_le _) _ hsrc, ⟨by rw [show vs2 = [] from List.eq_nil_of_length_eq_zero (by rw [hown2.1, Nat.zero_mul])]; exact ⟨by simp, .inr ⟨b, 0, #[], rfl, hb, hlit, Nat.le_refl _, by simp [maxLen], by simp, by simp⟩⟩, fun i hi => absurd hi (by omega)⟩, Below.refl _ _⟩
theorem fresh_rules {w : World} (ty : TypeId) (b : Nat) (A2 : Option Addr) (m c2 lo lo2 : Nat) (rs2 : List RuleM) (vs2 : List Value) (hl2 : rs2.length = m) (hown2 : w.ownsRow lo2 65 3 (.slice A2 m c2) m vs2) (hin2 : InR w lo (.slice none 0 0) rs2 vs2 m)
    (hlit : w.heap[b]? = some (.cells #[] 65)) (hb : lo ≤ b) (hm : m ≤ 1099511627776) (hlo : lo ≤ w.heap.size) :
    ∃ A' c' w', (Builtin.append_ #[28, 28] ty #[.slice (some ⟨b, 0, none⟩) 0 0, .slice A2 m c2]).run Tryd.prog w = .ok (.slice A' m c') w' ∧ OwR w' lo (.slice A' m c') rs2 m ∧ Below w.heap.size w w' := by
  obtain ⟨A', c', w', hrun, ⟨k1, k2⟩, k3⟩ := fresh_rulesV ty b A2 m c2 lo lo2 rs2 vs2 hl2 hown2 hin2 hlit hb hm hlo
  exact ⟨A', c', w', hrun, ⟨_, k1, k2⟩, k3⟩
/-- at steps of a region that draws its order. -/
theorem step_fresh_ints {w : World} {ops : Array Oper} {o : Oper} {a : Act} {K : Act → World → Prop} {Q : Exit → Act → World → Prop} {E : Prop} (hgd : o.guard = none) (s x : Operand)
    (ho : o.op = .call { callee := .builtin .append, args := #[s, x], argTypes := #[22, 22] })
    (b : Nat) (A2 : Option Addr) (m c2 B : Nat) (ys : List Int) (hs : a.eval s = .slice (some ⟨b, 0, none⟩) 0 0) (hx : a.eval x = .slice A2 m c2) (hr : Rd w B A2 m ys) (h0 : 0 < m) (hm : m ≤ 1099511627776)
    (h : ∀ A' c' w', Ow w' w.heap.size A' m c' ys → Below w.heap.size w w' → K (a.put o.dst (.slice A' m c')) w') :
    if Region.wanted o (yielded ops a.tmps) = true then Oper.wp Tryd.prog o a w K Q else E := by
  obtain ⟨A', c', w', hrun, h1, h2⟩ := fresh_ints o.type b A2 m c2 B ys hr h0 hm
  have hw : Region.wanted o (yielded ops a.tmps) = true := by simp [Region.wanted, hgd]
  rw [if_pos hw]
  unfold Oper.wp execOp
  simp only [ho, resolve, invoke, builtin, Sem.run_bind, Sem.run_pure, Result.andThen_ok, List.map_toArray, List.map_cons, List.map_nil, hs, hx, hrun]
  exact h A' c' w' h1 h2
theorem step_fresh_rules {w : World} {ops : Array Oper} {o : Oper} {a : Act} {K : Act → World → Prop} {Q : Exit → Act → World → Prop} {E : Prop} (hgd : o.guard = none) (s x : Operand)
    (ho : o.op = .call { callee := .builtin .append, args := #[s, x], argTypes := #[28, 28] })
    (b : Nat) (A2 : Option Addr) (m c2 lo lo2 : Nat) (rs2 : List RuleM) (vs2 : List Value) (hs : a.eval s = .slice (some ⟨b, 0, none⟩) 0 0) (hx : a.eval x = .slice A2 m c2) (hl2 : rs2.length = m) (hown2 : w.ownsRow lo2 65 3 (.slice A2 m c2) m vs2) (hin2 : InR w lo (.slice none 0 0) rs2 vs2 m)
    (hlit : w.heap[b]? = some (.cells #[] 65)) (hb : lo ≤ b) (hm : m ≤ 1099511627776) (hlo : lo ≤ w.heap.size)
    (h : ∀ A' c' w', OwR w' lo (.slice A' m c') rs2 m → Below w.heap.size w w' → K (a.put o.dst (.slice A' m c')) w') :
    if Region.wanted o (yielded ops a.tmps) = true then Oper.wp Tryd.prog o a w K Q else E := by
  obtain ⟨A', c', w', hrun, h1, h2⟩ := fresh_rules o.type b A2 m c2 lo lo2 rs2 vs2 hl2 hown2 hin2 hlit hb hm hlo
  have hw : Region.wanted o (yielded ops a.tmps) = true := by simp [Region.wanted, hgd]
  rw [if_pos hw]
  unfold Oper.wp execOp
  simp only [ho, resolve, invoke, builtin, Sem.run_bind, Sem.run_pure, Result.andThen_ok, List.map_toArray, List.map_cons, List.map_nil, hs, hx, hrun]
  exact h A' c' w' h1 h2
end Go.Proofs.YtcjdjcpappfkgaaDoor
