import Derived.Test.YtkeoflnmbcdmfaaDoorXS10E
import Derived.BigQuiet
import Derived.Test.YtkeoflnmbcdmfaaDoorXSqN
import Derived.Test.YtkeoflnmbcdmfaaDoorXPInD
import Derived.Deep.RegionWith
import Derived.Deep.CutRange
import Derived.Deep.CutBlock
set_option maxRecDepth 8000
namespace Go.Proofs.YtkeoflnmbcdmfaaDoor
open Go.ChangeShapes Go.WideShapes Go.ChangeAt Go.RowKit
theorem redC_two {s : Int} {n k m : Nat} {g cs : List Int} {rs : List RuleM} (hk : 0 ≤ nth g k) (hm : 0 ≤ nth g m) (h0 : nth cs 0 = k) (h1 : nth cs 1 = m) : redC s n g rs cs 2 = (decide (0 < nth g k + nth g m) && oneB s n ((g.set k 0).set m 0) rs) := by
  simp only [redC, anyN, setL, h0, h1, Bool.false_or, Int.toNat_natCast]
  congr 1
  rw [Bool.eq_iff_iff, Bool.or_eq_true, bne_iff_ne, bne_iff_ne, decide_eq_true_iff]
  omega
theorem rd_two {w : World} {x y : Int} : Rd (w.alloc (.cells #[.int .i64 x, .int .i64 y] 3)) (w.heap.size + 1) (some ⟨w.heap.size, 0, none⟩) 2 [x, y] := by
  refine ⟨rfl, fun _ => ⟨w.heap.size, 0, rfl, Nat.lt_succ_self _, fun k hk => ?_⟩⟩
  have : k = 0 ∨ k = 1 := by omega
  rcases this with rfl | rfl
  · rw [cell_of_row _ _ _ _ _ (0, 0) (heap_alloc_new w (.cells #[.int .i64 x, .int .i64 y] 3))]; rfl
  · rw [cell_of_row _ _ _ _ _ (0, 0) (heap_alloc_new w (.cells #[.int .i64 x, .int .i64 y] 3))]; rfl
set_option maxHeartbeats 4000000 in
theorem implMakeEven (s : Int) (Ag : Option Addr) (n cg Bg : Nat) (gi : List Int) (Ar : Option Addr) (nr cr Br : Nat) (rs : List RuleM) (w : World) (hp : PGc w s Ag n cg Bg gi Ar nr cr Br rs) (hT : Tz w) :
    Calls Tryd.prog 38 #[.agg #[.int .i64 s, .slice Ag n cg, .slice Ar nr cr]] w (MkPost (pvB s gi rs && oneB s n gi rs) s n (evL s n rs gi ((n + 1) / 2)) nr rs w) := by
  have hx0 := pbox_new w s Ag n cg Ar nr cr 26
  have hb0 : Below w.heap.size w (w.alloc (.cells #[.int .i64 s, .slice Ag n cg, .slice Ar nr cr] 26)) := (Below.refl _ _).alloc (Nat.le_refl _) _
  have hs0 : w.heap.size < (w.alloc (.cells #[.int .i64 s, .slice Ag n cg, .slice Ar nr cr] 26)).heap.size := by simp
  obtain ⟨V, hV⟩ : ∃ V, V = (w.alloc (.cells #[.int .i64 s, .slice Ag n cg, .slice Ar nr cr] 26)).alloc (.cells #[.int .i64 0, .slice none 0 0, .slice none 0 0] 26) := ⟨_, rfl⟩
  have hbV : Below w.heap.size w V := by rw [hV]; exact hb0.alloc hb0.size _
  have hsV : V.heap.size = w.heap.size + 1 + 1 := by rw [hV]; simp
  have hxV : PBox V w.heap.size s Ag n cg Ar nr cr := by
    rw [hV]
    exact hx0.below hs0 ((Below.refl _ _).alloc (Nat.le_refl _) _)
  have hrow : V.heap[w.heap.size + 1]? = some (.cells #[.int .i64 0, .slice none 0 0, .slice none 0 0] 26) := by rw [hV]; exact heap_alloc2_new w _ _
  have Hone := Lib.hid puz_one
  have Hi := Lib.hid puz_info
  have HM := Lib.hid (makeable_any s Ag n cg Bg gi Ar nr cr Br rs V (hp.below hbV) (hT.below hT.lt hbV))
  have HX := Lib.hid (fun (w' : World) (hb : Below V.heap.size V w') => (⟨hxV.below (by omega) hb, (hb.block (w.heap.size + 1) (by omega)).trans hrow⟩ : PBox w' w.heap.size s Ag n cg Ar nr cr ∧ w'.heap[w.heap.size + 1]? = some (.cells #[.int .i64 0, .slice none 0 0, .slice none 0 0] 26)))
  have HV := Lib.hid hV
  have HbV := Lib.hid hbV
  obtain ⟨z0, z1, z2⟩ := id hxV
  cases hok : (pvB s gi rs && oneB s n gi rs)
  · rw [hok] at HM
    clear hV hx0 hb0 hs0 hp hT hxV hrow hok hbV
    go_enter Tryd.func38, Tryd.ntmps38
    go_wp2_with (first
      | (go_at_call 63; rw [← HV.out]; refine HM.out.mono ?_; rintro e w1 ⟨rfl, hb1⟩; obtain ⟨_, hr1⟩ := HX.out _ hb1)
      | (refine wpList_store_row rfl 26 _ _ rfl (w.heap.size + 1) #[.int .i64 0, .slice none 0 0, .slice none 0 0] rfl rfl 26 #[.int .i64 0, .slice none 0 0, .slice none 0 0] hr1 (Hi.out _ _ _ _ _ _ _) rfl (Hone.out _ _ _ _ _ _ _) ?_))
    have hBe : Below w.heap.size w (w1.setRow (w.heap.size + 1) #[.int .i64 0, .slice none 0 0, .slice none 0 0]) := setRow_below5 (HbV.out.trans (hb1.mono HbV.out.size)) (by omega)
    exact bodyPost_ret (v := .tuple #[.agg #[.int .i64 0, .slice none 0 0, .slice none 0 0], .bool false]) (results_row_tmp (by rfl) _ _ (w.heap.size + 1) 26 _ (0, 0) _ _ rfl rfl (setRow_heap _ _ _ _ _ _ hr1) Tryd.underlying26 rfl (Hi.out _ _ _ _ _ _ _)) rfl ⟨hBe, .inl ⟨by trivial, rfl⟩⟩
  · rw [hok] at HM
    rw [Bool.and_eq_true] at hok
    obtain ⟨hv, ho1⟩ := hok
    obtain ⟨t, rfl, hs, hnn, hn16, _⟩ := pv_grid hv hp.g.1
    have hn : n = t * t := by simp at hs; rcases hs with rfl | rfl | rfl <;> omega
    have hn0 : 0 < n := by simp at hs; rcases hs with rfl | rfl | rfl <;> omega
    have hgl := hp.g.1
    have hrl := hp.r.1
    have hnr : nr ≤ 20 := by have := (pv_gv hv).2.1; omega
    have hL : ∀ i, i < nr → 0 < (rat rs i).xs.length := fun i hi => (rv_cells ((pv_gv hv).2.2 i (by omega))).1
    have HC := Lib.hid (fun (w' : World) (hb : Below w.heap.size w w') => copied_any (t : Int) Ag n cg Bg gi Ar nr cr Br rs w' (hp.below hb).rd hn0 (by omega) hL)
    have HInv := Lib.hid (fun k => evL_inv (s := t) (n := n) hv ho1 k)
    have HTz := Lib.hid (fun (w' : World) (hb : Below w.heap.size w w') => hT.below hT.lt hb)
    have HGl := Lib.hid hgl
    have HRl := Lib.hid hrl
    clear hV hx0 hb0 hs0 hp hT hxV hrow hbV hL hs hnn hn hgl hrl hv ho1
    go_enter Tryd.func38, Tryd.ntmps38
    go_wp2_with (first
      | (go_at_call 63; rw [← HV.out]; refine HM.out.mono ?_; rintro e w1 ⟨rfl, hb1⟩; obtain ⟨⟨y0, y1, y2⟩, _⟩ := HX.out _ hb1; have h01 := HbV.out.trans (hb1.mono HbV.out.size))
      | (go_at_call 67; refine (HC.out _ h01).mono ?_; rintro e w3 ⟨A3, c3, g, rfl, hown, hb3⟩; have hb13 := step hb1 hb3; have hbX : Below V.heap.size V (w3.alloc (.cells #[.int .i64 (t : Int), .slice A3 n c3, .slice (some ⟨g, 0, none⟩) nr nr] 26)) := hb13.alloc hb13.size _; obtain ⟨⟨x0, x1, x2⟩, _⟩ := HX.out _ hbX))
    have hrX := heap_alloc_new w3 (.cells #[.int .i64 (t : Int), .slice A3 n c3, .slice (some ⟨g, 0, none⟩) nr nr] 26)
    have hownX := hown.below ((Below.refl w3.heap.size w3).alloc (Nat.le_refl _) (.cells #[.int .i64 (t : Int), .slice A3 n c3, .slice (some ⟨g, 0, none⟩) nr nr] 26))
    have hV1 := hb1.size
    have hV3 := hb3.size
    have hbX3 : Below w3.heap.size w3 (w3.alloc (.cells #[.int .i64 (t : Int), .slice A3 n c3, .slice (some ⟨g, 0, none⟩) nr nr] 26)) := (Below.refl _ _).alloc (Nat.le_refl _) _
    have Hb13 := Lib.hid hb13
    have hrXd : ∀ q, ((w3.alloc (.cells #[.int .i64 (t : Int), .slice A3 n c3, .slice (some ⟨g, 0, none⟩) nr nr] 26)).drewN q).heap[w3.heap.size]? = some (.cells #[.int .i64 (t : Int), .slice A3 n c3, .slice (some ⟨g, 0, none⟩) nr nr] 26) := fun q => hrX
    clear y0 y1 y2 z0 z1 z2 hbX hown hb3 hb1 h01 hb13
    have hwrn : IntKind.i64.wrap ((n : Int) - 1) = (n : Int) - 1 := IntWalk.i64_in _ (by omega)
    go_quiet (fail)
    go_wp2
    go_loopw [5, 6] (fun i l wr => ∃ (k : Nat) (A7 : Option Addr) (c7 : Nat) (y : Int), 2 * k ≤ n + 1 ∧ i = .int .i64 k ∧ l = .int .i64 y ∧ y = (n : Int) - 1 - k ∧ wr.heap[w3.heap.size]? = some (.cells #[.int .i64 (t : Int), .slice A7 n c7, .slice (some ⟨g, 0, none⟩) nr nr] 26) ∧ OwnP wr w1.heap.size A7 n c7 (evL (t : Int) n rs gi k) g nr rs ∧ Below w3.heap.size w3 wr) (fun i _ _ => n - (intOf i).toNat)
    case atStart => exact ⟨0, A3, c3, _, by omega, rfl, rfl, by omega, (hrXd _), (hownX.below (below_drewN (Below.refl _ _) _)), hbX3.trans ((below_drewN (Below.refl _ _) _).mono hbX3.size)⟩
    case round =>
      obtain ⟨k, A7, c7, y, hk, rfl, rfl, hy, hr7, ho7, hb7⟩ := hrel
      obtain ⟨x0, x1, x2⟩ : PBox wr w3.heap.size (t : Int) A7 n c7 (some ⟨g, 0, none⟩) nr nr := ⟨cell_of_row _ _ 0 _ _ (0, 0) hr7, cell_of_row _ _ 1 _ _ (0, 0) hr7, cell_of_row _ _ 2 _ _ (0, 0) hr7⟩
      have hsX : w3.heap.size < wr.heap.size := (Array.getElem?_eq_some_iff.1 hr7).1
      by_cases hlt : 2 * k + 1 ≤ n
      · obtain ⟨m, rfl⟩ := Int.eq_ofNat_of_zero_le (show 0 ≤ y by omega)
        have hltI : (k : Int) ≤ (m : Int) := by omega
        have hmm : m = n - 1 - k := by omega
        have hwr1 : IntKind.i64.wrap ((k : Int) + 1) = (k : Int) + 1 := IntWalk.i64_in _ (by omega)
        have hwr2 : IntKind.i64.wrap ((m : Int) - 1) = (m : Int) - 1 := IntWalk.i64_in _ (by omega)
        have hbk : Below wr.heap.size wr (wr.alloc (.cells #[.int .i64 (k : Int), .int .i64 (m : Int)] 3)) := (Below.refl _ _).alloc (Nat.le_refl _) _
        have hpk := (ho7.pgc (s := (t : Int)) (by omega) HRl.out (by omega)).below hbk
        have hbw : Below w.heap.size w (wr.alloc (.cells #[.int .i64 (k : Int), .int .i64 (m : Int)] 3)) := HbV.out.trans ((Hb13.out.trans ((step hb7 hbk).mono Hb13.out.size)).mono HbV.out.size)
        have HRb := Lib.hid (reducedBy_any (t : Int) A7 n c7 wr.heap.size (evL (t : Int) n rs gi k) (some ⟨g, 0, none⟩) nr nr wr.heap.size rs (some ⟨wr.heap.size, 0, none⟩) 2 2 (wr.heap.size + 1) [(k : Int), (m : Int)] (wr.alloc (.cells #[.int .i64 (k : Int), .int .i64 (m : Int)] 3)) hpk (HInv.out k).v (by omega) (HTz.out _ hbw) rd_two (by simp) (by omega) (fun i hi => by
          have : i = 0 ∨ i = 1 := by omega
          rcases this with rfl | rfl
          · show 0 ≤ (k : Int) ∧ (k : Int) < n
            omega
          · show 0 ≤ (m : Int) ∧ (m : Int) < n
            omega))
        have hlk : (evL (t : Int) n rs gi k).length = n := (evL_length _ _ _ _ k).trans HGl.out
        have HEv := Lib.hid (show evL (t : Int) n rs gi (k + 1) = if redC (t : Int) n (evL (t : Int) n rs gi k) rs [(k : Int), (m : Int)] 2 = true then ((evL (t : Int) n rs gi k).set k 0).set m 0 else evL (t : Int) n rs gi k by
          rw [redC_two (gv_nth (pv_gv (HInv.out k).v).1 (show k < _ by omega)).1 (gv_nth (pv_gv (HInv.out k).v).1 (show m < _ by omega)).1 rfl rfl, evL, ← hmm])
        have Hbk := Lib.hid hbk
        have Ho7 := Lib.hid ho7
        have Hb7 := Lib.hid hb7
        have Hlt := Lib.hid hlt
        have Hy := Lib.hid hy
        clear hpk hbw hlk ho7 hb7 hbk hmm hy hlt hk
        go_wp2_with (first
          | (go_at_call 68; refine HRb.out.mono ?_; rintro e w8 ⟨⟨A8, c8, rfl, hcase⟩, hb8⟩; have hb78 := step Hbk.out hb8; have hr8 := (hb78.block w3.heap.size hsX).trans hr7)
          | (refine wpList_store_row rfl 26 _ _ rfl w3.heap.size #[.int .i64 (t : Int), .slice A8 n c8, .slice (some ⟨g, 0, none⟩) nr nr] rfl rfl 26 #[.int .i64 (t : Int), .slice A7 n c7, .slice (some ⟨g, 0, none⟩) nr nr] hr8 (Hi.out _ _ _ _ _ _ _) rfl (Hone.out _ _ _ _ _ _ _) ?_))
        have hB8 := step Hb7.out hb78
        have hfin : OwnP w8 w1.heap.size A8 n c8 (evL (t : Int) n rs gi (k + 1)) g nr rs := by
          rcases hcase with ⟨h1, rfl, rfl⟩ | ⟨h1, h2⟩
          · rw [HEv.out, h1]; simpa using Ho7.out.below hb78
          · rw [HEv.out, h1, if_pos rfl]
            exact Ho7.out.fresh hb78 (h2.mono Hbk.out.size) (Nat.le_trans hV3 (Nat.le_of_lt hsX))
        go_roundw
        case rel =>
          have q1 := Hlt.out
          have q2 := Hy.out
          exact ⟨k + 1, A8, c8, _, by omega, by go_num, rfl, by omega, setRow_heap _ _ _ _ _ _ hr8, hfin.setX hr8, setRow_below5 hB8 (Nat.le_refl _)⟩
        case measure => have q1 := Hlt.out; simp [intOf]; omega
      · have hltI : ¬ (k : Int) ≤ y := by omega
        have hkk : k = (n + 1) / 2 := by omega
        have hbV7 : Below V.heap.size V wr := step Hb13.out hb7
        have hq7 := (HX.out _ hbV7).2
        rw [hkk] at ho7
        have Ho7 := Lib.hid ho7
        have Hb7 := Lib.hid hbV7
        clear ho7 hb7 hbV7 hkk hlt hk hy
        go_wp2_with (refine wpList_store_row rfl 26 _ _ rfl (w.heap.size + 1) #[.int .i64 (t : Int), .slice A7 n c7, .slice (some ⟨g, 0, none⟩) nr nr] rfl rfl 26 #[.int .i64 0, .slice none 0 0, .slice none 0 0] hq7 (Hi.out _ _ _ _ _ _ _) rfl (Hone.out _ _ _ _ _ _ _) ?_)
        have hBe : Below w.heap.size w (wr.setRow (w.heap.size + 1) #[.int .i64 (t : Int), .slice A7 n c7, .slice (some ⟨g, 0, none⟩) nr nr]) := setRow_below5 (HbV.out.trans (Hb7.out.mono HbV.out.size)) (by omega)
        exact bodyPost_ret (v := .tuple #[.agg #[.int .i64 (t : Int), .slice A7 n c7, .slice (some ⟨g, 0, none⟩) nr nr], .bool true]) (results_row_tmp (by rfl) _ _ (w.heap.size + 1) 26 _ (0, 0) _ _ rfl rfl (setRow_heap _ _ _ _ _ _ hq7) Tryd.underlying26 rfl (Hi.out _ _ _ _ _ _ _)) rfl ⟨hBe, .inr ⟨by trivial, A7, c7, g, rfl, (Ho7.out.setX hq7).mono (by omega)⟩⟩
end Go.Proofs.YtkeoflnmbcdmfaaDoor
set_option maxRecDepth 8000
namespace Go.Proofs.YtkeoflnmbcdmfaaDoor
open Go.ChangeShapes Go.WideShapes Go.ChangeAt Go.RowKit
theorem EvPost_no {s : Int} {n nr : Nat} {gi : List Int} {rs : List RuleM} {w w' : World} {e : Ending} (h : EvPost s n gi nr rs w e w') (hf : (pvB s gi rs && oneB s n gi rs) = false) : Below w.heap.size w w' ∧ e = .returned (.tuple #[.agg #[.int .i64 0, .slice none 0 0, .slice none 0 0], .bool false]) := by
  obtain ⟨h1, h2 | h2⟩ := h
  · exact ⟨h1, h2.1⟩
  · rw [hf] at h2; exact absurd h2.1 (by simp)
theorem EvPost_yes {s : Int} {n nr : Nat} {gi : List Int} {rs : List RuleM} {w w' : World} {e : Ending} (h : EvPost s n gi nr rs w e w') (hf : (pvB s gi rs && oneB s n gi rs) = true) : Below w.heap.size w w' ∧ ∃ A1 c1 A2 c2, e = .returned (.tuple #[.agg #[.int .i64 s, .slice A1 n c1, .slice A2 nr c2], .bool true]) ∧ Rd w' w'.heap.size A1 n (evL s n rs gi ((n + 1) / 2)) ∧ OwR w' w.heap.size (.slice A2 nr c2) rs nr := by
  obtain ⟨h1, h2 | h2⟩ := h
  · rw [hf] at h2; exact absurd h2.2 (by simp)
  · obtain ⟨_, A1, c1, A2, c2, K, e, a, b, c, d⟩ := h2
    exact ⟨h1, A1, c1, A2, c2, e, a.rd, c⟩
set_option maxHeartbeats 4000000 in
theorem exactMakeEven_walk (s : Int) (Ag : Option Addr) (cg ng : Nat) (gi : List Int) (Ar : Option Addr) (cr nr : Nat) (rs : List RuleM) (w : World) (hgi : Rd w w.heap.size Ag ng gi) (hgm : ng ≤ 9223372036854775807) (hr : RdRx w w.heap.size Ar nr rs) (hrm : nr ≤ 9223372036854775807) (hT : Tz w) :
    Calls Tryd.prog 12 #[.agg #[.int .i64 s, .slice Ag ng cg, .slice Ar nr cr]] w fun e w' => e = .returned (.bool true) ∧ Below w.heap.size w w' := by
  have hx0 := pbox_new w s Ag ng cg Ar nr cr 37
  have hb0 : Below w.heap.size w (w.alloc (.cells #[.int .i64 s, .slice Ag ng cg, .slice Ar nr cr] 37)) := (Below.refl _ _).alloc (Nat.le_refl _) _
  have hs0 : (w.alloc (.cells #[.int .i64 s, .slice Ag ng cg, .slice Ar nr cr] 37)).heap.size = w.heap.size + 1 := by simp
  obtain ⟨W, hW⟩ : ∃ W, w.alloc (.cells #[.int .i64 s, .slice Ag ng cg, .slice Ar nr cr] 37) = W := ⟨_, rfl⟩
  rw [hW] at hx0 hb0 hs0
  have HX := Lib.hid (fun w' (hb : Below W.heap.size W w') => hx0.below (by omega : w.heap.size < W.heap.size) hb)
  have HB := Lib.hid (fun w' (hb : Below W.heap.size W w') => step hb0 hb)
  have hrl := Lib.hid hr.1
  have hgl := hgi.1
  have HSZ := Lib.hid (fun w' (hb : Below w.heap.size w w') => szPuzzle_any s Ag cg ng Ar cr nr w.heap.size rs 1048576 w' hgm (hr.below hb) hb.size hrm (by omega) (by omega))
  have HSZ0 := Lib.hid (HSZ.out _ hb0)
  obtain ⟨a0, a1, a2⟩ := id hx0
  have HW := Lib.hid hW
  clear hW
  go_enter Tryd.func12, Tryd.ntmps12
  go_wp2_with fail
  rw [HW.out]
  refine HSZ0.out.mono ?_
  rintro e w1 ⟨r, rfl, hb1, hr1⟩
  rcases hr1 with rfl | ⟨r0, hl1, hl2, hl3⟩
  · go_wp2
    go_ret
    exact ⟨rfl, HB.out _ hb1⟩
  · have hrneg : ¬ r < 0 := by omega
    have hng20 : ng ≤ 1048576 := by omega
    have hmg : ng ≤ 1099511627776 := by omega
    have hmr : nr ≤ 1099511627776 := by omega
    have hnr : nr ≤ 1048576 := by omega
    have HL20 := Lib.hid (show ∀ i, i < nr → (rat rs i).xs.length ≤ 1048576 from fun i hi => by have := hl3 i hi; omega)
    have HRS := Lib.hid (fun w' (hb : Below w.heap.size w w') => (hr.below hb).small (fun i hi => by have := hl3 i hi; omega))
    have HTP := Lib.hid (fun w' (hb : Below w.heap.size w w') => toPuzzle_any s Ag cg ng w.heap.size gi Ar cr nr w.heap.size rs w' (hgi.below hb) hb.size hmg (HRS.out _ hb) hb.size hnr)
    have HTz := Lib.hid (fun w' (hb : Below w.heap.size w w') => hT.below hT.lt hb)
    clear hl1 hl2 hl3
    obtain ⟨c0, c1, c2⟩ := HX.out _ hb1
    go_wp2_with fail
    refine (HTP.out _ (HB.out _ hb1)).mono ?_
    rintro e w2 ⟨A2, g2, rfl, ho2, hor2, hb2⟩
    have h02 := step hb1 hb2
    have hp2 : PGs w2 s A2 ng ng w2.heap.size gi (some ⟨g2, 0, none⟩) nr nr w2.heap.size rs := ⟨ho2.rd, Nat.le_refl _, hmg, hor2.rd hrl.out, Nat.le_refl _, hmr⟩
    have HS2 := Lib.hid (specMakeEven _ _ _ _ _ _ _ _ _ _ _ _ hp2 (by omega))
    clear ho2 hor2 hp2
    cases hok : (pvB s gi rs && oneB s ng gi rs)
    · have Hok := Lib.hid hok
      clear hok
      go_wp2_with fail
      refine HS2.out.mono ?_
      rintro e w3 h3
      obtain ⟨hb3, rfl⟩ := EvPost_no h3 Hok.out
      have hb3a : Below w3.heap.size w3 (w3.alloc (.cells #[.int .i64 0, .slice none 0 0, .slice none 0 0] 26)) := (Below.refl _ _).alloc (Nat.le_refl _) _
      obtain ⟨V3, hV3⟩ : ∃ V3, w3.alloc (.cells #[.int .i64 0, .slice none 0 0, .slice none 0 0] 26) = V3 := ⟨_, rfl⟩
      have hw0 := pbox_new w3 0 none 0 0 none 0 0 26
      have hs3 : V3.heap.size = w3.heap.size + 1 := by rw [← hV3]; simp
      rw [hV3] at hb3a hw0
      have h03 := step h02 (step hb3 hb3a)
      have HW0 := Lib.hid (fun w' (hb : Below V3.heap.size V3 w') => hw0.below (by omega : w3.heap.size < V3.heap.size) hb)
      have hd := HX.out _ h03
      rw [← hV3] at hd
      obtain ⟨d0, d1, d2⟩ := hd
      have HV3 := Lib.hid hV3
      clear c0 c1 c2 hV3 hw0
      go_wp2_with fail
      rw [HV3.out]
      refine (HTP.out _ (HB.out _ h03)).mono ?_
      rintro e w4 ⟨A4, g4, rfl, ho4, hor4, hb4⟩
      have hy4 := pbox_new w4 s A4 ng ng (some ⟨g4, 0, none⟩) nr nr 26
      have hb5 : Below w4.heap.size w4 (w4.alloc (.cells #[.int .i64 s, .slice A4 ng ng, .slice (some ⟨g4, 0, none⟩) nr nr] 26)) := (Below.refl _ _).alloc (Nat.le_refl _) _
      have hs5 : (w4.alloc (.cells #[.int .i64 s, .slice A4 ng ng, .slice (some ⟨g4, 0, none⟩) nr nr] 26)).heap.size = w4.heap.size + 1 := by simp
      obtain ⟨w5, hw5⟩ : ∃ w5, w4.alloc (.cells #[.int .i64 s, .slice A4 ng ng, .slice (some ⟨g4, 0, none⟩) nr nr] 26) = w5 := ⟨_, rfl⟩
      rw [hw5] at hy4 hb5 hs5
      have hpc4 : PGc w4 s A4 ng ng w4.heap.size gi (some ⟨g4, 0, none⟩) nr nr w4.heap.size rs := ⟨ho4.rd, Nat.le_refl _, hmg, hor4.rdc hrl.out, Nat.le_refl _, hmr⟩
      have HP4 := Lib.hid (fun w' (hb : Below w4.heap.size w4 w') => hpc4.below hb)
      have HY := Lib.hid (fun w' (hb : Below w5.heap.size w5 w') => hy4.below (by omega : w4.heap.size < w5.heap.size) hb)
      have h45 := step hb4 hb5
      have h05 := step h03 h45
      obtain ⟨e0, e1, e2⟩ := id hy4
      have Hw5 := Lib.hid hw5
      have HI5x := Lib.hid (fun (A' : Option Addr) (B' : Nat) (Ar' : Option Addr) (Br' : Nat) (w' : World) (hp : PGc w' s A' ng ng B' gi Ar' nr nr Br' rs) (hT : Tz w') => by
        have := implMakeEven _ _ _ _ _ _ _ _ _ _ _ _ hp hT
        rw [Hok.out] at this
        exact this)
      have HI5 := Lib.hid (HI5x.out _ _ _ _ _ (HP4.out _ hb5) (HTz.out _ (HB.out _ h05)))
      have HO4 := Lib.hid ho4
      have HOR4 := Lib.hid hor4
      clear hw5 hpc4 ho4 hor4 d0 d1 d2
      go_wp2_with fail
      rw [Hw5.out]
      refine HI5.out.mono ?_
      rintro e w6 h6
      obtain ⟨hb6, rfl⟩ := mkp_no h6
      have hb6a : Below w6.heap.size w6 (w6.alloc (.cells #[.int .i64 0, .slice none 0 0, .slice none 0 0] 26)) := (Below.refl _ _).alloc (Nat.le_refl _) _
      have hg0 := pbox_new w6 0 none 0 0 none 0 0 26
      obtain ⟨w7, hw7⟩ : ∃ w7, w6.alloc (.cells #[.int .i64 0, .slice none 0 0, .slice none 0 0] 26) = w7 := ⟨_, rfl⟩
      have hs7 : w7.heap.size = w6.heap.size + 1 := by rw [← hw7]; simp
      rw [hw7] at hb6a hg0
      have h57 := step hb6 hb6a
      have h37 := step h45 h57
      have h07 := step h05 h57
      have HG0 := Lib.hid (fun w' (hb : Below w7.heap.size w7 w') => hg0.below (by omega : w6.heap.size < w7.heap.size) hb)
      have hf := HW0.out _ h37
      rw [← hw7] at hf
      obtain ⟨f0, f1, f2⟩ := hf
      have Hw7 := Lib.hid hw7
      clear e0 e1 e2 hw7
      have HE8 := Lib.hid (eq_nil w7)
      go_wp2_with fail
      rw [Hw7.out]
      refine HE8.out.mono ?_
      rintro e w8 ⟨rfl, hb8⟩
      have h38 := step h37 hb8
      have h58 := step h57 hb8
      have h08 := step h07 hb8
      have h78 := hb8
      obtain ⟨i0, i1, i2⟩ := HX.out _ h08
      obtain ⟨j0, j1, j2⟩ := HY.out _ h58
      have hBA : Below w.heap.size w w8.drew := (HB.out _ h08).drew
      have hP8 := (HP4.out _ (step hb5 h58)).rd
      clear f0 f1 f2
      go_upto_region 10 with fail
      go_cut [45] from 10 (fun bv wx => bv = .bool false ∧ Below w8.heap.size w8 wx)
      case first =>
        go_wp2
        go_region_with (first | (go_at_call 25; (with_reducible refine (HTP.out _ ?hd).mono ?_); (case hd => exact hBA); rintro e w7 ⟨A7, g7, rfl, ho8, hor8, hb8d⟩; have hb8' := below_undrew hb8d; clear hb8d; obtain ⟨q0, q1, q2⟩ := HY.out _ (step h58 hb8'); have hp8 := hP8.below hb8'; have hgr8 := ho8.rd; have hrr8 := hor8.rd hrl.out) | (go_at_call 26; (with_reducible refine (eqPuzzle_any s A4 A7 ng ng ng _ _ gi (some ⟨g4, 0, none⟩) (some ⟨g7, 0, none⟩) nr nr nr _ _ rs _ hp8.g hp8.gB hmg hgr8 ?hB hp8.r hrr8 hp8.rB ?hB2 hmr).mono ?_); (case hB => exact Nat.le_refl _); (case hB2 => exact Nat.le_refl _); rintro e w8' ⟨rfl, hb9⟩))
        all_goals
          go_wp2
          go_meet
          case rel => first | exact ⟨rfl, step hb8' hb9⟩ | exact ⟨by trivial, step hb8' hb9⟩ | exact step hb8' hb9
      case rest =>
        obtain ⟨rfl, hbx⟩ := hcut
        have h3c := step h38 hbx
        have h5c := step h58 hbx
        have h7c := step h78 hbx
        have h0c := step h08 hbx
        obtain ⟨j0, j1, j2⟩ := HY.out _ h5c
        have HMk := Lib.hid (markPuzzle_any s A4 ng ng g4 nr nr V3.heap.size w4.heap.size gi rs 1 w4 wc HO4.out HOR4.out (Nat.le_refl _) (step hb5 h5c) hng20 hnr HL20.out (by omega) (by omega))
        have hwc := h3c.size
        clear i0 i1 i2
        go_wp2_with fail
        refine HMk.out.mono ?_
        rintro e w9 ⟨⟨q, rfl, q0, _⟩, hbm⟩
        have h39 : Below V3.heap.size V3 w9 := h3c.trans (hbm.below (Nat.le_refl _) hwc)
        have hc9 := hbm.size
        have hqn : ¬ q < 0 := by omega
        have hg9 : PBox w9 w6.heap.size 0 none 0 0 none 0 0 := by
          have hh := HG0.out _ h7c
          have q1 := h45.size
          have q2 := hb6.size
          have q3 := h7c.size
          have hcell : ∀ i, w9.cell? ⟨w6.heap.size, i, none⟩ = wc.cell? ⟨w6.heap.size, i, none⟩ := fun i => World.cell?_of_block (a := ⟨w6.heap.size, i, none⟩) (hbm.block w6.heap.size (by omega) (.inr (by omega)))
          exact ⟨(hcell 0).trans hh.1, (hcell 1).trans hh.2.1, (hcell 2).trans hh.2.2⟩
        obtain ⟨k0, k1, k2⟩ := id hg9
        obtain ⟨l0, l1, l2⟩ := HW0.out _ h39
        have h09 := step h03 h39
        have HE9 := Lib.hid (eq_nil w9)
        clear hbm j0 j1 j2
        go_wp2_with fail
        refine HE9.out.mono ?_
        rintro e w10 ⟨rfl, hb10⟩
        have h310 := step h39 hb10
        have h010 := step h09 hb10
        have hg10 := hg9.below (by have := h7c.size; have := hc9; omega : w6.heap.size < w9.heap.size) hb10
        obtain ⟨m0, m1, m2⟩ := id hg10
        go_wp2_with fail
        clear k0 k1 k2 l0 l1 l2
        refine (mark_nil w10).mono ?_
        rintro e w11 ⟨rfl, hb11⟩
        have h311 := step h310 hb11
        have hs610 : w6.heap.size < w10.heap.size := by have := h7c.size; have := hc9; have := hb10.size; omega
        have hg11 := hg10.below hs610 hb11
        have hs11 : w6.heap.size < w11.heap.size := Nat.lt_of_lt_of_le hs610 hb11.size
        have HH := Lib.hid (fun w' (_ : Below w11.heap.size w11 w') => held_nil w')
        have h011 := step h03 h311
        obtain ⟨n0, n1, n2⟩ := id hg11
        clear m0 m1 m2
        go_wp2_with fail
        refine (HH.out _ (Below.refl _ _)).mono ?_
        rintro e w12 ⟨rfl, hb12⟩
        have h312 := step h311 hb12
        have h012 := step h011 hb12
        obtain ⟨o0, o1, o2⟩ := HX.out _ h012
        clear n0 n1 n2
        go_wp2_with fail
        refine (HTP.out _ (HB.out _ h012)).mono ?_
        rintro e w13 ⟨A13, g13, rfl, ho13, hor13, hb13⟩
        have hpc13 : PGc w13 s A13 ng ng w13.heap.size gi (some ⟨g13, 0, none⟩) nr nr w13.heap.size rs := ⟨ho13.rd, Nat.le_refl _, hmg, hor13.rdc hrl.out, Nat.le_refl _, hmr⟩
        have h313 := step h312 hb13
        have h013 := step h012 hb13
        have HI13 := HI5x.out _ _ _ _ _ hpc13 (HTz.out _ (HB.out _ h013))
        have HI13 := Lib.hid HI13
        clear o0 o1 o2 ho13 hor13 hpc13
        go_wp2_with fail
        refine HI13.out.mono ?_
        rintro e w14 h14
        obtain ⟨hb14, rfl⟩ := mkp_no h14
        have hb14a : Below w14.heap.size w14 (w14.alloc (.cells #[.int .i64 0, .slice none 0 0, .slice none 0 0] 26)) := (Below.refl _ _).alloc (Nat.le_refl _) _
        obtain ⟨w15, hw15⟩ : ∃ w15, w14.alloc (.cells #[.int .i64 0, .slice none 0 0, .slice none 0 0] 26) = w15 := ⟨_, rfl⟩
        rw [hw15] at hb14a
        have h315 := step h313 (step hb14 hb14a)
        have h1115 := step hb12 (step hb13 (step hb14 hb14a))
        have hr15 := HW0.out _ h315
        rw [← hw15] at hr15
        obtain ⟨r0, r1, r2⟩ := hr15
        have Hw15 := Lib.hid hw15
        clear hw15
        have HE15 := Lib.hid (eq_nil w15)
        go_wp2_with fail
        rw [Hw15.out]
        refine HE15.out.mono ?_
        rintro e w16 ⟨rfl, hb16⟩
        have h1116 := step h1115 hb16
        obtain ⟨s0, s1, s2⟩ := hg11.below hs11 h1116
        clear r0 r1 r2
        go_wp2_with fail
        refine (HH.out _ h1116).mono ?_
        rintro e w17 ⟨rfl, hb17⟩
        go_wp2
        go_ret
        exact ⟨rfl, HB.out _ (step h011 (step h1116 hb17))⟩
    · have Hok := Lib.hid hok
      rw [Bool.and_eq_true] at hok
      obtain ⟨hv, hone⟩ := hok
      obtain ⟨t, rfl, hs, hnn, hn16, _⟩ := pv_grid hv hgl
      have hnr20 : nr ≤ 20 := by have := (pv_gv hv).2.1; have := hrl.out; omega
      obtain ⟨X, hX⟩ : ∃ X, X = evL (t : Int) ng rs gi ((ng + 1) / 2) := ⟨_, rfl⟩
      have HSY := Lib.hid (fun e w' (h : EvPost (t : Int) ng gi nr rs w2 e w') => (by
        have := EvPost_yes h Hok.out
        rw [← hX] at this
        exact this))
      clear hv hone hs hnn
      go_wp2_with fail
      refine HS2.out.mono ?_
      rintro e w3 h3
      obtain ⟨hb3, A0, cA0, A0r, c0r, rfl, hr0, hor0⟩ := HSY.out _ _ h3
      have hb3a : Below w3.heap.size w3 (w3.alloc (.cells #[.int .i64 (t : Int), .slice A0 ng cA0, .slice A0r nr c0r] 26)) := (Below.refl _ _).alloc (Nat.le_refl _) _
      obtain ⟨V3, hV3⟩ : ∃ V3, w3.alloc (.cells #[.int .i64 (t : Int), .slice A0 ng cA0, .slice A0r nr c0r] 26) = V3 := ⟨_, rfl⟩
      have hw0 := pbox_new w3 (t : Int) A0 ng cA0 A0r nr c0r 26
      have hs3 : V3.heap.size = w3.heap.size + 1 := by rw [← hV3]; simp
      rw [hV3] at hb3a hw0
      have h03 := step h02 (step hb3 hb3a)
      have HW0 := Lib.hid (fun w' (hb : Below V3.heap.size V3 w') => hw0.below (by omega : w3.heap.size < V3.heap.size) hb)
      have HR0 := Lib.hid (fun w' (hb : Below V3.heap.size V3 w') => (⟨(hr0.below hb3a).below (hb.mono hb3a.size), ((hor0.rd hrl.out).below hb3a).below (hb.mono hb3a.size)⟩ : Rd w' w3.heap.size A0 ng X ∧ RdRs w' w3.heap.size A0r nr rs))
      clear hr0 hor0
      have hd := HX.out _ h03
      rw [← hV3] at hd
      obtain ⟨d0, d1, d2⟩ := hd
      have HV3 := Lib.hid hV3
      clear c0 c1 c2 hV3 hw0
      go_wp2_with fail
      rw [HV3.out]
      refine (HTP.out _ (HB.out _ h03)).mono ?_
      rintro e w4 ⟨A4, g4, rfl, ho4, hor4, hb4⟩
      have hy4 := pbox_new w4 (t : Int) A4 ng ng (some ⟨g4, 0, none⟩) nr nr 26
      have hb5 : Below w4.heap.size w4 (w4.alloc (.cells #[.int .i64 (t : Int), .slice A4 ng ng, .slice (some ⟨g4, 0, none⟩) nr nr] 26)) := (Below.refl _ _).alloc (Nat.le_refl _) _
      have hs5 : (w4.alloc (.cells #[.int .i64 (t : Int), .slice A4 ng ng, .slice (some ⟨g4, 0, none⟩) nr nr] 26)).heap.size = w4.heap.size + 1 := by simp
      obtain ⟨w5, hw5⟩ : ∃ w5, w4.alloc (.cells #[.int .i64 (t : Int), .slice A4 ng ng, .slice (some ⟨g4, 0, none⟩) nr nr] 26) = w5 := ⟨_, rfl⟩
      rw [hw5] at hy4 hb5 hs5
      have hpc4 : PGc w4 (t : Int) A4 ng ng w4.heap.size gi (some ⟨g4, 0, none⟩) nr nr w4.heap.size rs := ⟨ho4.rd, Nat.le_refl _, hmg, hor4.rdc hrl.out, Nat.le_refl _, hmr⟩
      have HP4 := Lib.hid (fun w' (hb : Below w4.heap.size w4 w') => hpc4.below hb)
      have HY := Lib.hid (fun w' (hb : Below w5.heap.size w5 w') => hy4.below (by omega : w4.heap.size < w5.heap.size) hb)
      have h45 := step hb4 hb5
      have h05 := step h03 h45
      obtain ⟨e0, e1, e2⟩ := id hy4
      have Hw5 := Lib.hid hw5
      have HI5x := Lib.hid (fun (A' : Option Addr) (B' : Nat) (Ar' : Option Addr) (Br' : Nat) (w' : World) (hp : PGc w' (t : Int) A' ng ng B' gi Ar' nr nr Br' rs) (hT : Tz w') => by
        have := implMakeEven _ _ _ _ _ _ _ _ _ _ _ _ hp hT
        rw [Hok.out, ← hX] at this
        exact this)
      have HI5 := Lib.hid (HI5x.out _ _ _ _ _ (HP4.out _ hb5) (HTz.out _ (HB.out _ h05)))
      have HO4 := Lib.hid ho4
      have HOR4 := Lib.hid hor4
      clear hw5 hpc4 ho4 hor4 d0 d1 d2 hX
      go_wp2_with fail
      rw [Hw5.out]
      refine HI5.out.mono ?_
      rintro e w6 h6
      obtain ⟨hb6, A5, c5, g5, rfl, hown⟩ := mkp_yes h6
      have hb6a : Below w6.heap.size w6 (w6.alloc (.cells #[.int .i64 (t : Int), .slice A5 ng c5, .slice (some ⟨g5, 0, none⟩) nr nr] 26)) := (Below.refl _ _).alloc (Nat.le_refl _) _
      have hg0 := pbox_new w6 (t : Int) A5 ng c5 (some ⟨g5, 0, none⟩) nr nr 26
      obtain ⟨w7, hw7⟩ : ∃ w7, w6.alloc (.cells #[.int .i64 (t : Int), .slice A5 ng c5, .slice (some ⟨g5, 0, none⟩) nr nr] 26) = w7 := ⟨_, rfl⟩
      have hs7 : w7.heap.size = w6.heap.size + 1 := by rw [← hw7]; simp
      rw [hw7] at hb6a hg0
      have h57 := step hb6 hb6a
      have h37 := step h45 h57
      have h07 := step h05 h57
      have HG0 := Lib.hid (fun w' (hb : Below w7.heap.size w7 w') => hg0.below (by omega : w6.heap.size < w7.heap.size) hb)
      have hown7 := hown.h.below hb6a
      clear hown
      have hf := HW0.out _ h37
      rw [← hw7] at hf
      obtain ⟨f0, f1, f2⟩ := hf
      have Hw7 := Lib.hid hw7
      clear e0 e1 e2 hw7
      have HE8 := Lib.hid (eqPuzzle_any (t : Int) A5 A0 c5 cA0 ng w7.heap.size w3.heap.size X (some ⟨g5, 0, none⟩) A0r nr c0r nr w7.heap.size w3.heap.size rs w7 hown7.1.rd (Nat.le_refl _) hmg (HR0.out _ h37).1 (by have := (h37).size; omega) (hown7.rdrs hrl.out) (HR0.out _ h37).2 (Nat.le_refl _) (by have := (h37).size; omega) hmr)
      go_wp2_with fail
      rw [Hw7.out]
      refine HE8.out.mono ?_
      rintro e w8 ⟨rfl, hb8⟩
      have h38 := step h37 hb8
      have h58 := step h57 hb8
      have h08 := step h07 hb8
      have h78 := hb8
      obtain ⟨i0, i1, i2⟩ := HX.out _ h08
      obtain ⟨j0, j1, j2⟩ := HY.out _ h58
      have hBA : Below w.heap.size w w8.drew := (HB.out _ h08).drew
      have hP8 := (HP4.out _ (step hb5 h58)).rd
      have hown8 := hown7.below hb8
      clear hown7
      clear f0 f1 f2
      go_upto_region 10 with fail
      go_cut [45] from 10 (fun bv wx => bv = .bool false ∧ Below w8.heap.size w8 wx)
      case first =>
        go_wp2
        go_region_with (first | (go_at_call 25; (with_reducible refine (HTP.out _ ?hd).mono ?_); (case hd => exact hBA); rintro e w7 ⟨A7, g7, rfl, ho8, hor8, hb8d⟩; have hb8' := below_undrew hb8d; clear hb8d; obtain ⟨q0, q1, q2⟩ := HY.out _ (step h58 hb8'); have hp8 := hP8.below hb8'; have hgr8 := ho8.rd; have hrr8 := hor8.rd hrl.out) | (go_at_call 26; (with_reducible refine (eqPuzzle_any (t : Int) A4 A7 ng ng ng _ _ gi (some ⟨g4, 0, none⟩) (some ⟨g7, 0, none⟩) nr nr nr _ _ rs _ hp8.g hp8.gB hmg hgr8 ?hB hp8.r hrr8 hp8.rB ?hB2 hmr).mono ?_); (case hB => exact Nat.le_refl _); (case hB2 => exact Nat.le_refl _); rintro e w8' ⟨rfl, hb9⟩))
        all_goals
          go_wp2
          go_meet
          case rel => first | exact ⟨rfl, step hb8' hb9⟩ | exact ⟨by trivial, step hb8' hb9⟩ | exact step hb8' hb9
      case rest =>
        obtain ⟨rfl, hbx⟩ := hcut
        have h3c := step h38 hbx
        have h5c := step h58 hbx
        have h7c := step h78 hbx
        have h0c := step h08 hbx
        obtain ⟨j0, j1, j2⟩ := HY.out _ h5c
        have HMk := Lib.hid (markPuzzle_any (t : Int) A4 ng ng g4 nr nr V3.heap.size w4.heap.size gi rs 1 w4 wc HO4.out HOR4.out (Nat.le_refl _) (step hb5 h5c) hng20 hnr HL20.out (by omega) (by omega))
        have hwc := h3c.size
        have hownc := hown8.below hbx
        clear hown8
        clear i0 i1 i2
        go_wp2_with fail
        refine HMk.out.mono ?_
        rintro e w9 ⟨⟨q, rfl, q0, _⟩, hbm⟩
        have h39 : Below V3.heap.size V3 w9 := h3c.trans (hbm.below (Nat.le_refl _) hwc)
        have hc9 := hbm.size
        have hqn : ¬ q < 0 := by omega
        have hg9 : PBox w9 w6.heap.size (t : Int) A5 ng c5 (some ⟨g5, 0, none⟩) nr nr := by
          have hh := HG0.out _ h7c
          have q1 := h45.size
          have q2 := hb6.size
          have q3 := h7c.size
          have hcell : ∀ i, w9.cell? ⟨w6.heap.size, i, none⟩ = wc.cell? ⟨w6.heap.size, i, none⟩ := fun i => World.cell?_of_block (a := ⟨w6.heap.size, i, none⟩) (hbm.block w6.heap.size (by omega) (.inr (by omega)))
          exact ⟨(hcell 0).trans hh.1, (hcell 1).trans hh.2.1, (hcell 2).trans hh.2.2⟩
        obtain ⟨k0, k1, k2⟩ := id hg9
        obtain ⟨l0, l1, l2⟩ := HW0.out _ h39
        have h09 := step h03 h39
        have hown9 := hownc.bt hbm (by have := h45.size; omega)
        have HE9 := Lib.hid (eqPuzzle_any (t : Int) A5 A0 c5 cA0 ng w9.heap.size w3.heap.size X (some ⟨g5, 0, none⟩) A0r nr c0r nr w9.heap.size w3.heap.size rs w9 hown9.1.rd (Nat.le_refl _) hmg (HR0.out _ h39).1 (by have := h39.size; omega) (hown9.rdrs hrl.out) (HR0.out _ h39).2 (Nat.le_refl _) (by have := h39.size; omega) hmr)
        clear hbm j0 j1 j2
        go_wp2_with fail
        refine HE9.out.mono ?_
        rintro e w10 ⟨rfl, hb10⟩
        have h310 := step h39 hb10
        have h010 := step h09 hb10
        have hg10 := hg9.below (by have := h7c.size; have := hc9; omega : w6.heap.size < w9.heap.size) hb10
        obtain ⟨m0, m1, m2⟩ := id hg10
        go_wp2_with fail
        have hown10 := hown9.below hb10
        have HM10 := Lib.hid (markPuzzle_own (t : Int) A5 ng c5 g5 nr w5.heap.size w6.heap.size X rs w10 hown10 hng20 (by omega) HL20.out)
        have hs610 : w6.heap.size < w10.heap.size := by have := h7c.size; have := hc9; have := hb10.size; omega
        have hs3w5 : V3.heap.size ≤ w5.heap.size := h45.size
        have hs0310 := h310.size
        clear hown9 hown10 k0 k1 k2 l0 l1 l2
        refine HM10.out.mono ?_
        rintro e w11 ⟨rfl, hz11, hb11⟩
        have h311 : Below V3.heap.size V3 w11 := h310.trans (hb11.below hs3w5 hs0310)
        have hg11 : PBox w11 w6.heap.size (t : Int) A5 ng c5 (some ⟨g5, 0, none⟩) nr nr := by
          have hcell : ∀ i, w11.cell? ⟨w6.heap.size, i, none⟩ = w10.cell? ⟨w6.heap.size, i, none⟩ := fun i => World.cell?_of_block (a := ⟨w6.heap.size, i, none⟩) (hb11.block w6.heap.size hs610 (.inr (Nat.le_refl _)))
          exact ⟨(hcell 0).trans hg10.1, (hcell 1).trans hg10.2.1, (hcell 2).trans hg10.2.2⟩
        have hs11 : w6.heap.size < w11.heap.size := Nat.lt_of_lt_of_le hs610 hb11.size
        have HH := Lib.hid (fun w' (hb : Below w11.heap.size w11 w') => heldPuzzle_own (t : Int) A5 ng c5 g5 nr rs w' (hz11.below hb) hng20 (by omega) HL20.out)
        obtain ⟨b0, _⟩ := xN_bd (m := 1 + (ng : Int)) HL20.out (by omega) (Nat.le_refl nr)
        obtain ⟨M, hM⟩ : ∃ M, M = xN (1 + ng) rs nr := ⟨_, rfl⟩
        rw [← hM] at HH b0
        rw [← hM]
        have hMn : ¬ M < 0 := by omega
        have hMM : (M != M) = false := by simp
        clear hM hz11
        have h011 := step h03 h311
        obtain ⟨n0, n1, n2⟩ := id hg11
        clear m0 m1 m2
        go_wp2_with fail
        refine (HH.out _ (Below.refl _ _)).mono ?_
        rintro e w12 ⟨rfl, hb12⟩
        have h312 := step h311 hb12
        have h012 := step h011 hb12
        obtain ⟨o0, o1, o2⟩ := HX.out _ h012
        clear n0 n1 n2
        go_wp2_with fail
        refine (HTP.out _ (HB.out _ h012)).mono ?_
        rintro e w13 ⟨A13, g13, rfl, ho13, hor13, hb13⟩
        have hpc13 : PGc w13 (t : Int) A13 ng ng w13.heap.size gi (some ⟨g13, 0, none⟩) nr nr w13.heap.size rs := ⟨ho13.rd, Nat.le_refl _, hmg, hor13.rdc hrl.out, Nat.le_refl _, hmr⟩
        have h313 := step h312 hb13
        have h013 := step h012 hb13
        have HI13 := HI5x.out _ _ _ _ _ hpc13 (HTz.out _ (HB.out _ h013))
        have HI13 := Lib.hid HI13
        clear o0 o1 o2 ho13 hor13 hpc13
        go_wp2_with fail
        refine HI13.out.mono ?_
        rintro e w14 h14
        obtain ⟨hb14, A12h, c12h, g12h, rfl, hown14⟩ := mkp_yes h14
        have hb14a : Below w14.heap.size w14 (w14.alloc (.cells #[.int .i64 (t : Int), .slice A12h ng c12h, .slice (some ⟨g12h, 0, none⟩) nr nr] 26)) := (Below.refl _ _).alloc (Nat.le_refl _) _
        obtain ⟨w15, hw15⟩ : ∃ w15, w14.alloc (.cells #[.int .i64 (t : Int), .slice A12h ng c12h, .slice (some ⟨g12h, 0, none⟩) nr nr] 26) = w15 := ⟨_, rfl⟩
        rw [hw15] at hb14a
        have h315 := step h313 (step hb14 hb14a)
        have h1115 := step hb12 (step hb13 (step hb14 hb14a))
        have hr15 := HW0.out _ h315
        rw [← hw15] at hr15
        obtain ⟨r0, r1, r2⟩ := hr15
        have Hw15 := Lib.hid hw15
        clear hw15
        have hown15 := hown14.h.below hb14a
        have HE15 := Lib.hid (eqPuzzle_any (t : Int) A12h A0 c12h cA0 ng w15.heap.size w3.heap.size X (some ⟨g12h, 0, none⟩) A0r nr c0r nr w15.heap.size w3.heap.size rs w15 hown15.1.rd (Nat.le_refl _) hmg (HR0.out _ h315).1 (by have := h315.size; omega) (hown15.rdrs hrl.out) (HR0.out _ h315).2 (Nat.le_refl _) (by have := h315.size; omega) hmr)
        clear hown14 hown15
        go_wp2_with fail
        rw [Hw15.out]
        refine HE15.out.mono ?_
        rintro e w16 ⟨rfl, hb16⟩
        have h1116 := step h1115 hb16
        obtain ⟨s0, s1, s2⟩ := hg11.below hs11 h1116
        clear r0 r1 r2
        go_wp2_with fail
        refine (HH.out _ h1116).mono ?_
        rintro e w17 ⟨rfl, hb17⟩
        go_wp2
        go_ret
        exact ⟨rfl, HB.out _ (step h011 (step h1116 hb17))⟩
end Go.Proofs.YtkeoflnmbcdmfaaDoor
