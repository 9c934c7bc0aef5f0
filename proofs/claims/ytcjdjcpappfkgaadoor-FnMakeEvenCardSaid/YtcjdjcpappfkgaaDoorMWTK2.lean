import Derived.Test.YtcjdjcpappfkgaaDoorMWTM
import Derived.Test.YtcjdjcpappfkgaaDoorMMn
import Derived.Test.YtcjdjcpappfkgaaDoorP5
import Derived.Test.YtcjdjcpappfkgaaDoorMM3
import Derived.Deep.RegionHeld3
import Derived.BigQuiet
set_option maxRecDepth 8000
namespace Go.Proofs.YtcjdjcpappfkgaaDoor
open Go.ChangeShapes Go.WideShapes Go.ChangeAt Go.RowKit
theorem OwnP.below {w w' : World} {lo n c1 g nr : Nat} {A1 : Option Addr} {gi : List Int} {rs : List RuleM} (h : OwnP w lo A1 n c1 gi g nr rs) (hb : Below w.heap.size w w') : OwnP w' lo A1 n c1 gi g nr rs := by
  obtain ⟨h1, Q, h2, h3, h4⟩ := h
  exact ⟨h1.below hb, Q, h2.below hb, fun b hq => Nat.lt_of_lt_of_le (h3 b hq) hb.size, h4⟩
theorem OwnP.fresh {w w' : World} {lo n c1 c2 g nr : Nat} {A1 A2 : Option Addr} {gi gi' : List Int} {rs : List RuleM} (h : OwnP w lo A1 n c1 gi g nr rs) (hb : Below w.heap.size w w') (ho : Ow w' w.heap.size A2 n c2 gi') (hlo : lo ≤ w.heap.size) : OwnP w' lo A2 n c2 gi' g nr rs := by
  obtain ⟨_, Q, h2, h3, _⟩ := h
  exact ⟨ho.mono hlo, Q, h2.below hb, fun b hq => Nat.lt_of_lt_of_le (h3 b hq) hb.size, fun b hbb hq => by have := ho.own_lo b hbb; have := h3 b hq; omega⟩
theorem OwRd.setX {w : World} {lo g n X : Nat} {rs : List RuleM} {Q : Nat → Prop} {k : Nat} {cs cs' : Array Value} (h : OwRd w lo g n rs Q k) (hX : w.heap[X]? = some (.cells cs 30)) : OwRd (w.setRow X cs') lo g n rs Q k := by
  obtain ⟨vs, a, b, c⟩ := h
  refine ⟨vs, ownsRow_setX a hX (by decide), fun i hi => ?_, c⟩
  obtain ⟨A', c', e0, e1, e2, e3, e4, e5⟩ := b i hi
  exact ⟨A', c', e0, e1, e2, e3.setX hX, e4, e5⟩
theorem OwnP.setX {w : World} {lo n c1 g nr X : Nat} {A1 : Option Addr} {gi : List Int} {rs : List RuleM} {cs cs' : Array Value} (h : OwnP w lo A1 n c1 gi g nr rs) (hX : w.heap[X]? = some (.cells cs 30)) : OwnP (w.setRow X cs') lo A1 n c1 gi g nr rs := by
  obtain ⟨h1, Q, h2, h3, h4⟩ := h
  exact ⟨h1.setX hX, Q, h2.setX hX, fun b hq => by have := h3 b hq; simpa using this, h4⟩
theorem OwnP.mono {w : World} {lo lo' n c1 g nr : Nat} {A1 : Option Addr} {gi : List Int} {rs : List RuleM} (h : OwnP w lo A1 n c1 gi g nr rs) (hl : lo' ≤ lo) : OwnP w lo' A1 n c1 gi g nr rs := by
  obtain ⟨h1, Q, h2, h3, h4⟩ := h
  exact ⟨h1.mono hl, Q, h2.mono hl, h3, h4⟩
theorem OwnP.pgc {w : World} {s : Int} {lo n c1 g nr : Nat} {A1 : Option Addr} {gi : List Int} {rs : List RuleM} (h : OwnP w lo A1 n c1 gi g nr rs) (hm : n ≤ 1099511627776) (hl : rs.length = nr) (hr : nr ≤ 1099511627776) : PGc w s A1 n c1 w.heap.size gi (some ⟨g, 0, none⟩) nr nr w.heap.size rs := by
  obtain ⟨h1, Q, h2, _⟩ := h
  exact ⟨h1.rd, Nat.le_refl _, hm, OwR.rdc hl h2.rp.full, Nat.le_refl _, hr⟩
/-- the zero value and false, or a puzzle of the call's own and true. -/
def MkPost (ok : Bool) (s : Int) (n : Nat) (L : List Int) (nr : Nat) (rs : List RuleM) (w : World) (e : Ending) (w' : World) : Prop :=
  Below w.heap.size w w' ∧ ((ok = false ∧ e = .returned (.tuple #[.agg #[.int .i64 0, .slice none 0 0, .slice none 0 0], .bool false])) ∨
    (ok = true ∧ ∃ A1 c1 g, e = .returned (.tuple #[.agg #[.int .i64 s, .slice A1 n c1, .slice (some ⟨g, 0, none⟩) nr nr], .bool true]) ∧ OwnP w' w.heap.size A1 n c1 L g nr rs))
set_option maxHeartbeats 4000000 in
theorem implMakeMinimal (s : Int) (Ag : Option Addr) (n cg Bg : Nat) (gi : List Int) (Ar : Option Addr) (nr cr Br : Nat) (rs : List RuleM) (w : World) (hp : PGc w s Ag n cg Bg gi Ar nr cr Br rs) (hT : Tz w) :
    Calls Tryd.prog 31 #[.agg #[.int .i64 s, .slice Ag n cg, .slice Ar nr cr]] w (MkPost (pvB s gi rs && oneB s n gi rs) s n (minL s n rs gi n) nr rs w) := by
  have hx0 := pbox_new w s Ag n cg Ar nr cr 30
  have hb0 : Below w.heap.size w (w.alloc (.cells #[.int .i64 s, .slice Ag n cg, .slice Ar nr cr] 30)) := (Below.refl _ _).alloc (Nat.le_refl _) _
  have hs0 : w.heap.size < (w.alloc (.cells #[.int .i64 s, .slice Ag n cg, .slice Ar nr cr] 30)).heap.size := by simp
  obtain ⟨V, hV⟩ : ∃ V, V = (w.alloc (.cells #[.int .i64 s, .slice Ag n cg, .slice Ar nr cr] 30)).alloc (.cells #[.int .i64 0, .slice none 0 0, .slice none 0 0] 30) := ⟨_, rfl⟩
  have hbV : Below w.heap.size w V := by rw [hV]; exact hb0.alloc hb0.size _
  have hsV : V.heap.size = w.heap.size + 1 + 1 := by rw [hV]; simp
  have hxV : PBox V w.heap.size s Ag n cg Ar nr cr := by
    rw [hV]
    exact hx0.below hs0 ((Below.refl _ _).alloc (Nat.le_refl _) _)
  have hrow : V.heap[w.heap.size + 1]? = some (.cells #[.int .i64 0, .slice none 0 0, .slice none 0 0] 30) := by rw [hV]; exact heap_alloc2_new w _ _
  have Hone := Lib.hid puz_one
  have Hi := Lib.hid puz_info
  have HM := Lib.hid (makeable_any s Ag n cg Bg gi Ar nr cr Br rs V (hp.below hbV) (hT.below hT.lt hbV))
  have HX := Lib.hid (fun (w' : World) (hb : Below V.heap.size V w') => (⟨hxV.below (by omega) hb, (hb.block (w.heap.size + 1) (by omega)).trans hrow⟩ : PBox w' w.heap.size s Ag n cg Ar nr cr ∧ w'.heap[w.heap.size + 1]? = some (.cells #[.int .i64 0, .slice none 0 0, .slice none 0 0] 30)))
  have HV := Lib.hid hV
  have HbV := Lib.hid hbV
  obtain ⟨z0, z1, z2⟩ := id hxV
  cases hok : (pvB s gi rs && oneB s n gi rs)
  · rw [hok] at HM
    clear hV hx0 hb0 hs0 hp hT hxV hrow hok hbV
    go_enter Tryd.func31, Tryd.ntmps31
    go_wp2_with (first
      | (go_at_call 60; rw [← HV.out]; refine HM.out.mono ?_; rintro e w1 ⟨rfl, hb1⟩; obtain ⟨_, hr1⟩ := HX.out _ hb1)
      | (refine wpList_store_row rfl 30 _ _ rfl (w.heap.size + 1) #[.int .i64 0, .slice none 0 0, .slice none 0 0] rfl rfl 30 #[.int .i64 0, .slice none 0 0, .slice none 0 0] hr1 (Hi.out _ _ _ _ _ _ _) rfl (Hone.out _ _ _ _ _ _ _) ?_))
    have hBe : Below w.heap.size w (w1.setRow (w.heap.size + 1) #[.int .i64 0, .slice none 0 0, .slice none 0 0]) := setRow_below5 (HbV.out.trans (hb1.mono HbV.out.size)) (by omega)
    exact bodyPost_ret (v := .tuple #[.agg #[.int .i64 0, .slice none 0 0, .slice none 0 0], .bool false]) (results_row_tmp (by rfl) _ _ (w.heap.size + 1) 30 _ (0, 0) _ _ rfl rfl (setRow_heap _ _ _ _ _ _ hr1) Tryd.underlying30 rfl (Hi.out _ _ _ _ _ _ _)) rfl ⟨hBe, .inl ⟨by trivial, rfl⟩⟩
  · rw [hok] at HM
    rw [Bool.and_eq_true] at hok
    obtain ⟨hv, ho1⟩ := hok
    obtain ⟨t, rfl, hs, hnn, hn16, _⟩ := pv_grid hv hp.g.1
    have hn : n = t * t := by simp at hs; rcases hs with rfl | rfl | rfl <;> omega
    have hn0 : 0 < n := by simp at hs; rcases hs with rfl | rfl | rfl <;> omega
    have hgl := hp.g.1
    have hrl := hp.r.1
    have hnr : nr ≤ 20 := by have := (pv_gv hv).2.1; omega
    have hL : ∀ i, i < nr → 0 < (rat rs i).xs.length := fun i hi => (rv_cells ((pv_gv hv).2.2 i (by omega))).1
    have HC := Lib.hid (fun (w' : World) (hb : Below w.heap.size w w') => copied_any (t : Int) Ag n cg Bg gi Ar nr cr Br rs w' (hp.below hb).rd hn0 (by omega) hL)
    have HInv := Lib.hid (fun k => minL_inv (s := t) (n := n) hv ho1 k)
    have HTz := Lib.hid (fun (w' : World) (hb : Below w.heap.size w w') => hT.below hT.lt hb)
    have HGl := Lib.hid hgl
    have HRl := Lib.hid hrl
    clear hV hx0 hb0 hs0 hp hT hxV hrow hbV hL hs hnn hn hgl hrl hv ho1
    go_enter Tryd.func31, Tryd.ntmps31
    go_wp2_with (first
      | (go_at_call 60; rw [← HV.out]; refine HM.out.mono ?_; rintro e w1 ⟨rfl, hb1⟩; obtain ⟨⟨y0, y1, y2⟩, _⟩ := HX.out _ hb1; have h01 := HbV.out.trans (hb1.mono HbV.out.size))
      | (go_at_call 63; refine (HC.out _ h01).mono ?_; rintro e w3 ⟨A3, c3, g, rfl, hown, hb3⟩; have hb13 := step hb1 hb3; have hbX : Below V.heap.size V (w3.alloc (.cells #[.int .i64 (t : Int), .slice A3 n c3, .slice (some ⟨g, 0, none⟩) nr nr] 30)) := hb13.alloc hb13.size _; obtain ⟨⟨x0, x1, x2⟩, _⟩ := HX.out _ hbX))
    have hrX := heap_alloc_new w3 (.cells #[.int .i64 (t : Int), .slice A3 n c3, .slice (some ⟨g, 0, none⟩) nr nr] 30)
    have hownX := hown.below ((Below.refl w3.heap.size w3).alloc (Nat.le_refl _) (.cells #[.int .i64 (t : Int), .slice A3 n c3, .slice (some ⟨g, 0, none⟩) nr nr] 30))
    have hV1 := hb1.size
    have hV3 := hb3.size
    have hbX3 : Below w3.heap.size w3 (w3.alloc (.cells #[.int .i64 (t : Int), .slice A3 n c3, .slice (some ⟨g, 0, none⟩) nr nr] 30)) := (Below.refl _ _).alloc (Nat.le_refl _) _
    have Hb13 := Lib.hid hb13
    clear x0 x1 x2 y0 y1 y2 z0 z1 z2 hbX hown hb3 hb1 h01 hb13
    go_loopw [15] (fun i wr => ∃ (k : Nat) (A7 : Option Addr) (c7 : Nat), k ≤ n ∧ i = .int .i64 k ∧ wr.heap[w3.heap.size]? = some (.cells #[.int .i64 (t : Int), .slice A7 n c7, .slice (some ⟨g, 0, none⟩) nr nr] 30) ∧ OwnP wr w1.heap.size A7 n c7 (minL (t : Int) n rs gi k) g nr rs ∧ Below w3.heap.size w3 wr) (fun i _ => n - (intOf i).toNat)
    case atStart => exact ⟨0, A3, c3, Nat.zero_le _, rfl, hrX, hownX, hbX3⟩
    case round =>
      obtain ⟨k, A7, c7, hk, rfl, hr7, ho7, hb7⟩ := hrel
      obtain ⟨x0, x1, x2⟩ : PBox wr w3.heap.size (t : Int) A7 n c7 (some ⟨g, 0, none⟩) nr nr := ⟨cell_of_row _ _ 0 _ _ (0, 0) hr7, cell_of_row _ _ 1 _ _ (0, 0) hr7, cell_of_row _ _ 2 _ _ (0, 0) hr7⟩
      have hsX : w3.heap.size < wr.heap.size := (Array.getElem?_eq_some_iff.1 hr7).1
      by_cases hlt : k < n
      · have hltI : (k : Int) < (n : Int) := by omega
        have hbk : Below wr.heap.size wr (wr.alloc (.cells #[.int .i64 (k : Int)] 3)) := (Below.refl _ _).alloc (Nat.le_refl _) _
        have hpk := (ho7.pgc (s := (t : Int)) (by omega) HRl.out (by omega)).below hbk
        have hbw : Below w.heap.size w (wr.alloc (.cells #[.int .i64 (k : Int)] 3)) := HbV.out.trans ((Hb13.out.trans ((step hb7 hbk).mono Hb13.out.size)).mono HbV.out.size)
        have HRb := Lib.hid (reducedBy_any (t : Int) A7 n c7 wr.heap.size (minL (t : Int) n rs gi k) (some ⟨g, 0, none⟩) nr nr wr.heap.size rs (some ⟨wr.heap.size, 0, none⟩) 1 1 (wr.heap.size + 1) [(k : Int)] (wr.alloc (.cells #[.int .i64 (k : Int)] 3)) hpk (HInv.out k).v (by omega) (HTz.out _ hbw) rd_one (by simp) (by omega) (fun i hi => by
          obtain rfl : i = 0 := by omega
          show 0 ≤ (k : Int) ∧ (k : Int) < n
          omega))
        have hlk : (minL (t : Int) n rs gi k).length = n := (minL_length _ _ _ _ k).trans HGl.out
        have HRed := Lib.hid (show redB (t : Int) n (minL (t : Int) n rs gi k) rs k = redC (t : Int) n (minL (t : Int) n rs gi k) rs [(k : Int)] 1 from (red_iff hlk (HInv.out k).v (HInv.out k).o hlt).trans (redC_one rfl).symm)
        have Hbk := Lib.hid hbk
        have Ho7 := Lib.hid ho7
        have Hb7 := Lib.hid hb7
        clear hpk hbw hlk ho7 hb7 hbk
        go_wp2_with (first
          | (go_at_call 64; refine HRb.out.mono ?_; rintro e w8 ⟨⟨A8, c8, rfl, hcase⟩, hb8⟩; have hb78 := step Hbk.out hb8; have hr8 := (hb78.block w3.heap.size hsX).trans hr7)
          | (refine wpList_store_row rfl 30 _ _ rfl w3.heap.size #[.int .i64 (t : Int), .slice A8 n c8, .slice (some ⟨g, 0, none⟩) nr nr] rfl rfl 30 #[.int .i64 (t : Int), .slice A7 n c7, .slice (some ⟨g, 0, none⟩) nr nr] hr8 (Hi.out _ _ _ _ _ _ _) rfl (Hone.out _ _ _ _ _ _ _) ?_))
        have hB8 := step Hb7.out hb78
        have hfin : OwnP w8 w1.heap.size A8 n c8 (minL (t : Int) n rs gi (k + 1)) g nr rs := by
          rcases hcase with ⟨h1, rfl, rfl⟩ | ⟨h1, h2⟩
          · have : minL (t : Int) n rs gi (k + 1) = minL (t : Int) n rs gi k := by rw [minL, HRed.out, h1]; simp
            rw [this]; exact Ho7.out.below hb78
          · have : minL (t : Int) n rs gi (k + 1) = (minL (t : Int) n rs gi k).set k 0 := by rw [minL, HRed.out, h1]; simp
            rw [this]
            exact Ho7.out.fresh hb78 (h2.mono Hbk.out.size) (Nat.le_trans hV3 (Nat.le_of_lt hsX))
        go_roundw
        case rel => exact ⟨k + 1, A8, c8, hlt, by go_num, setRow_heap _ _ _ _ _ _ hr8, hfin.setX hr8, setRow_below5 hB8 (Nat.le_refl _)⟩
        case measure => simp [intOf]; omega
      · obtain rfl : k = n := by omega
        have hbV7 : Below V.heap.size V wr := step Hb13.out hb7
        have hq7 := (HX.out _ hbV7).2
        have Ho7 := Lib.hid ho7
        have Hb7 := Lib.hid hbV7
        clear ho7 hb7 hbV7
        go_wp2_with (refine wpList_store_row rfl 30 _ _ rfl (w.heap.size + 1) #[.int .i64 (t : Int), .slice A7 k c7, .slice (some ⟨g, 0, none⟩) nr nr] rfl rfl 30 #[.int .i64 0, .slice none 0 0, .slice none 0 0] hq7 (Hi.out _ _ _ _ _ _ _) rfl (Hone.out _ _ _ _ _ _ _) ?_)
        have hBe : Below w.heap.size w (wr.setRow (w.heap.size + 1) #[.int .i64 (t : Int), .slice A7 k c7, .slice (some ⟨g, 0, none⟩) nr nr]) := setRow_below5 (HbV.out.trans (Hb7.out.mono HbV.out.size)) (by omega)
        exact bodyPost_ret (v := .tuple #[.agg #[.int .i64 (t : Int), .slice A7 k c7, .slice (some ⟨g, 0, none⟩) nr nr], .bool true]) (results_row_tmp (by rfl) _ _ (w.heap.size + 1) 30 _ (0, 0) _ _ rfl rfl (setRow_heap _ _ _ _ _ _ hq7) Tryd.underlying30 rfl (Hi.out _ _ _ _ _ _ _)) rfl ⟨hBe, .inr ⟨by trivial, A7, c7, g, rfl, (Ho7.out.setX hq7).mono (by omega)⟩⟩
end Go.Proofs.YtcjdjcpappfkgaaDoor
set_option maxRecDepth 8000
namespace Go.Proofs.YtcjdjcpappfkgaaDoor
open Go.ChangeShapes Go.WideShapes Go.ChangeAt Go.RowKit
set_option maxHeartbeats 2000000 in
theorem samePuzzle_any (s : Int) (Ag Ag2 : Option Addr) (cg cg2 n Bg Bg2 : Nat) (g : List Int) (Ar Ar2 : Option Addr) (cr cr2 nr B B2 : Nat) (rs : List RuleM) (w : World) (hg : Rd w Bg Ag n g) (hBg : Bg ≤ w.heap.size) (hmg : n ≤ 1099511627776) (hg2 : Rd w Bg2 Ag2 n g) (hBg2 : Bg2 ≤ w.heap.size) (h : RdRs w B Ar nr rs) (h2 : RdRs w B2 Ar2 nr rs) (hB : B ≤ w.heap.size) (hB2 : B2 ≤ w.heap.size) (hm : nr ≤ 1099511627776) :
    Calls Tryd.prog 39 #[.agg #[.int .i64 s, .slice Ag n cg, .slice Ar nr cr], .agg #[.int .i64 s, .slice Ag2 n cg2, .slice Ar2 nr cr2]] w fun e w' => e = .returned (.bool true) ∧ Below w.heap.size w w' := by
  have hx0 := pbox_new w s Ag n cg Ar nr cr 30
  have hb0 : Below w.heap.size w (w.alloc (.cells #[.int .i64 s, .slice Ag n cg, .slice Ar nr cr] 30)) := (Below.refl _ _).alloc (Nat.le_refl _) _
  have hs0 : (w.alloc (.cells #[.int .i64 s, .slice Ag n cg, .slice Ar nr cr] 30)).heap.size = w.heap.size + 1 := by simp
  obtain ⟨U, hU⟩ : ∃ U, w.alloc (.cells #[.int .i64 s, .slice Ag n cg, .slice Ar nr cr] 30) = U := ⟨_, rfl⟩
  rw [hU] at hx0 hb0 hs0
  have hy0 := pbox_new U s Ag2 n cg2 Ar2 nr cr2 30
  have hbU : Below U.heap.size U (U.alloc (.cells #[.int .i64 s, .slice Ag2 n cg2, .slice Ar2 nr cr2] 30)) := (Below.refl _ _).alloc (Nat.le_refl _) _
  have hs1 : (U.alloc (.cells #[.int .i64 s, .slice Ag2 n cg2, .slice Ar2 nr cr2] 30)).heap.size = U.heap.size + 1 := by simp
  obtain ⟨V, hV⟩ : ∃ V, U.alloc (.cells #[.int .i64 s, .slice Ag2 n cg2, .slice Ar2 nr cr2] 30) = V := ⟨_, rfl⟩
  rw [hV] at hy0 hbU hs1
  rw [hs0] at hy0
  have hbV : Below w.heap.size w V := step hb0 hbU
  have hxV := hx0.below (by omega : w.heap.size < U.heap.size) hbU
  have HX := Lib.hid (fun (w' : World) (hb : Below V.heap.size V w') => (⟨hxV.below (by omega) hb, hy0.below (by omega) hb⟩ : PBox w' w.heap.size s Ag n cg Ar nr cr ∧ PBox w' (w.heap.size + 1) s Ag2 n cg2 Ar2 nr cr2))
  have HS := Lib.hid (sameInts_any Ag Ag2 cg cg2 n n Bg Bg2 g g V (hg.below (hbV.mono hBg)) (hg2.below (hbV.mono hBg2)) hmg)
  have HR := Lib.hid (fun (w' : World) (hb : Below w.heap.size w w') => h.below (hb.mono hB))
  have HR2 := Lib.hid (fun (w' : World) (hb : Below w.heap.size w w') => h2.below (hb.mono hB2))
  have hsame := same_refl g
  have hne0 : (s != s) = false := by simp
  have hnn : ((nr : Int) != (nr : Int)) = false := by simp
  have HVe : Hid ((w.alloc (.cells #[.int .i64 s, .slice Ag n cg, .slice Ar nr cr] 30)).alloc (.cells #[.int .i64 s, .slice Ag2 n cg2, .slice Ar2 nr cr2] 30) = V) := Lib.hid (by rw [hU, hV])
  obtain ⟨z0, z1, z2⟩ := id hxV
  obtain ⟨y0, y1, y2⟩ := id hy0
  have HbV := Lib.hid hbV
  clear hg hg2 h h2 hx0 hy0 hxV hb0 hbU hbV hU hV hs0 hs1
  go_enter Tryd.func39, Tryd.ntmps39
  go_wp2_with fail
  rw [HVe.out]
  refine HS.out.mono ?_
  rintro e w1 ⟨rfl, hb1⟩
  rw [hsame]
  obtain ⟨⟨p0, p1, p2⟩, ⟨q0, q1, q2⟩⟩ := HX.out _ hb1
  clear z0 z1 z2 y0 y1 y2 hsame
  go_wp2
  go_loopw [5] (fun i wr => ∃ u : Nat, u ≤ nr ∧ i = .int .i64 u ∧ Below V.heap.size V wr) (fun i _ => nr - (intOf i).toNat)
  case atStart => exact ⟨0, Nat.zero_le _, rfl, hb1⟩
  case round =>
    obtain ⟨u, hu, rfl, hb⟩ := hrel
    obtain ⟨⟨c0, c1, c2⟩, ⟨d0, d1, d2⟩⟩ := HX.out _ hb
    have hbw0 := step HbV.out hb
    by_cases hlt : u < nr
    · obtain ⟨b, off, rfl, hbB, hcc⟩ := (HR.out _ hbw0).2 (by omega)
      obtain ⟨b2, off2, rfl, hbB2, hcc2⟩ := (HR2.out _ hbw0).2 (by omega)
      obtain ⟨A', c', r0, r1, r2, r3, r4⟩ := hcc u hlt
      obtain ⟨A'', c'', t0, t1, t2, t3, t4⟩ := hcc2 u hlt
      obtain ⟨rk, hrk⟩ : ∃ x, x = (rat rs u).k := ⟨_, rfl⟩
      obtain ⟨rx, hrx⟩ : ∃ x, x = (rat rs u).xs := ⟨_, rfl⟩
      obtain ⟨rvv, hrv⟩ : ∃ x, x = (rat rs u).v := ⟨_, rfl⟩
      rw [← hrk] at r0 t0
      rw [← hrx] at r1 r3 r4 t1 t3
      rw [← hrv] at r2 t2
      have hbw : b < wr.heap.size := cell_lt r0
      have hbw2 : b2 < wr.heap.size := cell_lt t0
      have HC := Lib.hid (fun w' (hbb : Below wr.heap.size wr w') => sameInts_any A' A'' c' c'' rx.length rx.length B B2 rx rx w' (r3.below (hbb.mono (Nat.le_trans hB hbw0.size))) (t3.below (hbb.mono (Nat.le_trans hB2 hbw0.size))) r4)
      have hsr := same_refl rx
      have hin : (u : Int) < (nr : Int) := by omega
      have Hlt := Lib.hid hlt
      have hk1 : (rk != rk) = false := by simp
      have hk2 : (rvv != rvv) = false := by simp
      have HK : Hid (∀ w', Below wr.heap.size wr w' → PBox w' w.heap.size s Ag n cg (some ⟨b, off, none⟩) nr cr ∧ PBox w' (w.heap.size + 1) s Ag2 n cg2 (some ⟨b2, off2, none⟩) nr cr2 ∧ w'.cell? ⟨b, off + u * 3, none⟩ = some (.int .i64 rk) ∧ w'.cell? ⟨b, off + u * 3 + 1, none⟩ = some (.slice A' rx.length c') ∧ w'.cell? ⟨b, off + u * 3 + 2, none⟩ = some (.int .i64 rvv) ∧ w'.cell? ⟨b2, off2 + u * 3, none⟩ = some (.int .i64 rk) ∧ w'.cell? ⟨b2, off2 + u * 3 + 1, none⟩ = some (.slice A'' rx.length c'') ∧ w'.cell? ⟨b2, off2 + u * 3 + 2, none⟩ = some (.int .i64 rvv)) :=
        Lib.hid (fun w' hb' => ⟨(HX.out _ (step hb hb')).1, (HX.out _ (step hb hb')).2, (hb'.cell (p := ⟨b, off + u * 3, none⟩) hbw).trans r0, (hb'.cell (p := ⟨b, off + u * 3 + 1, none⟩) hbw).trans r1, (hb'.cell (p := ⟨b, off + u * 3 + 2, none⟩) hbw).trans r2, (hb'.cell (p := ⟨b2, off2 + u * 3, none⟩) hbw2).trans t0, (hb'.cell (p := ⟨b2, off2 + u * 3 + 1, none⟩) hbw2).trans t1, (hb'.cell (p := ⟨b2, off2 + u * 3 + 2, none⟩) hbw2).trans t2⟩)
      clear hrk hrx hrv hcc hcc2 p0 p1 p2 q0 q1 q2
      go_wp2
      go_region_held3 (fun w' => (w'.cell? ⟨w.heap.size, 0, none⟩ = some (.int .i64 s) ∧ w'.cell? ⟨w.heap.size, 1, none⟩ = some (.slice Ag n cg) ∧ w'.cell? ⟨w.heap.size, 2, none⟩ = some (.slice (some ⟨b, off, none⟩) nr cr)) ∧ (w'.cell? ⟨w.heap.size + 1, 0, none⟩ = some (.int .i64 s) ∧ w'.cell? ⟨w.heap.size + 1, 1, none⟩ = some (.slice Ag2 n cg2) ∧ w'.cell? ⟨w.heap.size + 1, 2, none⟩ = some (.slice (some ⟨b2, off2, none⟩) nr cr2)) ∧ w'.cell? ⟨b, off + u * 3, none⟩ = some (.int .i64 rk) ∧ w'.cell? ⟨b, off + u * 3 + 1, none⟩ = some (.slice A' rx.length c') ∧ w'.cell? ⟨b, off + u * 3 + 2, none⟩ = some (.int .i64 rvv) ∧ w'.cell? ⟨b2, off2 + u * 3, none⟩ = some (.int .i64 rk) ∧ w'.cell? ⟨b2, off2 + u * 3 + 1, none⟩ = some (.slice A'' rx.length c'') ∧ w'.cell? ⟨b2, off2 + u * 3 + 2, none⟩ = some (.int .i64 rvv))
        (first | go_keep | exact HK.out _ hb5)
        ((go_simp; go_at_call 23; refine (HC.out _ (Below.refl _ _).drew).mono ?_; rintro e w5 ⟨rfl, hb4⟩; have hb5 : Below wr.heap.size wr w5 := ((Below.refl _ _).drew).trans hb4))
      all_goals
        go_wp2
        go_roundw
        case rel => exact ⟨u + 1, Hlt.out, by go_num, step hb hb5⟩
        case measure => have := Hlt.out; simp [intOf]; omega
    · obtain rfl : u = nr := by omega
      go_wp2
      go_ret
      exact ⟨rfl, hbw0⟩
end Go.Proofs.YtcjdjcpappfkgaaDoor
set_option maxRecDepth 8000
namespace Go.Proofs.YtcjdjcpappfkgaaDoor
open Go.ChangeShapes Go.WideShapes Go.ChangeAt Go.RowKit
theorem MkPost.no {s : Int} {n nr : Nat} {L : List Int} {rs : List RuleM} {w w' : World} {e : Ending} (h : MkPost false s n L nr rs w e w') : Below w.heap.size w w' ∧ e = .returned (.tuple #[.agg #[.int .i64 0, .slice none 0 0, .slice none 0 0], .bool false]) := by
  obtain ⟨h1, h2 | h2⟩ := h
  · exact ⟨h1, h2.2⟩
  · exact absurd h2.1 (by simp)
theorem MkPost.yes {s : Int} {n nr : Nat} {L : List Int} {rs : List RuleM} {w w' : World} {e : Ending} (h : MkPost true s n L nr rs w e w') : Below w.heap.size w w' ∧ ∃ A1 c1 g, e = .returned (.tuple #[.agg #[.int .i64 s, .slice A1 n c1, .slice (some ⟨g, 0, none⟩) nr nr], .bool true]) ∧ OwnP w' w.heap.size A1 n c1 L g nr rs := by
  obtain ⟨h1, h2 | h2⟩ := h
  · exact absurd h2.1 (by simp)
  · exact ⟨h1, h2.2⟩
theorem rd_nil {w : World} : Rd w 0 none 0 [] := ⟨rfl, fun h => absurd h (by omega)⟩
theorem rdrs_nil {w : World} : RdRs w 0 none 0 [] := ⟨rfl, fun h => absurd h (by omega)⟩
theorem same_nil (w : World) : Calls Tryd.prog 39 #[.agg #[.int .i64 0, .slice none 0 0, .slice none 0 0], .agg #[.int .i64 0, .slice none 0 0, .slice none 0 0]] w fun e w' => e = .returned (.bool true) ∧ Below w.heap.size w w' :=
  samePuzzle_any 0 none none 0 0 0 0 0 [] none none 0 0 0 0 0 [] w rd_nil (Nat.zero_le _) (by omega) rd_nil (Nat.zero_le _) rdrs_nil rdrs_nil (Nat.zero_le _) (Nat.zero_le _) (by omega)
theorem MinPost.no {s : Int} {n nr : Nat} {gi : List Int} {rs : List RuleM} {w w' : World} {e : Ending} (h : MinPost s n gi nr rs w e w') (hf : (pvB s gi rs && oneB s n gi rs) = false) : Below w.heap.size w w' ∧ e = .returned (.tuple #[.agg #[.int .i64 0, .slice none 0 0, .slice none 0 0], .bool false]) := by
  obtain ⟨h1, h2 | h2⟩ := h
  · exact ⟨h1, h2.1⟩
  · rw [hf] at h2; exact absurd h2.1 (by simp)
theorem MinPost.yes {s : Int} {n nr : Nat} {gi : List Int} {rs : List RuleM} {w w' : World} {e : Ending} (h : MinPost s n gi nr rs w e w') (hf : (pvB s gi rs && oneB s n gi rs) = true) : Below w.heap.size w w' ∧ ∃ A1 c1 A2 c2, e = .returned (.tuple #[.agg #[.int .i64 s, .slice A1 n c1, .slice A2 nr c2], .bool true]) ∧ Rd w' w'.heap.size A1 n (minL s n rs gi n) ∧ OwR w' w.heap.size (.slice A2 nr c2) rs nr := by
  obtain ⟨h1, h2 | h2⟩ := h
  · rw [hf] at h2; exact absurd h2.2 (by simp)
  · obtain ⟨_, A1, c1, A2, c2, K, e, a, b, c, d⟩ := h2
    exact ⟨h1, A1, c1, A2, c2, e, a.rd, c⟩
set_option maxHeartbeats 4000000 in
theorem minimalAgain_walk (A : Option Addr) (c n : Nat) (bs : List Int) (w : World) (h : Code_ w A n c bs) (hT : Tz w) :
    Calls Tryd.prog 13 #[.slice A n c] w fun e w' => e = .returned (.bool true) ∧ Below w.heap.size w w' := by
  by_cases hn : n ≤ 1048576
  · go_enter Tryd.func13, Tryd.ntmps13
    go_wp2_with fail
    refine (draw_DrawMakeMinimal _ _ _ _ _ h).mono ?_
    rintro e w1 ⟨s, A1, n1, c1, gi, A2, nr, c2, rs, rfl, s2, s4, hrd, hn16, hR, hl, hnr, hb1⟩
    have hx0 := pbox_new w1 s A1 n1 c1 A2 nr c2 30
    have hbA : Below w1.heap.size w1 (w1.alloc (.cells #[.int .i64 s, .slice A1 n1 c1, .slice A2 nr c2] 30)) := (Below.refl _ _).alloc (Nat.le_refl _) _
    have hpc0 : PGc w1 s A1 n1 c1 w1.heap.size gi A2 nr c2 w1.heap.size rs := ⟨hrd, Nat.le_refl _, by omega, hR.rdc hl, Nat.le_refl _, by omega⟩
    have hpcA := hpc0.below hbA
    have hsA : w1.heap.size < (w1.alloc (.cells #[.int .i64 s, .slice A1 n1 c1, .slice A2 nr c2] 30)).heap.size := by simp
    obtain ⟨W, hW⟩ : ∃ W, w1.alloc (.cells #[.int .i64 s, .slice A1 n1 c1, .slice A2 nr c2] 30) = W := ⟨_, rfl⟩
    rw [hW] at hx0 hbA hpcA hsA
    have hb0W : Below w.heap.size w W := step hb1 hbA
    have HX := Lib.hid (fun w' (hb : Below W.heap.size W w') => hx0.below (by omega : w1.heap.size < W.heap.size) hb)
    have HTz := Lib.hid (fun w' (hb : Below W.heap.size W w') => hT.below hT.lt (step hb0W hb))
    have HB := Lib.hid (fun w' (hb : Below W.heap.size W w') => step hb0W hb)
    have HI := Lib.hid (implMakeMinimal _ _ _ _ _ _ _ _ _ _ _ _ hpcA (HTz.out _ (Below.refl _ _)))
    have HS := Lib.hid (fun w' (hb : Below W.heap.size W w') => specMakeMinimal _ _ _ _ _ _ _ _ _ _ _ _ (hpcA.below hb).rd (by omega))
    have HW := Lib.hid hW
    obtain ⟨z0, z1, z2⟩ := id hx0
    have hgl := hrd.1
    clear hW hpc0 hpcA hbA hx0 hR hrd h hT
    cases hok : (pvB s gi rs && oneB s n1 gi rs)
    · have Hok := Lib.hid hok
      rw [hok] at HI
      clear hok
      go_wp2_with fail
      rw [HW.out]
      refine HI.out.mono ?_
      rintro e w2 h2
      obtain ⟨hb2, rfl⟩ := h2.no
      have hb2a : Below w2.heap.size w2 (w2.alloc (.cells #[.int .i64 0, .slice none 0 0, .slice none 0 0] 30)) := (Below.refl _ _).alloc (Nat.le_refl _) _
      have hs2a : w2.heap.size < (w2.alloc (.cells #[.int .i64 0, .slice none 0 0, .slice none 0 0] 30)).heap.size := by simp
      have hxx := pbox_new w2 0 none 0 0 none 0 0 30
      have h2a := step hb2 hb2a
      obtain ⟨y0, y1, y2⟩ := HX.out _ h2a
      clear z0 z1 z2
      go_wp2_with fail
      refine (HS.out _ h2a).mono ?_
      rintro e w3 h3
      obtain ⟨hb3, rfl⟩ := h3.no Hok.out
      have hb3a : Below w3.heap.size w3 (w3.alloc (.cells #[.int .i64 0, .slice none 0 0, .slice none 0 0] 30)) := (Below.refl _ _).alloc (Nat.le_refl _) _
      have h3a := step h2a (step hb3 hb3a)
      obtain ⟨x0, x1, x2⟩ := hxx.below hs2a (step hb3 hb3a)
      clear y0 y1 y2
      go_wp2_with fail
      refine (same_nil _).mono ?_
      rintro e w4 ⟨rfl, hb4⟩
      have h4 := step h3a hb4
      go_wp2_with (go_at_call 25; (with_reducible refine (alive_any _).mono ?_); rintro e w6 ⟨rfl, hb6⟩)
      go_ret
      exact ⟨rfl, HB.out _ (step h4 hb6)⟩
    · have Hok := Lib.hid hok
      rw [hok] at HI
      rw [Bool.and_eq_true] at hok
      obtain ⟨hv, ho⟩ := hok
      obtain ⟨t, rfl, hs, hnn, _, _⟩ := pv_grid hv hgl
      have hnn2 : n1 = t * t := by simp at hs; rcases hs with rfl | rfl | rfl <;> omega
      have hinv := minL_inv (s := t) (n := n1) hv ho n1
      have hag := minL_again (s := t) hgl hnn2 hv ho
      have hXl : (minL (t : Int) n1 rs gi n1).length = n1 := (minL_length _ _ _ _ _).trans hgl
      obtain ⟨X, hX⟩ : ∃ X, X = minL (t : Int) n1 rs gi n1 := ⟨_, rfl⟩
      rw [← hX] at HI hinv hag hXl
      have HSy := Lib.hid (fun w' e w'' (h : MinPost (t : Int) n1 gi nr rs w' e w'') => by
        have := h.yes Hok.out
        rw [← hX] at this
        exact this)
      have Hag := Lib.hid hag
      have Hok2 : Hid ((pvB (t : Int) X rs && oneB (t : Int) n1 X rs) = true) := Lib.hid (by rw [hinv.v, hinv.o]; rfl)
      have Hrl := Lib.hid hl
      have hnr2 : nr ≤ 1099511627776 := by omega
      have hgm : n1 ≤ 1099511627776 := by omega
      clear hX hinv hag hv ho hs hnn hnn2 hgl hXl
      go_wp2_with fail
      rw [HW.out]
      refine HI.out.mono ?_
      rintro e w2 h2
      obtain ⟨hb2, A3, c3, g3, rfl, hown⟩ := h2.yes
      have hb2a : Below w2.heap.size w2 (w2.alloc (.cells #[.int .i64 (t : Int), .slice A3 n1 c3, .slice (some ⟨g3, 0, none⟩) nr nr] 30)) := (Below.refl _ _).alloc (Nat.le_refl _) _
      have hs2a : w2.heap.size < (w2.alloc (.cells #[.int .i64 (t : Int), .slice A3 n1 c3, .slice (some ⟨g3, 0, none⟩) nr nr] 30)).heap.size := by simp
      have hxx := pbox_new w2 (t : Int) A3 n1 c3 (some ⟨g3, 0, none⟩) nr nr 30
      have h2a := step hb2 hb2a
      have hpx := (hown.pgc (s := (t : Int)) hgm Hrl.out hnr2).below hb2a
      have HPx := Lib.hid (fun w' (hb : Below (w2.alloc (.cells #[.int .i64 (t : Int), .slice A3 n1 c3, .slice (some ⟨g3, 0, none⟩) nr nr] 30)).heap.size (w2.alloc (.cells #[.int .i64 (t : Int), .slice A3 n1 c3, .slice (some ⟨g3, 0, none⟩) nr nr] 30)) w') => (⟨hpx.below hb, hxx.below hs2a hb⟩ : PGc w' (t : Int) A3 n1 c3 w2.heap.size X (some ⟨g3, 0, none⟩) nr nr w2.heap.size rs ∧ PBox w' w2.heap.size (t : Int) A3 n1 c3 (some ⟨g3, 0, none⟩) nr nr))
      obtain ⟨y0, y1, y2⟩ := HX.out _ h2a
      clear z0 z1 z2 hown hpx hxx
      go_wp2_with fail
      refine (HS.out _ h2a).mono ?_
      rintro e w3 h3
      obtain ⟨hb3, A5, c5, A6, c6, rfl, hr5, hor6⟩ := HSy.out _ _ _ h3
      have hb3a : Below w3.heap.size w3 (w3.alloc (.cells #[.int .i64 (t : Int), .slice A5 n1 c5, .slice A6 nr c6] 30)) := (Below.refl _ _).alloc (Nat.le_refl _) _
      have h23a := step hb3 hb3a
      have h3a := step h2a h23a
      obtain ⟨hpx3, x0, x1, x2⟩ := HPx.out _ h23a
      have HSP := Lib.hid (samePuzzle_any (t : Int) A3 A5 c3 c5 n1 w2.heap.size w3.heap.size X (some ⟨g3, 0, none⟩) A6 nr c6 nr w2.heap.size w3.heap.size rs (w3.alloc (.cells #[.int .i64 (t : Int), .slice A5 n1 c5, .slice A6 nr c6] 30)) hpx3.g hpx3.gB hgm (hr5.below hb3a) hb3a.size hpx3.r.rd ((hor6.rd Hrl.out).below hb3a) hpx3.rB hb3a.size hnr2)
      clear y0 y1 y2 hpx3 hr5 hor6
      go_wp2_with fail
      refine HSP.out.mono ?_
      rintro e w4 ⟨rfl, hb4⟩
      have h24 := step h23a hb4
      obtain ⟨hpx4, u0, u1, u2⟩ := HPx.out _ h24
      have HI4 := implMakeMinimal _ _ _ _ _ _ _ _ _ _ _ _ hpx4 (HTz.out _ (step h2a h24))
      rw [Hok2.out, Hag.out] at HI4
      have HI4 := Lib.hid HI4
      clear x0 x1 x2 hpx4
      go_wp2_with fail
      refine HI4.out.mono ?_
      rintro e w5 h5
      obtain ⟨hb5, A7, c7, g7, rfl, hown7⟩ := h5.yes
      have hb5a : Below w5.heap.size w5 (w5.alloc (.cells #[.int .i64 (t : Int), .slice A7 n1 c7, .slice (some ⟨g7, 0, none⟩) nr nr] 30)) := (Below.refl _ _).alloc (Nat.le_refl _) _
      have h25a := step h24 (step hb5 hb5a)
      obtain ⟨hpx5, v0, v1, v2⟩ := HPx.out _ h25a
      have hp7 := (hown7.pgc (s := (t : Int)) hgm Hrl.out hnr2).below hb5a
      have HSP5 := Lib.hid (samePuzzle_any (t : Int) A7 A3 c7 c3 n1 w5.heap.size w2.heap.size X (some ⟨g7, 0, none⟩) (some ⟨g3, 0, none⟩) nr nr nr w5.heap.size w2.heap.size rs (w5.alloc (.cells #[.int .i64 (t : Int), .slice A7 n1 c7, .slice (some ⟨g7, 0, none⟩) nr nr] 30)) hp7.g hp7.gB hgm hpx5.g hpx5.gB hp7.r.rd hpx5.r.rd hp7.rB hpx5.rB hnr2)
      clear u0 u1 u2 hpx5 hp7 hown7
      go_wp2_with (go_at_call 39; refine HSP5.out.mono ?_; rintro e w6 ⟨rfl, hb6⟩)
      go_ret
      exact ⟨rfl, HB.out _ (step (step h2a h25a) hb6)⟩
  · go_enter Tryd.func13, Tryd.ntmps13
    go_wp2
    go_ret
    exact ⟨rfl, Below.refl _ _⟩
end Go.Proofs.YtcjdjcpappfkgaaDoor
set_option maxRecDepth 8000
namespace Go.Proofs.YtcjdjcpappfkgaaDoor
open Go.ChangeShapes Go.WideShapes Go.ChangeAt Go.RowKit
set_option maxHeartbeats 1000000 in
theorem makeMinimal_walk (A : Option Addr) (c n : Nat) (bs : List Int) (w : World) (h : Code_ w A n c bs) (hT : Tz w) :
    Calls Tryd.prog 11 #[.slice A n c] w fun e w' => e = .returned (.bool true) ∧ Below w.heap.size w w' := by
  by_cases hn : n ≤ 1048576
  · go_enter Tryd.func11, Tryd.ntmps11
    go_wp2_with fail
    refine (draw_DrawMakeMinimal _ _ _ _ _ h).mono ?_
    rintro e w1 ⟨s, A1, n1, c1, gi, A2, nr, c2, rs, rfl, s2, s4, hrd, hn16, hR, hl, hnr, hb1⟩
    have hx0 := pbox_new w1 s A1 n1 c1 A2 nr c2 30
    have hbA : Below w1.heap.size w1 (w1.alloc (.cells #[.int .i64 s, .slice A1 n1 c1, .slice A2 nr c2] 30)) := (Below.refl _ _).alloc (Nat.le_refl _) _
    have hpc0 : PGc w1 s A1 n1 c1 w1.heap.size gi A2 nr c2 w1.heap.size rs := ⟨hrd, Nat.le_refl _, by omega, hR.rdc hl, Nat.le_refl _, by omega⟩
    have hpcA := hpc0.below hbA
    have hsA : w1.heap.size < (w1.alloc (.cells #[.int .i64 s, .slice A1 n1 c1, .slice A2 nr c2] 30)).heap.size := by simp
    obtain ⟨W, hW⟩ : ∃ W, w1.alloc (.cells #[.int .i64 s, .slice A1 n1 c1, .slice A2 nr c2] 30) = W := ⟨_, rfl⟩
    rw [hW] at hx0 hbA hpcA hsA
    have hb0W : Below w.heap.size w W := step hb1 hbA
    have HX := Lib.hid (fun w' (hb : Below W.heap.size W w') => hx0.below (by omega : w1.heap.size < W.heap.size) hb)
    have HPc := Lib.hid (fun w' (hb : Below W.heap.size W w') => hpcA.below hb)
    have HTz := Lib.hid (fun w' (hb : Below W.heap.size W w') => hT.below hT.lt (step hb0W hb))
    have HB := Lib.hid (fun w' (hb : Below W.heap.size W w') => step hb0W hb)
    have HI := Lib.hid (implMakeMinimal _ _ _ _ _ _ _ _ _ _ _ _ hpcA (HTz.out _ (Below.refl _ _)))
    have HS := Lib.hid (fun w' (hb : Below W.heap.size W w') => specMakeMinimal _ _ _ _ _ _ _ _ _ _ _ _ (hpcA.below hb).rd (by omega))
    have HW := Lib.hid hW
    obtain ⟨z0, z1, z2⟩ := id hx0
    have hgl := hrd.1
    clear hW hpc0 hpcA hbA hx0 hR hrd h hT
    cases hok : (pvB s gi rs && oneB s n1 gi rs)
    · have Hok := Lib.hid hok
      rw [hok] at HI
      clear hok
      go_wp2_with fail
      rw [HW.out]
      refine HI.out.mono ?_
      rintro e w2 h2
      obtain ⟨hb2, rfl⟩ := h2.no
      have hb2a : Below w2.heap.size w2 (w2.alloc (.cells #[.int .i64 0, .slice none 0 0, .slice none 0 0] 30)) := (Below.refl _ _).alloc (Nat.le_refl _) _
      have hs2a : w2.heap.size < (w2.alloc (.cells #[.int .i64 0, .slice none 0 0, .slice none 0 0] 30)).heap.size := by simp
      have hxx := pbox_new w2 0 none 0 0 none 0 0 30
      have h2a := step hb2 hb2a
      obtain ⟨y0, y1, y2⟩ := HX.out _ h2a
      clear z0 z1 z2
      go_wp2_with fail
      refine (HS.out _ h2a).mono ?_
      rintro e w3 h3
      obtain ⟨hb3, rfl⟩ := h3.no Hok.out
      have hb3a : Below w3.heap.size w3 (w3.alloc (.cells #[.int .i64 0, .slice none 0 0, .slice none 0 0] 30)) := (Below.refl _ _).alloc (Nat.le_refl _) _
      have h3a := step h2a (step hb3 hb3a)
      obtain ⟨x0, x1, x2⟩ := hxx.below hs2a (step hb3 hb3a)
      clear y0 y1 y2
      go_wp2_with fail
      refine (same_nil _).mono ?_
      rintro e w4 ⟨rfl, hb4⟩
      have h4 := step h3a hb4
      obtain ⟨u0, u1, u2⟩ := hxx.below hs2a (step (step hb3 hb3a) hb4)
      clear x0 x1 x2
      go_wp2_with (go_at_call 25; (with_reducible refine (alive_any _).mono ?_); rintro e w6 ⟨rfl, hb6⟩)
      go_ret
      exact ⟨rfl, HB.out _ (step h4 hb6)⟩
    · have Hok := Lib.hid hok
      rw [hok] at HI
      rw [Bool.and_eq_true] at hok
      obtain ⟨hv, ho⟩ := hok
      obtain ⟨t, rfl, hs, hnn, _, _⟩ := pv_grid hv hgl
      have hnn2 : n1 = t * t := by simp at hs; rcases hs with rfl | rfl | rfl <;> omega
      have hinv := minL_inv (s := t) (n := n1) hv ho n1
      have hXl : (minL (t : Int) n1 rs gi n1).length = n1 := (minL_length _ _ _ _ _).trans hgl
      obtain ⟨X, hX⟩ : ∃ X, X = minL (t : Int) n1 rs gi n1 := ⟨_, rfl⟩
      rw [← hX] at HI hinv hXl
      have HSy := Lib.hid (fun w' e w'' (h : MinPost (t : Int) n1 gi nr rs w' e w'') => by
        have := h.yes Hok.out
        rw [← hX] at this
        exact this)
      have HSf := Lib.hid (sf_same (s := t) hgl hv hinv.v hnn2 hinv.l ho hinv.o)
      have HMb := Lib.hid (show minB (t : Int) n1 X rs = true by rw [hX]; exact minL_minB hgl hnn2 hv ho)
      have HLe := Lib.hid hinv.l.2
      have HSb := Lib.hid (show sfB (t : Int) n1 gi rs = true by
        obtain ⟨y, hy⟩ := List.length_eq_one_iff.1 ((one_iff hgl hv hnn2).1 ho)
        exact (sf_cons hgl hv hnn2 hy).2)
      have hn0 : 0 < n1 := by simp at hs; rcases hs with rfl | rfl | rfl <;> omega
      have Hrl := Lib.hid hl
      have hnr2 : nr ≤ 1099511627776 := by omega
      have hgm : n1 ≤ 1099511627776 := by omega
      clear hX hinv hv ho hs hnn hnn2 hgl hXl
      go_wp2_with fail
      rw [HW.out]
      refine HI.out.mono ?_
      rintro e w2 h2
      obtain ⟨hb2, A3, c3, g3, rfl, hown⟩ := h2.yes
      have hb2a : Below w2.heap.size w2 (w2.alloc (.cells #[.int .i64 (t : Int), .slice A3 n1 c3, .slice (some ⟨g3, 0, none⟩) nr nr] 30)) := (Below.refl _ _).alloc (Nat.le_refl _) _
      have hs2a : w2.heap.size < (w2.alloc (.cells #[.int .i64 (t : Int), .slice A3 n1 c3, .slice (some ⟨g3, 0, none⟩) nr nr] 30)).heap.size := by simp
      have hxx := pbox_new w2 (t : Int) A3 n1 c3 (some ⟨g3, 0, none⟩) nr nr 30
      have h2a := step hb2 hb2a
      have hpx := (hown.pgc (s := (t : Int)) hgm Hrl.out hnr2).below hb2a
      have HPx := Lib.hid (fun w' (hb : Below (w2.alloc (.cells #[.int .i64 (t : Int), .slice A3 n1 c3, .slice (some ⟨g3, 0, none⟩) nr nr] 30)).heap.size (w2.alloc (.cells #[.int .i64 (t : Int), .slice A3 n1 c3, .slice (some ⟨g3, 0, none⟩) nr nr] 30)) w') => (⟨hpx.below hb, hxx.below hs2a hb⟩ : PGc w' (t : Int) A3 n1 c3 w2.heap.size X (some ⟨g3, 0, none⟩) nr nr w2.heap.size rs ∧ PBox w' w2.heap.size (t : Int) A3 n1 c3 (some ⟨g3, 0, none⟩) nr nr))
      obtain ⟨y0, y1, y2⟩ := HX.out _ h2a
      clear z0 z1 z2 hown hpx hxx
      go_wp2_with fail
      refine (HS.out _ h2a).mono ?_
      rintro e w3 h3
      obtain ⟨hb3, A5, c5, A6, c6, rfl, hr5, hor6⟩ := HSy.out _ _ _ h3
      have hb3a : Below w3.heap.size w3 (w3.alloc (.cells #[.int .i64 (t : Int), .slice A5 n1 c5, .slice A6 nr c6] 30)) := (Below.refl _ _).alloc (Nat.le_refl _) _
      have h23a := step hb3 hb3a
      have h3a := step h2a h23a
      obtain ⟨hpx3, x0, x1, x2⟩ := HPx.out _ h23a
      have HSP := Lib.hid (samePuzzle_any (t : Int) A3 A5 c3 c5 n1 w2.heap.size w3.heap.size X (some ⟨g3, 0, none⟩) A6 nr c6 nr w2.heap.size w3.heap.size rs (w3.alloc (.cells #[.int .i64 (t : Int), .slice A5 n1 c5, .slice A6 nr c6] 30)) hpx3.g hpx3.gB hgm (hr5.below hb3a) hb3a.size hpx3.r.rd ((hor6.rd Hrl.out).below hb3a) hpx3.rB hb3a.size hnr2)
      clear y0 y1 y2 hpx3 hr5 hor6
      go_wp2_with fail
      refine HSP.out.mono ?_
      rintro e w4 ⟨rfl, hb4⟩
      have h24 := step h23a hb4
      obtain ⟨hpx4, u0, u1, u2⟩ := HPx.out _ h24
      have HPx4 := Lib.hid (fun w' (hb : Below w4.heap.size w4 w') => HPx.out _ (step h24 hb))
      have HP4 := Lib.hid (fun w' (hb : Below w4.heap.size w4 w') => HPc.out _ (step h2a (step h24 hb)))
      have HXp := Lib.hid (fun w' (hb : Below w4.heap.size w4 w') => HX.out _ (step h2a (step h24 hb)))
      obtain ⟨bp, op_, rfl, hbp, _⟩ := (HP4.out _ (Below.refl _ _)).g.at_ hn0
      obtain ⟨bx, ox, rfl, hbx, _⟩ := hpx4.g.at_ hn0
      clear x0 x1 x2 hpx4 u0 u1 u2
      go_wp2
      go_loopw [8] (fun i wr => ∃ k : Nat, k ≤ n1 ∧ i = .int .i64 k ∧ Below w4.heap.size w4 wr) (fun i _ => n1 - (intOf i).toNat)
      case atStart => exact ⟨0, Nat.zero_le _, rfl, Below.refl _ _⟩
      case round =>
        obtain ⟨k, hk, rfl, hR⟩ := hrel
        obtain ⟨hpk, v0, v1, v2⟩ := HPx4.out _ hR
        obtain ⟨q0, q1, q2⟩ := HXp.out _ hR
        by_cases hlt : k < n1
        · obtain ⟨b9, o9, e9, _, hcx⟩ := hpk.g.at_ hlt
          injection e9 with e9
          injection e9 with e91 e92 _
          subst e91 e92
          obtain ⟨b8, o8, e8, _, hcp⟩ := (HP4.out _ hR).g.at_ hlt
          injection e8 with e8
          injection e8 with e81 e82 _
          subst e81 e82
          have hltI : (k : Int) < (n1 : Int) := by omega
          have Hlt := Lib.hid hlt
          have hk2 := Lib.hid hk
          obtain ⟨x, hx⟩ : ∃ x, nth X k = x := ⟨_, rfl⟩
          by_cases hz : x = 0
          · rw [hx, hz] at hcx
            clear hx hz hpk
            go_wp2
            go_quiet (fail)
            go_wp2
            go_roundw
            case rel => exact ⟨k + 1, Hlt.out, by go_num, below_drewN hR _⟩
            case measure => have := Hlt.out; simp [intOf]; omega
          · have hxp : nth gi k = x := by
              rcases HLe.out k with e | e
              · rw [← e, hx]
              · rw [hx] at e; exact absurd e hz
            rw [hx] at hcx
            rw [hxp] at hcp
            have hnz : (x != 0) = true := by rw [bne_iff_ne]; exact hz
            have hne : (x != x) = false := by simp
            clear hx hz hpk hxp
            go_wp2
            go_quiet (fail)
            go_wp2
            go_roundw
            case rel => exact ⟨k + 1, Hlt.out, by go_num, below_drewN hR _⟩
            case measure => have := Hlt.out; simp [intOf]; omega
        · obtain rfl : k = n1 := by omega
          have HA := Lib.hid (implSolveFirst _ _ _ _ _ _ _ _ _ _ _ wr (HP4.out _ hR) (HTz.out _ (step h2a (step h24 hR))))
          have hsb := HSb.out
          rw [hsb] at HA
          obtain ⟨FL, hFL⟩ : ∃ FL, FL = sfL (t : Int) k gi rs := ⟨_, rfl⟩
          rw [← hFL] at HA
          have HBx := Lib.hid (fun w' (hb : Below w4.heap.size w4 w') => by
            have := implSolveFirst _ _ _ _ _ _ _ _ _ _ _ w' (HPx4.out _ hb).1 (HTz.out _ (step h2a (step h24 hb)))
            rw [HSf.out.1, HSf.out.2, hsb, ← hFL] at this
            exact this)
          have HMi := Lib.hid (fun w' (hb : Below w4.heap.size w4 w') => by
            have := implIsMinimal _ _ _ _ _ _ _ _ _ _ _ w' (HPx4.out _ hb).1 (HTz.out _ (step h2a (step h24 hb)))
            rw [HMb.out] at this
            exact this)
          have hsame := same_refl FL
          clear hFL hsb hpk
          go_wp2_with (first
            | (go_at_call 21; (with_reducible refine (HBx.out _ hR7).mono ?_); rintro e w8 ⟨Ay, my, cy, rfl, hmy, hoy, hb8⟩; have hm8 : my = k := hmy (by trivial); rw [hm8] at hoy ⊢; have hR8 := step hR7 hb8; have hox8 := hox.rd.below hb8; have hs8 := hb8.size; obtain ⟨_, r0, r1, r2⟩ := HPx4.out _ hR8)
            | (go_at_call 21; (with_reducible refine HA.out.mono ?_); (rintro e w7 ⟨Ax, mx, cx, rfl, hmx, hox, hb7⟩; have hm7 : mx = k := hmx (by trivial); rw [hm7] at hox ⊢; have hR7 := step hR hb7; obtain ⟨_, u0, u1, u2⟩ := HPx4.out _ hR7))
            | (go_at_call 29; refine (HMi.out _ hR8).mono ?_; rintro e w9 ⟨rfl, hb9⟩; have hR9 := step hR8 hb9)
            | (go_at_call 23; refine (sameInts_any _ _ _ _ _ _ _ _ FL FL _ (hox8.below (hb9.mono hs8)) (hoy.rd.below hb9) (by omega)).mono ?_; rintro e wa ⟨rfl, hba⟩; rw [hsame]))
          go_ret
          exact ⟨by trivial, HB.out _ (step h2a (step h24 (step hR9 hba)))⟩
  · go_enter Tryd.func11, Tryd.ntmps11
    go_wp2
    go_ret
    exact ⟨rfl, Below.refl _ _⟩
end Go.Proofs.YtcjdjcpappfkgaaDoor
