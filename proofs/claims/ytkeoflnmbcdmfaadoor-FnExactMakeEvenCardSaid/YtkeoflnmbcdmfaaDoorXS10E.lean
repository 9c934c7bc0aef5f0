import Derived.Test.YtkeoflnmbcdmfaaDoorXMn
import Derived.Test.YtkeoflnmbcdmfaaDoorXPInD
import Derived.Deep.Slices
import Derived.Deep.Fields
import Derived.Lib.SmallJoins
import Derived.ChangeSame
import Derived.Test.YtkeoflnmbcdmfaaDoorXSqN
import Derived.Deep.RegionWith
import Derived.Deep.CutRange
import Derived.Deep.CutBlock
import Derived.BigQuiet
set_option maxRecDepth 8000
namespace Go.Proofs.YtkeoflnmbcdmfaaDoor
open Go.ChangeShapes Go.WideShapes Go.ChangeAt Go.RowKit
theorem OwnP.below {w w' : World} {lo n c1 g nr : Nat} {A1 : Option Addr} {gi : List Int} {rs : List RuleM} (h : OwnP w lo A1 n c1 gi g nr rs) (hb : Below w.heap.size w w') : OwnP w' lo A1 n c1 gi g nr rs := by
  obtain ⟨h1, Q, h2, h3, h4⟩ := h
  exact ⟨h1.below hb, Q, h2.below hb, fun b hq => Nat.lt_of_lt_of_le (h3 b hq) hb.size, h4⟩
theorem OwnP.fresh {w w' : World} {lo n c1 c2 g nr : Nat} {A1 A2 : Option Addr} {gi gi' : List Int} {rs : List RuleM} (h : OwnP w lo A1 n c1 gi g nr rs) (hb : Below w.heap.size w w') (ho : Ow w' w.heap.size A2 n c2 gi') (hlo : lo ≤ w.heap.size) : OwnP w' lo A2 n c2 gi' g nr rs := by
  obtain ⟨_, Q, h2, h3, _⟩ := h
  exact ⟨ho.mono hlo, Q, h2.below hb, fun b hq => Nat.lt_of_lt_of_le (h3 b hq) hb.size, fun b hbb hq => by have := ho.own_lo b hbb; have := h3 b hq; omega⟩
theorem OwRd.setX {w : World} {lo g n X : Nat} {rs : List RuleM} {Q : Nat → Prop} {k : Nat} {cs cs' : Array Value} (h : OwRd w lo g n rs Q k) (hX : w.heap[X]? = some (.cells cs 26)) : OwRd (w.setRow X cs') lo g n rs Q k := by
  obtain ⟨vs, a, b, c⟩ := h
  refine ⟨vs, ownsRow_setX a hX (by decide), fun i hi => ?_, c⟩
  obtain ⟨A', c', e0, e1, e2, e3, e4, e5⟩ := b i hi
  exact ⟨A', c', e0, e1, e2, e3.setX hX, e4, e5⟩
theorem OwnP.setX {w : World} {lo n c1 g nr X : Nat} {A1 : Option Addr} {gi : List Int} {rs : List RuleM} {cs cs' : Array Value} (h : OwnP w lo A1 n c1 gi g nr rs) (hX : w.heap[X]? = some (.cells cs 26)) : OwnP (w.setRow X cs') lo A1 n c1 gi g nr rs := by
  obtain ⟨h1, Q, h2, h3, h4⟩ := h
  exact ⟨h1.setX hX, Q, h2.setX hX, fun b hq => by have := h3 b hq; simpa using this, h4⟩
theorem OwnP.mono {w : World} {lo lo' n c1 g nr : Nat} {A1 : Option Addr} {gi : List Int} {rs : List RuleM} (h : OwnP w lo A1 n c1 gi g nr rs) (hl : lo' ≤ lo) : OwnP w lo' A1 n c1 gi g nr rs := by
  obtain ⟨h1, Q, h2, h3, h4⟩ := h
  exact ⟨h1.mono hl, Q, h2.mono hl, h3, h4⟩
theorem OwnP.pgc {w : World} {s : Int} {lo n c1 g nr : Nat} {A1 : Option Addr} {gi : List Int} {rs : List RuleM} (h : OwnP w lo A1 n c1 gi g nr rs) (hm : n ≤ 1099511627776) (hl : rs.length = nr) (hr : nr ≤ 1099511627776) : PGc w s A1 n c1 w.heap.size gi (some ⟨g, 0, none⟩) nr nr w.heap.size rs := by
  obtain ⟨h1, Q, h2, _⟩ := h
  exact ⟨h1.rd, Nat.le_refl _, hm, OwR.rdc hl h2.rp.full, Nat.le_refl _, hr⟩
/-- the zero value and false, or a puzzle of the call's own and true. -/
def MkPost (ok : Bool) (s : Int) (n : Nat) (L : List Int) (nr : Nat) (rs : List RuleM) (w : World) (e : Ending) (w' : World) : Prop :=
  Below w.heap.size w w' ∧ ((ok = false ∧ e = .returned (.tuple #[.agg #[.int .i64 0, .slice none 0 0, .slice none 0 0], .bool false])) ∨
    (ok = true ∧ ∃ A1 c1 g, e = .returned (.tuple #[.agg #[.int .i64 s, .slice A1 n c1, .slice (some ⟨g, 0, none⟩) nr nr], .bool true]) ∧ OwnP w' w.heap.size A1 n c1 L g nr rs))
set_option maxHeartbeats 4000000 in
theorem implMakeMinimal (s : Int) (Ag : Option Addr) (n cg Bg : Nat) (gi : List Int) (Ar : Option Addr) (nr cr Br : Nat) (rs : List RuleM) (w : World) (hp : PGc w s Ag n cg Bg gi Ar nr cr Br rs) (hT : Tz w) :
    Calls Tryd.prog 34 #[.agg #[.int .i64 s, .slice Ag n cg, .slice Ar nr cr]] w (MkPost (pvB s gi rs && oneB s n gi rs) s n (minL s n rs gi n) nr rs w) := by
  have hx0 := pbox_new w s Ag n cg Ar nr cr 26
  have hb0 : Below w.heap.size w (w.alloc (.cells #[.int .i64 s, .slice Ag n cg, .slice Ar nr cr] 26)) := (Below.refl _ _).alloc (Nat.le_refl _) _
  have hs0 : w.heap.size < (w.alloc (.cells #[.int .i64 s, .slice Ag n cg, .slice Ar nr cr] 26)).heap.size := by simp
  obtain ⟨V, hV⟩ : ∃ V, V = (w.alloc (.cells #[.int .i64 s, .slice Ag n cg, .slice Ar nr cr] 26)).alloc (.cells #[.int .i64 0, .slice none 0 0, .slice none 0 0] 26) := ⟨_, rfl⟩
  have hbV : Below w.heap.size w V := by rw [hV]; exact hb0.alloc hb0.size _
  have hsV : V.heap.size = w.heap.size + 1 + 1 := by rw [hV]; simp
  have hxV : PBox V w.heap.size s Ag n cg Ar nr cr := by
    rw [hV]
    exact hx0.below hs0 ((Below.refl _ _).alloc (Nat.le_refl _) _)
  have hrow : V.heap[w.heap.size + 1]? = some (.cells #[.int .i64 0, .slice none 0 0, .slice none 0 0] 26) := by rw [hV]; exact heap_alloc2_new w _ _
  have Hone := Lib.hid puz_one
  have Hi := Lib.hid puz_info
  have HM := Lib.hid (makeable_any s Ag n cg Bg gi Ar nr cr Br rs V (hp.below hbV) (hT.below hT.lt hbV))
  have HX := Lib.hid (fun (w' : World) (hb : Below V.heap.size V w') => (⟨hxV.below (by omega) hb, (hb.block (w.heap.size + 1) (by omega)).trans hrow⟩ : PBox w' w.heap.size s Ag n cg Ar nr cr ∧ w'.heap[w.heap.size + 1]? = some (.cells #[.int .i64 0, .slice none 0 0, .slice none 0 0] 26)))
  have HV := Lib.hid hV
  have HbV := Lib.hid hbV
  obtain ⟨z0, z1, z2⟩ := id hxV
  cases hok : (pvB s gi rs && oneB s n gi rs)
  · rw [hok] at HM
    clear hV hx0 hb0 hs0 hp hT hxV hrow hok hbV
    go_enter Tryd.func34, Tryd.ntmps34
    go_wp2_with (first
      | (go_at_call 63; rw [← HV.out]; refine HM.out.mono ?_; rintro e w1 ⟨rfl, hb1⟩; obtain ⟨_, hr1⟩ := HX.out _ hb1)
      | (refine wpList_store_row rfl 26 _ _ rfl (w.heap.size + 1) #[.int .i64 0, .slice none 0 0, .slice none 0 0] rfl rfl 26 #[.int .i64 0, .slice none 0 0, .slice none 0 0] hr1 (Hi.out _ _ _ _ _ _ _) rfl (Hone.out _ _ _ _ _ _ _) ?_))
    have hBe : Below w.heap.size w (w1.setRow (w.heap.size + 1) #[.int .i64 0, .slice none 0 0, .slice none 0 0]) := setRow_below5 (HbV.out.trans (hb1.mono HbV.out.size)) (by omega)
    exact bodyPost_ret (v := .tuple #[.agg #[.int .i64 0, .slice none 0 0, .slice none 0 0], .bool false]) (results_row_tmp (by rfl) _ _ (w.heap.size + 1) 26 _ (0, 0) _ _ rfl rfl (setRow_heap _ _ _ _ _ _ hr1) Tryd.underlying26 rfl (Hi.out _ _ _ _ _ _ _)) rfl ⟨hBe, .inl ⟨by trivial, rfl⟩⟩
  · rw [hok] at HM
    rw [Bool.and_eq_true] at hok
    obtain ⟨hv, ho1⟩ := hok
    obtain ⟨t, rfl, hs, hnn, hn16, _⟩ := pv_grid hv hp.g.1
    have hn : n = t * t := by simp at hs; rcases hs with rfl | rfl | rfl <;> omega
    have hn0 : 0 < n := by simp at hs; rcases hs with rfl | rfl | rfl <;> omega
    have hgl := hp.g.1
    have hrl := hp.r.1
    have hnr : nr ≤ 20 := by have := (pv_gv hv).2.1; omega
    have hL : ∀ i, i < nr → 0 < (rat rs i).xs.length := fun i hi => (rv_cells ((pv_gv hv).2.2 i (by omega))).1
    have HC := Lib.hid (fun (w' : World) (hb : Below w.heap.size w w') => copied_any (t : Int) Ag n cg Bg gi Ar nr cr Br rs w' (hp.below hb).rd hn0 (by omega) hL)
    have HInv := Lib.hid (fun k => minL_inv (s := t) (n := n) hv ho1 k)
    have HTz := Lib.hid (fun (w' : World) (hb : Below w.heap.size w w') => hT.below hT.lt hb)
    have HGl := Lib.hid hgl
    have HRl := Lib.hid hrl
    clear hV hx0 hb0 hs0 hp hT hxV hrow hbV hL hs hnn hn hgl hrl hv ho1
    go_enter Tryd.func34, Tryd.ntmps34
    go_wp2_with (first
      | (go_at_call 63; rw [← HV.out]; refine HM.out.mono ?_; rintro e w1 ⟨rfl, hb1⟩; obtain ⟨⟨y0, y1, y2⟩, _⟩ := HX.out _ hb1; have h01 := HbV.out.trans (hb1.mono HbV.out.size))
      | (go_at_call 67; refine (HC.out _ h01).mono ?_; rintro e w3 ⟨A3, c3, g, rfl, hown, hb3⟩; have hb13 := step hb1 hb3; have hbX : Below V.heap.size V (w3.alloc (.cells #[.int .i64 (t : Int), .slice A3 n c3, .slice (some ⟨g, 0, none⟩) nr nr] 26)) := hb13.alloc hb13.size _; obtain ⟨⟨x0, x1, x2⟩, _⟩ := HX.out _ hbX))
    have hrX := heap_alloc_new w3 (.cells #[.int .i64 (t : Int), .slice A3 n c3, .slice (some ⟨g, 0, none⟩) nr nr] 26)
    have hownX := hown.below ((Below.refl w3.heap.size w3).alloc (Nat.le_refl _) (.cells #[.int .i64 (t : Int), .slice A3 n c3, .slice (some ⟨g, 0, none⟩) nr nr] 26))
    have hV1 := hb1.size
    have hV3 := hb3.size
    have hbX3 : Below w3.heap.size w3 (w3.alloc (.cells #[.int .i64 (t : Int), .slice A3 n c3, .slice (some ⟨g, 0, none⟩) nr nr] 26)) := (Below.refl _ _).alloc (Nat.le_refl _) _
    have Hb13 := Lib.hid hb13
    clear x0 x1 x2 y0 y1 y2 z0 z1 z2 hbX hown hb3 hb1 h01 hb13
    go_loopw [15] (fun i wr => ∃ (k : Nat) (A7 : Option Addr) (c7 : Nat), k ≤ n ∧ i = .int .i64 k ∧ wr.heap[w3.heap.size]? = some (.cells #[.int .i64 (t : Int), .slice A7 n c7, .slice (some ⟨g, 0, none⟩) nr nr] 26) ∧ OwnP wr w1.heap.size A7 n c7 (minL (t : Int) n rs gi k) g nr rs ∧ Below w3.heap.size w3 wr) (fun i _ => n - (intOf i).toNat)
    case atStart => exact ⟨0, A3, c3, Nat.zero_le _, rfl, hrX, hownX, hbX3⟩
    case round =>
      obtain ⟨k, A7, c7, hk, rfl, hr7, ho7, hb7⟩ := hrel
      obtain ⟨x0, x1, x2⟩ : PBox wr w3.heap.size (t : Int) A7 n c7 (some ⟨g, 0, none⟩) nr nr := ⟨cell_of_row _ _ 0 _ _ (0, 0) hr7, cell_of_row _ _ 1 _ _ (0, 0) hr7, cell_of_row _ _ 2 _ _ (0, 0) hr7⟩
      have hsX : w3.heap.size < wr.heap.size := (Array.getElem?_eq_some_iff.1 hr7).1
      by_cases hlt : k < n
      · have hltI : (k : Int) < (n : Int) := by omega
        have hbk : Below wr.heap.size wr (wr.alloc (.cells #[.int .i64 (k : Int)] 3)) := (Below.refl _ _).alloc (Nat.le_refl _) _
        have hpk := (ho7.pgc (s := (t : Int)) (by omega) HRl.out (by omega)).below hbk
        have hbw : Below w.heap.size w (wr.alloc (.cells #[.int .i64 (k : Int)] 3)) := HbV.out.trans ((Hb13.out.trans ((step hb7 hbk).mono Hb13.out.size)).mono HbV.out.size)
        have HRb := Lib.hid (reducedBy_any (t : Int) A7 n c7 wr.heap.size (minL (t : Int) n rs gi k) (some ⟨g, 0, none⟩) nr nr wr.heap.size rs (some ⟨wr.heap.size, 0, none⟩) 1 1 (wr.heap.size + 1) [(k : Int)] (wr.alloc (.cells #[.int .i64 (k : Int)] 3)) hpk (HInv.out k).v (by omega) (HTz.out _ hbw) rd_one (by simp) (by omega) (fun i hi => by
          obtain rfl : i = 0 := by omega
          show 0 ≤ (k : Int) ∧ (k : Int) < n
          omega))
        have hlk : (minL (t : Int) n rs gi k).length = n := (minL_length _ _ _ _ k).trans HGl.out
        have HRed := Lib.hid (show redB (t : Int) n (minL (t : Int) n rs gi k) rs k = redC (t : Int) n (minL (t : Int) n rs gi k) rs [(k : Int)] 1 from (red_iff hlk (HInv.out k).v (HInv.out k).o hlt).trans (redC_one rfl).symm)
        have Hbk := Lib.hid hbk
        have Ho7 := Lib.hid ho7
        have Hb7 := Lib.hid hb7
        clear hpk hbw hlk ho7 hb7 hbk
        go_wp2_with (first
          | (go_at_call 68; refine HRb.out.mono ?_; rintro e w8 ⟨⟨A8, c8, rfl, hcase⟩, hb8⟩; have hb78 := step Hbk.out hb8; have hr8 := (hb78.block w3.heap.size hsX).trans hr7)
          | (refine wpList_store_row rfl 26 _ _ rfl w3.heap.size #[.int .i64 (t : Int), .slice A8 n c8, .slice (some ⟨g, 0, none⟩) nr nr] rfl rfl 26 #[.int .i64 (t : Int), .slice A7 n c7, .slice (some ⟨g, 0, none⟩) nr nr] hr8 (Hi.out _ _ _ _ _ _ _) rfl (Hone.out _ _ _ _ _ _ _) ?_))
        have hB8 := step Hb7.out hb78
        have hfin : OwnP w8 w1.heap.size A8 n c8 (minL (t : Int) n rs gi (k + 1)) g nr rs := by
          rcases hcase with ⟨h1, rfl, rfl⟩ | ⟨h1, h2⟩
          · have : minL (t : Int) n rs gi (k + 1) = minL (t : Int) n rs gi k := by rw [minL, HRed.out, h1]; simp
            rw [this]; exact Ho7.out.below hb78
          · have : minL (t : Int) n rs gi (k + 1) = (minL (t : Int) n rs gi k).set k 0 := by rw [minL, HRed.out, h1]; simp
            rw [this]
            exact Ho7.out.fresh hb78 (h2.mono Hbk.out.size) (Nat.le_trans hV3 (Nat.le_of_lt hsX))
        go_roundw
        case rel => exact ⟨k + 1, A8, c8, hlt, by go_num, setRow_heap _ _ _ _ _ _ hr8, hfin.setX hr8, setRow_below5 hB8 (Nat.le_refl _)⟩
        case measure => simp [intOf]; omega
      · obtain rfl : k = n := by omega
        have hbV7 : Below V.heap.size V wr := step Hb13.out hb7
        have hq7 := (HX.out _ hbV7).2
        have Ho7 := Lib.hid ho7
        have Hb7 := Lib.hid hbV7
        clear ho7 hb7 hbV7
        go_wp2_with (refine wpList_store_row rfl 26 _ _ rfl (w.heap.size + 1) #[.int .i64 (t : Int), .slice A7 k c7, .slice (some ⟨g, 0, none⟩) nr nr] rfl rfl 26 #[.int .i64 0, .slice none 0 0, .slice none 0 0] hq7 (Hi.out _ _ _ _ _ _ _) rfl (Hone.out _ _ _ _ _ _ _) ?_)
        have hBe : Below w.heap.size w (wr.setRow (w.heap.size + 1) #[.int .i64 (t : Int), .slice A7 k c7, .slice (some ⟨g, 0, none⟩) nr nr]) := setRow_below5 (HbV.out.trans (Hb7.out.mono HbV.out.size)) (by omega)
        exact bodyPost_ret (v := .tuple #[.agg #[.int .i64 (t : Int), .slice A7 k c7, .slice (some ⟨g, 0, none⟩) nr nr], .bool true]) (results_row_tmp (by rfl) _ _ (w.heap.size + 1) 26 _ (0, 0) _ _ rfl rfl (setRow_heap _ _ _ _ _ _ hq7) Tryd.underlying26 rfl (Hi.out _ _ _ _ _ _ _)) rfl ⟨hBe, .inr ⟨by trivial, A7, c7, g, rfl, (Ho7.out.setX hq7).mono (by omega)⟩⟩
end Go.Proofs.YtkeoflnmbcdmfaaDoor
set_option maxRecDepth 8000
namespace Go.Proofs.YtkeoflnmbcdmfaaDoor
open Go.ChangeShapes Go.WideShapes Go.ChangeAt Go.RowKit Go.Deep
/-! A slice of rules that came in, as it reads. -/
theorem list_of {P : Nat → RuleM → Prop} : ∀ n, (∀ i, i < n → ∃ r, P i r) → ∃ rs : List RuleM, rs.length = n ∧ ∀ i, i < n → P i (rat rs i) := by
  intro n
  induction n with
  | zero => intro _; exact ⟨[], rfl, fun i hi => absurd hi (by omega)⟩
  | succ n ih =>
    intro h
    obtain ⟨rs, hl, hp⟩ := ih (fun i hi => h i (by omega))
    obtain ⟨r, hr⟩ := h n (by omega)
    refine ⟨rs ++ [r], by simp [hl], fun i hi => ?_⟩
    by_cases e : i < n
    · have : rat (rs ++ [r]) i = rat rs i := by simp [rat, List.getD_eq_getElem?_getD, List.getElem?_append_left (by omega : i < rs.length)]
      rw [this]; exact hp i e
    · obtain rfl : i = n := by omega
      have : rat (rs ++ [r]) i = r := by simp [rat, List.getD_eq_getElem?_getD, ← hl]
      rw [this]; exact hr
theorem add_plain (b off i : Nat) : (⟨b, off, none⟩ : Addr).add i = ⟨b, off + i, none⟩ := by unfold Addr.add; split <;> simp_all
theorem open_rules {H : Type} {enc : TypeId × Value → H} {W : World} {base : Nat} {held : Bool} {fs : Array Field} {fuel : Nat} {v : Value} {x : DataW H × List MemPlace}
    (he : Tryd.prog.underlying 105 = some (.struct fs)) (hone : oneCellFields Tryd.prog fs = true) (hC : Tryd.prog.cellsOf 105 = 3) (hfs : fs.size = 3)
    (t0 : (fs[0]?).map (·.type) = some 3) (t1 : (fs[1]?).map (·.type) = some 23) (t2 : (fs[2]?).map (·.type) = some 3) (h1 : Tryd.prog.cellsOf 3 = 1)
    (h : DataW.trod enc Tryd.prog W base (fun _ => true) held fuel 35 [v] = some x) :
    ∃ A len cap rs, v = .slice A len cap ∧ RdRx W W.heap.size A len rs ∧ len ≤ 9223372036854775807 := by
  rcases open_slice Tryd.underlying35 h with ⟨hcs, _⟩ | ⟨a, len, cap, m, nf, D, Pl, hcs, hb, hl, hm, hmm, _, hi⟩
  · injection hcs with hcs
    exact ⟨none, 0, 0, [], hcs, ⟨rfl, fun hn => absurd hn (by omega)⟩, by omega⟩
  · injection hcs with hcs
    have hlm : len ≤ m := by rw [hmm]; simpa using hl
    have hmax : len ≤ 9223372036854775807 := by simp only [maxLen] at hm; omega
    -- one element
    have one : ∀ i, i < len → ∃ (k : Int) (A' : Option Addr) (l c : Nat) (zs : List Int) (u : Int), W.cell? (a.add (i * 3)) = some (.int .i64 k) ∧ W.cell? (a.add (i * 3 + 1)) = some (.slice A' l c) ∧ W.cell? (a.add (i * 3 + 2)) = some (.int .i64 u) ∧ IsRow .i64 W A' l c zs := fun i hil => by
      obtain ⟨cs', hc, ht⟩ := hi i (by omega)
      rw [hC] at hc
      obtain ⟨ys, n', _, _, hlen, hyl, hf⟩ := DataW.trod_struct he ht
      obtain ⟨_, hcl, hat⟩ := World.cells?_some hc
      match cs', hcl with
      | [c0, c1, c2], _ =>
        obtain ⟨f0, hf0⟩ : ∃ f, fs[0]? = some f := ⟨fs[0], Array.getElem?_eq_getElem (by omega)⟩
        obtain ⟨f1, hf1⟩ : ∃ f, fs[1]? = some f := ⟨fs[1], Array.getElem?_eq_getElem (by omega)⟩
        obtain ⟨f2, hf2⟩ : ∃ f, fs[2]? = some f := ⟨fs[2], Array.getElem?_eq_getElem (by omega)⟩
        obtain ⟨o0, k0⟩ := hone_of hone 0 f0 hf0
        obtain ⟨o1, k1⟩ := hone_of hone 1 f1 hf1
        obtain ⟨o2, k2⟩ := hone_of hone 2 f2 hf2
        have e0 := hf 0 f0 hf0
        have e1 := hf 1 f1 hf1
        have e2 := hf 2 f2 hf2
        rw [o0, k0] at e0
        rw [o1, k1] at e1
        rw [o2, k2] at e2
        rw [hf0] at t0
        rw [hf1] at t1
        rw [hf2] at t2
        have t0' : f0.type = 3 := by simpa using t0
        have t1' : f1.type = 23 := by simpa using t1
        have t2' : f2.type = 3 := by simpa using t2
        rw [t0'] at e0
        rw [t1'] at e1
        rw [t2'] at e2
        have g0 : DataW.trod enc Tryd.prog W base (fun _ => true) held n' 3 [c0] = some (ys[0]'(by omega)) := by rw [← List.getElem?_eq_getElem]; simpa using e0
        have g1 : DataW.trod enc Tryd.prog W base (fun _ => true) held n' 23 [c1] = some (ys[1]'(by omega)) := by rw [← List.getElem?_eq_getElem]; simpa using e1
        have g2 : DataW.trod enc Tryd.prog W base (fun _ => true) held n' 3 [c2] = some (ys[2]'(by omega)) := by rw [← List.getElem?_eq_getElem]; simpa using e2
        obtain ⟨k, ek, _⟩ := DataW.trod_int Tryd.underlying3 g0
        obtain ⟨u, eu, _⟩ := DataW.trod_int Tryd.underlying3 g2
        injection ek with ek
        injection eu with eu
        have a0 := hat 0 (by omega)
        have a1 := hat 1 (by omega)
        have a2 := hat 2 (by omega)
        rw [add_add] at a0 a1 a2
        obtain ⟨A', l, c, zs, ez, hz⟩ : ∃ A' l c zs, c1 = .slice A' l c ∧ IsRow .i64 W A' l c zs := by
          rcases open_ints Tryd.underlying23 Tryd.underlying3 h1 g1 with ⟨hcs, _⟩ | ⟨x, l, c, zs, hcs, _, hl, hm, hz, _, hcell, hwz⟩
          · injection hcs with hcs
            exact ⟨none, 0, 0, [], hcs, .inl ⟨rfl, rfl, rfl, rfl⟩⟩
          · injection hcs with hcs
            exact ⟨_, _, _, zs, hcs, .inr ⟨_, rfl, hl, hm, by simpa using hz, hcell, hwz⟩⟩
        exact ⟨k, A', l, c, zs, u, by rw [ek] at a0; simpa using a0, by rw [ez] at a1; simpa using a1, by rw [eu] at a2; simpa using a2, hz⟩
    by_cases h0 : len = 0
    · subst h0
      exact ⟨some a, 0, cap, [], hcs, ⟨rfl, fun hn => absurd hn (by omega)⟩, hmax⟩
    · obtain ⟨k, A', l, c, zs, u, q0, q1, q2, q3⟩ := one 0 (by omega)
      obtain ⟨b, off, spot⟩ := a
      have hspot : spot = none := by simpa [Addr.add] using World.cell?_spot q0
      subst hspot
      obtain ⟨rs, hrl, hrs⟩ := list_of (P := fun i r => ∃ A' c', W.cell? ⟨b, off + i * 3, none⟩ = some (.int .i64 r.k) ∧ W.cell? ⟨b, off + i * 3 + 1, none⟩ = some (.slice A' r.xs.length c') ∧ W.cell? ⟨b, off + i * 3 + 2, none⟩ = some (.int .i64 r.v) ∧ Rd W W.heap.size A' r.xs.length r.xs ∧ r.xs.length ≤ 9223372036854775807) len (fun i hil => by
        obtain ⟨k, A', l, c, zs, u, q0, q1, q2, q3⟩ := one i hil
        have hrd := rd_of_row q3
        have hll := hrd.1
        rw [add_plain] at q0 q1 q2
        exact ⟨⟨k, zs.take l, u⟩, A', c, q0, by rw [hll, Nat.add_assoc]; exact q1, by rw [Nat.add_assoc]; exact q2, by rw [hll]; exact hrd, by rw [hll]; exact row_max q3⟩)
      exact ⟨_, _, _, rs, hcs, ⟨hrl, fun _ => ⟨b, off, rfl, cell_lt q0, hrs⟩⟩, hmax⟩
end Go.Proofs.YtkeoflnmbcdmfaaDoor
set_option maxRecDepth 8000
namespace Go.Proofs.YtkeoflnmbcdmfaaDoor
open Go.ChangeShapes Go.WideShapes Go.ChangeAt Go.RowKit
theorem mkp_no {s : Int} {n nr : Nat} {L : List Int} {rs : List RuleM} {w w' : World} {e : Ending} (h : MkPost false s n L nr rs w e w') : Below w.heap.size w w' ∧ e = .returned (.tuple #[.agg #[.int .i64 0, .slice none 0 0, .slice none 0 0], .bool false]) := by
  obtain ⟨h1, h2 | h2⟩ := h
  · exact ⟨h1, h2.2⟩
  · exact absurd h2.1 (by simp)
theorem mkp_yes {s : Int} {n nr : Nat} {L : List Int} {rs : List RuleM} {w w' : World} {e : Ending} (h : MkPost true s n L nr rs w e w') : Below w.heap.size w w' ∧ ∃ A1 c1 g, e = .returned (.tuple #[.agg #[.int .i64 s, .slice A1 n c1, .slice (some ⟨g, 0, none⟩) nr nr], .bool true]) ∧ OwnP w' w.heap.size A1 n c1 L g nr rs := by
  obtain ⟨h1, h2 | h2⟩ := h
  · exact absurd h2.1 (by simp)
  · exact ⟨h1, h2.2⟩
theorem MinPost_no {s : Int} {n nr : Nat} {gi : List Int} {rs : List RuleM} {w w' : World} {e : Ending} (h : MinPost s n gi nr rs w e w') (hf : (pvB s gi rs && oneB s n gi rs) = false) : Below w.heap.size w w' ∧ e = .returned (.tuple #[.agg #[.int .i64 0, .slice none 0 0, .slice none 0 0], .bool false]) := by
  obtain ⟨h1, h2 | h2⟩ := h
  · exact ⟨h1, h2.1⟩
  · rw [hf] at h2; exact absurd h2.1 (by simp)
theorem MinPost_yes {s : Int} {n nr : Nat} {gi : List Int} {rs : List RuleM} {w w' : World} {e : Ending} (h : MinPost s n gi nr rs w e w') (hf : (pvB s gi rs && oneB s n gi rs) = true) : Below w.heap.size w w' ∧ ∃ A1 c1 A2 c2, e = .returned (.tuple #[.agg #[.int .i64 s, .slice A1 n c1, .slice A2 nr c2], .bool true]) ∧ Rd w' w'.heap.size A1 n (minL s n rs gi n) ∧ OwR w' w.heap.size (.slice A2 nr c2) rs nr := by
  obtain ⟨h1, h2 | h2⟩ := h
  · rw [hf] at h2; exact absurd h2.2 (by simp)
  · obtain ⟨_, A1, c1, A2, c2, K, e, a, b, c, d⟩ := h2
    exact ⟨h1, A1, c1, A2, c2, e, a.rd, c⟩
set_option maxHeartbeats 4000000 in
theorem exactMakeMinimal_walk (s : Int) (Ag : Option Addr) (cg ng : Nat) (gi : List Int) (Ar : Option Addr) (cr nr : Nat) (rs : List RuleM) (w : World) (hgi : Rd w w.heap.size Ag ng gi) (hgm : ng ≤ 9223372036854775807) (hr : RdRx w w.heap.size Ar nr rs) (hrm : nr ≤ 9223372036854775807) (hT : Tz w) :
    Calls Tryd.prog 11 #[.agg #[.int .i64 s, .slice Ag ng cg, .slice Ar nr cr]] w fun e w' => e = .returned (.bool true) ∧ Below w.heap.size w w' := by
  have hx0 := pbox_new w s Ag ng cg Ar nr cr 37
  have hb0 : Below w.heap.size w (w.alloc (.cells #[.int .i64 s, .slice Ag ng cg, .slice Ar nr cr] 37)) := (Below.refl _ _).alloc (Nat.le_refl _) _
  have hs0 : (w.alloc (.cells #[.int .i64 s, .slice Ag ng cg, .slice Ar nr cr] 37)).heap.size = w.heap.size + 1 := by simp
  obtain ⟨W, hW⟩ : ∃ W, w.alloc (.cells #[.int .i64 s, .slice Ag ng cg, .slice Ar nr cr] 37) = W := ⟨_, rfl⟩
  rw [hW] at hx0 hb0 hs0
  have HX := Lib.hid (fun w' (hb : Below W.heap.size W w') => hx0.below (by omega : w.heap.size < W.heap.size) hb)
  have HB := Lib.hid (fun w' (hb : Below W.heap.size W w') => step hb0 hb)
  have hrl := Lib.hid hr.1
  have hgl := hgi.1
  have HSZ := Lib.hid (fun w' (hb : Below w.heap.size w w') => szPuzzle_any s Ag cg ng Ar cr nr w.heap.size rs 1048576 w' hgm (hr.below hb) hb.size hrm (by omega) (by omega))
  have HSZ0 := Lib.hid (HSZ.out _ hb0)
  obtain ⟨a0, a1, a2⟩ := id hx0
  have HW := Lib.hid hW
  clear hW
  go_enter Tryd.func11, Tryd.ntmps11
  go_wp2_with fail
  rw [HW.out]
  refine HSZ0.out.mono ?_
  rintro e w1 ⟨r, rfl, hb1, hr1⟩
  rcases hr1 with rfl | ⟨r0, hl1, hl2, hl3⟩
  · go_wp2
    go_ret
    exact ⟨rfl, HB.out _ hb1⟩
  · have hrneg : ¬ r < 0 := by omega
    have hng20 : ng ≤ 1048576 := by omega
    have hmg : ng ≤ 1099511627776 := by omega
    have hmr : nr ≤ 1099511627776 := by omega
    have hnr : nr ≤ 1048576 := by omega
    have HL20 := Lib.hid (show ∀ i, i < nr → (rat rs i).xs.length ≤ 1048576 from fun i hi => by have := hl3 i hi; omega)
    have HRS := Lib.hid (fun w' (hb : Below w.heap.size w w') => (hr.below hb).small (fun i hi => by have := hl3 i hi; omega))
    have HTP := Lib.hid (fun w' (hb : Below w.heap.size w w') => toPuzzle_any s Ag cg ng w.heap.size gi Ar cr nr w.heap.size rs w' (hgi.below hb) hb.size hmg (HRS.out _ hb) hb.size hnr)
    have HTz := Lib.hid (fun w' (hb : Below w.heap.size w w') => hT.below hT.lt hb)
    clear hl1 hl2 hl3
    obtain ⟨c0, c1, c2⟩ := HX.out _ hb1
    go_wp2_with fail
    refine (HTP.out _ (HB.out _ hb1)).mono ?_
    rintro e w2 ⟨A2, g2, rfl, ho2, hor2, hb2⟩
    have h02 := step hb1 hb2
    have hp2 : PGs w2 s A2 ng ng w2.heap.size gi (some ⟨g2, 0, none⟩) nr nr w2.heap.size rs := ⟨ho2.rd, Nat.le_refl _, hmg, hor2.rd hrl.out, Nat.le_refl _, hmr⟩
    have HS2 := Lib.hid (specMakeMinimal _ _ _ _ _ _ _ _ _ _ _ _ hp2 (by omega))
    clear ho2 hor2 hp2
    cases hok : (pvB s gi rs && oneB s ng gi rs)
    · have Hok := Lib.hid hok
      clear hok
      go_wp2_with fail
      refine HS2.out.mono ?_
      rintro e w3 h3
      obtain ⟨hb3, rfl⟩ := MinPost_no h3 Hok.out
      have hb3a : Below w3.heap.size w3 (w3.alloc (.cells #[.int .i64 0, .slice none 0 0, .slice none 0 0] 26)) := (Below.refl _ _).alloc (Nat.le_refl _) _
      obtain ⟨V3, hV3⟩ : ∃ V3, w3.alloc (.cells #[.int .i64 0, .slice none 0 0, .slice none 0 0] 26) = V3 := ⟨_, rfl⟩
      have hw0 := pbox_new w3 0 none 0 0 none 0 0 26
      have hs3 : V3.heap.size = w3.heap.size + 1 := by rw [← hV3]; simp
      rw [hV3] at hb3a hw0
      have h03 := step h02 (step hb3 hb3a)
      have HW0 := Lib.hid (fun w' (hb : Below V3.heap.size V3 w') => hw0.below (by omega : w3.heap.size < V3.heap.size) hb)
      have hd := HX.out _ h03
      rw [← hV3] at hd
      obtain ⟨d0, d1, d2⟩ := hd
      have HV3 := Lib.hid hV3
      clear c0 c1 c2 hV3 hw0
      go_wp2_with fail
      rw [HV3.out]
      refine (HTP.out _ (HB.out _ h03)).mono ?_
      rintro e w4 ⟨A4, g4, rfl, ho4, hor4, hb4⟩
      have hy4 := pbox_new w4 s A4 ng ng (some ⟨g4, 0, none⟩) nr nr 26
      have hb5 : Below w4.heap.size w4 (w4.alloc (.cells #[.int .i64 s, .slice A4 ng ng, .slice (some ⟨g4, 0, none⟩) nr nr] 26)) := (Below.refl _ _).alloc (Nat.le_refl _) _
      have hs5 : (w4.alloc (.cells #[.int .i64 s, .slice A4 ng ng, .slice (some ⟨g4, 0, none⟩) nr nr] 26)).heap.size = w4.heap.size + 1 := by simp
      obtain ⟨w5, hw5⟩ : ∃ w5, w4.alloc (.cells #[.int .i64 s, .slice A4 ng ng, .slice (some ⟨g4, 0, none⟩) nr nr] 26) = w5 := ⟨_, rfl⟩
      rw [hw5] at hy4 hb5 hs5
      have hpc4 : PGc w4 s A4 ng ng w4.heap.size gi (some ⟨g4, 0, none⟩) nr nr w4.heap.size rs := ⟨ho4.rd, Nat.le_refl _, hmg, hor4.rdc hrl.out, Nat.le_refl _, hmr⟩
      have HP4 := Lib.hid (fun w' (hb : Below w4.heap.size w4 w') => hpc4.below hb)
      have HY := Lib.hid (fun w' (hb : Below w5.heap.size w5 w') => hy4.below (by omega : w4.heap.size < w5.heap.size) hb)
      have h45 := step hb4 hb5
      have h05 := step h03 h45
      obtain ⟨e0, e1, e2⟩ := id hy4
      have Hw5 := Lib.hid hw5
      have HI5x := Lib.hid (fun (A' : Option Addr) (B' : Nat) (Ar' : Option Addr) (Br' : Nat) (w' : World) (hp : PGc w' s A' ng ng B' gi Ar' nr nr Br' rs) (hT : Tz w') => by
        have := implMakeMinimal _ _ _ _ _ _ _ _ _ _ _ _ hp hT
        rw [Hok.out] at this
        exact this)
      have HI5 := Lib.hid (HI5x.out _ _ _ _ _ (HP4.out _ hb5) (HTz.out _ (HB.out _ h05)))
      have HO4 := Lib.hid ho4
      have HOR4 := Lib.hid hor4
      clear hw5 hpc4 ho4 hor4 d0 d1 d2
      go_wp2_with fail
      rw [Hw5.out]
      refine HI5.out.mono ?_
      rintro e w6 h6
      obtain ⟨hb6, rfl⟩ := mkp_no h6
      have hb6a : Below w6.heap.size w6 (w6.alloc (.cells #[.int .i64 0, .slice none 0 0, .slice none 0 0] 26)) := (Below.refl _ _).alloc (Nat.le_refl _) _
      have hg0 := pbox_new w6 0 none 0 0 none 0 0 26
      obtain ⟨w7, hw7⟩ : ∃ w7, w6.alloc (.cells #[.int .i64 0, .slice none 0 0, .slice none 0 0] 26) = w7 := ⟨_, rfl⟩
      have hs7 : w7.heap.size = w6.heap.size + 1 := by rw [← hw7]; simp
      rw [hw7] at hb6a hg0
      have h57 := step hb6 hb6a
      have h37 := step h45 h57
      have h07 := step h05 h57
      have HG0 := Lib.hid (fun w' (hb : Below w7.heap.size w7 w') => hg0.below (by omega : w6.heap.size < w7.heap.size) hb)
      have hf := HW0.out _ h37
      rw [← hw7] at hf
      obtain ⟨f0, f1, f2⟩ := hf
      have Hw7 := Lib.hid hw7
      clear e0 e1 e2 hw7
      have HE8 := Lib.hid (eq_nil w7)
      go_wp2_with fail
      rw [Hw7.out]
      refine HE8.out.mono ?_
      rintro e w8 ⟨rfl, hb8⟩
      have h38 := step h37 hb8
      have h58 := step h57 hb8
      have h08 := step h07 hb8
      have h78 := hb8
      obtain ⟨i0, i1, i2⟩ := HX.out _ h08
      obtain ⟨j0, j1, j2⟩ := HY.out _ h58
      have hBA : Below w.heap.size w w8.drew := (HB.out _ h08).drew
      have hP8 := (HP4.out _ (step hb5 h58)).rd
      clear f0 f1 f2
      go_upto_region 10 with fail
      go_cut [45] from 10 (fun bv wx => bv = .bool false ∧ Below w8.heap.size w8 wx)
      case first =>
        go_wp2
        go_region_with (first | (go_at_call 25; (with_reducible refine (HTP.out _ ?hd).mono ?_); (case hd => exact hBA); rintro e w7 ⟨A7, g7, rfl, ho8, hor8, hb8d⟩; have hb8' := below_undrew hb8d; clear hb8d; obtain ⟨q0, q1, q2⟩ := HY.out _ (step h58 hb8'); have hp8 := hP8.below hb8'; have hgr8 := ho8.rd; have hrr8 := hor8.rd hrl.out) | (go_at_call 26; (with_reducible refine (eqPuzzle_any s A4 A7 ng ng ng _ _ gi (some ⟨g4, 0, none⟩) (some ⟨g7, 0, none⟩) nr nr nr _ _ rs _ hp8.g hp8.gB hmg hgr8 ?hB hp8.r hrr8 hp8.rB ?hB2 hmr).mono ?_); (case hB => exact Nat.le_refl _); (case hB2 => exact Nat.le_refl _); rintro e w8' ⟨rfl, hb9⟩))
        all_goals
          go_wp2
          go_meet
          case rel => first | exact ⟨rfl, step hb8' hb9⟩ | exact ⟨by trivial, step hb8' hb9⟩ | exact step hb8' hb9
      case rest =>
        obtain ⟨rfl, hbx⟩ := hcut
        have h3c := step h38 hbx
        have h5c := step h58 hbx
        have h7c := step h78 hbx
        have h0c := step h08 hbx
        obtain ⟨j0, j1, j2⟩ := HY.out _ h5c
        have HMk := Lib.hid (markPuzzle_any s A4 ng ng g4 nr nr V3.heap.size w4.heap.size gi rs 1 w4 wc HO4.out HOR4.out (Nat.le_refl _) (step hb5 h5c) hng20 hnr HL20.out (by omega) (by omega))
        have hwc := h3c.size
        clear i0 i1 i2
        go_wp2_with fail
        refine HMk.out.mono ?_
        rintro e w9 ⟨⟨q, rfl, q0, _⟩, hbm⟩
        have h39 : Below V3.heap.size V3 w9 := h3c.trans (hbm.below (Nat.le_refl _) hwc)
        have hc9 := hbm.size
        have hqn : ¬ q < 0 := by omega
        have hg9 : PBox w9 w6.heap.size 0 none 0 0 none 0 0 := by
          have hh := HG0.out _ h7c
          have q1 := h45.size
          have q2 := hb6.size
          have q3 := h7c.size
          have hcell : ∀ i, w9.cell? ⟨w6.heap.size, i, none⟩ = wc.cell? ⟨w6.heap.size, i, none⟩ := fun i => World.cell?_of_block (a := ⟨w6.heap.size, i, none⟩) (hbm.block w6.heap.size (by omega) (.inr (by omega)))
          exact ⟨(hcell 0).trans hh.1, (hcell 1).trans hh.2.1, (hcell 2).trans hh.2.2⟩
        obtain ⟨k0, k1, k2⟩ := id hg9
        obtain ⟨l0, l1, l2⟩ := HW0.out _ h39
        have h09 := step h03 h39
        have HE9 := Lib.hid (eq_nil w9)
        clear hbm j0 j1 j2
        go_wp2_with fail
        refine HE9.out.mono ?_
        rintro e w10 ⟨rfl, hb10⟩
        have h310 := step h39 hb10
        have h010 := step h09 hb10
        have hg10 := hg9.below (by have := h7c.size; have := hc9; omega : w6.heap.size < w9.heap.size) hb10
        obtain ⟨m0, m1, m2⟩ := id hg10
        go_wp2_with fail
        clear k0 k1 k2 l0 l1 l2
        refine (mark_nil w10).mono ?_
        rintro e w11 ⟨rfl, hb11⟩
        have h311 := step h310 hb11
        have hs610 : w6.heap.size < w10.heap.size := by have := h7c.size; have := hc9; have := hb10.size; omega
        have hg11 := hg10.below hs610 hb11
        have hs11 : w6.heap.size < w11.heap.size := Nat.lt_of_lt_of_le hs610 hb11.size
        have HH := Lib.hid (fun w' (_ : Below w11.heap.size w11 w') => held_nil w')
        have h011 := step h03 h311
        obtain ⟨n0, n1, n2⟩ := id hg11
        clear m0 m1 m2
        go_wp2_with fail
        refine (HH.out _ (Below.refl _ _)).mono ?_
        rintro e w12 ⟨rfl, hb12⟩
        have h312 := step h311 hb12
        have h012 := step h011 hb12
        obtain ⟨o0, o1, o2⟩ := HX.out _ h012
        clear n0 n1 n2
        go_wp2_with fail
        refine (HTP.out _ (HB.out _ h012)).mono ?_
        rintro e w13 ⟨A13, g13, rfl, ho13, hor13, hb13⟩
        have hpc13 : PGc w13 s A13 ng ng w13.heap.size gi (some ⟨g13, 0, none⟩) nr nr w13.heap.size rs := ⟨ho13.rd, Nat.le_refl _, hmg, hor13.rdc hrl.out, Nat.le_refl _, hmr⟩
        have h313 := step h312 hb13
        have h013 := step h012 hb13
        have HI13 := HI5x.out _ _ _ _ _ hpc13 (HTz.out _ (HB.out _ h013))
        have HI13 := Lib.hid HI13
        clear o0 o1 o2 ho13 hor13 hpc13
        go_wp2_with fail
        refine HI13.out.mono ?_
        rintro e w14 h14
        obtain ⟨hb14, rfl⟩ := mkp_no h14
        have hb14a : Below w14.heap.size w14 (w14.alloc (.cells #[.int .i64 0, .slice none 0 0, .slice none 0 0] 26)) := (Below.refl _ _).alloc (Nat.le_refl _) _
        obtain ⟨w15, hw15⟩ : ∃ w15, w14.alloc (.cells #[.int .i64 0, .slice none 0 0, .slice none 0 0] 26) = w15 := ⟨_, rfl⟩
        rw [hw15] at hb14a
        have h315 := step h313 (step hb14 hb14a)
        have h1115 := step hb12 (step hb13 (step hb14 hb14a))
        have hr15 := HW0.out _ h315
        rw [← hw15] at hr15
        obtain ⟨r0, r1, r2⟩ := hr15
        have Hw15 := Lib.hid hw15
        clear hw15
        have HE15 := Lib.hid (eq_nil w15)
        go_wp2_with fail
        rw [Hw15.out]
        refine HE15.out.mono ?_
        rintro e w16 ⟨rfl, hb16⟩
        have h1116 := step h1115 hb16
        obtain ⟨s0, s1, s2⟩ := hg11.below hs11 h1116
        clear r0 r1 r2
        go_wp2_with fail
        refine (HH.out _ h1116).mono ?_
        rintro e w17 ⟨rfl, hb17⟩
        go_wp2
        go_ret
        exact ⟨rfl, HB.out _ (step h011 (step h1116 hb17))⟩
    · have Hok := Lib.hid hok
      rw [Bool.and_eq_true] at hok
      obtain ⟨hv, hone⟩ := hok
      obtain ⟨t, rfl, hs, hnn, hn16, _⟩ := pv_grid hv hgl
      have hnr20 : nr ≤ 20 := by have := (pv_gv hv).2.1; have := hrl.out; omega
      obtain ⟨X, hX⟩ : ∃ X, X = minL (t : Int) ng rs gi ng := ⟨_, rfl⟩
      have HSY := Lib.hid (fun e w' (h : MinPost (t : Int) ng gi nr rs w2 e w') => (by
        have := MinPost_yes h Hok.out
        rw [← hX] at this
        exact this))
      clear hv hone hs hnn
      go_wp2_with fail
      refine HS2.out.mono ?_
      rintro e w3 h3
      obtain ⟨hb3, A0, cA0, A0r, c0r, rfl, hr0, hor0⟩ := HSY.out _ _ h3
      have hb3a : Below w3.heap.size w3 (w3.alloc (.cells #[.int .i64 (t : Int), .slice A0 ng cA0, .slice A0r nr c0r] 26)) := (Below.refl _ _).alloc (Nat.le_refl _) _
      obtain ⟨V3, hV3⟩ : ∃ V3, w3.alloc (.cells #[.int .i64 (t : Int), .slice A0 ng cA0, .slice A0r nr c0r] 26) = V3 := ⟨_, rfl⟩
      have hw0 := pbox_new w3 (t : Int) A0 ng cA0 A0r nr c0r 26
      have hs3 : V3.heap.size = w3.heap.size + 1 := by rw [← hV3]; simp
      rw [hV3] at hb3a hw0
      have h03 := step h02 (step hb3 hb3a)
      have HW0 := Lib.hid (fun w' (hb : Below V3.heap.size V3 w') => hw0.below (by omega : w3.heap.size < V3.heap.size) hb)
      have HR0 := Lib.hid (fun w' (hb : Below V3.heap.size V3 w') => (⟨(hr0.below hb3a).below (hb.mono hb3a.size), ((hor0.rd hrl.out).below hb3a).below (hb.mono hb3a.size)⟩ : Rd w' w3.heap.size A0 ng X ∧ RdRs w' w3.heap.size A0r nr rs))
      clear hr0 hor0
      have hd := HX.out _ h03
      rw [← hV3] at hd
      obtain ⟨d0, d1, d2⟩ := hd
      have HV3 := Lib.hid hV3
      clear c0 c1 c2 hV3 hw0
      go_wp2_with fail
      rw [HV3.out]
      refine (HTP.out _ (HB.out _ h03)).mono ?_
      rintro e w4 ⟨A4, g4, rfl, ho4, hor4, hb4⟩
      have hy4 := pbox_new w4 (t : Int) A4 ng ng (some ⟨g4, 0, none⟩) nr nr 26
      have hb5 : Below w4.heap.size w4 (w4.alloc (.cells #[.int .i64 (t : Int), .slice A4 ng ng, .slice (some ⟨g4, 0, none⟩) nr nr] 26)) := (Below.refl _ _).alloc (Nat.le_refl _) _
      have hs5 : (w4.alloc (.cells #[.int .i64 (t : Int), .slice A4 ng ng, .slice (some ⟨g4, 0, none⟩) nr nr] 26)).heap.size = w4.heap.size + 1 := by simp
      obtain ⟨w5, hw5⟩ : ∃ w5, w4.alloc (.cells #[.int .i64 (t : Int), .slice A4 ng ng, .slice (some ⟨g4, 0, none⟩) nr nr] 26) = w5 := ⟨_, rfl⟩
      rw [hw5] at hy4 hb5 hs5
      have hpc4 : PGc w4 (t : Int) A4 ng ng w4.heap.size gi (some ⟨g4, 0, none⟩) nr nr w4.heap.size rs := ⟨ho4.rd, Nat.le_refl _, hmg, hor4.rdc hrl.out, Nat.le_refl _, hmr⟩
      have HP4 := Lib.hid (fun w' (hb : Below w4.heap.size w4 w') => hpc4.below hb)
      have HY := Lib.hid (fun w' (hb : Below w5.heap.size w5 w') => hy4.below (by omega : w4.heap.size < w5.heap.size) hb)
      have h45 := step hb4 hb5
      have h05 := step h03 h45
      obtain ⟨e0, e1, e2⟩ := id hy4
      have Hw5 := Lib.hid hw5
      have HI5x := Lib.hid (fun (A' : Option Addr) (B' : Nat) (Ar' : Option Addr) (Br' : Nat) (w' : World) (hp : PGc w' (t : Int) A' ng ng B' gi Ar' nr nr Br' rs) (hT : Tz w') => by
        have := implMakeMinimal _ _ _ _ _ _ _ _ _ _ _ _ hp hT
        rw [Hok.out, ← hX] at this
        exact this)
      have HI5 := Lib.hid (HI5x.out _ _ _ _ _ (HP4.out _ hb5) (HTz.out _ (HB.out _ h05)))
      have HO4 := Lib.hid ho4
      have HOR4 := Lib.hid hor4
      clear hw5 hpc4 ho4 hor4 d0 d1 d2 hX
      go_wp2_with fail
      rw [Hw5.out]
      refine HI5.out.mono ?_
      rintro e w6 h6
      obtain ⟨hb6, A5, c5, g5, rfl, hown⟩ := mkp_yes h6
      have hb6a : Below w6.heap.size w6 (w6.alloc (.cells #[.int .i64 (t : Int), .slice A5 ng c5, .slice (some ⟨g5, 0, none⟩) nr nr] 26)) := (Below.refl _ _).alloc (Nat.le_refl _) _
      have hg0 := pbox_new w6 (t : Int) A5 ng c5 (some ⟨g5, 0, none⟩) nr nr 26
      obtain ⟨w7, hw7⟩ : ∃ w7, w6.alloc (.cells #[.int .i64 (t : Int), .slice A5 ng c5, .slice (some ⟨g5, 0, none⟩) nr nr] 26) = w7 := ⟨_, rfl⟩
      have hs7 : w7.heap.size = w6.heap.size + 1 := by rw [← hw7]; simp
      rw [hw7] at hb6a hg0
      have h57 := step hb6 hb6a
      have h37 := step h45 h57
      have h07 := step h05 h57
      have HG0 := Lib.hid (fun w' (hb : Below w7.heap.size w7 w') => hg0.below (by omega : w6.heap.size < w7.heap.size) hb)
      have hown7 := hown.h.below hb6a
      clear hown
      have hf := HW0.out _ h37
      rw [← hw7] at hf
      obtain ⟨f0, f1, f2⟩ := hf
      have Hw7 := Lib.hid hw7
      clear e0 e1 e2 hw7
      have HE8 := Lib.hid (eqPuzzle_any (t : Int) A5 A0 c5 cA0 ng w7.heap.size w3.heap.size X (some ⟨g5, 0, none⟩) A0r nr c0r nr w7.heap.size w3.heap.size rs w7 hown7.1.rd (Nat.le_refl _) hmg (HR0.out _ h37).1 (by have := (h37).size; omega) (hown7.rdrs hrl.out) (HR0.out _ h37).2 (Nat.le_refl _) (by have := (h37).size; omega) hmr)
      go_wp2_with fail
      rw [Hw7.out]
      refine HE8.out.mono ?_
      rintro e w8 ⟨rfl, hb8⟩
      have h38 := step h37 hb8
      have h58 := step h57 hb8
      have h08 := step h07 hb8
      have h78 := hb8
      obtain ⟨i0, i1, i2⟩ := HX.out _ h08
      obtain ⟨j0, j1, j2⟩ := HY.out _ h58
      have hBA : Below w.heap.size w w8.drew := (HB.out _ h08).drew
      have hP8 := (HP4.out _ (step hb5 h58)).rd
      have hown8 := hown7.below hb8
      clear hown7
      clear f0 f1 f2
      go_upto_region 10 with fail
      go_cut [45] from 10 (fun bv wx => bv = .bool false ∧ Below w8.heap.size w8 wx)
      case first =>
        go_wp2
        go_region_with (first | (go_at_call 25; (with_reducible refine (HTP.out _ ?hd).mono ?_); (case hd => exact hBA); rintro e w7 ⟨A7, g7, rfl, ho8, hor8, hb8d⟩; have hb8' := below_undrew hb8d; clear hb8d; obtain ⟨q0, q1, q2⟩ := HY.out _ (step h58 hb8'); have hp8 := hP8.below hb8'; have hgr8 := ho8.rd; have hrr8 := hor8.rd hrl.out) | (go_at_call 26; (with_reducible refine (eqPuzzle_any (t : Int) A4 A7 ng ng ng _ _ gi (some ⟨g4, 0, none⟩) (some ⟨g7, 0, none⟩) nr nr nr _ _ rs _ hp8.g hp8.gB hmg hgr8 ?hB hp8.r hrr8 hp8.rB ?hB2 hmr).mono ?_); (case hB => exact Nat.le_refl _); (case hB2 => exact Nat.le_refl _); rintro e w8' ⟨rfl, hb9⟩))
        all_goals
          go_wp2
          go_meet
          case rel => first | exact ⟨rfl, step hb8' hb9⟩ | exact ⟨by trivial, step hb8' hb9⟩ | exact step hb8' hb9
      case rest =>
        obtain ⟨rfl, hbx⟩ := hcut
        have h3c := step h38 hbx
        have h5c := step h58 hbx
        have h7c := step h78 hbx
        have h0c := step h08 hbx
        obtain ⟨j0, j1, j2⟩ := HY.out _ h5c
        have HMk := Lib.hid (markPuzzle_any (t : Int) A4 ng ng g4 nr nr V3.heap.size w4.heap.size gi rs 1 w4 wc HO4.out HOR4.out (Nat.le_refl _) (step hb5 h5c) hng20 hnr HL20.out (by omega) (by omega))
        have hwc := h3c.size
        have hownc := hown8.below hbx
        clear hown8
        clear i0 i1 i2
        go_wp2_with fail
        refine HMk.out.mono ?_
        rintro e w9 ⟨⟨q, rfl, q0, _⟩, hbm⟩
        have h39 : Below V3.heap.size V3 w9 := h3c.trans (hbm.below (Nat.le_refl _) hwc)
        have hc9 := hbm.size
        have hqn : ¬ q < 0 := by omega
        have hg9 : PBox w9 w6.heap.size (t : Int) A5 ng c5 (some ⟨g5, 0, none⟩) nr nr := by
          have hh := HG0.out _ h7c
          have q1 := h45.size
          have q2 := hb6.size
          have q3 := h7c.size
          have hcell : ∀ i, w9.cell? ⟨w6.heap.size, i, none⟩ = wc.cell? ⟨w6.heap.size, i, none⟩ := fun i => World.cell?_of_block (a := ⟨w6.heap.size, i, none⟩) (hbm.block w6.heap.size (by omega) (.inr (by omega)))
          exact ⟨(hcell 0).trans hh.1, (hcell 1).trans hh.2.1, (hcell 2).trans hh.2.2⟩
        obtain ⟨k0, k1, k2⟩ := id hg9
        obtain ⟨l0, l1, l2⟩ := HW0.out _ h39
        have h09 := step h03 h39
        have hown9 := hownc.bt hbm (by have := h45.size; omega)
        have HE9 := Lib.hid (eqPuzzle_any (t : Int) A5 A0 c5 cA0 ng w9.heap.size w3.heap.size X (some ⟨g5, 0, none⟩) A0r nr c0r nr w9.heap.size w3.heap.size rs w9 hown9.1.rd (Nat.le_refl _) hmg (HR0.out _ h39).1 (by have := h39.size; omega) (hown9.rdrs hrl.out) (HR0.out _ h39).2 (Nat.le_refl _) (by have := h39.size; omega) hmr)
        clear hbm j0 j1 j2
        go_wp2_with fail
        refine HE9.out.mono ?_
        rintro e w10 ⟨rfl, hb10⟩
        have h310 := step h39 hb10
        have h010 := step h09 hb10
        have hg10 := hg9.below (by have := h7c.size; have := hc9; omega : w6.heap.size < w9.heap.size) hb10
        obtain ⟨m0, m1, m2⟩ := id hg10
        go_wp2_with fail
        have hown10 := hown9.below hb10
        have HM10 := Lib.hid (markPuzzle_own (t : Int) A5 ng c5 g5 nr w5.heap.size w6.heap.size X rs w10 hown10 hng20 (by omega) HL20.out)
        have hs610 : w6.heap.size < w10.heap.size := by have := h7c.size; have := hc9; have := hb10.size; omega
        have hs3w5 : V3.heap.size ≤ w5.heap.size := h45.size
        have hs0310 := h310.size
        clear hown9 hown10 k0 k1 k2 l0 l1 l2
        refine HM10.out.mono ?_
        rintro e w11 ⟨rfl, hz11, hb11⟩
        have h311 : Below V3.heap.size V3 w11 := h310.trans (hb11.below hs3w5 hs0310)
        have hg11 : PBox w11 w6.heap.size (t : Int) A5 ng c5 (some ⟨g5, 0, none⟩) nr nr := by
          have hcell : ∀ i, w11.cell? ⟨w6.heap.size, i, none⟩ = w10.cell? ⟨w6.heap.size, i, none⟩ := fun i => World.cell?_of_block (a := ⟨w6.heap.size, i, none⟩) (hb11.block w6.heap.size hs610 (.inr (Nat.le_refl _)))
          exact ⟨(hcell 0).trans hg10.1, (hcell 1).trans hg10.2.1, (hcell 2).trans hg10.2.2⟩
        have hs11 : w6.heap.size < w11.heap.size := Nat.lt_of_lt_of_le hs610 hb11.size
        have HH := Lib.hid (fun w' (hb : Below w11.heap.size w11 w') => heldPuzzle_own (t : Int) A5 ng c5 g5 nr rs w' (hz11.below hb) hng20 (by omega) HL20.out)
        obtain ⟨b0, _⟩ := xN_bd (m := 1 + (ng : Int)) HL20.out (by omega) (Nat.le_refl nr)
        obtain ⟨M, hM⟩ : ∃ M, M = xN (1 + ng) rs nr := ⟨_, rfl⟩
        rw [← hM] at HH b0
        rw [← hM]
        have hMn : ¬ M < 0 := by omega
        have hMM : (M != M) = false := by simp
        clear hM hz11
        have h011 := step h03 h311
        obtain ⟨n0, n1, n2⟩ := id hg11
        clear m0 m1 m2
        go_wp2_with fail
        refine (HH.out _ (Below.refl _ _)).mono ?_
        rintro e w12 ⟨rfl, hb12⟩
        have h312 := step h311 hb12
        have h012 := step h011 hb12
        obtain ⟨o0, o1, o2⟩ := HX.out _ h012
        clear n0 n1 n2
        go_wp2_with fail
        refine (HTP.out _ (HB.out _ h012)).mono ?_
        rintro e w13 ⟨A13, g13, rfl, ho13, hor13, hb13⟩
        have hpc13 : PGc w13 (t : Int) A13 ng ng w13.heap.size gi (some ⟨g13, 0, none⟩) nr nr w13.heap.size rs := ⟨ho13.rd, Nat.le_refl _, hmg, hor13.rdc hrl.out, Nat.le_refl _, hmr⟩
        have h313 := step h312 hb13
        have h013 := step h012 hb13
        have HI13 := HI5x.out _ _ _ _ _ hpc13 (HTz.out _ (HB.out _ h013))
        have HI13 := Lib.hid HI13
        clear o0 o1 o2 ho13 hor13 hpc13
        go_wp2_with fail
        refine HI13.out.mono ?_
        rintro e w14 h14
        obtain ⟨hb14, A12h, c12h, g12h, rfl, hown14⟩ := mkp_yes h14
        have hb14a : Below w14.heap.size w14 (w14.alloc (.cells #[.int .i64 (t : Int), .slice A12h ng c12h, .slice (some ⟨g12h, 0, none⟩) nr nr] 26)) := (Below.refl _ _).alloc (Nat.le_refl _) _
        obtain ⟨w15, hw15⟩ : ∃ w15, w14.alloc (.cells #[.int .i64 (t : Int), .slice A12h ng c12h, .slice (some ⟨g12h, 0, none⟩) nr nr] 26) = w15 := ⟨_, rfl⟩
        rw [hw15] at hb14a
        have h315 := step h313 (step hb14 hb14a)
        have h1115 := step hb12 (step hb13 (step hb14 hb14a))
        have hr15 := HW0.out _ h315
        rw [← hw15] at hr15
        obtain ⟨r0, r1, r2⟩ := hr15
        have Hw15 := Lib.hid hw15
        clear hw15
        have hown15 := hown14.h.below hb14a
        have HE15 := Lib.hid (eqPuzzle_any (t : Int) A12h A0 c12h cA0 ng w15.heap.size w3.heap.size X (some ⟨g12h, 0, none⟩) A0r nr c0r nr w15.heap.size w3.heap.size rs w15 hown15.1.rd (Nat.le_refl _) hmg (HR0.out _ h315).1 (by have := h315.size; omega) (hown15.rdrs hrl.out) (HR0.out _ h315).2 (Nat.le_refl _) (by have := h315.size; omega) hmr)
        clear hown14 hown15
        go_wp2_with fail
        rw [Hw15.out]
        refine HE15.out.mono ?_
        rintro e w16 ⟨rfl, hb16⟩
        have h1116 := step h1115 hb16
        obtain ⟨s0, s1, s2⟩ := hg11.below hs11 h1116
        clear r0 r1 r2
        go_wp2_with fail
        refine (HH.out _ h1116).mono ?_
        rintro e w17 ⟨rfl, hb17⟩
        go_wp2
        go_ret
        exact ⟨rfl, HB.out _ (step h011 (step h1116 hb17))⟩
end Go.Proofs.YtkeoflnmbcdmfaaDoor
set_option maxRecDepth 8000
namespace Go.Proofs.YtkeoflnmbcdmfaaDoor
/-! what is given, less pairs of opposite cells. -/
def evL (s : Int) (n : Nat) (rs : List RuleM) (gi : List Int) : Nat → List Int
  | 0 => gi
  | k + 1 => if decide (0 < nth (evL s n rs gi k) k + nth (evL s n rs gi k) (n - 1 - k)) && oneB s n (((evL s n rs gi k).set k 0).set (n - 1 - k) 0) rs then ((evL s n rs gi k).set k 0).set (n - 1 - k) 0 else evL s n rs gi k
theorem evL_length (s : Int) (n : Nat) (rs : List RuleM) (gi : List Int) (k : Nat) : (evL s n rs gi k).length = gi.length := by
  induction k with
  | zero => rfl
  | succ k ih => unfold evL; split <;> simp [ih]
theorem evL_inv {s n : Nat} {gi : List Int} {rs : List RuleM} (hv : pvB s gi rs = true) (ho : oneB s n gi rs = true) (k : Nat) : Mk1 s n rs (evL s n rs gi k) gi := by
  induction k with
  | zero => exact ⟨hv, ho, Le0.refl _⟩
  | succ k ih =>
    unfold evL
    split
    · next h =>
      rw [Bool.and_eq_true] at h
      exact ⟨pv_put (pv_put ih.v k) _, h.2, (Le0.set _ _).trans ((Le0.set _ k).trans ih.l)⟩
    · exact ih
theorem evL_sym {s n : Nat} {gi : List Int} {rs : List RuleM} (hl : gi.length = n) (hf : ∀ i, i < n → nth gi i ≠ 0) : ∀ k, 2 * k ≤ n + 1 → ∀ i, i < n → (nth (evL s n rs gi k) i = 0 ↔ nth (evL s n rs gi k) (n - 1 - i) = 0) := by
  intro k
  induction k with
  | zero => intro _ i hi; exact ⟨fun h => absurd h (hf i hi), fun h => absurd h (hf _ (by omega))⟩
  | succ k ih =>
    intro hk i hi
    have hL := evL_length s n rs gi k
    unfold evL
    split
    · rw [nth_setM (by simp; omega), nth_setM (by omega), nth_setM (by simp; omega), nth_setM (by omega)]
      by_cases e1 : i = n - 1 - k
      · rw [if_pos e1]
        by_cases e2 : n - 1 - i = n - 1 - k
        · rw [if_pos e2]
        · rw [if_neg e2, if_pos (by omega)]
      · rw [if_neg e1]
        by_cases e3 : i = k
        · rw [if_pos e3, if_pos (by omega)]
        · rw [if_neg e3, if_neg (by omega), if_neg (by omega)]; exact ih (by omega) i hi
    · exact ih (by omega) i hi
theorem cnz_mono {a b : List Int} (h : Le0 a b) : ∀ m, cnz a m ≤ cnz b m := by
  intro m
  induction m with
  | zero => exact Nat.le_refl _
  | succ m ih =>
    simp only [cnz]
    rcases h.2 m with e | e
    · rw [e]; omega
    · rw [e]; simp; omega
end Go.Proofs.YtkeoflnmbcdmfaaDoor
set_option maxRecDepth 8000
namespace Go.Proofs.YtkeoflnmbcdmfaaDoor
open Go.ChangeShapes Go.WideShapes Go.ChangeAt Go.RowKit
def EvPost (s : Int) (n : Nat) (gi : List Int) (nr : Nat) (rs : List RuleM) (w : World) (e : Ending) (w' : World) : Prop :=
  Below w.heap.size w w' ∧ ((e = .returned (.tuple #[.agg #[.int .i64 0, .slice none 0 0, .slice none 0 0], .bool false]) ∧ (pvB s gi rs && oneB s n gi rs) = false) ∨
    ((pvB s gi rs && oneB s n gi rs) = true ∧ ∃ A1 c1 A2 c2 K, e = .returned (.tuple #[.agg #[.int .i64 s, .slice A1 n c1, .slice A2 nr c2], .bool true]) ∧ Ow w' K A1 n c1 (evL s n rs gi ((n + 1) / 2)) ∧ w.heap.size ≤ K ∧ OwR w' w.heap.size (.slice A2 nr c2) rs nr ∧ SpQ w' w.heap.size (.slice A2 nr c2) nr (fun g => g < K)))
set_option maxHeartbeats 4000000 in
theorem specMakeEven (s : Int) (Ag : Option Addr) (n cg Bg : Nat) (gi : List Int) (Ar : Option Addr) (nr cr Br : Nat) (rs : List RuleM) (w : World) (hp : PGs w s Ag n cg Bg gi Ar nr cr Br rs) (hm2 : nr ≤ 1099511627775) :
    Calls Tryd.prog 39 #[.agg #[.int .i64 s, .slice Ag n cg, .slice Ar nr cr]] w (EvPost s n gi nr rs w) := by
  have Hone := Lib.hid puz_one
  have Hi := Lib.hid puz_info
  have hrl := hp.r.1
  obtain ⟨W0, hW0⟩ : ∃ W0, (w.alloc (.cells #[.int .i64 s, .slice Ag n cg, .slice Ar nr cr] 26)).alloc (.cells #[.int .i64 0, .slice none 0 0, .slice none 0 0] 26) = W0 := ⟨_, rfl⟩
  have hb0 : Below w.heap.size w W0 := by rw [← hW0]; exact ((Below.refl _ _).alloc (Nat.le_refl _) _).alloc (by simp) _
  have hs0 : W0.heap.size = w.heap.size + 1 + 1 := by rw [← hW0]; simp
  have hp0 : W0.heap[w.heap.size]? = some (.cells #[.int .i64 s, .slice Ag n cg, .slice Ar nr cr] 26) := by
    rw [← hW0]; exact (Below.heap_alloc _ _ _ (by simp)).trans (heap_alloc_new w _)
  have hq0 : W0.heap[w.heap.size + 1]? = some (.cells #[.int .i64 0, .slice none 0 0, .slice none 0 0] 26) := by
    rw [← hW0]
    have := heap_alloc_new (w.alloc (.cells #[.int .i64 s, .slice Ag n cg, .slice Ar nr cr] 26)) (.cells #[.int .i64 0, .slice none 0 0, .slice none 0 0] 26)
    rwa [World.size_alloc] at this
  have hP0 := hp.below (hb0.mono (Nat.le_refl _))
  have HOP := Lib.hid (specOwnPuzzle s Ag n cg Bg gi Ar nr cr Br rs W0 hP0.g hP0.gB hp.gm hP0.r hP0.rB hm2)
  obtain ⟨z0, z1, z2⟩ : PBox W0 w.heap.size s Ag n cg Ar nr cr := ⟨cell_of_row _ _ 0 _ _ (0, 0) hp0, cell_of_row _ _ 1 _ _ (0, 0) hp0, cell_of_row _ _ 2 _ _ (0, 0) hp0⟩
  have HW0 := Lib.hid hW0
  clear hW0 hP0
  go_enter Tryd.func39, Tryd.ntmps39
  go_wp2_with fail
  rw [HW0.out]
  refine HOP.out.mono ?_
  rintro e w1 ⟨A1, c1, A2, c2, rfl, ho1, hor1, hb1⟩
  have hp1 := (hb1.block w.heap.size (by omega)).trans hp0
  have hq1 := (hb1.block (w.heap.size + 1) (by omega)).trans hq0
  obtain ⟨W2, hW2⟩ : ∃ W2, w1.setRow w.heap.size #[.int .i64 s, .slice A1 n c1, .slice A2 nr c2] = W2 := ⟨_, rfl⟩
  have hb2 : Below w.heap.size w W2 := by rw [← hW2]; exact setRow_below5 (hb0.trans (hb1.mono hb0.size)) (Nat.le_refl _)
  have hp2 : W2.heap[w.heap.size]? = some (.cells #[.int .i64 s, .slice A1 n c1, .slice A2 nr c2] 26) := by rw [← hW2]; exact setRow_heap _ _ _ _ _ _ hp1
  have hq2 : W2.heap[w.heap.size + 1]? = some (.cells #[.int .i64 0, .slice none 0 0, .slice none 0 0] 26) := by
    rw [← hW2]; refine Eq.trans ?_ hq1; unfold World.setRow; simp only [Array.getElem?_modify]; rw [if_neg (by omega)]
  have ho2 : Ow W2 W0.heap.size A1 n c1 gi := by rw [← hW2]; exact ho1.row5 (fun b hb => by have := ho1.own_lo b hb; omega)
  have hor2 : OwR W2 W0.heap.size (.slice A2 nr c2) rs nr := by rw [← hW2]; exact hor1.keptL grown_setRow5 (by omega)
  have hP2 : PGs W2 s A1 n c1 W2.heap.size gi A2 nr c2 W2.heap.size rs := ⟨ho2.rd, Nat.le_refl _, hp.gm, hor2.rd hrl, Nat.le_refl _, hp.rm⟩
  have hs2 : w.heap.size + 1 < W2.heap.size := (Array.getElem?_eq_some_iff.1 hq2).1
  have HV := Lib.hid (fun w' (hb : Below W2.heap.size W2 w') => specPuzzleValid s A1 n c1 W2.heap.size gi A2 nr c2 W2.heap.size rs w' (hP2.below hb).g (hP2.below hb).gB hp.gm (hP2.below hb).r (hP2.below hb).rB hp.rm)
  have HO := Lib.hid (fun w' (hb : Below W2.heap.size W2 w') => specOne s A1 n c1 W2.heap.size gi A2 nr c2 W2.heap.size rs w' (hP2.below hb))
  obtain ⟨y0, y1, y2⟩ : PBox W2 w.heap.size s A1 n c1 A2 nr c2 := ⟨cell_of_row _ _ 0 _ _ (0, 0) hp2, cell_of_row _ _ 1 _ _ (0, 0) hp2, cell_of_row _ _ 2 _ _ (0, 0) hp2⟩
  have HB2 := Lib.hid hb2
  cases hv : pvB s gi rs
  · have hf : (pvB s gi rs && oneB s n gi rs) = false := by rw [hv]; rfl
    go_wp2_with (first | (refine wpList_store_row rfl 26 _ _ rfl w.heap.size #[.int .i64 s, .slice A1 n c1, .slice A2 nr c2] rfl rfl 26 #[.int .i64 s, .slice Ag n cg, .slice Ar nr cr] hp1 (Hi.out _ _ _ _ _ _ _) rfl (Hone.out _ _ _ _ _ _ _) ?_; rw [hW2]) | (go_at_call 20; refine (HV.out _ (Below.refl _ _)).mono ?_; rintro e w3 ⟨rfl, hb3⟩; rw [hv]; have hq3 := (hb3.block (w.heap.size + 1) hs2).trans hq2) | (refine wpList_store_row rfl 26 _ _ rfl (w.heap.size + 1) #[.int .i64 0, .slice none 0 0, .slice none 0 0] rfl rfl 26 #[.int .i64 0, .slice none 0 0, .slice none 0 0] hq3 (Hi.out _ _ _ _ _ _ _) rfl (Hone.out _ _ _ _ _ _ _) ?_))
    have hBe : Below w.heap.size w (w3.setRow (w.heap.size + 1) #[.int .i64 0, .slice none 0 0, .slice none 0 0]) := setRow_below5 (HB2.out.trans (hb3.mono HB2.out.size)) (by omega)
    exact bodyPost_ret (v := .tuple #[.agg #[.int .i64 0, .slice none 0 0, .slice none 0 0], .bool false]) (results_row_tmp (by rfl) _ _ (w.heap.size + 1) 26 _ (0, 0) _ _ rfl rfl (setRow_heap _ _ _ _ _ _ hq3) Tryd.underlying26 rfl (Hi.out _ _ _ _ _ _ _)) rfl ⟨hBe, .inl ⟨rfl, hf⟩⟩
  · have hx2 : PBox W2 w.heap.size s A1 n c1 A2 nr c2 := ⟨y0, y1, y2⟩
    cases ho : oneB s n gi rs
    · have hf : (pvB s gi rs && oneB s n gi rs) = false := by rw [ho, Bool.and_false]
      go_wp2_with (first | (refine wpList_store_row rfl 26 _ _ rfl w.heap.size #[.int .i64 s, .slice A1 n c1, .slice A2 nr c2] rfl rfl 26 #[.int .i64 s, .slice Ag n cg, .slice Ar nr cr] hp1 (Hi.out _ _ _ _ _ _ _) rfl (Hone.out _ _ _ _ _ _ _) ?_; rw [hW2]) | (go_at_call 20; refine (HV.out _ (Below.refl _ _)).mono ?_; rintro e w3 ⟨rfl, hb3⟩; rw [hv]; obtain ⟨x0, x1, x2⟩ := hx2.below (by omega : w.heap.size < W2.heap.size) hb3) | (go_at_call 65; refine (HO.out _ hb3).mono ?_; rintro e w4 ⟨rfl, hb4'⟩; rw [ho]; have hb4 := step hb3 hb4'; have hq4 := (hb4.block (w.heap.size + 1) hs2).trans hq2) | (refine wpList_store_row rfl 26 _ _ rfl (w.heap.size + 1) #[.int .i64 0, .slice none 0 0, .slice none 0 0] rfl rfl 26 #[.int .i64 0, .slice none 0 0, .slice none 0 0] hq4 (Hi.out _ _ _ _ _ _ _) rfl (Hone.out _ _ _ _ _ _ _) ?_))
      have hBe : Below w.heap.size w (w4.setRow (w.heap.size + 1) #[.int .i64 0, .slice none 0 0, .slice none 0 0]) := setRow_below5 (HB2.out.trans (hb4.mono HB2.out.size)) (by omega)
      exact bodyPost_ret (v := .tuple #[.agg #[.int .i64 0, .slice none 0 0, .slice none 0 0], .bool false]) (results_row_tmp (by rfl) _ _ (w.heap.size + 1) 26 _ (0, 0) _ _ rfl rfl (setRow_heap _ _ _ _ _ _ hq4) Tryd.underlying26 rfl (Hi.out _ _ _ _ _ _ _)) rfl ⟨hBe, .inl ⟨rfl, hf⟩⟩
    · have ht : (pvB s gi rs && oneB s n gi rs) = true := by rw [hv, ho]; rfl
      go_wp2_with (first | (refine wpList_store_row rfl 26 _ _ rfl w.heap.size #[.int .i64 s, .slice A1 n c1, .slice A2 nr c2] rfl rfl 26 #[.int .i64 s, .slice Ag n cg, .slice Ar nr cr] hp1 (Hi.out _ _ _ _ _ _ _) rfl (Hone.out _ _ _ _ _ _ _) ?_; rw [hW2]) | (go_at_call 20; refine (HV.out _ (Below.refl _ _)).mono ?_; rintro e w3 ⟨rfl, hb3⟩; rw [hv]; obtain ⟨x0, x1, x2⟩ := hx2.below (by omega : w.heap.size < W2.heap.size) hb3) | (go_at_call 65; refine (HO.out _ hb3).mono ?_; rintro e w4 ⟨rfl, hb4'⟩; rw [ho]; have hb4 := step hb3 hb4'; obtain ⟨x0', x1', x2'⟩ := hx2.below (by omega : w.heap.size < W2.heap.size) hb4))
      obtain ⟨hgi, _, _⟩ := pv_gv hv
      have hn4 : 0 < n := by
        obtain ⟨q2, q4⟩ := gv_size hgi
        have := gv_len hgi
        rw [hp.g.1] at this
        have := (sq_bd q2 q4).1
        omega
      obtain ⟨vs2, hown2, hin2⟩ := id hor2
      have HX := Lib.hid (fun w' (hb : Below w4.heap.size w4 w') => (hx2.below (by omega : w.heap.size < W2.heap.size) (hb4.trans (hb.mono hb4.size))))
      have HR1 := Lib.hid (fun w' (hb : Below w4.heap.size w4 w') => (ho2.rd.below (hb4.trans (hb.mono hb4.size))))
      have HOW := Lib.hid (fun w' (hb : Below w4.heap.size w4 w') => (show w'.ownsRow W0.heap.size 63 3 (.slice A2 nr c2) nr vs2 ∧ InR w' W0.heap.size (.slice none 0 0) rs vs2 nr from by
        have hbb := hb4.trans (hb.mono hb4.size)
        refine ⟨World.ownsRow.kept hown2 (row := none) ⟨hbb.os, hbb.tape, hbb.output, hbb.size, fun k hk _ => hbb.block k hk⟩ (by cases e : (Value.slice A2 nr c2).ownBlock <;> simp), fun i hi => ?_⟩
        obtain ⟨A', c', e0, e1, e2, e3, e4, e5⟩ := hin2 i hi
        exact ⟨A', c', e0, e1, e2, Ow.below e3 hbb, e4, fun g hg e => by simp [Value.ownBlock] at e⟩))
      have hlo4 : W0.heap.size ≤ w4.heap.size := by
        have q1 := hb1.size
        have q2 := hb4.size
        have q3 : W2.heap.size = w1.heap.size := by rw [← hW2]; simp
        omega
      have hlo2 : W0.heap.size ≤ W2.heap.size := by
        have q1 := hb1.size
        have q3 : W2.heap.size = w1.heap.size := by rw [← hW2]; simp
        omega
      have hm1 := hp.gm
      have hK4 : W2.heap.size ≤ w4.heap.size := hb4.size
      have hcb : CbV vs2 nr (fun g => g < W2.heap.size) := fun i A' n' c' hi he g hg => by
        obtain ⟨A2', c2', _, e1, _, ho', _⟩ := hin2 i hi
        rw [he] at e1
        injection e1 with e1
        rw [e1] at hg
        exact ho'.own_hi g hg
      refine wp_region_ds [19, 20, 21, 22, 23, 24, 25, 26, 27, 28, 29, 4] (MakeG w.heap.size W0.heap.size W2.heap.size n s A1 c1 A2 nr c2 gi rs) (by kernel_rfl) (by kernel_rfl) (by simp) makeG_below ?step ?last
      case step =>
        intro i o a w' hi hoo hb hfr hpre
        have e1 : a.eval (.tmp 1) = .pointer (some ⟨w.heap.size, 0, none⟩) := hfr 1 (by simp)
        obtain ⟨x0, x1, x2⟩ := HX.out w' hb
        have hi12 : i < 12 := hi
        have : i = 0 ∨ i = 1 ∨ i = 2 ∨ i = 3 ∨ i = 4 ∨ i = 5 ∨ i = 6 ∨ i = 7 ∨ i = 8 ∨ i = 9 ∨ i = 10 ∨ i = 11 := by omega
        rcases this with rfl | rfl | rfl | rfl | rfl | rfl | rfl | rfl | rfl | rfl | rfl | rfl
        all_goals
          simp only [List.getElem?_toArray, List.getElem?_cons_zero, List.getElem?_cons_succ, Option.some.injEq] at hoo
          subst hoo
        · refine ⟨_, w', ?_, Below.refl _ _, rfl⟩
          unfold execOp
          simp only [e1]
          go_simp
        · have p0 := hpre ⟨0, .data⟩ (by simp) rfl
          have p0' : a.eval (.tmp 19) = .pointer (some ⟨w.heap.size, 0, none⟩) := p0
          refine ⟨_, w', ?_, Below.refl _ _, rfl⟩
          unfold execOp
          simp only [p0']
          go_simp
        · refine ⟨_, _, ?_, (Below.refl _ _).alloc (Nat.le_refl _) (.cells #[] 3), ⟨w'.heap.size, rfl⟩⟩
          unfold execOp
          go_simp
        · refine ⟨_, w', ?_, Below.refl _ _, rfl⟩
          unfold execOp
          simp only [e1]
          go_simp
        · have p0' : a.eval (.tmp 22) = .pointer (some ⟨w.heap.size, 1, none⟩) := hpre ⟨3, .data⟩ (by simp) rfl
          refine ⟨_, w', ?_, Below.refl _ _, rfl⟩
          unfold execOp
          simp only [p0']
          go_simp
        · obtain ⟨b, hb19⟩ : ∃ b, a.eval (.tmp 21) = .slice (some ⟨b, 0, none⟩) 0 0 := hpre ⟨2, .data⟩ (by simp) rfl
          have p21 : a.eval (.tmp 23) = .slice A1 n c1 := hpre ⟨4, .data⟩ (by simp) rfl
          obtain ⟨A', c', w2, hrun, q1, q2⟩ := fresh_ints 23 b A1 n c1 _ gi (HR1.out w' hb) hn4 hm1
          refine ⟨.slice A' n c', w2, ?_, q2, A', c', rfl, q1.mono (Nat.le_trans hK4 hb.size)⟩
          unfold execOp
          simp only [resolve, invoke, builtin, Sem.run_bind, Sem.run_pure, Result.andThen_ok, List.map_toArray, List.map_cons, List.map_nil, hb19, p21, hrun]
        · refine ⟨_, _, ?_, (Below.refl _ _).alloc (Nat.le_refl _) (.cells #[] 63), ⟨w'.heap.size, rfl, heap_alloc_new _ _, Nat.le_trans hlo4 hb.size⟩⟩
          unfold execOp
          go_simp
        · refine ⟨_, w', ?_, Below.refl _ _, rfl⟩
          unfold execOp
          simp only [e1]
          go_simp
        · have p0' : a.eval (.tmp 26) = .pointer (some ⟨w.heap.size, 2, none⟩) := hpre ⟨7, .data⟩ (by simp) rfl
          refine ⟨_, w', ?_, Below.refl _ _, rfl⟩
          unfold execOp
          simp only [p0']
          go_simp
        · obtain ⟨b, hb23, hlit, hbl⟩ : ∃ b, a.eval (.tmp 25) = .slice (some ⟨b, 0, none⟩) 0 0 ∧ w'.heap[b]? = some (.cells #[] 63) ∧ W0.heap.size ≤ b := hpre ⟨6, .data⟩ (by simp) rfl
          have p25 : a.eval (.tmp 27) = .slice A2 nr c2 := hpre ⟨8, .data⟩ (by simp) rfl
          obtain ⟨hw1, hw2⟩ := HOW.out w' hb
          obtain ⟨A', c', w2, hrun, ⟨q1, q1'⟩, q2⟩ := fresh_rulesV 24 b A2 nr c2 W0.heap.size W0.heap.size rs vs2 hrl hw1 hw2 hlit hbl hp.rm (Nat.le_trans hlo4 hb.size)
          refine ⟨.slice A' nr c', w2, ?_, q2, A', c', rfl, ⟨vs2, q1, q1'⟩, ⟨vs2, q1, hcb⟩⟩
          unfold execOp
          simp only [resolve, invoke, builtin, Sem.run_bind, Sem.run_pure, Result.andThen_ok, List.map_toArray, List.map_cons, List.map_nil, hb23, p25, hrun]
        · have p18 : a.eval (.tmp 20) = .int .i64 s := hpre ⟨1, .data⟩ (by simp) rfl
          obtain ⟨A', c', p22, q22⟩ : ∃ A' c', a.eval (.tmp 24) = .slice A' n c' ∧ Ow w' W2.heap.size A' n c' gi := hpre ⟨5, .data⟩ (by simp) rfl
          obtain ⟨A'', c'', p26, q26, q26'⟩ : ∃ A' c', a.eval (.tmp 28) = .slice A' nr c' ∧ OwR w' W0.heap.size (.slice A' nr c') rs nr ∧ SpQ w' W0.heap.size (.slice A' nr c') nr (fun g => g < W2.heap.size) := hpre ⟨9, .data⟩ (by simp) rfl
          refine ⟨.agg #[.int .i64 s, .slice A' n c', .slice A'' nr c''], w', ?_, Below.refl _ _, A', c', A'', c'', rfl, q22, q26, q26'⟩
          unfold execOp
          simp only [List.map_toArray, List.map_cons, List.map_nil, p18, p22, p26]
          go_simp
        · refine ⟨_, _, ?_, (Below.refl _ _).alloc (Nat.le_refl _) (.cells #[.int .i64 0, .slice none 0 0, .slice none 0 0] 26), ⟨w'.heap.size, rfl, heap_alloc_new _ _, Nat.le_trans hlo4 hb.size⟩⟩
          unfold execOp
          go_simp
      case last =>
        intro o a w5 hoo hb5 hdef htm hfr hpre
        simp only [List.length_cons, List.length_nil, Nat.reduceAdd, List.getElem?_toArray, List.getElem?_cons_zero, List.getElem?_cons_succ, Option.some.injEq] at hoo
        subst hoo
        have g19 : a.tmps.getD 19 undef = .pointer (some ⟨w.heap.size, 0, none⟩) := hpre 0 (by simp)
        have g20 : a.tmps.getD 20 undef = .int .i64 s := hpre 1 (by simp)
        obtain ⟨b19, g21⟩ : ∃ b, a.tmps.getD 21 undef = .slice (some ⟨b, 0, none⟩) 0 0 := hpre 2 (by simp)
        have g22 : a.tmps.getD 22 undef = .pointer (some ⟨w.heap.size, 1, none⟩) := hpre 3 (by simp)
        have g23 : a.tmps.getD 23 undef = .slice A1 n c1 := hpre 4 (by simp)
        obtain ⟨A22, c22, g24, _⟩ : ∃ A' c', a.tmps.getD 24 undef = .slice A' n c' ∧ _ := hpre 5 (by simp)
        obtain ⟨b23, g25, _⟩ : ∃ b, a.tmps.getD 25 undef = .slice (some ⟨b, 0, none⟩) 0 0 ∧ _ := hpre 6 (by simp)
        have g26 : a.tmps.getD 26 undef = .pointer (some ⟨w.heap.size, 2, none⟩) := hpre 7 (by simp)
        have g27 : a.tmps.getD 27 undef = .slice A2 nr c2 := hpre 8 (by simp)
        obtain ⟨A26, c26, g28, _⟩ : ∃ A' c', a.tmps.getD 28 undef = .slice A' nr c' ∧ _ := hpre 9 (by simp)
        obtain ⟨A3, c3, A4, c4, g29, ho5, hor5, hsp5⟩ : ∃ A' c' A'' c'', a.tmps.getD 29 undef = .agg #[.int .i64 s, .slice A' n c', .slice A'' nr c''] ∧ Ow w5 W2.heap.size A' n c' gi ∧ OwR w5 W0.heap.size (.slice A'' nr c'') rs nr ∧ SpQ w5 W0.heap.size (.slice A'' nr c'') nr (fun g => g < W2.heap.size) := hpre 10 (by simp)
        obtain ⟨X, g4, hrX, hloX⟩ : ∃ X, a.tmps.getD 4 undef = .pointer (some ⟨X, 0, none⟩) ∧ w5.heap[X]? = some (.cells #[.int .i64 0, .slice none 0 0, .slice none 0 0] 26) ∧ W0.heap.size ≤ X := hpre 11 (by simp)
        have h4 : a.eval (.tmp 4) = .pointer (some ⟨X, 0, none⟩) := g4
        have h29 : a.eval (.tmp 29) = .agg #[.int .i64 s, .slice A3 n c3, .slice A4 nr c4] := g29
        refine ⟨w5.setRow X #[.int .i64 s, .slice A3 n c3, .slice A4 nr c4], ?_, ?_⟩
        · have hst := run_storeVar_row (P := Tryd.prog) w5 X 26 26 _ #[.int .i64 s, .slice A3 n c3, .slice A4 nr c4] hrX (Hi.out _ _ _ _ _ _ _) rfl (Hone.out _ _ _ _ _ _ _)
          unfold execOp
          simp only [h4, h29, Instr.storeAt, Instr.sureAddr, Sem.run_bind, Sem.run_pure, Result.andThen_ok, hst]
        · have key := htm
          simp only [List.foldl_cons, List.foldl_nil, g19, g20, g21, g22, g23, g24, g25, g26, g27, g28, g29, g4, List.setIfInBounds_toArray, List.set_cons_succ, List.set_cons_zero] at key
          clear htm hfr hpre g19 g20 g21 g22 g23 g24 g25 g26 g27 g28 g29 g4 h4 h29
          obtain ⟨tm, df⟩ := a
          dsimp only at key hdef
          subst key hdef
          have hr5 := setRow_heap (w := w5) X _ #[.int .i64 s, .slice A3 n c3, .slice A4 nr c4] 26 _ hrX
          have ho6 := ho5.setX (cs' := #[.int .i64 s, .slice A3 n c3, .slice A4 nr c4]) hrX
          have hor6 := hor5.setX (cs' := #[.int .i64 s, .slice A3 n c3, .slice A4 nr c4]) hrX
          have hsp6 := hsp5.setX (cs' := #[.int .i64 s, .slice A3 n c3, .slice A4 nr c4]) hrX
          have hB6 : Below W0.heap.size W2 (w5.setRow X #[.int .i64 s, .slice A3 n c3, .slice A4 nr c4]) := setRow_below5 ((hb4.mono hlo2).trans (hb5.mono hlo4)) hloX
          obtain ⟨w6, hw6⟩ : ∃ w6, w5.setRow X #[.int .i64 s, .slice A3 n c3, .slice A4 nr c4] = w6 := ⟨_, rfl⟩
          rw [hw6] at hr5 ho6 hor6 hsp6 hB6 ⊢
          clear hw6 ho5 hor5 hsp5 hrX
          have HB6 := Lib.hid hB6
          obtain ⟨t, rfl, hts, hnn, hn16, hoka⟩ := pv_grid hv hp.g.1
          clear hnn hoka
          have HInv := Lib.hid (fun k => evL_inv (s := t) (n := n) hv ho k)
          have hwrn : IntKind.i64.wrap ((n : Int) - 1) = (n : Int) - 1 := IntWalk.i64_in _ (by omega)
          obtain ⟨x0, x1, x2⟩ : PBox w6 X (t : Int) A3 n c3 A4 nr c4 := ⟨cell_of_row _ _ 0 _ _ (0, 0) hr5, cell_of_row _ _ 1 _ _ (0, 0) hr5, cell_of_row _ _ 2 _ _ (0, 0) hr5⟩
          go_wp2
          clear x0 x1 x2
          go_loopw [6] (fun i wr => ∃ (k : Nat) (A7 A8 : Option Addr) (c7 c8 : Nat), 2 * k ≤ n + 1 ∧ i = .int .i64 k ∧ wr.heap[X]? = some (.cells #[.int .i64 (t : Int), .slice A7 n c7, .slice A8 nr c8] 26) ∧ Ow wr W2.heap.size A7 n c7 (evL (t : Int) n rs gi k) ∧ (OwR wr W0.heap.size (.slice A8 nr c8) rs nr ∧ SpQ wr W0.heap.size (.slice A8 nr c8) nr (fun g => g < W2.heap.size)) ∧ Below W0.heap.size W2 wr) (fun i _ => n - (intOf i).toNat)
          case atStart => exact ⟨0, A3, A4, c3, c4, by omega, rfl, hr5, ho6, ⟨hor6, hsp6⟩, hB6⟩
          case round =>
            obtain ⟨k, A7, A8, c7, c8, hk, rfl, hr7, ho7, ⟨hor7, hsp7⟩, hb7⟩ := hrel
            have hsX := (Array.getElem?_eq_some_iff.1 hr7).1
            have hsW : W0.heap.size ≤ wr.heap.size := by
              have q1 := hb7.size
              omega
            have hwr0 : IntKind.i64.wrap ((n : Int) - 1 - (k : Int)) = (n : Int) - 1 - (k : Int) := IntWalk.i64_in _ (by omega)
            by_cases hlt : 2 * k + 1 ≤ n
            · obtain ⟨L, hL⟩ : ∃ L, L = evL (t : Int) n rs gi k := ⟨_, rfl⟩
              rw [← hL] at ho7
              have hLl : L.length = n := by rw [hL, evL_length]; exact hp.g.1
              have hiv := HInv.out k
              rw [← hL] at hiv
              obtain ⟨m, hm⟩ : ∃ m, m = n - 1 - k := ⟨_, rfl⟩
              have hwr2 : IntKind.i64.wrap ((n : Int) - 1 - (k : Int)) = (m : Int) := by rw [hwr0]; omega
              clear hwr0
              have hltI : (k : Int) ≤ (m : Int) := by omega
              have hkn0 : (k : Int) < (n : Int) := by omega
              have hmn0 : (m : Int) < (n : Int) := by omega
              have hkn : k < n := by omega
              have hmn : m < n := by omega
              have hPk : PGs wr (t : Int) A7 n c7 wr.heap.size L A8 nr c8 wr.heap.size rs := ⟨ho7.rd, Nat.le_refl _, hm1, hor7.rd hrl, Nat.le_refl _, hp.rm⟩
              have HWo := Lib.hid (specWithout (Bg := wr.heap.size) (t : Int) A7 n c7 L A8 nr c8 k wr hPk.g hPk.gB hm1 hkn)
              have HWo2 := Lib.hid (fun w' A' c' B' (h : Rd w' B' A' n (L.set k 0)) (hB : B' ≤ w'.heap.size) => specWithout (Bg := B') (t : Int) A' n c' (L.set k 0) A8 nr c8 m w' h hB hm1 hmn)
              have HOn := Lib.hid (fun w' (hb : Below wr.heap.size wr w') A' c' B' (h : Rd w' B' A' n ((L.set k 0).set m 0)) (hB : B' ≤ w'.heap.size) => specOne (t : Int) A' n c' B' ((L.set k 0).set m 0) A8 nr c8 wr.heap.size rs w' ⟨h, hB, hm1, (hPk.below hb).r, (hPk.below hb).rB, hp.rm⟩)
              have HEv := Lib.hid (show evL (t : Int) n rs gi (k + 1) = if (decide (0 < nth L k + nth L m) && oneB (t : Int) n ((L.set k 0).set m 0) rs) = true then (L.set k 0).set m 0 else L by rw [evL, ← hL, ← hm])
              have a0 := gv_nth (pv_gv hiv.v).1 (show k < L.length by omega)
              have b0 := gv_nth (pv_gv hiv.v).1 (show m < L.length by omega)
              have ht4 : (t : Int) ≤ 4 := by simp at hts; omega
              obtain ⟨gx, rfl, _, _⟩ := ho7.form (show 0 < n by omega)
              have hck := (ho7.cell hkn).1
              have hcm := (ho7.cell hmn).1
              have hgx : gx < wr.heap.size := cell_lt hck
              obtain ⟨xk, hxk⟩ : ∃ x, nth L k = x := ⟨_, rfl⟩
              obtain ⟨xm, hxm⟩ : ∃ x, nth L m = x := ⟨_, rfl⟩
              rw [hxk] at hck a0 HEv
              rw [hxm] at hcm b0 HEv
              have hwr3 : IntKind.i64.wrap (xk + xm) = xk + xm := IntWalk.i64_in _ (by omega)
              have HCells := Lib.hid (fun w' (hb : Below wr.heap.size wr w') => (⟨(hb.cell (p := ⟨gx, k, none⟩) hgx).trans hck, (hb.cell (p := ⟨gx, m, none⟩) hgx).trans hcm⟩ : w'.cell? ⟨gx, k, none⟩ = some (.int .i64 xk) ∧ w'.cell? ⟨gx, m, none⟩ = some (.int .i64 xm)))
              have HX7 := Lib.hid (fun w' (hb : Below wr.heap.size wr w') => show PBox w' X (t : Int) (some ⟨gx, 0, none⟩) n c7 A8 nr c8 from ⟨cell_of_row _ _ 0 _ _ (0, 0) ((hb.block X hsX).trans hr7), cell_of_row _ _ 1 _ _ (0, 0) ((hb.block X hsX).trans hr7), cell_of_row _ _ 2 _ _ (0, 0) ((hb.block X hsX).trans hr7)⟩)
              have Hr7 := Lib.hid (fun w' (hb : Below wr.heap.size wr w') => (hb.block X hsX).trans hr7)
              have Hkeep := Lib.hid (fun w' (hb : Below wr.heap.size wr w') => (⟨ho7.below hb, ⟨hor7.below hb, hsp7.below hb⟩, hb7.trans (hb.mono hsW)⟩ : Ow w' W2.heap.size (some ⟨gx, 0, none⟩) n c7 L ∧ (OwR w' W0.heap.size (.slice A8 nr c8) rs nr ∧ SpQ w' W0.heap.size (.slice A8 nr c8) nr (fun g => g < W2.heap.size)) ∧ Below W0.heap.size W2 w'))
              obtain ⟨x0, x1, x2⟩ := HX7.out _ (Below.refl _ _)
              have hW2r : W2.heap.size ≤ wr.heap.size := hb7.size
              have Hlt := Lib.hid hlt
              have Hk := Lib.hid hk
              clear hL hm hiv hPk ho7 hor7 hsp7 hb7 hck hcm hr7 hxk hxm hts hlt hLl
              go_wp2_with (first
                | (go_at_call 66; (with_reducible refine HWo.out.mono ?_); rintro e w8 ⟨A9, c9, rfl, ho9, hb9⟩; have hsr8 := hb9.size)
                | (go_at_call 66; (with_reducible refine (HWo2.out _ _ _ _ ho9.rd (Nat.le_refl _)).mono ?_); rintro e w9 ⟨AA, cA, rfl, hoA, hbA⟩; have hb9A := step hb9 hbA; have hbY : Below wr.heap.size wr (w9.alloc (.cells #[.int .i64 (t : Int), .slice AA n cA, .slice A8 nr c8] 26)) := hb9A.alloc hb9A.size _; obtain ⟨y0, y1, y2⟩ := HX7.out _ hbY; obtain ⟨y3, y4⟩ := HCells.out _ hbY))
              obtain ⟨V, hV⟩ : ∃ V, w9.alloc (.cells #[.int .i64 (t : Int), .slice AA n cA, .slice A8 nr c8] 26) = V := ⟨_, rfl⟩
              have hyb := pbox_new w9 (t : Int) AA n cA A8 nr c8 26
              have hb9V : Below w9.heap.size w9 V := by rw [← hV]; exact (Below.refl _ _).alloc (Nat.le_refl _) _
              have hs9V : w9.heap.size < V.heap.size := by rw [← hV]; simp
              rw [hV] at hyb hbY y0 y1 y2 y3 y4
              rw [hV]
              have hVd : Below wr.heap.size wr V.drew := hbY.drew
              have hoV : Rd V.drew w9.heap.size AA n ((L.set k 0).set m 0) := hoA.rd.below (hb9V.drew)
              have HY := Lib.hid (fun w' (hb : Below V.heap.size V w') => hyb.below hs9V hb)
              have HoF := Lib.hid (fun w' (hb : Below V.heap.size V w') => (hoA.below hb9V).below hb)
              have HbY := Lib.hid hbY
              have HbA := Lib.hid hb9A
              obtain ⟨yb0, yb1, yb2⟩ := id hyb
              clear hV hyb hoA ho9 hb9 hbA hb9V hb9A hbY
              by_cases hpos : 0 < xk + xm
              · have HOV := Lib.hid (HOn.out _ hVd AA cA w9.heap.size hoV (Nat.le_of_lt hs9V))
                have HKV : Hid (∀ w', Below V.heap.size V w' → (w'.cell? ⟨X, 0, none⟩ = some (.int .i64 (t : Int)) ∧ w'.cell? ⟨X, 1, none⟩ = some (.slice (some ⟨gx, 0, none⟩) n c7) ∧ w'.cell? ⟨X, 2, none⟩ = some (.slice A8 nr c8)) ∧ (w'.cell? ⟨w9.heap.size, 0, none⟩ = some (.int .i64 (t : Int)) ∧ w'.cell? ⟨w9.heap.size, 1, none⟩ = some (.slice AA n cA) ∧ w'.cell? ⟨w9.heap.size, 2, none⟩ = some (.slice A8 nr c8)) ∧ w'.cell? ⟨gx, k, none⟩ = some (.int .i64 xk) ∧ w'.cell? ⟨gx, m, none⟩ = some (.int .i64 xm)) := Lib.hid (fun w' hb => ⟨HX7.out _ (step HbY.out hb), HY.out _ hb, HCells.out _ (step HbY.out hb)⟩)
                cases ho2 : oneB (t : Int) n ((L.set k 0).set m 0) rs
                all_goals
                  rw [ho2] at HOV HEv
                  have Hpos := Lib.hid hpos
                  go_region_held3 (fun w' => (w'.cell? ⟨X, 0, none⟩ = some (.int .i64 (t : Int)) ∧ w'.cell? ⟨X, 1, none⟩ = some (.slice (some ⟨gx, 0, none⟩) n c7) ∧ w'.cell? ⟨X, 2, none⟩ = some (.slice A8 nr c8)) ∧ (w'.cell? ⟨w9.heap.size, 0, none⟩ = some (.int .i64 (t : Int)) ∧ w'.cell? ⟨w9.heap.size, 1, none⟩ = some (.slice AA n cA) ∧ w'.cell? ⟨w9.heap.size, 2, none⟩ = some (.slice A8 nr c8)) ∧ w'.cell? ⟨gx, k, none⟩ = some (.int .i64 xk) ∧ w'.cell? ⟨gx, m, none⟩ = some (.int .i64 xm))
                    (first | go_keep | exact HKV.out _ hb5)
                    ((go_simp; go_at_call 65; (with_reducible refine HOV.out.mono ?_); rintro e wB ⟨rfl, hbB⟩; have hb5 : Below V.heap.size V wB := ((Below.refl _ _).drew).trans hbB))
                  have hb7B := step HbY.out hb5
                  have hrB := Hr7.out _ hb7B
                  obtain ⟨p0, p1, p2⟩ := HY.out _ hb5
                · go_wp2
                  go_roundw
                  case rel =>
                    obtain ⟨q1, q2, q3⟩ := Hkeep.out _ hb7B
                    have h1 := Hlt.out
                    exact ⟨k + 1, some ⟨gx, 0, none⟩, A8, c7, c8, by omega, by go_num, hrB, by rw [HEv.out]; simpa using q1, q2, q3⟩
                  case measure => have := Hlt.out; simp [intOf]; omega
                · go_wp2_with (refine wpList_store_row rfl 26 _ _ rfl X #[.int .i64 (t : Int), .slice AA n cA, .slice A8 nr c8] rfl rfl 26 #[.int .i64 (t : Int), .slice (some ⟨gx, 0, none⟩) n c7, .slice A8 nr c8] hrB (Hi.out _ _ _ _ _ _ _) rfl (Hone.out _ _ _ _ _ _ _) ?_)
                  go_roundw
                  case rel =>
                    obtain ⟨q1, ⟨q2, q2'⟩, q3⟩ := Hkeep.out _ hb7B
                    have h1 := Hlt.out
                    have h2 : evL (t : Int) n rs gi (k + 1) = (L.set k 0).set m 0 := by rw [HEv.out]; simp [Hpos.out]
                    have h3 : W2.heap.size ≤ w8.heap.size := Nat.le_trans hW2r hsr8
                    exact ⟨k + 1, AA, A8, cA, c8, by omega, by go_num, setRow_heap _ _ _ _ _ _ hrB, by rw [h2]; exact ((HoF.out _ hb5).mono h3).setX hrB, ⟨q2.setX hrB, q2'.setX hrB⟩, setRow_below5 q3 hloX⟩
                  case measure => have := Hlt.out; simp [intOf]; omega
              · have hnp : decide (0 < xk + xm) = false := by rw [decide_eq_false_iff_not]; exact hpos
                have h2 := Lib.hid (show evL (t : Int) n rs gi (k + 1) = L by rw [HEv.out, hnp]; simp)
                have hdp : ¬ (xk + xm > 0) := hpos
                go_quiet (fail)
                go_wp2
                go_roundw
                case rel =>
                  have h1 := Hlt.out
                  exact ⟨k + 1, some ⟨gx, 0, none⟩, A8, c7, c8, by omega, by go_num, Hr7.out _ (below_drewN HbY.out _), by rw [h2.out]; exact (Hkeep.out _ (below_drewN HbY.out _)).1, (Hkeep.out _ (below_drewN HbY.out _)).2⟩
                case measure => have := Hlt.out; simp [intOf]; omega
            · have hltI : ¬ (k : Int) ≤ (n : Int) - 1 - (k : Int) := by omega
              have hkk : k = (n + 1) / 2 := by omega
              have hq7 := (hb7.block (w.heap.size + 1) (by omega)).trans hq2
              obtain ⟨x0, x1, x2⟩ : PBox wr X (t : Int) A7 n c7 A8 nr c8 := ⟨cell_of_row _ _ 0 _ _ (0, 0) hr7, cell_of_row _ _ 1 _ _ (0, 0) hr7, cell_of_row _ _ 2 _ _ (0, 0) hr7⟩
              have hb0e : Below w.heap.size w wr := HB2.out.trans (hb7.mono (by omega))
              have Hkk := Lib.hid hkk
              have Hb0e := Lib.hid hb0e
              clear hkk hb0e hk hlt
              go_wp2_with (refine wpList_store_row rfl 26 _ _ rfl (w.heap.size + 1) #[.int .i64 (t : Int), .slice A7 n c7, .slice A8 nr c8] rfl rfl 26 #[.int .i64 0, .slice none 0 0, .slice none 0 0] hq7 (Hi.out _ _ _ _ _ _ _) rfl (Hone.out _ _ _ _ _ _ _) ?_)
              have hBe : Below w.heap.size w (wr.setRow (w.heap.size + 1) #[.int .i64 (t : Int), .slice A7 n c7, .slice A8 nr c8]) := setRow_below5 Hb0e.out (by omega)
              rw [Hkk.out] at ho7
              exact bodyPost_ret (v := .tuple #[.agg #[.int .i64 (t : Int), .slice A7 n c7, .slice A8 nr c8], .bool true]) (results_row_tmp (by rfl) _ _ (w.heap.size + 1) 26 _ (0, 0) _ _ rfl rfl (setRow_heap _ _ _ _ _ _ hq7) Tryd.underlying26 rfl (Hi.out _ _ _ _ _ _ _)) rfl ⟨hBe, .inr ⟨ht, A7, c7, A8, c8, W2.heap.size, rfl, ho7.setX hq7, by omega, (hor7.setX hq7).mono (by omega), (hsp7.setX hq7).mono (by omega)⟩⟩
end Go.Proofs.YtkeoflnmbcdmfaaDoor
