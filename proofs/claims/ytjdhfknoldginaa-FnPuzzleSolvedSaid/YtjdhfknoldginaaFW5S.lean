import Derived.Test.YtjdhfknoldginaaFW5T
import Derived.Deep.RegionHeld3
import Derived.Deep.QuietTactic
import Derived.BigQuiet
namespace Go.Proofs.Ytjdhfknoldginaa
open Go.ChangeShapes Go.WideShapes Go.ChangeAt Go.RowKit

theorem andNot_small : ∀ a : Nat, a < 32 → ∀ b : Nat, b < 32 → bits .andNot .i64 (a : Int) (b : Int) = ((a &&& (31 - b) : Nat) : Int) := by decide +kernel
theorem andNot_test : ∀ a : Nat, a < 32 → ∀ b : Nat, b < 32 → ∀ v : Nat, v < 5 → (a &&& (31 - b)).testBit v = (a.testBit v && !b.testBit v) := by decide +kernel
theorem all_test : ∀ s ∈ [2, 3, 4], ∀ v : Nat, v < 5 → (2 ^ (s + 1) - 2).testBit v = (Nat.blt 0 v && Nat.ble v s) := by decide +kernel

theorem bitsTo_miss {K s : Nat} {has : Int → Bool} (hs : s ≤ 4) (h : ∀ v, v < 4 → K.testBit (v + 1) = (decide (v < s) && !has ((v : Int) + 1))) : bitsTo K 4 = missTo has s := by
  have h1 : ∀ m, m ≤ s → bitsTo K m = missTo has m := by
    intro m
    induction m with
    | zero => intro _; rfl
    | succ m ih =>
      intro hm
      simp only [bitsTo, missTo]
      rw [ih (by omega), h m (by omega)]
      have : decide (m < s) = true := by simp; omega
      rw [this]
      cases has ((m : Int) + 1) <;> simp
  have h2 : ∀ d, s + d ≤ 4 → bitsTo K (s + d) = missTo has s := by
    intro d
    induction d with
    | zero => intro _; exact h1 s (Nat.le_refl _)
    | succ d ih =>
      intro hd
      show bitsTo K (s + d + 1) = _
      simp only [bitsTo]
      rw [ih (by omega), h (s + d) (by omega)]
      have : decide (s + d < s) = false := by simp
      rw [this]; simp
  have := h2 (4 - s) (by omega)
  rwa [show s + (4 - s) = 4 by omega] at this
end Go.Proofs.Ytjdhfknoldginaa
set_option maxRecDepth 8000
namespace Go.Proofs.Ytjdhfknoldginaa
open Go.ChangeShapes Go.WideShapes Go.ChangeAt Go.RowKit

theorem implSolved (A : Option Addr) (c n B s : Nat) (xs : List Int) (w : World) (h : Rd w B A n xs) (hB : B ≤ w.heap.size) (hs : s ∈ [2, 3, 4]) (hn : n = s * s) (hg : gv xs s = true) :
    Calls Try.prog 32 #[.agg #[.slice A n c, .int .i64 s]] w fun e w' => e = .returned (.bool (sqSolved xs s)) ∧ Below w.heap.size w w' := by
  have hlen := Lib.hid h.1
  have hok := Lib.hid (gv_okAll hg hlen.out)
  have hs2 : 2 ≤ s := by simp at hs; omega
  have hs4 : s ≤ 4 := by simp at hs; omega
  have hS := solved_masks hs hn hlen.out hg hok.out
  have Hm := Lib.hid (lmask_lt (xs := xs) (by omega : (s : Int) ≤ 4) hok.out n (Nat.le_refl _))
  have Hn := Lib.hid hn; clear hn
  have h1 := h.alloc hB (.cells #[.slice A n c, .int .i64 s] 43)
  have hB1 : B ≤ (w.alloc (.cells #[.slice A n c, .int .i64 s] 43)).heap.size := by simp; omega
  have hB0 : Below w.heap.size w (w.alloc (.cells #[.slice A n c, .int .i64 s] 43)) := (Below.refl _ _).alloc (Nat.le_refl _) _
  have hz0 : ∀ u : World, MBox (u.alloc (.cells #[.int .i64 0, .int .i64 0, .int .i64 0, .int .i64 0, .int .i64 0, .int .i64 0, .int .i64 0, .int .i64 0, .int .i64 0] 46)) u.heap.size (fun _ => 0) 0 := fun u => heap_alloc_new u _
  have Hz0 := Lib.hid hz0; clear hz0
  have Hi9 := Lib.hid (show (Try.prog.info? 46).map (·.size) = some (mcells (lmask xs s n) s).size by rw [mcells_size]; kernel_rfl)
  have Hone := Lib.hid (mone (lmask xs s n) s)
  have key : ∀ w2 : World, Below (w.alloc (.cells #[.slice A n c, .int .i64 s] 43)).heap.size (w.alloc (.cells #[.slice A n c, .int .i64 s] 43)) w2 →
      ((w2.alloc (.cells #[.int .i64 0, .int .i64 0, .int .i64 0, .int .i64 0, .int .i64 0, .int .i64 0, .int .i64 0, .int .i64 0, .int .i64 0] 46)).setRow w2.heap.size (mcells (lmask xs s n) s)).cell? ⟨w.heap.size, 1, none⟩ = some (.int .i64 s) ∧ Hid (MBox ((w2.alloc (.cells #[.int .i64 0, .int .i64 0, .int .i64 0, .int .i64 0, .int .i64 0, .int .i64 0, .int .i64 0, .int .i64 0, .int .i64 0] 46)).setRow w2.heap.size (mcells (lmask xs s n) s)) w2.heap.size (lmask xs s n) s) ∧ Below w.heap.size w ((w2.alloc (.cells #[.int .i64 0, .int .i64 0, .int .i64 0, .int .i64 0, .int .i64 0, .int .i64 0, .int .i64 0, .int .i64 0, .int .i64 0] 46)).setRow w2.heap.size (mcells (lmask xs s n) s)) := by
    intro w2 hb2
    have hlt : w.heap.size < w2.heap.size := by have := hb2.size; rw [World.size_alloc] at this; omega
    have hB3 := step hB0 hb2
    exact ⟨((setRow_below ((Below.refl _ _).alloc (Nat.le_refl _) _) (Nat.le_refl _)).cell (p := ⟨w.heap.size, 1, none⟩) hlt).trans (box_cell hb2 1), Lib.hid (MBox.stored (Hz0.out w2)), setRow_below (hB3.alloc hB3.size _) hB3.size⟩
  have Key := Lib.hid key; clear key
  obtain ⟨m, hm⟩ : ∃ m, 2 ^ (s + 1) - 2 = m := ⟨_, rfl⟩
  simp only [hm] at hS
  have HS := Lib.hid hS; clear hS
  have Hav := Lib.hid (fun w => allValues_any s hs w)
  simp only [hm] at Hav
  have hsl : ∀ (g : Nat) (W : World), (Instr.sliceAt 44 (.pointer (some ⟨g, 0, none⟩)) none (some (.int .i64 (2 * (s : Int)))) none).run Try.prog W = .ok (.slice (some ⟨g, 0, none⟩) (2 * s) 8) W := by
    intro g W
    simp at hs
    rcases hs with rfl | rfl | rfl
    · kernel_rfl
    · kernel_rfl
    · kernel_rfl
  go_enter Try.func32, Try.ntmps32
  go_wp2_with (first | (go_at_call 25; refine (lines_any _ _ _ _ _ _ _ h1 hB1 hs Hn.out hok).mono ?_; rintro e w2 ⟨rfl, hb2⟩; obtain ⟨c1, hx3, hB4⟩ := Key.out w2 hb2; clear hb2) | (refine wpList_store_row rfl 46 _ _ rfl w2.heap.size (mcells (lmask xs s n) s) rfl rfl 46 (mcells (fun _ => 0) 0) (Hz0.out w2) Hi9.out rfl Hone.out ?_))
  go_loop [18] (fun i => ∃ l : Nat, l ≤ 2 * s ∧ i = .int .i64 l ∧ Hid (∀ j, j < l → lmask xs s n j = m)) (fun i => 2 * s - (intOf i).toNat)
  case atStart => exact ⟨0, Nat.zero_le _, rfl, Lib.hid (fun j hj => absurd hj (by omega))⟩
  case round =>
    obtain ⟨l, hl, rfl, hall⟩ := hrel
    by_cases hlt : l < 2 * s
    · have hk := hx3.out.cell (l := l) (by omega)
      by_cases he : lmask xs s n l = m
      · have hcmp : (((lmask xs s n l : Nat) : Int) != (m : Int)) = false := by rw [he]; simp
        have hn2 := Lib.hid (show ∀ j, j < l + 1 → lmask xs s n j = m from fun j hj => by
          by_cases e : j = l
          · rw [e]; exact he
          · exact hall.out j (by omega))
        clear he
        go_wp2_with (go_at_call 49; refine (Hav.out _).mono ?_; rintro e w' ⟨rfl, rfl⟩)
        go_round
        case rel => exact ⟨l + 1, by omega, by go_num, hn2⟩
        case measure => simp [intOf]; omega
      · have hcmp : (((lmask xs s n l : Nat) : Int) != (m : Int)) = true := by simp; omega
        have HL := Lib.hid (show sqSolved xs s = false by
          cases h : sqSolved xs s
          · rfl
          · exact absurd (HS.out.1 h l hlt) he)
        clear he
        go_wp2_with (go_at_call 49; refine (Hav.out _).mono ?_; rintro e w' ⟨rfl, rfl⟩)
        go_ret
        exact ⟨by rw [HL.out]; rfl, hB4⟩
    · have HL := Lib.hid (show sqSolved xs s = true from HS.out.2 (fun j hj => hall.out j (by omega)))
      go_wp2
      go_ret
      exact ⟨by rw [HL.out]; rfl, hB4⟩
end Go.Proofs.Ytjdhfknoldginaa
set_option maxRecDepth 8000
namespace Go.Proofs.Ytjdhfknoldginaa
open Go.ChangeShapes Go.WideShapes Go.ChangeAt Go.RowKit

theorem implSquareSolved : ISquareSolved := by
  intro A c n B xs size w h hB hm
  have hlen := Lib.hid h.1
  cases hg : gv xs size
  · have HL := Lib.hid (show sqSolved xs size = false by simp [sqSolved, sqFits, hg])
    have h1 := h.alloc hB (.cells #[.slice A n c, .int .i64 size] 43)
    have hB1 : B ≤ (w.alloc (.cells #[.slice A n c, .int .i64 size] 43)).heap.size := by simp; omega
    have hB0 : Below w.heap.size w (w.alloc (.cells #[.slice A n c, .int .i64 size] 43)) := (Below.refl _ _).alloc (Nat.le_refl _) _
    go_enter Try.func15, Try.ntmps15
    go_wp2_with (go_at_call 24; refine (implValid _ _ _ _ _ _ _ h1 hB1 hm).mono ?_; rintro e w1 ⟨rfl, hb1⟩; rw [hg])
    go_ret
    exact ⟨by rw [HL.out]; rfl, step hB0 hb1⟩
  · obtain ⟨s, rfl, hs, hls⟩ := size_nat hg
    have hn : n = s * s := by have := hlen.out; omega
    have Hn := Lib.hid hn; clear hn hls
    have Hg := Lib.hid hg
    have h1 := h.alloc hB (.cells #[.slice A n c, .int .i64 s] 43)
    have hB1 : B ≤ (w.alloc (.cells #[.slice A n c, .int .i64 s] 43)).heap.size := by simp; omega
    have hB0 : Below w.heap.size w (w.alloc (.cells #[.slice A n c, .int .i64 s] 43)) := (Below.refl _ _).alloc (Nat.le_refl _) _
    go_enter Try.func15, Try.ntmps15
    go_wp2_with (first | (go_at_call 24; refine (implValid _ _ _ _ _ _ _ h1 hB1 hm).mono ?_; rintro e w1 ⟨rfl, hb1⟩; rw [hg]; have hr1 := h1.below (hb1.mono hB1); have c0 := box_cell hb1 0; have c1 := box_cell hb1 1; have hB2 := step hB0 hb1; have hBw : B ≤ w1.heap.size := Nat.le_trans hB hB2.size; clear hb1; simp only [List.getElem?_toArray, List.getElem?_cons_zero, List.getElem?_cons_succ] at c0 c1) | (go_at_call 32; refine (implSolved _ _ _ _ _ _ _ hr1 hBw hs Hn.out Hg.out).mono ?_; rintro e w2 ⟨rfl, hb2⟩; have hB3 := step hB2 hb2; clear hb2))
    go_ret
    exact ⟨rfl, hB3⟩

end Go.Proofs.Ytjdhfknoldginaa
set_option maxRecDepth 8000
namespace Go.Proofs.Ytjdhfknoldginaa
open Go.ChangeShapes Go.WideShapes Go.ChangeAt Go.RowKit
set_option maxHeartbeats 4000000 in
theorem draw_DrawPuzzleSolved (A : Option Addr) (n c : Nat) (bs : List Int) (w : World) (h : Code_ w A n c bs) : Calls Try.prog 10 #[.slice A n c] w (DrawnT w) := by
  have Hi := Lib.hid puz_info
  have h1 := h.1.alloc_ (.cells #[.int .i64 0, .slice none 0 0, .slice none 0 0] 26)
  obtain ⟨w0, hW⟩ : ∃ w0, w0 = w.alloc (.cells #[.int .i64 0, .slice none 0 0, .slice none 0 0] 26) := ⟨_, rfl⟩
  rw [← hW] at h1
  have hRw : w.heap.size < w0.heap.size := by rw [hW]; simp
  have hb00 : Below w.heap.size w w0 := by rw [hW]; exact (Below.refl _ _).alloc (Nat.le_refl _) _
  have hR0 : w0.heap[w.heap.size]? = some (.cells #[.int .i64 0, .slice none 0 0, .slice none 0 0] 26) := by rw [hW]; exact heap_alloc_new w _
  have HW := Lib.hid hW
  clear hW
  go_enter Try.func10, Try.ntmps10
  go_wp2_with fail
  rw [← HW.out]
  refine (specOpen A c n bs w0 h1 h.2.1 h.2.2).mono ?_
  rintro e w1 ⟨rfl, hr, hb⟩
  have hR1 := (hb.block w.heap.size hRw).trans hR0
  have hG1 := hr.lt
  go_wp2_with fail
  refine (l20Try_any w0.heap.size w0.heap.size 0 w1 hr (Nat.le_refl _) (by omega)).mono ?_
  rintro e w2 ⟨s, A1, n1, c1', gi, A2, nr, c2', rs, A7, k7, c7, m7, rfl, s2, s4, hrd, hn16, hlo, hR, hl, hnr, ho, hk, hr2, hg⟩
  have h12 := hg.size
  have hG2 := hr2.lt
  have hs01 := hb.size
  have hx0 := pbox_new w2 s A1 n1 c1' A2 nr c2' 26
  have hbA : Below w2.heap.size w2 (w2.alloc (.cells #[.int .i64 s, .slice A1 n1 c1', .slice A2 nr c2'] 26)) := (Below.refl _ _).alloc (Nat.le_refl _) _
  have hsA : w2.heap.size < (w2.alloc (.cells #[.int .i64 s, .slice A1 n1 c1', .slice A2 nr c2'] 26)).heap.size := by simp
  have hrA := hr2.alloc (show w0.heap.size ≤ w2.heap.size by omega) (.cells #[.int .i64 s, .slice A1 n1 c1', .slice A2 nr c2'] 26)
  have hgA : w1.grownBy (w2.alloc (.cells #[.int .i64 s, .slice A1 n1 c1', .slice A2 nr c2'] 26)) (some w0.heap.size) := only_alloc hg _
  have hrdA := hrd.below hbA
  have hRA := hR.below hbA
  have hoA := ho.below hbA
  obtain ⟨W, hW2⟩ : ∃ W, w2.alloc (.cells #[.int .i64 s, .slice A1 n1 c1', .slice A2 nr c2'] 26) = W := ⟨_, rfl⟩
  rw [hW2] at hx0 hsA hrA hgA hrdA hRA hoA
  have HW2 := Lib.hid hW2
  have HK := Lib.hid (fun wr (hg : W.grownBy wr (some w0.heap.size)) => (⟨(hg.cell_far ⟨w2.heap.size, 0, none⟩ (by show w2.heap.size < _; omega) (fun e2 => by have e3 : w2.heap.size = w0.heap.size := Option.some.inj e2; omega)).trans hx0.1, (hg.cell_far ⟨w2.heap.size, 1, none⟩ (by show w2.heap.size < _; omega) (fun e2 => by have e3 : w2.heap.size = w0.heap.size := Option.some.inj e2; omega)).trans hx0.2.1, (hg.cell_far ⟨w2.heap.size, 2, none⟩ (by show w2.heap.size < _; omega) (fun e2 => by have e3 : w2.heap.size = w0.heap.size := Option.some.inj e2; omega)).trans hx0.2.2⟩ : PBox wr w2.heap.size s A1 n1 c1' A2 nr c2'))
  have HR := Lib.hid (fun wr (hg : W.grownBy wr (some w0.heap.size)) => show wr.heap[w.heap.size]? = some (.cells #[.int .i64 0, .slice none 0 0, .slice none 0 0] 26) from ((hgA.trans hg).block w.heap.size (by omega) (fun e => by have := Option.some.inj e; omega)).trans hR1)
  have HF := Lib.hid (fun wr Y (A : Option Addr) (k c : Nat) (m : List Int) (ho : Ow wr w1.heap.size A k c m) (hk : k ≤ 16) (hg : W.grownBy wr (some w0.heap.size)) (hgr : wr.grownBy Y (some w.heap.size)) => show DrawnT w (.returned (.tuple #[.agg #[.int .i64 s, .slice A1 n1 c1', .slice A2 nr c2'], .slice A k c])) Y from by
    have hsz := hgr.size
    have hgs := hg.size
    have hb17 : Below w.heap.size w wr := (hb00.trans (hb.mono hb00.size)).trans ⟨(hgA.trans hg).os, (hgA.trans hg).tape, (hgA.trans hg).output, (hgA.trans hg).size, fun j hj => (hgA.trans hg).block j (by omega) (fun e => by injection e with e; omega)⟩
    have hbY : Below w.heap.size wr Y := ⟨hgr.os, hgr.tape, hgr.output, hgr.size, fun j hj => hgr.block j (by omega) (fun e => by have := Option.some.inj e; omega)⟩
    have hrd1 : Rd wr w2.heap.size A1 n1 gi := rd_keepV hrdA (by omega) hg (fun b off e => by have := hlo b off e; omega)
    exact ⟨s, A1, n1, c1', gi, A2, nr, c2', rs, A, k, c, m, rfl, s2, s4, (rd_keepV hrd1 (by omega) hgr (fun b off e => by have := hlo b off e; omega)).more (by omega), hn16, ((hRA.keptL hg (show w0.heap.size < w1.heap.size from hG1)).keptL hgr (by omega)).mono (by omega), hl, hnr, (ho.keptG hgr (by omega)).mono (by omega), hk, hb17.trans hbY⟩)
  have HSF := Lib.hid (specSolveFirst s A1 n1 c1' w2.heap.size gi A2 nr c2' W.heap.size rs W ⟨hrdA, by omega, by omega, hRA.rd hl, Nat.le_refl _, by omega⟩)
  have hr0 := hrA
  have hg00 : W.grownBy W (some w0.heap.size) := World.grownBy.refl _ _
  obtain ⟨z0, z1, z2⟩ := id hx0
  obtain ⟨bb, hbb⟩ : ∃ bb, sfB s n1 gi rs = bb := ⟨_, rfl⟩
  obtain ⟨L, hL⟩ : ∃ L, sfL s n1 gi rs = L := ⟨_, rfl⟩
  rw [hbb, hL] at HSF
  have hW1 : w1.heap.size ≤ W.heap.size := by omega
  have hGW : w0.heap.size < W.heap.size := by omega
  clear hrd hR hlo hr hr2 hg hW2 hrA hgA hrdA hRA hx0 hbA ho hbb hL
  go_upto_region 4 with (go_at_call 26; rw [HW2.out]; refine HSF.out.mono ?_; rintro e w3 ⟨A8, m8, c8, rfl, hm8, ho8, hb8⟩)
  have hg8 : W.grownBy w3 (some w0.heap.size) := grown_of_below hb8
  have ho3 := hoA.below hb8
  have hr3 := hr0.below hb8 (by omega)
  have Ho8 := Lib.hid (ho8.mono hW1)
  have Hm8 := Lib.hid hm8
  have Ho3 := Lib.hid ho3
  clear z0 z1 z2 hoA hr0 HSF ho8 ho3 hm8
  have HE := Lib.hid (fun wr (hg : W.grownBy wr (some w0.heap.size)) => And.intro (HK.out _ hg) (HR.out _ hg))
  cases bb
  · obtain ⟨⟨z0, z1, z2⟩, hrow⟩ := HE.out _ hg8
    have c0 := cell_of_row _ _ 0 _ _ (0, 0) hrow
    have c1 := cell_of_row _ _ 1 _ _ (0, 0) hrow
    have c2 := cell_of_row _ _ 2 _ _ (0, 0) hrow
    have f0 := frozen_of_row _ _ 0 _ _ hrow
    have f1 := frozen_of_row _ _ 1 _ _ hrow
    have f2 := frozen_of_row _ _ 2 _ _ hrow
    go_wp2
    have e0 := heap_setCell_same w3 w.heap.size 0 _ _ (.int .i64 s) hrow
    have e1 := heap_setCell_same _ w.heap.size 1 _ _ (.slice A1 n1 c1') e0
    have e2 := heap_setCell_same _ w.heap.size 2 _ _ (.slice A2 nr c2') e1
    have hgY : w3.grownBy (((w3.setCell ⟨w.heap.size, 0, none⟩ (.int .i64 s)).setCell ⟨w.heap.size, 1, none⟩ (.slice A1 n1 c1')).setCell ⟨w.heap.size, 2, none⟩ (.slice A2 nr c2')) (some w.heap.size) := (grown_set.trans grown_set).trans grown_set
    exact bodyPost_ret (v := .tuple #[.agg #[.int .i64 s, .slice A1 n1 c1', .slice A2 nr c2'], .slice A7 k7 c7]) (results_ct (by rfl) _ _ w.heap.size 26 _ (0, 0) _ _ rfl rfl e2 Try.underlying26 rfl (Hi.out _ _ _ _ _ _ _)) rfl (HF.out w3 _ A7 k7 c7 m7 Ho3.out hk hg8 hgY)
  · go_wp2_with fail
    refine (pick_any w0.heap.size w0.heap.size _ 2 _ hr3 (Nat.le_refl _) (by omega)).mono ?_
    rintro e w4 ⟨v, rfl, ⟨v0, v1, _⟩, hr4, hg4⟩
    have hv : v = 0 ∨ v = 1 := by have := v1 (by omega); omega
    have hg9 := hg8.trans hg4
    have Ho4 := Lib.hid (Ho3.out.keptG hg4 hG1)
    have Ho9 := Lib.hid (Ho8.out.keptG hg4 hG1)
    obtain ⟨⟨z0, z1, z2⟩, hrow⟩ := HE.out _ hg9
    have c0 := cell_of_row _ _ 0 _ _ (0, 0) hrow
    have c1 := cell_of_row _ _ 1 _ _ (0, 0) hrow
    have c2 := cell_of_row _ _ 2 _ _ (0, 0) hrow
    have f0 := frozen_of_row _ _ 0 _ _ hrow
    have f1 := frozen_of_row _ _ 1 _ _ hrow
    have f2 := frozen_of_row _ _ 2 _ _ hrow
    clear v0 v1 hr4 hg4 hr3
    rcases hv with rfl | rfl
    · go_wp2
      have e0 := heap_setCell_same w4 w.heap.size 0 _ _ (.int .i64 s) hrow
      have e1 := heap_setCell_same _ w.heap.size 1 _ _ (.slice A1 n1 c1') e0
      have e2 := heap_setCell_same _ w.heap.size 2 _ _ (.slice A2 nr c2') e1
      have hgY : w4.grownBy (((w4.setCell ⟨w.heap.size, 0, none⟩ (.int .i64 s)).setCell ⟨w.heap.size, 1, none⟩ (.slice A1 n1 c1')).setCell ⟨w.heap.size, 2, none⟩ (.slice A2 nr c2')) (some w.heap.size) := (grown_set.trans grown_set).trans grown_set
      exact bodyPost_ret (v := .tuple #[.agg #[.int .i64 s, .slice A1 n1 c1', .slice A2 nr c2'], .slice A8 m8 c8]) (results_ct (by rfl) _ _ w.heap.size 26 _ (0, 0) _ _ rfl rfl e2 Try.underlying26 rfl (Hi.out _ _ _ _ _ _ _)) rfl (HF.out w4 _ A8 m8 c8 L Ho9.out (by have := Hm8.out (by trivial); omega) hg9 hgY)
    · go_wp2
      have e0 := heap_setCell_same w4 w.heap.size 0 _ _ (.int .i64 s) hrow
      have e1 := heap_setCell_same _ w.heap.size 1 _ _ (.slice A1 n1 c1') e0
      have e2 := heap_setCell_same _ w.heap.size 2 _ _ (.slice A2 nr c2') e1
      have hgY : w4.grownBy (((w4.setCell ⟨w.heap.size, 0, none⟩ (.int .i64 s)).setCell ⟨w.heap.size, 1, none⟩ (.slice A1 n1 c1')).setCell ⟨w.heap.size, 2, none⟩ (.slice A2 nr c2')) (some w.heap.size) := (grown_set.trans grown_set).trans grown_set
      exact bodyPost_ret (v := .tuple #[.agg #[.int .i64 s, .slice A1 n1 c1', .slice A2 nr c2'], .slice A7 k7 c7]) (results_ct (by rfl) _ _ w.heap.size 26 _ (0, 0) _ _ rfl rfl e2 Try.underlying26 rfl (Hi.out _ _ _ _ _ _ _)) rfl (HF.out w4 _ A7 k7 c7 m7 Ho4.out hk hg9 hgY)
def rhN (s : Int) (m : List Int) (rs : List RuleM) (k : Nat) : Bool := (List.range k).all fun i => rhB (rat rs i).k (rat rs i).xs (rat rs i).v m s
theorem rhN_succ {s : Int} {m : List Int} {rs : List RuleM} {k : Nat} : rhN s m rs (k + 1) = (rhN s m rs k && rhB (rat rs k).k (rat rs k).xs (rat rs k).v m s) := by
  unfold rhN; rw [List.range_succ, List.all_append]; simp
def gvN (gi m : List Int) (k : Nat) : Bool := (List.range k).all fun i => nth gi i == 0 || nth gi i == nth m i
theorem gvN_succ {gi m : List Int} {k : Nat} : gvN gi m (k + 1) = (gvN gi m k && (nth gi k == 0 || nth gi k == nth m k)) := by
  unfold gvN; rw [List.range_succ, List.all_append]; simp
theorem ps_off {s : Int} {gi m : List Int} {rs : List RuleM} (h : (pvB s gi rs && gv m s) = false) : psB s gi rs m = false := by
  unfold psB fpB; rw [h]; rfl
set_option maxHeartbeats 4000000 in
theorem puzzleSolved_walk (A : Option Addr) (c n : Nat) (bs : List Int) (w : World) (h : Code_ w A n c bs) :
    Calls Try.prog 4 #[.slice A n c] w fun e w' => e = .returned (.bool true) ∧ Below w.heap.size w w' := by
  by_cases hn : n ≤ 1048576
  · go_enter Try.func4, Try.ntmps4
    go_wp2_with fail
    refine (draw_DrawPuzzleSolved _ _ _ _ _ h).mono ?_
    rintro e w1 ⟨s, A1, n1, c1, gi, A2, nr, c2, rs, Ag, k, cg, m, rfl, s2, s4, hrd, hn16, hR, hl, hnr, ho, hk16, hb1⟩
    have hx0 := pbox_new w1 s A1 n1 c1 A2 nr c2 26
    have hbA : Below w1.heap.size w1 (w1.alloc (.cells #[.int .i64 s, .slice A1 n1 c1, .slice A2 nr c2] 26)) := (Below.refl _ _).alloc (Nat.le_refl _) _
    have hpc0 : PGc w1 s A1 n1 c1 w1.heap.size gi A2 nr c2 w1.heap.size rs := ⟨hrd, Nat.le_refl _, by omega, hR.rdc hl, Nat.le_refl _, by omega⟩
    have hpcA := hpc0.below hbA
    have hmA := ho.rd.below hbA
    have hsA : w1.heap.size < (w1.alloc (.cells #[.int .i64 s, .slice A1 n1 c1, .slice A2 nr c2] 26)).heap.size := by simp
    obtain ⟨W, hW⟩ : ∃ W, w1.alloc (.cells #[.int .i64 s, .slice A1 n1 c1, .slice A2 nr c2] 26) = W := ⟨_, rfl⟩
    rw [hW] at hx0 hbA hpcA hsA hmA
    have hb0W : Below w.heap.size w W := step hb1 hbA
    have HX := Lib.hid (fun w' (hb : Below W.heap.size W w') => hx0.below (by omega : w1.heap.size < W.heap.size) hb)
    have HPc := Lib.hid (fun w' (hb : Below W.heap.size W w') => hpcA.below hb)
    have HG := Lib.hid (fun w' (hb : Below W.heap.size W w') => hmA.below (hb.mono (Nat.le_of_lt hsA)))
    have HGB := Lib.hid (fun w' (hb : Below W.heap.size W w') => (Nat.le_trans (Nat.le_of_lt hsA) hb.size : w1.heap.size ≤ w'.heap.size))
    have HB := Lib.hid (fun w' (hb : Below W.heap.size W w') => step hb0W hb)
    obtain ⟨bb, hbb⟩ : ∃ bb, psB s gi rs m = bb := ⟨_, rfl⟩
    have hk40 : k ≤ 1099511627776 := by omega
    have HI1 := implPuzzleSolved s A1 n1 c1 w1.heap.size gi A2 nr c2 w1.heap.size rs Ag k cg w1.heap.size m W (HPc.out _ (Below.refl _ _)) (HG.out _ (Below.refl _ _)) (HGB.out _ (Below.refl _ _)) hk40
    rw [hbb] at HI1
    have HI1 := Lib.hid HI1
    have HS1 := Lib.hid (fun w' (hb : Below W.heap.size W w') => by
      have := specPuzzleSolved s A1 n1 c1 w1.heap.size gi A2 nr c2 w1.heap.size rs Ag k cg w1.heap.size m w' (HPc.out _ hb).rd (HG.out _ hb) (HGB.out _ hb) hk40
      rw [hbb] at this
      exact this)
    have HV := Lib.hid (fun w' (hb : Below W.heap.size W w') => specPuzzleValid s A1 n1 c1 w1.heap.size gi A2 nr c2 w1.heap.size rs w' (HPc.out _ hb).rd.g (HPc.out _ hb).rd.gB (HPc.out _ hb).rd.gm (HPc.out _ hb).rd.r (HPc.out _ hb).rd.rB (HPc.out _ hb).rd.rm)
    have HGV := Lib.hid (fun w' (hb : Below W.heap.size W w') => specGridValid Ag cg k w1.heap.size m s w' (HG.out _ hb) hk40)
    have hml := ho.rd.1
    have hgl := hrd.1
    have HW := Lib.hid hW
    have hbn : (bb != bb) = false := by simp
    have Hbb := Lib.hid hbb
    obtain ⟨z0, z1, z2⟩ := id hx0
    clear hW hpc0 hpcA hbA hx0 hR hrd ho hmA hbb
    cases hpv : pvB s gi rs
    · have h0 : bb = false := by rw [← Hbb.out]; exact ps_off (by rw [hpv]; rfl)
      subst h0
      go_wp2_with (first
        | (go_at_call 8; (with_reducible refine (alive_any _).mono ?_); rintro e w5 ⟨rfl, hb5⟩)
        | (go_at_call 13; refine (HV.out _ h23).mono ?_; rintro e w4 ⟨rfl, hb4⟩; rw [hpv]; have h24 := step h23 hb4)
        | (go_at_call 12; refine (HS1.out _ hb2).mono ?_; rintro e w3 ⟨rfl, hb3⟩; have h23 := step hb2 hb3; obtain ⟨v0, v1, v2⟩ := HX.out _ h23)
        | (go_at_call 11; rw [HW.out]; refine HI1.out.mono ?_; rintro e w2 ⟨rfl, hb2⟩; obtain ⟨y0, y1, y2⟩ := HX.out _ hb2))
      go_ret
      exact ⟨rfl, HB.out _ (step h24 hb5)⟩
    · cases hgv : gv m s
      · have h0 : bb = false := by rw [← Hbb.out]; exact ps_off (by rw [hgv, Bool.and_false])
        subst h0
        go_wp2_with (first
          | (go_at_call 8; (with_reducible refine (alive_any _).mono ?_); rintro e w5 ⟨rfl, hb5⟩)
          | (go_at_call 14; refine (HGV.out _ h24).mono ?_; rintro e w6 ⟨rfl, rfl⟩; rw [hgv])
          | (go_at_call 13; refine (HV.out _ h23).mono ?_; rintro e w4 ⟨rfl, hb4⟩; rw [hpv]; have h24 := step h23 hb4; obtain ⟨u0, u1, u2⟩ := HX.out _ h24)
          | (go_at_call 12; refine (HS1.out _ hb2).mono ?_; rintro e w3 ⟨rfl, hb3⟩; have h23 := step hb2 hb3; obtain ⟨v0, v1, v2⟩ := HX.out _ h23)
          | (go_at_call 11; rw [HW.out]; refine HI1.out.mono ?_; rintro e w2 ⟨rfl, hb2⟩; obtain ⟨y0, y1, y2⟩ := HX.out _ hb2))
        go_ret
        exact ⟨rfl, HB.out _ (step h24 hb5)⟩
      · obtain ⟨q, hq⟩ : ∃ q, sqSolved m s = q := ⟨_, rfl⟩
        have HEnd := Lib.hid (show bb = (q && rhN s m rs nr && gvN gi m k) by rw [← Hbb.out, ps_is hpv hgv, hq, hl, hml]; rfl)
        have HQ := Lib.hid (fun w' (hb : Below W.heap.size W w') => by
          have := implSquareSolved Ag cg k w1.heap.size m s w' (HG.out _ hb) (HGB.out _ hb) hk40
          rw [hq] at this
          exact this)
        have hn1 : n1 = k := by
          have e1 := gv_len hgv
          have e2 := gv_len (pv_gv hpv).1
          rw [hml] at e1
          rw [hgl] at e2
          omega
        subst hn1
        have hsb : -9223372036854775808 ≤ s ∧ s ≤ 9223372036854775807 := by omega
        clear hq hgl hml
        go_upto_region 10 with (first
          | (go_at_call 15; refine (HQ.out _ h24).mono ?_; rintro e w5 ⟨rfl, hb5⟩; have h25 := step h24 hb5)
          | (go_at_call 14; refine (HGV.out _ h24).mono ?_; rintro e w6 ⟨rfl, rfl⟩; rw [hgv])
          | (go_at_call 13; refine (HV.out _ h23).mono ?_; rintro e w4 ⟨rfl, hb4⟩; rw [hpv]; have h24 := step h23 hb4; obtain ⟨u0, u1, u2⟩ := HX.out _ h24)
          | (go_at_call 12; refine (HS1.out _ hb2).mono ?_; rintro e w3 ⟨rfl, hb3⟩; have h23 := step hb2 hb3; obtain ⟨v0, v1, v2⟩ := HX.out _ h23)
          | (go_at_call 11; rw [HW.out]; refine HI1.out.mono ?_; rintro e w2 ⟨rfl, hb2⟩; obtain ⟨y0, y1, y2⟩ := HX.out _ hb2))
        clear hbn hpv hgv
        go_wp2
        go_loopw [6, 7] (fun av iv wr => ∃ u : Nat, u ≤ nr ∧ iv = .int .i64 u ∧ av = .bool (q && rhN s m rs u) ∧ Below W.heap.size W wr) (fun _ iv _ => nr - (intOf iv).toNat)
        case atStart => exact ⟨0, Nat.zero_le _, rfl, by simp [rhN], h25⟩
        case round =>
          obtain ⟨u, hu, rfl, rfl, hb⟩ := hrel
          obtain ⟨p0, p1, p2⟩ := HX.out _ hb
          obtain ⟨ab, hab⟩ : ∃ ab, (q && rhN s m rs u) = ab := ⟨_, rfl⟩
          rw [hab]
          by_cases hlt : u < nr
          · have hltI : (u : Int) < (nr : Int) := by omega
            cases ab
            · have Hn := Lib.hid (show (q && rhN s m rs (u + 1)) = false by rw [rhN_succ, ← Bool.and_assoc, hab, Bool.false_and])
              clear hab
              go_wp2
              go_quiet (fail)
              go_wp2
              go_roundw
              case rel => exact ⟨u + 1, by omega, by go_num, by rw [Hn.out], below_drewN hb _⟩
              case measure => simp [intOf]; omega
            · have hws := hb.size
              obtain ⟨b, off, hAr, hbB, hcc⟩ := (HPc.out _ hb).r.2 (by omega)
              subst hAr
              obtain ⟨A', c', r0, r1, r2, r3, r4, r5⟩ := hcc u hlt
              have hbw : b < wr.heap.size := cell_lt r0
              obtain ⟨rk, hrk⟩ : ∃ x, x = (rat rs u).k := ⟨_, rfl⟩
              obtain ⟨rx, hrx⟩ : ∃ x, x = (rat rs u).xs := ⟨_, rfl⟩
              obtain ⟨rvv, hrv⟩ : ∃ x, x = (rat rs u).v := ⟨_, rfl⟩
              have Hn := Lib.hid (show (q && rhN s m rs (u + 1)) = rhB rk rx rvv m s by rw [rhN_succ, ← Bool.and_assoc, hab, Bool.true_and, hrk, hrx, hrv])
              rw [← hrk] at r0
              rw [← hrx] at r1 r3 r4 r5
              rw [← hrv] at r2
              have hw1 : w1.heap.size < wr.heap.size := by omega
              have HS : Hid (∀ w', Below wr.heap.size wr w' → w'.cell? ⟨w1.heap.size, 0, none⟩ = some (.int .i64 s) ∧ w'.cell? ⟨w1.heap.size, 2, none⟩ = some (.slice (some ⟨b, off, none⟩) nr c2) ∧ w'.cell? ⟨b, off + u * 3, none⟩ = some (.int .i64 rk) ∧ w'.cell? ⟨b, off + u * 3 + 1, none⟩ = some (.slice A' rx.length c') ∧ w'.cell? ⟨b, off + u * 3 + 2, none⟩ = some (.int .i64 rvv)) :=
                Lib.hid (fun w' hb => ⟨(hb.cell (p := ⟨w1.heap.size, 0, none⟩) hw1).trans p0, (hb.cell (p := ⟨w1.heap.size, 2, none⟩) hw1).trans p2, (hb.cell (p := ⟨b, off + u * 3, none⟩) hbw).trans r0, (hb.cell (p := ⟨b, off + u * 3 + 1, none⟩) hbw).trans r1, (hb.cell (p := ⟨b, off + u * 3 + 2, none⟩) hbw).trans r2⟩)
              have HC := Lib.hid (fun w' (hbb : Below wr.heap.size wr w') => implRuleHolds A' c' rx.length w1.heap.size rx rk rvv s Ag cg n1 w1.heap.size m w' (r3.below (hbb.mono (Nat.le_of_lt hw1))) (Nat.le_trans (Nat.le_of_lt hw1) hbb.size) r4 r5 (HG.out _ (step hb hbb)) (HGB.out _ (step hb hbb)) hk40 hsb)
              clear hrk hrx hrv hcc hab r3 r4 r5
              go_wp2
              go_region_held3 (fun w' => w'.cell? ⟨w1.heap.size, 0, none⟩ = some (.int .i64 s) ∧ w'.cell? ⟨w1.heap.size, 2, none⟩ = some (.slice (some ⟨b, off, none⟩) nr c2) ∧ w'.cell? ⟨b, off + u * 3, none⟩ = some (.int .i64 rk) ∧ w'.cell? ⟨b, off + u * 3 + 1, none⟩ = some (.slice A' rx.length c') ∧ w'.cell? ⟨b, off + u * 3 + 2, none⟩ = some (.int .i64 rvv))
                (first | go_keep | exact HS.out _ hb5)
                ((go_simp; go_at_call 16; refine (HC.out _ (Below.refl _ _).drew).mono ?_; rintro e w5 ⟨rfl, hb4⟩; have hb5 : Below wr.heap.size wr w5 := ((Below.refl _ _).drew).trans hb4))
              go_wp2
              go_roundw
              case rel => exact ⟨u + 1, by omega, by go_num, by rw [Hn.out], step hb hb5⟩
              case measure => simp [intOf]; omega
          · obtain rfl : u = nr := by omega
            have HEnd2 := Lib.hid (show bb = (ab && gvN gi m n1) by rw [HEnd.out, hab])
            clear hab
            go_wp2
            go_loopw [6, 8] (fun av iv wr => ∃ j : Nat, j ≤ n1 ∧ iv = .int .i64 j ∧ av = .bool (ab && gvN gi m j) ∧ Below W.heap.size W wr) (fun _ iv _ => n1 - (intOf iv).toNat)
            case atStart => exact ⟨0, Nat.zero_le _, rfl, by simp [gvN], hb⟩
            case round =>
              obtain ⟨j, hj, rfl, rfl, hb'⟩ := hrel
              obtain ⟨t0, t1, t2⟩ := HX.out _ hb'
              obtain ⟨db, hdb⟩ : ∃ db, (ab && gvN gi m j) = db := ⟨_, rfl⟩
              rw [hdb]
              by_cases hjt : j < n1
              · have hjI : (j : Int) < (n1 : Int) := by omega
                obtain ⟨b1, o1, hA1, hB1, hc1⟩ := (HPc.out _ hb').g.at_ hjt
                obtain ⟨b2, o2, hA2, hB2, hc2⟩ := (HG.out _ hb').at_ hjt
                subst hA1 hA2
                have hs2 : (ab && gvN gi m (j + 1)) = (db && (nth gi j == 0 || nth gi j == nth m j)) := by rw [gvN_succ, ← Bool.and_assoc, hdb]
                cases db
                · have Hn := Lib.hid (show (ab && gvN gi m (j + 1)) = false by rw [hs2, Bool.false_and])
                  clear hs2 hdb
                  go_wp2
                  go_quiet (fail)
                  go_wp2
                  go_roundw
                  case rel => exact ⟨j + 1, by omega, by go_num, by rw [Hn.out], below_drewN hb' _⟩
                  case measure => simp [intOf]; omega
                · cases e0 : (nth gi j == 0)
                  · cases e1 : (nth gi j == nth m j)
                    · have Hn := Lib.hid (show (ab && gvN gi m (j + 1)) = false by rw [hs2, e0, e1]; rfl)
                      clear hs2 hdb
                      go_wp2
                      go_quiet (fail)
                      go_wp2
                      go_roundw
                      case rel => exact ⟨j + 1, by omega, by go_num, by rw [Hn.out], below_drewN hb' _⟩
                      case measure => simp [intOf]; omega
                    · have Hn := Lib.hid (show (ab && gvN gi m (j + 1)) = true by rw [hs2, e0, e1]; rfl)
                      clear hs2 hdb
                      go_wp2
                      go_quiet (fail)
                      go_wp2
                      go_roundw
                      case rel => exact ⟨j + 1, by omega, by go_num, by rw [Hn.out], below_drewN hb' _⟩
                      case measure => simp [intOf]; omega
                  · have Hn := Lib.hid (show (ab && gvN gi m (j + 1)) = true by rw [hs2, e0]; rfl)
                    clear hs2 hdb
                    go_wp2
                    go_quiet (fail)
                    go_wp2
                    go_roundw
                    case rel => exact ⟨j + 1, by omega, by go_num, by rw [Hn.out], below_drewN hb' _⟩
                    case measure => simp [intOf]; omega
              · obtain rfl : j = n1 := by omega
                have he : (bb == db) = true := by rw [HEnd2.out, hdb]; simp
                clear hdb
                go_wp2
                go_ret
                exact ⟨by first | rfl | rw [he] | simp [he], HB.out _ hb'⟩
  · go_enter Try.func4, Try.ntmps4
    go_wp2
    go_ret
    exact ⟨rfl, Below.refl _ _⟩
end Go.Proofs.Ytjdhfknoldginaa
