import Derived.Test.YtlnmioijgclndaaIF1
import Derived.Test.YtlnmioijgclndaaSrt
import Derived.Deep.CutRange
set_option maxRecDepth 8000
namespace Go.Proofs.Ytlnmioijgclndaa
open Go.ChangeShapes Go.WideShapes Go.ChangeAt Go.RowKit
theorem Gs.made {w1 : World} {lo M : Nat} (h : w1.ownsRow lo 23 1 (.slice (some ⟨M, 0, none⟩) 8 8) 8 (madeCells (Value.slice none 0 0).cells (8 * 1)).toList) : Gs w1 lo (.slice (some ⟨M, 0, none⟩) 8 8) (List.replicate 8 (.slice none 0 0, [])) := by
  have h' := h
  rw [Nat.mul_one] at h'
  have e : (List.replicate 8 (Value.slice none 0 0, ([] : List Int))).map Prod.fst = List.replicate 8 (.slice none 0 0) := by rw [List.map_replicate]
  refine ⟨by rw [List.length_replicate, e, ← toList_madeCells_one]; exact h', fun x hx => ?_, ?_⟩
  · obtain rfl := List.eq_of_mem_replicate hx
    exact ⟨⟨none, 0, rfl, Ow.nil_ _ _⟩, fun g hg => by simp [Value.ownBlock] at hg⟩
  · rw [List.pairwise_iff_getElem]
    intro i j hi hj hij g hg
    rw [List.getElem_replicate] at hg
    simp [Value.ownBlock] at hg
theorem gat_made (j : Nat) : gat (cnt (List.replicate 8 (Value.slice none 0 0, []))) j = [] := by
  simp only [gat, cnt, List.map_replicate, List.getD_eq_getElem?_getD, List.getElem?_replicate]
  split <;> rfl
theorem cnt_ext {d : List GV} {f : Nat → List Int} (hd : d.length = 8) (h : ∀ j, j < 8 → gat (cnt d) j = f j) : cnt d = (List.range 8).map f := by
  apply List.ext_getElem (by rw [cnt_len, hd]; simp)
  intro i h1 h2
  rw [cnt_len, hd] at h1
  have := h i h1
  rw [gat_cnt (by omega)] at this
  simp [cnt, this]
set_option maxHeartbeats 2000000 in
theorem forms_any (A : Option Addr) (c n B : Nat) (xs : List Int) (s : Nat) (w : World) (h : Rd w B A n xs) (hB : B ≤ w.heap.size) (hs : s ∈ [2, 3, 4]) (hn : n = s * s) :
    Calls Try.prog 53 #[.agg #[.slice A n c, .int .i64 s]] w (RetGs w ((List.range 8).map (frm s n xs))) := by
  obtain ⟨i0, hi, hz0, hz1, hz2⟩ := info_parts sl_info
  have hs4 : 2 ≤ s ∧ s ≤ 4 := by simp at hs; omega
  have hn16 : n ≤ 16 := by subst hn; exact Nat.le_trans (Nat.mul_le_mul hs4.2 hs4.2) (by omega)
  have hlen := Lib.hid h.1
  obtain ⟨W0, hW0⟩ : ∃ W0, w.alloc (.cells #[.slice A n c, .int .i64 s] 45) = W0 := ⟨_, rfl⟩
  have c0 : W0.cell? ⟨w.heap.size, 0, none⟩ = some (.slice A n c) := by rw [← hW0]; exact cell_of_row _ _ 0 _ _ (0, 0) (heap_alloc_new w _)
  have c1 : W0.cell? ⟨w.heap.size, 1, none⟩ = some (.int .i64 s) := by rw [← hW0]; exact cell_of_row _ _ 1 _ _ (0, 0) (heap_alloc_new w _)
  have hb0 : Below w.heap.size w W0 := by rw [← hW0]; exact (Below.refl _ _).alloc (Nat.le_refl _) _
  have hs0 : w.heap.size < W0.heap.size := by rw [← hW0]; simp
  have HF := Lib.hid (formCells_any s n W0 hs hn)
  have HP : Hid (∀ (k : Nat) (W : World) (A3 : Option Addr) (c3 : Nat), k < 8 → Below w.heap.size w W → Rd W W.heap.size A3 n (frm s n (cNs n) k) → Calls Try.prog 80 #[.slice A n c, .slice A3 n c3] W (RetN W n (frm s n xs k))) := Lib.hid fun k W A3 c3 hk hW hr => by
    refine (implPick A c n B xs A3 c3 n W.heap.size (frm s n (cNs n) k) W (h.below (hW.mono hB)) hr (Nat.le_trans hB hW.size) (Nat.le_refl _) (by omega) (frm_cells hs hn hk)).mono fun e w' hh => ?_
    rw [pks_frm hs hn hlen.out hk] at hh
    exact retN_of hh (frm_len hlen.out k)
  have Hl := Lib.hid (fun k => frm_len (s := (s : Int)) (cNs_len n) k)
  have HW0 := Lib.hid hW0
  clear hW0 hn hs
  go_enter Try.func53, Try.ntmps53
  go_wp2_with fail
  rw [HW0.out]
  go_wp2_with (first
    | (go_at_call 79; refine HF.out.mono ?_; rintro e w1 ⟨A1, c1m, d, rfl, hd, hG, hb1⟩; rw [List.length_map, List.length_range] at hG ⊢; have hlo1 := Nat.le_trans hb0.size hb1.size)
    | (refine wpList_make_full _ rfl (.tmp 11) (.tmp 11) 31 rfl w.heap.size 23 i0 (.slice none 0 0) 1 Try.underlying31 hi hz0 hz1 .i64 .i64 8 8 8 rfl rfl rfl rfl (by rw [hz2]; omega) (by simp [maxLen]) hlo1 ?_; intro w2 hown hgr))
  have hdl : d.length = 8 := by rw [← cnt_len, hd]; simp
  obtain ⟨M, hM⟩ : ∃ M, M = w1.heap.size := ⟨_, rfl⟩
  rw [← hM] at hown ⊢
  have hG2 := Gs.made hown
  have hb2 : Below M w1 w2 := by rw [hM]; exact made_below hgr (Nat.le_refl _)
  have hc0 := (hb1.cell (p := ⟨w.heap.size, 0, none⟩) hs0).trans c0
  have hcM : w.heap.size < M := by rw [hM]; exact Nat.lt_of_lt_of_le hs0 hb1.size
  have HC := Lib.hid hd
  have hbw1 : Below w.heap.size w w1 := hb0.trans (hb1.mono hb0.size)
  have HMe := Lib.hid hM
  clear hown hgr hz0 hz1 hz2 hi hd c0 c1 HF HW0 hM
  go_wp2
  go_loopw [15] (fun i wr => ∃ (k : Nat) (d' : List GV), k ≤ 8 ∧ i = .int .i64 k ∧ d'.length = 8 ∧ Hid (∀ j, j < 8 → gat (cnt d') j = if j < k then frm s n xs j else []) ∧ Gs wr w.heap.size (.slice (some ⟨M, 0, none⟩) 8 8) d' ∧ Below M w1 wr) (fun i _ => 8 - (intOf i).toNat)
  case atStart => exact ⟨0, _, by omega, rfl, by simp, Lib.hid (fun j hj => by rw [if_neg (by omega)]; exact gat_made j), hG2, hb2⟩
  case round =>
    obtain ⟨k, d', hk, rfl, hdl', HK, hGr, hbr⟩ := hrel
    have hbw : Below w.heap.size w wr := hbw1.trans (hbr.mono (by omega))
    by_cases hlt : k < 8
    · have hlt' : (k : Int) < 8 := by omega
      have hGt : Gs wr W0.heap.size (.slice A1 8 c1m) d := hG.below (by rw [← HMe.out]; exact hbr)
      obtain ⟨g, A3, c3, rfl, -, -, hgw, hck, hfk, ho3, -, -⟩ := hGt.at_ (show k < d.length by omega)
      rw [HC.out, gat_map hlt, Hl.out] at hck ho3
      obtain ⟨gM, A4, c4, hgM, -, -, hgMw, hold, hfr, -, -, -⟩ := hGr.at_ (show k < d'.length by omega)
      injection hgM with hgM
      injection hgM with hgM
      subst hgM
      have hcb := (hbr.cell (p := ⟨w.heap.size, 0, none⟩) hcM).trans hc0
      have hcall := Lib.hid (HP.out k wr A3 c3 hlt hbw ho3.rd)
      have hGt' := Lib.hid hGt
      clear hGt
      go_wp2_with (go_at_call 80; refine hcall.out.mono ?_; rintro e w3 ⟨A5, c5, rfl, ho5, hb5⟩; have hold5 := (hb5.cell (p := ⟨M, k, none⟩) hgMw).trans hold; have hfr5 := (hb5.frozen (p := ⟨M, k, none⟩) hgMw).trans hfr)
      have hP := Gs.put (xs := frm s n xs k) (A3 := A5) (c3 := c5) (hGr.below hb5) (show k < d'.length by omega) (by rw [frm_len hlen.out]; exact ho5) hbw.size (by rw [frm_len hlen.out]; intro x hx b hb q; have := hGr.hi hx b hb; have := ho5.own_lo b q; omega) (by rw [frm_len hlen.out]; intro b hb e; have := ho5.own_lo b hb; omega)
      rw [frm_len hlen.out] at hP
      have hKn : ∀ j, j < 8 → gat (cnt (d'.set k (.slice A5 n c5, frm s n xs k))) j = if j < k + 1 then frm s n xs j else [] := fun j hj => by
        rw [cnt_set, gat_set (by rw [cnt_len]; omega), HK.out j hj]
        by_cases e : j = k
        · subst e; rw [if_pos rfl, if_pos (by omega)]
        · rw [if_neg e]
          by_cases e2 : j < k
          · rw [if_pos e2, if_pos (by omega)]
          · rw [if_neg e2, if_neg (by omega)]
      have HPn := Lib.hid hP
      have HKn := Lib.hid hKn
      have hbn : Below M w1 (w3.setCell ⟨M, k, none⟩ (.slice A5 n c5)) := (hbr.trans (hb5.mono (by have := hbr.size; have := HMe.out; omega))).setCell (Nat.le_refl _) _
      clear hP hKn
      go_roundw
      case rel => exact ⟨k + 1, _, by omega, by go_num, by simp [hdl'], HKn, HPn.out, hbn⟩
      case measure => simp [intOf]; omega
    · obtain rfl : k = 8 := by omega
      have hce := cnt_ext hdl' (fun j hj => by rw [HK.out j hj, if_pos hj])
      have HCE := Lib.hid hce
      clear hce
      go_wp2
      go_ret
      exact retGs_mk hdl' HCE.out hGr hbw
set_option maxHeartbeats 1000000 in
theorem implGridForms (A : Option Addr) (c n B : Nat) (xs : List Int) (size : Int) (w : World) (h : Rd w B A n xs) (hB : B ≤ w.heap.size) (hm : n ≤ 1099511627776) :
    Calls Try.prog 22 #[.slice A n c, .int .i64 size] w (RetGs w (gfL xs size n)) := by
  have hlen := Lib.hid h.1
  have h1 := h.alloc hB (.cells #[.slice A n c, .int .i64 size] 45)
  have hB0 : Below w.heap.size w (w.alloc (.cells #[.slice A n c, .int .i64 size] 45)) := (Below.refl _ _).alloc (Nat.le_refl _) _
  have hB1 := Nat.le_trans hB hB0.size
  cases hg : gv xs size
  · have HL := Lib.hid (gfL_f (n := n) hg)
    go_enter Try.func22, Try.ntmps22
    go_wp2_with (go_at_call 44; refine (implValid _ _ _ _ _ _ _ h1 hB1 hm).mono ?_; rintro e w1 ⟨rfl, hb1⟩; rw [hg])
    go_ret
    rw [HL.out]
    exact ⟨_, _, [], rfl, rfl, Gs.nil_, step hB0 hb1⟩
  · obtain ⟨s, rfl, hs, hls⟩ := size_nat hg
    have hn : n = s * s := by have := hlen.out; omega
    have HL := Lib.hid (gfL_t (n := n) hg)
    have HF := Lib.hid (fun W (hW : Below w.heap.size w W) => forms_any A c n B xs s W (h.below (hW.mono hB)) (Nat.le_trans hB hW.size) hs hn)
    clear hn
    go_enter Try.func22, Try.ntmps22
    go_wp2_with (go_at_call 44; refine (implValid _ _ _ _ _ _ _ h1 hB1 hm).mono ?_; rintro e w1 ⟨rfl, hb1⟩; rw [hg]; have hbox := box_cell hb1; have hB2 := step hB0 hb1)
    have c0 := hbox 0
    have c1 := hbox 1
    simp at c0 c1
    clear hbox
    go_wp2_with (go_at_call 53; refine (HF.out _ hB2).mono ?_; rintro e w2 ⟨A1, c1', d, rfl, hd, hG, hb2⟩; rw [List.length_map, List.length_range] at hG ⊢)
    go_ret
    rw [HL.out]
    have hdl : d.length = 8 := by rw [← cnt_len, hd]; simp
    exact retGs_mk hdl hd (hG.mono hB2.size) (step hB2 hb2)
/-- the program's names after k cells, in block g. -/
def NmB (w : World) (g : Nat) (xs : List Int) (k : Nat) : Prop := ∀ v, v < 5 → w.cell? ⟨g, v, none⟩ = some (.int .i64 (nmA xs k ((v : Nat) : Int) : Nat)) ∧ w.frozen? ⟨g, v, none⟩ = false
theorem NmB.below {w w' : World} {g k B : Nat} {xs : List Int} (h : NmB w g xs k) (hg : g < B) (hb : Below B w w') : NmB w' g xs k := fun v hv => ⟨(hb.cell (p := ⟨g, v, none⟩) hg).trans (h v hv).1, (hb.frozen (p := ⟨g, v, none⟩) hg).trans (h v hv).2⟩
theorem frozen_setCell (w : World) (p q : Addr) (v : Value) : (w.setCell p v).frozen? q = w.frozen? q := by
  unfold World.frozen? World.setCell
  simp only [Array.getElem?_modify]
  by_cases e : p.block = q.block
  · rw [if_pos e]
    cases w.heap[q.block]? with
    | none => rfl
    | some o => cases o <;> rfl
  · rw [if_neg e]
theorem NmB.other {w : World} {g g' j k : Nat} {xs : List Int} {v : Value} (h : NmB w g xs k) (hne : g ≠ g') : NmB (w.setCell ⟨g', j, none⟩ v) g xs k := fun u hu =>
  ⟨by rw [World.cell?_setCell_other _ _ _ _ (by simp <;> omega)]; exact (h u hu).1, by rw [frozen_setCell]; exact (h u hu).2⟩
theorem NmB.same_ {w : World} {g k : Nat} {xs : List Int} (h : NmB w g xs k) (hn : newAt xs k = false) : NmB w g xs (k + 1) := fun v hv => by
  rw [nmA_f (fun q => by rw [hn] at q; exact absurd q.1 (by simp))]
  exact h v hv
theorem NmB.set_ {w : World} {g k x : Nat} {xs : List Int} (h : NmB w g xs k) (hn : newAt xs k = true) (hx : nth xs k = (x : Int)) (h5 : x < 5) : NmB (w.setCell ⟨g, x, none⟩ (.int .i64 ((cntN xs k : Int) + 1))) g xs (k + 1) := fun v hv => by
  rw [frozen_setCell]
  refine ⟨?_, (h v hv).2⟩
  by_cases e : v = x
  · subst e
    rw [nmA_t ⟨hn, hx⟩, World.cell?_setCell_same _ _ _ (h v hv).1]
    simp
  · rw [nmA_f (fun q => e (by have := q.2; rw [hx] at this; omega)), World.cell?_setCell_other _ _ _ _ (by simp <;> omega)]
    exact (h v hv).1
set_option maxHeartbeats 4000000 in
theorem renamed_any (A : Option Addr) (c n B : Nat) (xs : List Int) (s : Int) (w : World) (h : Rd w B A n xs) (hB : B ≤ w.heap.size) (hm : n ≤ 1099511627776) (h4 : s ≤ 4) (hok : ∀ k, k < n → 0 ≤ nth xs k ∧ nth xs k ≤ s) :
    Calls Try.prog 58 #[.agg #[.slice A n c, .int .i64 s]] w (RetN w n (rnL xs n)) := by
  obtain ⟨i0, hi, hz0, hz1, hz2⟩ := info_parts int_info
  obtain ⟨W0, hW0⟩ : ∃ W0, (w.alloc (.cells #[.slice A n c, .int .i64 s] 45)).alloc (.cells #[.int .i64 0, .int .i64 0, .int .i64 0, .int .i64 0, .int .i64 0] 75) = W0 := ⟨_, rfl⟩
  have hsz : W0.heap.size = w.heap.size + 2 := by rw [← hW0]; simp
  have hb00 : Below w.heap.size w (w.alloc (.cells #[.slice A n c, .int .i64 s] 45)) := (Below.refl _ _).alloc (Nat.le_refl _) _
  have hb0 : Below w.heap.size w W0 := by rw [← hW0]; exact hb00.alloc hb00.size _
  have hcell : W0.heap[w.heap.size]? = some (.cells #[.slice A n c, .int .i64 s] 45) := by rw [← hW0, heap_alloc_old _ _ (by simp)]; exact heap_alloc_new w _
  have c0 : W0.cell? ⟨w.heap.size, 0, none⟩ = some (.slice A n c) := cell_of_row _ _ 0 _ _ (0, 0) hcell
  have hrow : W0.heap[w.heap.size + 1]? = some (.cells #[.int .i64 0, .int .i64 0, .int .i64 0, .int .i64 0, .int .i64 0] 75) := by
    have := heap_alloc_new (w.alloc (.cells #[.slice A n c, .int .i64 s] 45)) (.cells #[.int .i64 0, .int .i64 0, .int .i64 0, .int .i64 0, .int .i64 0] 75)
    rw [World.size_alloc] at this
    rw [← hW0]; exact this
  have hN0 : NmB W0 (w.heap.size + 1) xs 0 := fun v hv => by
    refine ⟨?_, frozen_of_row W0 _ v _ _ hrow⟩
    rw [cell_of_row W0 _ v _ _ (0, 0) hrow]
    have : v = 0 ∨ v = 1 ∨ v = 2 ∨ v = 3 ∨ v = 4 := by omega
    rcases this with rfl | rfl | rfl | rfl | rfl <;> rfl
  have HW0 := Lib.hid hW0
  have Hok := Lib.hid hok
  have hs2 : w.heap.size < W0.heap.size := by omega
  clear hW0 hok hcell hrow hb00
  go_enter Try.func58, Try.ntmps58
  go_upto_region 3 with fail
  rw [HW0.out]
  go_wp2_with (refine wpList_make_full _ rfl (.tmp 10) (.tmp 10) 23 rfl W0.heap.size 3 i0 (.int .i64 0) 1 Try.underlying23 hi hz0 hz1 .i64 .i64 n n n rfl rfl rfl rfl (by rw [hz2]; omega) (by simp only [maxLen]; omega) (Nat.le_refl _) ?_; intro w1 hown hgr; have c1 : w1.cell? ⟨w.heap.size, 0, none⟩ = some (.slice A n c) := ((made_below (B := W0.heap.size) hgr (Nat.le_refl _)).cell (p := ⟨w.heap.size, 0, none⟩) hs2).trans c0)
  obtain ⟨M, hM⟩ : ∃ M, M = w.heap.size + 2 := ⟨_, rfl⟩
  have ho1 := made_part (rnL xs n) hown
  have hb1 : Below M W0 w1 := by rw [hM, ← hsz]; exact made_below hgr (Nat.le_refl _)
  rw [hsz, ← hM] at ho1
  rw [← hM] at hsz ⊢
  have hN1 := hN0.below (show w.heap.size + 1 < M by omega) hb1
  have hbw1 : Below w.heap.size w w1 := hb0.trans (hb1.mono (by omega))
  have Hsz := Lib.hid hM
  clear hown hgr hz0 hz1 hz2 hi hM c0 hN0 hsz hb0 hb1 HW0 hs2
  have hMw : w.heap.size + 1 ≠ M := by have := Hsz.out; omega
  have hMw0 : w.heap.size ≠ M := by have := Hsz.out; omega
  have hMlo : w.heap.size ≤ M := by have := Hsz.out; omega
  go_wp2
  go_loopw [4, 15] (fun l i wr => ∃ k : Nat, k ≤ n ∧ i = .int .i64 k ∧ l = .int .i64 (cntN xs k : Nat) ∧ Ow wr M (some ⟨M, 0, none⟩) n n (part (rnL xs n) k n) ∧ NmB wr (w.heap.size + 1) xs k ∧ Below w.heap.size w wr) (fun _ i _ => n - (intOf i).toNat)
  case atStart => exact ⟨0, by omega, rfl, rfl, ho1, hN1, hbw1⟩
  case round =>
    obtain ⟨k, hk, rfl, rfl, ho, hN, hb⟩ := hrel
    by_cases hlt : k < n
    · obtain ⟨b, off, rfl, hbB, hck⟩ := (h.below (hb.mono hB)).at_ hlt
      obtain ⟨x0, x1⟩ := Hok.out k hlt
      obtain ⟨x, hx⟩ := Int.eq_ofNat_of_zero_le x0
      have hx5 : x < 5 := by omega
      have hx5I : (x : Int) < 5 := by omega
      obtain ⟨hcn, hfn⟩ := hN x hx5
      obtain ⟨hold, hfr⟩ := ho.cell hlt
      have hst := (World.ownsRow.stored ho k (.int .i64 (nth (rnL xs n) k))).1
      rw [part_set, rnL_nth hlt] at hst
      have hcb : cntN xs k ≤ 1099511627776 := by
        have : ∀ j, cntN xs j ≤ j := fun j => by
          induction j with
          | zero => exact Nat.le_refl _
          | succ j ih => simp only [cntN]; split <;> omega
        have := this k
        omega
      have hnw := newAt_nm (xs := xs) (k := k)
      rw [hx] at hck x0 x1
      cases hnA : newAt xs k
      · have E1 := Lib.hid (cntN_f hnA)
        have E3 := rnG_f hnA
        rw [hx] at E3
        rw [← E3] at hcn
        have hNs := hN.same_ hnA
        rw [hnA, hx] at hnw
        clear hnA
        have Hst := Lib.hid hst
        have HNs := Lib.hid (hNs.other (j := k) (v := .int .i64 (rnG xs k)) hMw)
        clear hst hNs
        by_cases hz : x = 0
        · subst hz
          clear hnw E3
          have Hx := Lib.hid hx
          clear hx
          go_wp2
          go_roundw
          case rel => exact ⟨k + 1, by omega, by go_num, by rw [E1.out], Hst.out, HNs.out, hb.setCell hMlo _⟩
          case measure => simp [intOf]; omega
        · have hnz : ¬ (nmA xs k (x : Int) = 0) := by
            intro q
            rw [q] at hnw
            simp at hnw
            omega
          have hnzI : (rnG xs k == 0) = false := by rw [E3]; simp; exact hnz
          have hnzI2 : ¬ (rnG xs k = 0) := by rw [E3]; omega
          have hxne : ((x : Int) != 0) = true := by rw [bne_iff_ne]; omega
          clear hnw E3
          have Hx := Lib.hid hx
          clear hx
          go_wp2
          go_roundw
          case rel => exact ⟨k + 1, by omega, by go_num, by rw [E1.out], Hst.out, HNs.out, hb.setCell hMlo _⟩
          case measure => simp [intOf]; omega
      · have E1 := Lib.hid (cntN_t hnA)
        have hNs := hN.set_ hnA hx hx5
        have E3 := rnG_t hnA
        rw [hnA, hx] at hnw
        have hz : (0 : Int) < (x : Int) ∧ nmA xs k (x : Int) = 0 := by
          simp at hnw
          omega
        obtain ⟨hxp, hz0⟩ := hz
        rw [hz0] at hcn
        have hxne : ((x : Int) != 0) = true := by rw [bne_iff_ne]; omega
        have hlo := (World.ownsRow.lt ho M (by simp [Value.ownBlock])).2
        have hO2 : Ow (wr.setCell ⟨w.heap.size + 1, x, none⟩ (.int .i64 ((cntN xs k : Int) + 1))) M (some ⟨M, 0, none⟩) n n (part (rnL xs n) k n) := ho.setOther (fun b hb e => by simp [Value.ownBlock] at hb; omega)
        have hst2 := (World.ownsRow.stored hO2 k (.int .i64 (nth (rnL xs n) k))).1
        rw [part_set, rnL_nth hlt, E3] at hst2
        have Hst := Lib.hid hst2
        have HNs := Lib.hid (hNs.other (j := k) (v := .int .i64 ((cntN xs k : Int) + 1)) hMw)
        have hold2 : (wr.setCell ⟨w.heap.size + 1, x, none⟩ (.int .i64 ((cntN xs k : Int) + 1))).cell? ⟨M, k, none⟩ = some (.int .i64 (nth (part (rnL xs n) k n) k)) := (hO2.cell hlt).1
        have Hx := Lib.hid hx
        have hcn0 : wr.cell? ⟨w.heap.size + 1, x, none⟩ = some (.int .i64 0) := hcn
        clear hst hst2 hNs hnA hnw hx E3 hO2 hcn hz0
        go_wp2
        go_roundw
        case rel => exact ⟨k + 1, by omega, by go_num, by rw [E1.out]; go_num, Hst.out, HNs.out, (hb.setCell (show w.heap.size ≤ w.heap.size + 1 by omega) _).setCell hMlo _⟩
        case measure => simp [intOf]; omega
    · obtain rfl : k = n := by omega
      rw [part_all' (rnL_len xs k)] at ho
      go_wp2
      go_ret
      exact ⟨_, _, rfl, ho.mono hMlo, hb⟩
end Go.Proofs.Ytlnmioijgclndaa
