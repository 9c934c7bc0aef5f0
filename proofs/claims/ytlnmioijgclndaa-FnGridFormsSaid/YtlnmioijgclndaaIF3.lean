import Derived.Test.YtlnmioijgclndaaIF2
import Derived.Test.YtlnmioijgclndaaFx
set_option maxRecDepth 8000
namespace Go.Proofs.Ytlnmioijgclndaa
open Go.ChangeShapes Go.WideShapes Go.ChangeAt Go.RowKit Go.Shelf
set_option maxHeartbeats 1000000 in
theorem implRenameGrid (A : Option Addr) (c n B : Nat) (xs : List Int) (size : Int) (w : World) (h : Rd w B A n xs) (hB : B ≤ w.heap.size) (hm : n ≤ 1099511627776) :
    Calls Try.prog 26 #[.slice A n c, .int .i64 size] w (RetSl w (rgL xs size n)) := by
  have hlen := Lib.hid h.1
  have h1 := h.alloc hB (.cells #[.slice A n c, .int .i64 size] 45)
  have hB0 : Below w.heap.size w (w.alloc (.cells #[.slice A n c, .int .i64 size] 45)) := (Below.refl _ _).alloc (Nat.le_refl _) _
  have hB1 := Nat.le_trans hB hB0.size
  cases hg : gv xs size
  · have HL := Lib.hid (show rgL xs size n = [] by simp [rgL, hg])
    go_enter Try.func26, Try.ntmps26
    go_wp2_with (go_at_call 44; refine (implValid _ _ _ _ _ _ _ h1 hB1 hm).mono ?_; rintro e w1 ⟨rfl, hb1⟩; rw [hg])
    go_ret
    rw [HL.out]
    exact ⟨_, _, rfl, Ow.nil_ _ _, step hB0 hb1⟩
  · obtain ⟨h2, h4⟩ := gv_size hg
    have HL := Lib.hid (show rgL xs size n = rnL xs n by simp [rgL, hg])
    have hok : ∀ k, k < n → 0 ≤ nth xs k ∧ nth xs k ≤ size := fun k hk => gv_nth hg (by rw [hlen.out]; exact hk)
    have HF := Lib.hid (fun W (hW : Below w.heap.size w W) => renamed_any A c n B xs size W (h.below (hW.mono hB)) (Nat.le_trans hB hW.size) hm h4 hok)
    clear hok
    go_enter Try.func26, Try.ntmps26
    go_wp2_with (go_at_call 44; refine (implValid _ _ _ _ _ _ _ h1 hB1 hm).mono ?_; rintro e w1 ⟨rfl, hb1⟩; rw [hg]; have hbox := box_cell hb1; have hB2 := step hB0 hb1)
    have c0 := hbox 0
    have c1 := hbox 1
    simp at c0 c1
    clear hbox
    go_wp2_with (go_at_call 58; refine (HF.out _ hB2).mono ?_; rintro e w2 ⟨A1, c1', rfl, ho, hb2⟩)
    go_ret
    rw [HL.out]
    exact retSl_mk (ho.mono hB2.size) (step hB2 hb2)
/-- eight renamed forms in ascending order. -/
def RetSrt (w : World) (xs : List Int) (s : Int) (n : Nat) (e : Ending) (w' : World) : Prop := ∃ g c d, e = .returned (.slice (some ⟨g, 0, none⟩) 8 c) ∧ d.length = 8 ∧ (cnt d).Perm ((List.range 8).map (rf xs s n)) ∧ (∀ i j, i < j → j < 8 → keyT (gat (cnt d) i) n ≤ keyT (gat (cnt d) j) n) ∧ Gs w' w.heap.size (.slice (some ⟨g, 0, none⟩) 8 c) d ∧ Below w.heap.size w w'
theorem Gs.perm {w : World} {lo : Nat} {v : Value} {d D : List GV} (h : Gs w lo v d) {w' : World} {g : Nat} (hv : v.ownBlock = some g) (hp : D.Perm d) (hown : w'.ownsRow lo 23 1 v D.length (D.map Prod.fst)) (hg : w.grownBy w' (some g)) : Gs w' lo v D := by
  refine ⟨hown, fun x hx => ?_, (hp.pairwise_iff (fun h b hb q => h b q hb)).2 h.2.2⟩
  obtain ⟨⟨A, c, e, ho⟩, hs⟩ := h.2.1 x (hp.mem_iff.1 hx)
  exact ⟨⟨A, c, e, Ow.off ho hg (fun b hb q => hs b (by rw [e]; exact hb) (by rw [hv, q]))⟩, hs⟩
set_option maxHeartbeats 2000000 in
theorem renamedForms_any (A : Option Addr) (c n B : Nat) (xs : List Int) (s : Nat) (w : World) (h : Rd w B A n xs) (hB : B ≤ w.heap.size) (hs : s ∈ [2, 3, 4]) (hn : n = s * s) (hg : gv xs s = true) :
    Calls Try.prog 45 #[.agg #[.slice A n c, .int .i64 s]] w (RetSrt w xs s n) := by
  have hs4 : 2 ≤ s ∧ s ≤ 4 := by simp at hs; omega
  have hn16 : n ≤ 16 := by subst hn; exact Nat.le_trans (Nat.mul_le_mul hs4.2 hs4.2) (by omega)
  have hlen := Lib.hid h.1
  have hi2 : (Try.prog.info? 45).map (·.size) = some (#[Value.slice A n c, .int .i64 s] : Array Value).size := by
    show _ = some 2
    kernel_rfl
  obtain ⟨W0, hW0⟩ : ∃ W0, w.alloc (.cells #[.slice A n c, .int .i64 s] 45) = W0 := ⟨_, rfl⟩
  have hrow : W0.heap[w.heap.size]? = some (.cells #[.slice A n c, .int .i64 s] 45) := by rw [← hW0]; exact heap_alloc_new w _
  have c1 : W0.cell? ⟨w.heap.size, 1, none⟩ = some (.int .i64 s) := cell_of_row _ _ 1 _ _ (0, 0) hrow
  have hb0 : Below w.heap.size w W0 := by rw [← hW0]; exact (Below.refl _ _).alloc (Nat.le_refl _) _
  have hs0 : w.heap.size < W0.heap.size := by rw [← hW0]; simp
  have HF := Lib.hid (forms_any A c n B xs s W0 (h.below (hb0.mono hB)) (Nat.le_trans hB hb0.size) hs hn)
  have Hl := Lib.hid (fun k => frm_len (s := (s : Int)) hlen.out k)
  have HR : Hid (∀ (k : Nat) (W : World) (A3 : Option Addr) (c3 : Nat), Rd W W.heap.size A3 n (frm s n xs k) → Calls Try.prog 58 #[.agg #[.slice A3 n c3, .int .i64 s]] W (RetN W n (rf xs s n k))) := Lib.hid fun k W A3 c3 hr =>
    renamed_any A3 c3 n W.heap.size (frm s n xs k) s W hr (Nat.le_refl _) (by omega) (by omega) (fun j hj => gv_nth (frm_gv hs hn hlen.out hg k) (by rw [frm_len hlen.out]; exact hj))
  have HD := Lib.hid (rf_dig hs hn hlen.out hg)
  have Hrf := Lib.hid (fun k => rf_len xs (s : Int) n k)
  have HW0 := Lib.hid hW0
  clear hW0 hn hs hg
  go_enter Try.func45, Try.ntmps45
  go_upto_region 1 with fail
  rw [HW0.out]
  go_wp2_with (first
    | (refine wpList_load_row rfl 45 _ rfl w.heap.size rfl 45 #[.slice A n c, .int .i64 s] (0, 0) _ hrow Try.underlying45 rfl hi2 ?_)
    | (go_at_call 53; refine HF.out.mono ?_; rintro e w1 ⟨A1, c1m, d, rfl, hd, hG, hb1⟩; rw [List.length_map, List.length_range] at hG ⊢))
  have hdl : d.length = 8 := by rw [← cnt_len, hd]; simp
  have HC := Lib.hid hd
  clear hd HF HW0 hrow hi2
  go_loopw [10] (fun i wr => ∃ (k : Nat) (d' : List GV), k ≤ 8 ∧ i = .int .i64 k ∧ d'.length = 8 ∧ Hid (∀ j, j < 8 → gat (cnt d') j = if j < k then rf xs s n j else frm s n xs j) ∧ Gs wr W0.heap.size (.slice A1 8 c1m) d' ∧ Below W0.heap.size W0 wr) (fun i _ => 8 - (intOf i).toNat)
  case atStart => exact ⟨0, d, by omega, rfl, hdl, Lib.hid (fun j hj => by rw [if_neg (by omega), HC.out, gat_map hj]), hG, hb1⟩
  case round =>
    obtain ⟨k, d', hk, rfl, hdl', HK, hGr, hbr⟩ := hrel
    by_cases hlt : k < 8
    · have hlt' : (k : Int) < 8 := by omega
      obtain ⟨g, A3, c3, rfl, -, hlog, hgw, hold, hfr, ho3, -, -⟩ := hGr.at_ (show k < d'.length by omega)
      rw [HK.out k hlt, if_neg (by omega), Hl.out] at hold ho3
      have hcb := (hbr.cell (p := ⟨w.heap.size, 1, none⟩) hs0).trans c1
      have hcall := Lib.hid (HR.out k wr A3 c3 ho3.rd)
      go_wp2_with (go_at_call 58; refine hcall.out.mono ?_; rintro e w3 ⟨A5, c5, rfl, ho5, hb5⟩; have hold5 := (hb5.cell (p := ⟨g, k, none⟩) hgw).trans hold; have hfr5 := (hb5.frozen (p := ⟨g, k, none⟩) hgw).trans hfr)
      have hP := Gs.put (xs := rf xs s n k) (A3 := A5) (c3 := c5) (hGr.below hb5) (show k < d'.length by omega) (by rw [rf_len]; exact ho5) hbr.size (by rw [rf_len]; intro x hx b hb q; have := hGr.hi hx b hb; have := ho5.own_lo b q; omega) (by rw [rf_len]; intro b hb e; have := ho5.own_lo b hb; omega)
      rw [rf_len] at hP
      have hKn : ∀ j, j < 8 → gat (cnt (d'.set k (.slice A5 n c5, rf xs s n k))) j = if j < k + 1 then rf xs s n j else frm s n xs j := fun j hj => by
        rw [cnt_set, gat_set (by rw [cnt_len]; omega), HK.out j hj]
        by_cases e : j = k
        · subst e; rw [if_pos rfl, if_pos (by omega)]
        · rw [if_neg e]
          by_cases e2 : j < k
          · rw [if_pos e2, if_pos (by omega)]
          · rw [if_neg e2, if_neg (by omega)]
      have HPn := Lib.hid hP
      have HKn := Lib.hid hKn
      have hbn : Below W0.heap.size W0 (w3.setCell ⟨g, k, none⟩ (.slice A5 n c5)) := (step hbr hb5).setCell hlog _
      clear hP hKn
      go_roundw
      case rel => exact ⟨k + 1, _, by omega, by go_num, by simp [hdl'], HKn, HPn.out, hbn⟩
      case measure => simp [intOf]; omega
    · obtain rfl : k = 8 := by omega
      have hce := cnt_ext hdl' (fun j hj => by rw [HK.out j hj, if_pos hj])
      obtain ⟨g, A3, c3, rfl, -, hlog, hgw, -, -, -, -, -⟩ := hGr.at_ (show 0 < d'.length by omega)
      have hda : d'.toArray.size = 8 := by simpa using hdl'
      have hS : SrtW wr wr W0.heap.size g 8 c1m d'.toArray := by
        refine ⟨?_, World.grownBy.refl _ _⟩
        have := hGr.1
        rw [hdl'] at this
        exact this
      have hx2 : ∀ x ∈ d', ∃ j, j < 8 ∧ x.2 = rf xs s n j := fun x hx => by
        obtain ⟨i, hi, e⟩ := List.getElem_of_mem hx
        have := HK.out i (by omega)
        rw [gat_cnt hi, if_pos (by omega), e] at this
        exact ⟨i, by omega, this⟩
      have he : ∀ x ∈ d'.toArray.toList, ∃ A c, x.1 = .slice A n c := fun x hx => by
        obtain ⟨⟨A, c, e, _⟩, _⟩ := hGr.2.1 x hx
        obtain ⟨j, _, ej⟩ := hx2 x hx
        exact ⟨A, c, by rw [e, ej, rf_len]⟩
      have hcm : ∀ W, wr.grownBy W (some g) → ∀ x ∈ d'.toArray.toList, ∀ y ∈ d'.toArray.toList, Calls Try.prog 72 #[x.1, y.1] W fun e w' => e = .returned (.int .i64 (sgn (keyT x.2 n) (keyT y.2 n))) ∧ W = w' := fun W hW x hx y hy => by
        have key : ∀ z ∈ d', ∃ A c, z.1 = .slice A n c ∧ Rd W W.heap.size A n z.2 ∧ dig z.2 n := fun z hz => by
          obtain ⟨⟨A, c, e, ho⟩, hsz⟩ := hGr.2.1 z hz
          obtain ⟨j, _, ej⟩ := hx2 z hz
          rw [ej, rf_len] at e ho
          refine ⟨A, c, e, ?_, by rw [ej]; exact HD.out j⟩
          rw [ej]
          exact (Ow.off ho hW (fun b hb q => by have := hsz b (by rw [e]; exact hb); simp [Value.ownBlock] at this; injection q with q; exact this q)).rd
        obtain ⟨A, c, ex, rx, dx⟩ := key x hx
        obtain ⟨A', c', ey, ry, dy⟩ := key y hy
        rw [ex, ey]
        exact compare_any A A' c c' n _ _ _ _ W rx ry (by omega) dx dy
      have HSo := Lib.hid (sortFunc_any n W0.heap.size g c1m d'.toArray wr hda hS he hcm)
      obtain ⟨hp, hsz, hso⟩ := sorted_any n d'.toArray hda
      obtain ⟨D, hD⟩ : ∃ D, D = (Sort.insertionSort (ltK n) d'.toArray 0 8) := ⟨_, rfl⟩
      rw [← hD] at hp hsz hso HSo
      have Hp := Lib.hid hp
      have Hso := Lib.hid hso
      have hDl : D.toList.length = 8 := by simpa using hsz
      have HCE := Lib.hid hce
      clear hce hS he hcm hx2 hD hp hso hda
      have HB := Lib.hid hbr
      have HB0 := Lib.hid hb0
      have Hlog := Lib.hid hlog
      clear hbr hb0 hlog
      go_wp2_with (go_at_call 71; refine HSo.out.mono ?_; rintro e w9 ⟨rfl, hS9⟩)
      go_ret
      have hG9 := hGr.perm (g := g) (by simp [Value.ownBlock]) Hp.out (by rw [hDl]; exact hS9.1) hS9.2
      refine ⟨g, c1m, D.toList, rfl, hDl, ?_, fun i j hij hj => ?_, hG9.mono HB0.out.size, ?_⟩
      · rw [← HCE.out]
        exact Hp.out.map _
      · have e : ∀ i, i < 8 → gat (cnt D.toList) i = (D[i]!).2 := fun i hi => by
          rw [gat_cnt (by omega), getElem!_pos D i (by omega)]
          simp
        rw [e i (by omega), e j hj]
        exact Hso.out i j hij hj
      · exact (HB0.out.trans (HB.out.mono HB0.out.size)).grown hS9.2 (Nat.le_trans HB0.out.size HB.out.size) (fun b hb => by injection hb with hb; have := Hlog.out; have := HB0.out.size; omega)
end Go.Proofs.Ytlnmioijgclndaa
