import Derived.Test.YtmnacejmkjhpnaaIS
namespace Go.Proofs.Ytmnacejmkjhpnaa
open Go.ChangeShapes Go.WideShapes Go.ChangeAt Go.RowKit

theorem implSquareSolved : ISquareSolved := by
  intro A c n B xs size w h hB hm
  have hlen := Lib.hid h.1
  cases hg : gv xs size
  · have HL := Lib.hid (show sqSolved xs size = false by simp [sqSolved, sqFits, hg])
    have h1 := h.alloc hB (.cells #[.slice A n c, .int .i64 size] 51)
    have hB1 : B ≤ (w.alloc (.cells #[.slice A n c, .int .i64 size] 51)).heap.size := by simp; omega
    have hB0 : Below w.heap.size w (w.alloc (.cells #[.slice A n c, .int .i64 size] 51)) := (Below.refl _ _).alloc (Nat.le_refl _) _
    go_enter Try.func28, Try.ntmps28
    go_wp2_with (go_at_call 59; refine (implValid _ _ _ _ _ _ _ h1 hB1 hm).mono ?_; rintro e w1 ⟨rfl, hb1⟩; rw [hg])
    go_ret
    exact ⟨by rw [HL.out]; rfl, step hB0 hb1⟩
  · obtain ⟨s, rfl, hs, hls⟩ := size_nat hg
    have hn : n = s * s := by have := hlen.out; omega
    have Hn := Lib.hid hn; clear hn hls
    have Hg := Lib.hid hg
    have h1 := h.alloc hB (.cells #[.slice A n c, .int .i64 s] 51)
    have hB1 : B ≤ (w.alloc (.cells #[.slice A n c, .int .i64 s] 51)).heap.size := by simp; omega
    have hB0 : Below w.heap.size w (w.alloc (.cells #[.slice A n c, .int .i64 s] 51)) := (Below.refl _ _).alloc (Nat.le_refl _) _
    go_enter Try.func28, Try.ntmps28
    go_wp2_with (first | (go_at_call 59; refine (implValid _ _ _ _ _ _ _ h1 hB1 hm).mono ?_; rintro e w1 ⟨rfl, hb1⟩; rw [hg]; have hr1 := h1.below (hb1.mono hB1); have c0 := box_cell hb1 0; have c1 := box_cell hb1 1; have hB2 := step hB0 hb1; have hBw : B ≤ w1.heap.size := Nat.le_trans hB hB2.size; clear hb1; simp only [List.getElem?_toArray, List.getElem?_cons_zero, List.getElem?_cons_succ] at c0 c1) | (go_at_call 68; refine (implSolved _ _ _ _ _ _ _ hr1 hBw hs Hn.out Hg.out).mono ?_; rintro e w2 ⟨rfl, hb2⟩; have hB3 := step hB2 hb2; clear hb2))
    go_ret
    exact ⟨rfl, hB3⟩

theorem implSquareOf : ISquareOf := by
  intro size w hs
  obtain ⟨i0, hi, hz0, hz1, hz2⟩ := info_parts int_info
  cases hi2 : inr size 2 4
  · have HL := Lib.hid (show sqOfL size = [] by simp [sqOfL, hi2])
    go_enter Try.func33, Try.ntmps33
    go_wp2_with (go_at_call 74; refine (sizeValid_any _ _).mono ?_; rintro e w' ⟨rfl, rfl⟩)
    go_ret
    rw [HL.out]
    exact ⟨_, _, rfl, Ow.nil_ _ _, Below.refl _ _⟩
  · obtain ⟨h2, h4⟩ := inr_t hi2
    obtain ⟨q4, q16⟩ := sq_bd h2 h4
    obtain ⟨n, hnn⟩ : ∃ n : Nat, (n : Int) = size * size := ⟨(size * size).toNat, Int.toNat_of_nonneg (by omega)⟩
    have hw : wrap64 (size * size) = (n : Int) := by rw [sq_wrap h2 h4, hnn]
    have HL := Lib.hid (show sqOfL size = mapTo (sqOfG size) n by simp [sqOfL, hi2, ← hnn])
    have hn16 : n ≤ 16 := by omega
    clear hnn q4 q16
    go_enter Try.func33, Try.ntmps33
    go_wp2_with (first | (go_at_call 74; refine (sizeValid_any _ _).mono ?_; rintro e w' ⟨rfl, rfl⟩) | (refine wpList_make_full _ rfl (.tmp 12) (.tmp 12) 23 rfl w.heap.size 3 i0 (.int .i64 0) 1 Try.underlying23 hi hz0 hz1 .i64 .i64 _ _ n rfl rfl hw hw (by rw [hz2]; omega) (by simp only [maxLen]; omega) (Nat.le_refl _) ?_; intro w1 hown hgr))
    have hown1 := made_part (mapTo (sqOfG size) n) hown
    have hb1 := made_below hgr (Nat.le_refl _)
    clear hown hgr hw
    go_loopw [16] (fun i wr => ∃ k : Nat, k ≤ n ∧ i = .int .i64 k ∧ Ow wr w.heap.size (some ⟨w.heap.size, 0, none⟩) n n (part (mapTo (sqOfG size) n) k n) ∧ Below w.heap.size w wr) (fun i _ => n - (intOf i).toNat)
    case atStart => exact ⟨0, Nat.zero_le _, rfl, hown1, hb1⟩
    case round =>
      obtain ⟨k, hk, rfl, ho, hb⟩ := hrel
      by_cases hlt : k < n
      · have hz : (size == 0) = false := by simp; omega
        have hz' : size ≠ 0 := by omega
        have hq0 : 0 ≤ (k : Int) / size := Int.ediv_nonneg (by omega) (by omega)
        have hq1 : (k : Int) / size ≤ (k : Int) := Int.ediv_le_self _ (by omega)
        have hr0 : 0 ≤ (k : Int) % size := Int.emod_nonneg _ (by omega)
        have hr1 : (k : Int) % size < size := Int.emod_lt_of_pos _ (by omega)
        have hm0 : 0 ≤ ((k : Int) / size + (k : Int)) % size := Int.emod_nonneg _ (by omega)
        have hm1 : ((k : Int) / size + (k : Int)) % size < size := Int.emod_lt_of_pos _ (by omega)
        have e1 : (k : Int).tmod size = (k : Int) % size := Int.tmod_eq_emod_of_nonneg (by omega)
        have e2 : (k : Int).tdiv size = (k : Int) / size := Int.tdiv_eq_ediv_of_nonneg (by omega)
        have e3 : IntKind.i64.wrap ((k : Int) / size) = (k : Int) / size := IntWalk.i64_in _ (by omega)
        obtain ⟨hold, hfr⟩ := ho.cell hlt
        have hst := (World.ownsRow.stored ho k (.int .i64 (nth (mapTo (sqOfG size) n) k))).1
        rw [part_set, mapTo_nth hlt] at hst
        have Hst := Lib.hid hst; clear hst
        go_wp2
        go_quiet (fail)
        go_wp2
        have e6 : IntKind.i64.wrap (((k : Int) / size + (k : Int)) % size + 1) = sqOfG size k := IntWalk.i64_in _ (by omega)
        go_roundw
        case rel => exact ⟨k + 1, by omega, by go_num, Hst.out, (below_drewN hb nq).setCell (p := (⟨w.heap.size, k, none⟩ : Addr)) (Nat.le_refl _) _⟩
        case measure => simp [intOf]; omega
      · obtain rfl : k = n := by omega
        go_wp2
        go_ret
        rw [HL.out]
        rw [part_all' (mapTo_length _ _)] at ho
        exact retSl_mk ho hb
theorem implMissingIn : IMissingIn := by
  intro A c n B xs size line w h hB hm hli
  have hlen := Lib.hid h.1
  cases hg : gv xs size
  · have HL := Lib.hid (show missL xs size line = [] by simp [missL, hg])
    have h1 := h.alloc hB (.cells #[.slice A n c, .int .i64 size] 51)
    have hB1 : B ≤ (w.alloc (.cells #[.slice A n c, .int .i64 size] 51)).heap.size := by simp; omega
    have hB0 : Below w.heap.size w (w.alloc (.cells #[.slice A n c, .int .i64 size] 51)) := (Below.refl _ _).alloc (Nat.le_refl _) _
    go_enter Try.func30, Try.ntmps30
    go_wp2_with (go_at_call 59; refine (implValid _ _ _ _ _ _ _ h1 hB1 hm).mono ?_; rintro e w1 ⟨rfl, hb1⟩; rw [hg])
    go_ret
    rw [HL.out]
    exact ⟨_, _, rfl, Ow.nil_ _ _, step hB0 hb1⟩
  · cases hlo : lineOk size line
    · have HL := Lib.hid (show missL xs size line = [] by simp [missL, hlo])
      have h1 := h.alloc hB (.cells #[.slice A n c, .int .i64 size] 51)
      have hB1 : B ≤ (w.alloc (.cells #[.slice A n c, .int .i64 size] 51)).heap.size := by simp; omega
      have hB0 : Below w.heap.size w (w.alloc (.cells #[.slice A n c, .int .i64 size] 51)) := (Below.refl _ _).alloc (Nat.le_refl _) _
      go_enter Try.func30, Try.ntmps30
      go_wp2_with (first | (go_at_call 59; refine (implValid _ _ _ _ _ _ _ h1 hB1 hm).mono ?_; rintro e w1 ⟨rfl, hb1⟩; rw [hg]; have hr1 := h1.below (hb1.mono hB1); have c0 := box_cell hb1 0; have c1 := box_cell hb1 1; have hB2 := step hB0 hb1; have hBw : B ≤ w1.heap.size := Nat.le_trans hB hB2.size; clear hb1; simp only [List.getElem?_toArray, List.getElem?_cons_zero, List.getElem?_cons_succ] at c0 c1) | (go_at_call 70; refine (lineValid_any _ _ _).mono ?_; rintro e w' ⟨rfl, rfl⟩; rw [hlo]))
      go_ret
      rw [HL.out]
      exact ⟨_, _, rfl, Ow.nil_ _ _, hB2⟩
    · obtain ⟨s, rfl, hs, hls⟩ := size_nat hg
      have hn : n = s * s := by have := hlen.out; omega
      have hok := Lib.hid (gv_okAll hg hlen.out)
      have hs2 : 2 ≤ s := by simp at hs; omega
      have hs4 : s ≤ 4 := by simp at hs; omega
      have hlo' := hlo
      simp only [lineOk, Bool.and_eq_true] at hlo'
      obtain ⟨l0, l1⟩ := inr_t hlo'.2
      obtain ⟨l, rfl⟩ := Int.eq_ofNat_of_zero_le l0
      have hl8 : l < 2 * s := by omega
      have hl9 : l < 8 := by omega
      have Hm0 := lmask_lt (xs := xs) (by omega : (s : Int) ≤ 4) hok.out n (Nat.le_refl _) l hl9
      have hat := all_test s hs
      have Hav := Lib.hid (fun w => allValues_any s hs w)
      have hm32 : 2 ^ (s + 1) - 2 < 32 := by simp at hs; rcases hs with rfl | rfl | rfl <;> decide
      obtain ⟨m, hm0⟩ : ∃ m, 2 ^ (s + 1) - 2 = m := ⟨_, rfl⟩
      simp only [hm0] at Hav hat hm32
      obtain ⟨K, hK⟩ : ∃ K, K = m &&& (31 - lmask xs s n l) := ⟨_, rfl⟩
      have hK32 : K < 32 := by rw [hK]; exact Nat.lt_of_le_of_lt Nat.and_le_left hm32
      have hand : bits .andNot .i64 (m : Int) (lmask xs s n l : Int) = (K : Int) := by rw [hK]; exact andNot_small m hm32 _ Hm0
      have hbits : bitsTo K 4 = missTo (hasTo (lineV xs s l) s) s := by
        refine bitsTo_miss hs4 fun v hv => ?_
        rw [hK, andNot_test m hm32 _ Hm0 (v + 1) (by omega), hat (v + 1) (by omega), lmask_has hs hn hok.out hl8 (by omega)]
        have e1 : Nat.blt 0 (v + 1) = true := by simp [Nat.blt_eq]
        have e2 : Nat.ble (v + 1) s = decide (v < s) := by rw [Bool.eq_iff_iff, Nat.ble_eq, decide_eq_true_eq]; omega
        rw [e1, e2, Bool.true_and]
        rfl
      have HL := Lib.hid (show missL xs s l = bitsTo K 4 by rw [hbits]; simp [missL, hg, hlo])
      have Hand := Lib.hid hand
      have HK32 := Lib.hid hK32
      have Hn := Lib.hid hn
      clear hn hls hlo' l0 l1 hat hbits hK32 hand hK
      have h1 := h.alloc hB (.cells #[.slice A n c, .int .i64 s] 51)
      have hB1 : B ≤ (w.alloc (.cells #[.slice A n c, .int .i64 s] 51)).heap.size := by simp; omega
      have hB0 : Below w.heap.size w (w.alloc (.cells #[.slice A n c, .int .i64 s] 51)) := (Below.refl _ _).alloc (Nat.le_refl _) _
      have hz0 : ∀ u : World, MBox (u.alloc (.cells #[.int .i64 0, .int .i64 0, .int .i64 0, .int .i64 0, .int .i64 0, .int .i64 0, .int .i64 0, .int .i64 0, .int .i64 0] 54)) u.heap.size (fun _ => 0) 0 := fun u => heap_alloc_new u _
      have Hz0 := Lib.hid hz0; clear hz0
      have Hi9 := Lib.hid (show (Try.prog.info? 54).map (·.size) = some (mcells (lmask xs s n) s).size by rw [mcells_size]; kernel_rfl)
      have Hone := Lib.hid (mone (lmask xs s n) s)
      have hl8' : (l : Int) < 8 := by omega
      go_enter Try.func30, Try.ntmps30
      go_wp2_with (first | (go_at_call 59; refine (implValid _ _ _ _ _ _ _ h1 hB1 hm).mono ?_; rintro e w1 ⟨rfl, hb1⟩; rw [hg]; have hr1 := h1.below (hb1.mono hB1); have c0 := box_cell hb1 0; have c1 := box_cell hb1 1; have hB2 := step hB0 hb1; have hBw : B ≤ w1.heap.size := Nat.le_trans hB hB2.size; clear hb1; simp only [List.getElem?_toArray, List.getElem?_cons_zero, List.getElem?_cons_succ] at c0 c1) | (go_at_call 70; refine (lineValid_any _ _ _).mono ?_; rintro e w' ⟨rfl, rfl⟩; rw [hlo]) | (go_at_call 60; refine (lines_any _ _ _ _ _ _ _ hr1 hBw hs Hn.out hok).mono ?_; rintro e w2 ⟨rfl, hb2⟩; have hB3 := step hB2 hb2) | (refine wpList_store_row rfl 54 _ _ rfl w2.heap.size (mcells (lmask xs s n) s) rfl rfl 54 (mcells (fun _ => 0) 0) (Hz0.out w2) Hi9.out rfl Hone.out ?_))
      have hxw : MBox ((w2.alloc (.cells #[.int .i64 0, .int .i64 0, .int .i64 0, .int .i64 0, .int .i64 0, .int .i64 0, .int .i64 0, .int .i64 0, .int .i64 0] 54)).setRow w2.heap.size (mcells (lmask xs s n) s)) w2.heap.size (lmask xs s n) s := MBox.stored (Hz0.out w2)
      have hcl := hxw.cell hl9
      have hBx := setRow_below (cs := mcells (lmask xs s n) s) (hB3.alloc hB3.size (.cells #[.int .i64 0, .int .i64 0, .int .i64 0, .int .i64 0, .int .i64 0, .int .i64 0, .int .i64 0, .int .i64 0, .int .i64 0] 54)) hB3.size
      obtain ⟨w3, hw3⟩ : ∃ w3, w3 = ((w2.alloc (.cells #[.int .i64 0, .int .i64 0, .int .i64 0, .int .i64 0, .int .i64 0, .int .i64 0, .int .i64 0, .int .i64 0, .int .i64 0] 54)).setRow w2.heap.size (mcells (lmask xs s n) s)) := ⟨_, rfl⟩
      rw [← hw3] at hcl hBx
      rw [← hw3]
      clear hb2 c0 c1 hxw hw3
      go_region_with (first | (go_at_call 72; refine (Hav.out _).mono ?_; rintro e w' ⟨rfl, rfl⟩) | (go_at_call 71; rw [Hand.out]; refine (valuesIn_any K HK32.out _).mono ?_; rintro e w4 ⟨A0, c0, rfl, ho0, hb4⟩))
      all_goals
        go_wp2
        go_ret
        rw [HL.out]
        exact retSl_mk (ho0.mono hBx.size) (step hBx (of_drew_below hb4))
end Go.Proofs.Ytmnacejmkjhpnaa
