import Derived.Test.YtlnmioijgclndaaUFi
import Derived.Test.YtlnmioijgclndaaW11T
import Derived.Test.YtlnmioijgclndaaUIM
set_option maxRecDepth 8000
namespace Go.Proofs.Ytlnmioijgclndaa
open Go.ChangeShapes Go.WideShapes Go.ChangeAt Go.RowKit

theorem SB.ret {w0 w : World} {P G n : Nat} {s sk : Int} {ys : List Int} (h : SB w P G n s sk ys) (hG : w0.heap.size ≤ G) (hn : n ≤ 1099511627776) (hb : Below w0.heap.size w0 w) : RetSl w0 ys (.returned (.slice (some ⟨G, 0, none⟩) n n)) w := by
  have hl := h.2.2.1
  refine retSl_mk (n := n) ⟨by rw [vals_length]; omega, .inr ⟨G, n, _, rfl, hG, h.2.1, Nat.le_refl _, by simp only [maxLen]; omega, ?_, ?_⟩⟩ hb
  · simp [vals_length, hl]
  · simp only [Nat.mul_one]
    rw [List.take_of_length_le (by rw [vals_length]; omega)]
theorem ow_heap {w : World} {lo g n : Nat} {xs : List Int} (h : Ow w lo (some ⟨g, 0, none⟩) n n xs) : w.heap[g]? = some (.cells (vals xs).toArray 3) := by
  obtain ⟨hl, h | ⟨g', cap, cur, hv, _, hg, h1, h2, h3, h4⟩⟩ := h
  · cases h.1
  · cases hv
    rw [hg]
    rw [List.take_of_length_le (by rw [Array.length_toList]; omega)] at h4
    rw [← h4]
theorem clash_zeros {s n : Nat} (hs : s ∈ [2, 3, 4]) (hn : n = s * s) : clash (zeros n) s = false := by
  rw [← twice_clash hs hn (okAll_zeros (by omega) n)]
  exact twice_tail (p := 0) n (Nat.zero_le _) (fun j _ _ => zeros_nth n j)
theorem implSquareNumber : ISquareNumber := by
  intro size number w hsz hnb
  obtain ⟨i0, hi, hz0, hz1, hz2⟩ := info_parts int_info
  cases hi2 : inr size 2 4
  · have HL := Lib.hid (show sqn size number = [] by simp [sqn, hi2])
    go_enter Try.func32, Try.ntmps32
    go_wp2_with (go_at_call 64; refine (sizeValid_any _ _).mono ?_; rintro e w' ⟨rfl, rfl⟩)
    go_ret
    rw [HL.out]
    exact ⟨_, _, rfl, Ow.nil_ _ _, Below.refl _ _⟩
  · obtain ⟨h2, h4⟩ := inr_t hi2
    by_cases h0 : number < 0
    · have HL := Lib.hid (show sqn size number = [] by unfold sqn; rw [if_neg (by intro h; omega)])
      go_enter Try.func32, Try.ntmps32
      go_wp2_with (go_at_call 64; refine (sizeValid_any _ _).mono ?_; rintro e w' ⟨rfl, rfl⟩)
      go_ret
      rw [HL.out]
      exact ⟨_, _, rfl, Ow.nil_ _ _, Below.refl _ _⟩
    · have h0' : 0 ≤ number := by omega
      obtain ⟨s, rfl⟩ := Int.eq_ofNat_of_zero_le (by omega : 0 ≤ size)
      have hs : s ∈ [2, 3, 4] := by simp; omega
      obtain ⟨q4, q16⟩ := sq_bd h2 h4
      obtain ⟨n, hnn⟩ : ∃ n : Nat, n = s * s := ⟨_, rfl⟩
      have hnI : ((s : Int) * (s : Int)) = (n : Int) := by rw [hnn]; simp
      have hw : wrap64 ((s : Int) * (s : Int)) = (n : Int) := by rw [sq_wrap h2 h4, hnI]
      have hn16 : n ≤ 16 := by omega
      have hn4 : 4 ≤ n := by omega
      have Hnn := Lib.hid hnn
      have HL := Lib.hid (show sqn s number = ((sols s n (zeros n) 0)[number.toNat]?).getD [] by
        unfold sqn; rw [if_pos ⟨hi2, h0'⟩, hnI, Int.toNat_natCast])
      have hpk := (congrArg Prod.fst (srch_sols s n (zeros n) 0 number h0')).trans (pickL_getD _ _)
      have hcz := Lib.hid (clash_zeros hs hnn)
      have hok := Lib.hid (okAll_zeros (by omega : (0 : Int) ≤ s) n)
      have hzz : Hid (zfrom (zeros n) 0 n) := Lib.hid (fun j _ _ => zeros_nth n j)
      clear hnn hnI q4 q16 h0
      cases hrr : srch s n (zeros n) 0 number with
      | mk o l2 =>
        have Hrr := Lib.hid hrr
        rw [hrr] at hpk
        have Hpk := Lib.hid hpk
        clear hrr hpk
        cases o with
        | none =>
          have HL' := Lib.hid (show sqn s number = [] by rw [HL.out, ← Hpk.out]; rfl)
          go_enter Try.func32, Try.ntmps32
          go_wp2_with (first | (go_at_call 64; refine (sizeValid_any _ _).mono ?_; rintro e w' ⟨rfl, rfl⟩) | (refine wpList_make_full _ rfl (.tmp 15) (.tmp 15) 23 rfl w.heap.size 3 i0 (.int .i64 0) 1 Try.underlying23 hi hz0 hz1 .i64 .i64 _ _ n rfl rfl hw hw (by rw [hz2]; omega) (by simp only [maxLen]; omega) (Nat.le_refl _) ?_; intro w1 hown hgr; have ho1 := made_part (zeros n) hown; rw [part_zeros] at ho1; have hb1 := made_below hgr (Nat.le_refl _); clear hown hgr))
          have hg1 := ow_heap ho1
          have hG1 : w.heap.size < w1.heap.size := (Array.getElem?_eq_some_iff.1 hg1).1
          have hSB : SB (w1.alloc (.cells #[.slice (some ⟨w.heap.size, 0, none⟩) n n, .int .i64 s, .int .i64 number] 59)) w1.heap.size w.heap.size n s number (zeros n) :=
            ⟨heap_alloc_new w1 _, (heap_alloc_old _ _ hG1).trans hg1, zeros_length n, by omega⟩
          have hB1 : Below w.heap.size w (w1.alloc (.cells #[.slice (some ⟨w.heap.size, 0, none⟩) n n, .int .i64 s, .int .i64 number] 59)) := hb1.alloc hb1.size _
          have hC0 : ∀ (w2 : World), Chg (w1.alloc (.cells #[.slice (some ⟨w.heap.size, 0, none⟩) n n, .int .i64 s, .int .i64 number] 59)) w2 w1.heap.size w.heap.size → Below w.heap.size w w2 := fun w2 h => hB1.trans (h.below (by omega) (Nat.le_refl _) hB1.size)
          have HC0 := Lib.hid hC0; clear hC0
          clear hg1 ho1
          refine (fill_any w1.heap.size w.heap.size n s hs Hnn.out n (zeros n) (zeros n) 0 number _ (by omega) (zeros_length n) hok hzz hcz.out (fun _ _ => rfl) hSB h0' hnb.2).mono ?_
          rintro e w2 hpost
          rw [Hrr.out] at hpost
          obtain ⟨hC, rfl, zs, hS2, hag⟩ := hpost
          go_wp2
          go_ret
          rw [HL'.out]
          exact ⟨_, _, rfl, Ow.nil_ _ _, HC0.out w2 hC⟩
        | some y =>
          have HL' := Lib.hid (show sqn s number = y by rw [HL.out, ← Hpk.out]; rfl)
          go_enter Try.func32, Try.ntmps32
          go_wp2_with (first | (go_at_call 64; refine (sizeValid_any _ _).mono ?_; rintro e w' ⟨rfl, rfl⟩) | (refine wpList_make_full _ rfl (.tmp 15) (.tmp 15) 23 rfl w.heap.size 3 i0 (.int .i64 0) 1 Try.underlying23 hi hz0 hz1 .i64 .i64 _ _ n rfl rfl hw hw (by rw [hz2]; omega) (by simp only [maxLen]; omega) (Nat.le_refl _) ?_; intro w1 hown hgr; have ho1 := made_part (zeros n) hown; rw [part_zeros] at ho1; have hb1 := made_below hgr (Nat.le_refl _); clear hown hgr))
          have hg1 := ow_heap ho1
          have hG1 : w.heap.size < w1.heap.size := (Array.getElem?_eq_some_iff.1 hg1).1
          have hSB : SB (w1.alloc (.cells #[.slice (some ⟨w.heap.size, 0, none⟩) n n, .int .i64 s, .int .i64 number] 59)) w1.heap.size w.heap.size n s number (zeros n) :=
            ⟨heap_alloc_new w1 _, (heap_alloc_old _ _ hG1).trans hg1, zeros_length n, by omega⟩
          have hB1 : Below w.heap.size w (w1.alloc (.cells #[.slice (some ⟨w.heap.size, 0, none⟩) n n, .int .i64 s, .int .i64 number] 59)) := hb1.alloc hb1.size _
          have hC0 : ∀ (w2 : World), Chg (w1.alloc (.cells #[.slice (some ⟨w.heap.size, 0, none⟩) n n, .int .i64 s, .int .i64 number] 59)) w2 w1.heap.size w.heap.size → Below w.heap.size w w2 := fun w2 h => hB1.trans (h.below (by omega) (Nat.le_refl _) hB1.size)
          have HC0 := Lib.hid hC0; clear hC0
          clear hg1 ho1
          refine (fill_any w1.heap.size w.heap.size n s hs Hnn.out n (zeros n) (zeros n) 0 number _ (by omega) (zeros_length n) hok hzz hcz.out (fun _ _ => rfl) hSB h0' hnb.2).mono ?_
          rintro e w2 hpost
          rw [Hrr.out] at hpost
          obtain ⟨hC, rfl, sk2, hS2⟩ := hpost
          have a0 := hS2.c0
          have Hb2 := Lib.hid (HC0.out w2 hC)
          have HS2 := Lib.hid hS2; clear hS2
          go_wp2
          go_ret
          rw [HL'.out]
          exact HS2.out.ret (Nat.le_refl _) (by omega) Hb2.out
end Go.Proofs.Ytlnmioijgclndaa

