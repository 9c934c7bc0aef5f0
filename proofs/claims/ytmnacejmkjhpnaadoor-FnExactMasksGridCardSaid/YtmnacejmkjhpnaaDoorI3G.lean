import Derived.Test.YtmnacejmkjhpnaaDoorI3V
import Derived.Test.YtmnacejmkjhpnaaDoorBits
namespace Go.Proofs.YtmnacejmkjhpnaaDoor
open Go.ChangeShapes Go.WideShapes Go.ChangeAt Go.RowKit

theorem implMasksGrid : IMasksGrid := by
  intro A c n B xs size w h hx64 hT hB hm hsz
  have hlen := Lib.hid h.1
  have Hmv := Lib.hid (fun w (h : Rd w B A n xs) hB => implMasksValid A c n B xs size w h hx64 hB hm hsz)
  cases hg : mvd xs size
  · have HL := Lib.hid (show mgL xs size = [] by simp [mgL, hg])
    go_enter Tryd.func6, Tryd.ntmps6
    go_wp2_with (go_at_call 12; refine (Hmv.out _ h hB).mono ?_; rintro e w1 ⟨rfl, hb1⟩; rw [hg])
    go_ret
    rw [HL.out]
    exact ⟨_, _, rfl, Ow.nil_ _ _, hb1⟩
  · obtain ⟨i0, hi, hz0, hz1, hz2⟩ := info_parts int_info
    have HL := Lib.hid (show mgL xs size = mapTo (mgG xs) n by simp [mgL, hg, hlen.out])
    obtain ⟨_, _, h16, hat⟩ := mvd_at hg
    rw [hlen.out] at h16 hat
    have Hat := Lib.hid hat; clear hat
    go_enter Tryd.func6, Tryd.ntmps6
    go_wp2_with (first
      | (go_at_call 12; refine (Hmv.out _ h hB).mono ?_; rintro e w1 ⟨rfl, hb1⟩; rw [hg])
      | (refine wpList_make_full _ rfl (.tmp 13) (.tmp 13) 22 rfl w.heap.size 3 i0 (.int .i64 0) 1 Tryd.underlying22 hi hz0 hz1 .i64 .i64 n n n rfl rfl rfl rfl (by rw [hz2]; omega) (by simp only [maxLen]; omega) hb1.size ?_; intro w2 hown hgr))
    have ho2 := made_part (mapTo (mgG xs) n) hown
    have hb2 := step hb1 (made_below hgr (Nat.le_refl _))
    obtain ⟨M, hM⟩ : ∃ M, M = w1.heap.size := ⟨_, rfl⟩
    rw [← hM] at ho2
    rw [← hM]
    have hlo : w.heap.size ≤ M := by have := hb1.size; omega
    clear hown hgr hz0 hz1 hz2 hi hM
    go_loopw [17] (fun i wr => ∃ k : Nat, k ≤ n ∧ i = .int .i64 k ∧ Ow wr w.heap.size (some ⟨M, 0, none⟩) n n (part (mapTo (mgG xs) n) k n) ∧ Below w.heap.size w wr) (fun i _ => n - (intOf i).toNat)
    case atStart => exact ⟨0, Nat.zero_le _, rfl, ho2, hb2⟩
    case round =>
      obtain ⟨k, hk, rfl, ho, hb⟩ := hrel
      by_cases hlt : k < n
      · obtain ⟨b, off, rfl, hbB, hck⟩ := (h.below (hb.mono hB)).at_ hlt
        obtain ⟨x0, x1, x2⟩ := Hat.out k hlt
        have hst := (World.ownsRow.stored ho k (.int .i64 (nth (mapTo (mgG xs) n) k))).1
        rw [part_set, mapTo_nth hlt] at hst
        have Hst := Lib.hid hst; clear hst
        obtain ⟨m, hv⟩ := Int.eq_ofNat_of_zero_le x0
        rw [hv] at hck
        have hm2 : m % 2 = 0 := by rw [hv, Int.tmod_eq_emod_of_nonneg (by omega)] at x2; omega
        have Hg := Lib.hid (show oneOf (bitsTo m 4) = mgG xs k by
          simp only [mgG, hv, maskVals]
          rw [if_pos (by simp only [mvOk, inr, Bool.and_eq_true, decide_eq_true_eq, beq_iff_eq]; rw [← hv]; exact ⟨⟨x0, x1⟩, x2⟩)]
          rfl)
        have Hone := Lib.hid (fun w hT => onlyValue_any m (by omega) hm2 w hT)
        have hTr := hT.below hT.lt hb
        obtain ⟨hold, hfr⟩ := ho.cell hlt
        clear hm2 x0 x1 x2
        go_wp2_with (go_at_call 13; refine (Hone.out _ hTr).mono ?_; rintro e w' ⟨rfl, rfl⟩; rw [Hg.out])
        go_roundw
        case rel => exact ⟨k + 1, by omega, by go_num, Hst.out, hb.setCell (p := (⟨M, k, none⟩ : Addr)) hlo _⟩
        case measure => simp [intOf]; omega
      · obtain rfl : k = n := by omega
        have hp : part (mapTo (mgG xs) k) k k = mapTo (mgG xs) k := part_all' (mapTo_length _ _)
        rw [hp] at ho
        go_wp2
        go_ret
        rw [HL.out]
        exact retSl_mk ho hb
end Go.Proofs.YtmnacejmkjhpnaaDoor
