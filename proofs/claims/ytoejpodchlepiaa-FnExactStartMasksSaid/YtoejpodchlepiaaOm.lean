import Derived.Test.YtoejpodchlepiaaAn
import Derived.Test.YtoejpodchlepiaaR4P
import Derived.Test.YtoejpodchlepiaaC3C
set_option maxRecDepth 8000
namespace Go.Proofs.Ytoejpodchlepiaa
open Go.ChangeShapes Go.WideShapes Go.ChangeAt Go.RowKit
theorem emN_lt {vs : List Int} {s j : Nat} (hs : s ∈ [2, 3, 4]) (h0 : 0 ≤ nth vs j) (h4 : nth vs j ≤ 4) : emN vs s j < 32 := by
  unfold emN
  split
  · have := (all_even s hs).2; omega
  · have : (nth vs j).toNat < 5 := by omega
    exact Nat.pow_lt_pow_right (n := 5) (by omega) this
theorem emL_len_ {vs : List Int} {s n : Nat} (h : vs.length = n) : (emL vs s).length = n := by unfold emL; rw [mapTo_length, h]
theorem emL_at {vs : List Int} {s n k : Nat} (hl : vs.length = n) (hk : k < n) : nth (emL vs s) k = ((emN vs s k : Nat) : Int) := by
  unfold emL
  rw [mapTo_nth (by omega)]
  simp [emG]
theorem openMasks_any (A : Option Addr) (c n B : Nat) (vs : List Int) (s : Nat) (w : World) (h : Rd w B A n vs) (hB : B ≤ w.heap.size) (n16 : n ≤ 16) (hs : s ∈ [2, 3, 4]) (hsm : ∀ i, i < n → 0 ≤ nth vs i ∧ nth vs i ≤ 4) :
    Calls Try.prog 91 #[.slice A n c, .int .i64 s] w (RetSl w (emL vs s)) := by
  obtain ⟨i0, hi, hz0, hz1, hz2⟩ := info_parts int_info
  have hlen := h.1
  have Hpm := Lib.hid (fun k (hk : k < n) => emL_at (s := s) hlen hk)
  have Hsm := Lib.hid hsm
  have HAV := Lib.hid (fun w' => allValues_any s hs w')
  have Hall : Hid (∀ k, k < n → nth vs k = 0 → ((2 ^ (s + 1) - 2 : Nat) : Int) = nth (emL vs s) k) := Lib.hid (fun k hk hz => by rw [Hpm.out k hk]; unfold emN; rw [if_pos hz])
  have Hl := Lib.hid (emL_len_ (s := s) hlen)
  clear hlen hsm
  obtain ⟨av, hav⟩ : ∃ av, av = 2 ^ (s + 1) - 2 := ⟨_, rfl⟩
  rw [← hav] at HAV Hall
  clear hav
  go_enter Try.func91, Try.ntmps91
  go_wp2_with (refine wpList_make_full _ rfl (.tmp 9) (.tmp 9) 23 rfl w.heap.size 3 i0 (.int .i64 0) 1 Try.underlying23 hi hz0 hz1 .i64 .i64 n n n rfl rfl rfl rfl (by rw [hz2]; omega) (by simp only [maxLen]; omega) (Nat.le_refl _) ?_; intro w1 hown hgr)
  have ho1 := made_part (emL vs s) hown
  have hb1 := made_below hgr (Nat.le_refl w.heap.size)
  clear hown hgr hz0 hz1 hz2 hi
  go_loopw [13] (fun i wr => ∃ k : Nat, k ≤ n ∧ i = .int .i64 k ∧ Ow wr w.heap.size (some ⟨w.heap.size, 0, none⟩) n n (part (emL vs s) k n) ∧ Below w.heap.size w wr) (fun i _ => n - (intOf i).toNat)
  case atStart => exact ⟨0, Nat.zero_le _, rfl, ho1, hb1⟩
  case round =>
    obtain ⟨k, hk, rfl, ho, hb⟩ := hrel
    by_cases hlt : k < n
    · obtain ⟨b, off, rfl, hbB, hck⟩ := (h.below (hb.mono hB)).at_ hlt
      obtain ⟨x0, x4⟩ := Hsm.out k hlt
      obtain ⟨v, hv⟩ := Int.eq_ofNat_of_zero_le x0
      rw [hv] at hck x4
      have hst := (World.ownsRow.stored ho k (.int .i64 (nth (emL vs s) k))).1
      rw [part_set] at hst
      have Hst := Lib.hid hst; clear hst
      obtain ⟨hold, hfr⟩ := ho.cell hlt
      by_cases hz : v = 0
      · subst hz
        have Hg := Lib.hid (Hall.out k hlt (by rw [hv]; rfl))
        clear hv x0 x4
        go_wp2_with (go_at_call 121; refine (HAV.out _).mono ?_; rintro e w' ⟨rfl, rfl⟩; rw [Hg.out])
        go_roundw
        case rel => exact ⟨k + 1, by omega, by go_num, Hst.out, hb.setCell (p := (⟨w.heap.size, k, none⟩ : Addr)) (Nat.le_refl _) _⟩
        case measure => simp [intOf]; omega
      · have Hg := Lib.hid (show ((2 ^ v : Nat) : Int) = nth (emL vs s) k by
          rw [Hpm.out k hlt]; unfold emN; rw [hv, if_neg (by omega), Int.toNat_natCast])
        have hz1 : ((v : Int) == 0) = false := by simp; omega
        have Hpw := Lib.hid (two_pow_nat v (by omega))
        clear hz hv
        go_wp2
        go_roundw
        case rel => exact ⟨k + 1, by omega, by go_num, by rw [show (wrap64 (2 ^ v)) = nth (emL vs s) k from Hpw.out.trans Hg.out]; exact Hst.out, hb.setCell (p := (⟨w.heap.size, k, none⟩ : Addr)) (Nat.le_refl _) _⟩
        case measure => simp [intOf]; omega
    · obtain rfl : k = n := by omega
      have hp : part (emL vs s) k k = emL vs s := part_all' Hl.out
      rw [hp] at ho
      go_wp2
      go_ret
      exact retSl_mk ho hb
end Go.Proofs.Ytoejpodchlepiaa
