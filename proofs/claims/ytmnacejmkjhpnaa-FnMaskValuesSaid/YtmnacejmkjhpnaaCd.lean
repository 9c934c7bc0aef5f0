import Derived.Test.YtmnacejmkjhpnaaCc
import Derived.Test.YtmnacejmkjhpnaaW3E
namespace Go.Proofs.Ytmnacejmkjhpnaa
open Go.ChangeShapes Go.WideShapes Go.ChangeAt Go.RowKit

theorem free_any (C : Nat → Nat) (s cell r q : Nat) (w : World) (h2 : 2 ≤ s) (h4 : s ≤ 4) (hr : Hid ((cell : Int) / (s : Int) = (r : Int))) (hq : Hid ((s : Int) + (cell : Int) % (s : Int) = (q : Int))) (r8 : r < 8) (q8 : q < 8) (c2 : cell < 16) (hC : ∀ j, C j ≤ 64) :
    Calls Try.prog 92 #[.agg (ccells C s), .int .i64 cell] w fun e w' => e = .returned (.int .i64 (freeTo C r q s : Int)) ∧ Below w.heap.size w w' := by
  have hx0 : CBox (w.alloc (.cells (ccells C s) 78)) w.heap.size C s := heap_alloc_new w _
  have hb0 : Below w.heap.size w (w.alloc (.cells (ccells C s) 78)) := (Below.refl _ _).alloc (Nat.le_refl _) _
  have hs40 := hx0.size_
  have Hx0 := Lib.hid hx0
  clear hx0
  go_enter Try.func92, Try.ntmps92
  go_wp2_with (go_at_call 93; refine (linesThrough_rc s cell r q _ (by omega) (by omega) c2 hr.out hq.out).mono ?_; rintro e w1 ⟨rfl, hb1⟩)
  have hx1 := Lib.hid (CBox.below Hx0.out Hx0.out.lt hb1)
  have hB1 := step hb0 hb1
  clear hb1 hs40
  go_loopw [7, 8] (fun m i wr => ∃ v : Nat, v ≤ s ∧ i = .int .i64 ((v : Int) + 1) ∧ m = .int .i64 (freeTo C r q v : Int) ∧ Hid (CBox wr w.heap.size C s) ∧ Below w.heap.size w wr) (fun _ i _ => (s + 1 - intOf i).toNat)
  case atStart => exact ⟨0, by omega, rfl, rfl, hx1, hB1⟩
  case round =>
    obtain ⟨v, hv, rfl, rfl, hx, hb⟩ := hrel
    have hk40 := hx.out.size_
    by_cases hlt : v < s
    · have hk1 := hx.out.cell (l := r * 5 + (v + 1)) (by omega)
      have hk2 := hx.out.cell (l := q * 5 + (v + 1)) (by omega)
      have e1 : ((v : Int) + 1).toNat = v + 1 := by omega
      have e2 : IntKind.i64.wrap ((v : Int) + 1) = (v : Int) + 1 := IntWalk.i64_in _ (by omega)
      have e3 : (0 : Int) ≤ (v : Int) + 1 := by omega
      have e4 : (v : Int) + 1 < 5 := by omega
      have r8' : (r : Int) < 8 := by omega
      have q8' : (q : Int) < 8 := by omega
      have hc1 := hC (r * 5 + (v + 1))
      have hc2 := hC (q * 5 + (v + 1))
      have e5 : IntKind.i64.wrap ((C (r * 5 + (v + 1)) : Int) + (C (q * 5 + (v + 1)) : Int)) = (C (r * 5 + (v + 1)) : Int) + (C (q * 5 + (v + 1)) : Int) := IntWalk.i64_in _ (by omega)
      have hlt32 := freeTo_lt C r q v (by omega)
      have hor := or_int (freeTo C r q v) (v + 1) hlt32 (by omega)
      have hstep : freeTo C r q (v + 1) = if C (r * 5 + (v + 1)) + C (q * 5 + (v + 1)) = 0 then freeTo C r q v ||| 2 ^ (v + 1) else freeTo C r q v := rfl
      by_cases ho : C (r * 5 + (v + 1)) + C (q * 5 + (v + 1)) = 0
      · have ht : ((C (r * 5 + (v + 1)) : Int) + (C (q * 5 + (v + 1)) : Int) == 0) = true := by rw [beq_iff_eq]; omega
        have Hst := Lib.hid (show freeTo C r q (v + 1) = freeTo C r q v ||| 2 ^ (v + 1) by rw [hstep, if_pos ho])
        clear hstep ho hc1 hc2
        go_wp2
        go_quiet (fail)
        go_wp2
        go_roundw
        case rel => exact ⟨v + 1, by omega, by go_num, by rw [Hst.out], Lib.hid (CBox.below hx.out hx.out.lt (below_drewN (Below.refl _ _) _)), below_drewN hb _⟩
        case measure => simp [intOf]; omega
      · have ht : ((C (r * 5 + (v + 1)) : Int) + (C (q * 5 + (v + 1)) : Int) == 0) = false := by rw [beq_eq_false_iff_ne]; omega
        have Hst := Lib.hid (show freeTo C r q (v + 1) = freeTo C r q v by rw [hstep, if_neg ho])
        clear hstep ho hc1 hc2
        go_wp2
        go_quiet (fail)
        go_wp2
        go_roundw
        case rel => exact ⟨v + 1, by omega, by go_num, by rw [Hst.out], Lib.hid (CBox.below hx.out hx.out.lt (below_drewN (Below.refl _ _) _)), below_drewN hb _⟩
        case measure => simp [intOf]; omega
    · obtain rfl : v = s := by omega
      go_wp2
      go_ret
      exact ⟨rfl, hb⟩
theorem cz_key (A : Option Addr) (n c : Nat) (s : Int) (C : Nat → Nat) (w w1 : World) (hb1 : Below (w.alloc (.cells #[.slice A n c, .int .i64 s] 51)).heap.size (w.alloc (.cells #[.slice A n c, .int .i64 s] 51)) w1) (w2 : World)
    (h2 : (w1.alloc (.cells (czero 0) 78)).setRow w1.heap.size (ccells C s) = w2) : CBox w2 w1.heap.size C s ∧ w2.cell? ⟨w.heap.size, 0, none⟩ = some (.slice A n c) ∧ Below w.heap.size w w2 ∧ w.heap.size < w1.heap.size ∧ w1.heap.size < w2.heap.size := by
  subst h2
  have hlt : w.heap.size < w1.heap.size := by have := hb1.size; rw [World.size_alloc] at this; omega
  have hz : CBox (w1.alloc (.cells (czero 0) 78)) w1.heap.size (fun _ => 0) 0 := by rw [czero_is]; exact heap_alloc_new w1 _
  have hB1 := step ((Below.refl w.heap.size w).alloc (Nat.le_refl _) _) hb1
  refine ⟨hz.stored, ?_, setRow_below (hB1.alloc hB1.size _) hB1.size, hlt, by simp⟩
  refine (setRow_cell (by show w.heap.size ≠ w1.heap.size; omega)).trans ?_
  have hc := box_cell hb1 0
  refine ((((Below.refl w1.heap.size w1).alloc (Nat.le_refl _) (.cells (czero 0) 78)).cell (p := ⟨w.heap.size, 0, none⟩) hlt).trans hc)
theorem candidates_any (A : Option Addr) (c n B s : Nat) (xs : List Int) (w : World) (h : Rd w B A n xs) (hB : B ≤ w.heap.size) (hs : s ∈ [2, 3, 4]) (hn : n = s * s) (hok : Hid (okAll xs s n)) :
    Calls Try.prog 80 #[.agg #[.slice A n c, .int .i64 s]] w (RetSl w (mapTo (candG xs s) n)) := by
  obtain ⟨i0, hi, hz0, hz1, hz2⟩ := info_parts int_info
  have hs2 : 2 ≤ s := by simp at hs; omega
  have hs4 : s ≤ 4 := by simp at hs; omega
  have hn16 : n ≤ 16 := by simp at hs; rcases hs with rfl | rfl | rfl <;> omega
  have Hn := Lib.hid hn; clear hn
  have Hi := Lib.hid (fun C => cinfo C s)
  have Hone := Lib.hid (fun C => cone C s)
  have hzz : ∀ u : World, (u.alloc (.cells #[.int .i64 0, .int .i64 0, .int .i64 0, .int .i64 0, .int .i64 0, .int .i64 0, .int .i64 0, .int .i64 0, .int .i64 0, .int .i64 0, .int .i64 0, .int .i64 0, .int .i64 0, .int .i64 0, .int .i64 0, .int .i64 0, .int .i64 0, .int .i64 0, .int .i64 0, .int .i64 0, .int .i64 0, .int .i64 0, .int .i64 0, .int .i64 0, .int .i64 0, .int .i64 0, .int .i64 0, .int .i64 0, .int .i64 0, .int .i64 0, .int .i64 0, .int .i64 0, .int .i64 0, .int .i64 0, .int .i64 0, .int .i64 0, .int .i64 0, .int .i64 0, .int .i64 0, .int .i64 0, .int .i64 0] 78)).heap[u.heap.size]? = some (.cells (ccells (fun _ => 0) 0) 78 (0, 0)) := fun u => heap_alloc_new u _
  have Hzz := Lib.hid hzz; clear hzz
  have Key := Lib.hid (fun w1 => cz_key A n c (s : Int) (cnt xs s n) w w1)
  have h1 := h.alloc hB (.cells #[.slice A n c, .int .i64 s] 51)
  have hB1 : B ≤ (w.alloc (.cells #[.slice A n c, .int .i64 s] 51)).heap.size := by simp; omega
  go_enter Try.func80, Try.ntmps80
  go_wp2_with (first
    | (go_at_call 91; refine (counted_any _ _ _ _ _ _ _ h1 hB1 hs Hn.out hok).mono ?_; rintro e w1 ⟨rfl, hb1⟩)
    | (refine wpList_store_row rfl 78 _ _ rfl w1.heap.size (ccells (cnt xs s n) s) rfl rfl 78 (ccells (fun _ => 0) 0) (Hzz.out w1) (Hi.out _) rfl (Hone.out _) ?_; generalize hw0 : World.setRow _ _ _ = w2; obtain ⟨hx2, hc2, hb2, hg1, hg2⟩ := Key.out w1 hb1 w2 hw0; clear hw0 hb1)
    | (refine wpList_make_full _ rfl (.tmp 11) (.tmp 11) 23 rfl w.heap.size 3 i0 (.int .i64 0) 1 Try.underlying23 hi hz0 hz1 .i64 .i64 n n n rfl rfl rfl rfl (by rw [hz2]; omega) (by simp only [maxLen]; omega) hb2.size ?_; intro w3 hown hgr; have hc3 := (made_below hgr (Nat.le_refl _)).cell (p := ⟨w.heap.size, 0, none⟩) (by show w.heap.size < w2.heap.size; omega); rw [hc2] at hc3))
  have ho3 := made_part (mapTo (candG xs s) n) hown
  have hb3' := made_below hgr (Nat.le_refl _)
  have hx3 := Lib.hid (CBox.below hx2 hg2 hb3')
  have hb3 := step hb2 hb3'
  obtain ⟨G, hG⟩ : ∃ G, G = w1.heap.size := ⟨_, rfl⟩
  obtain ⟨M, hM⟩ : ∃ M, M = w2.heap.size := ⟨_, rfl⟩
  rw [← hM] at ho3
  rw [← hG] at hx3
  rw [← hG, ← hM]
  have hne : G ≠ M := by omega
  have hlo : w.heap.size ≤ M := by omega
  clear hown hgr hb3' hx2 hc2 hc3 hb2 Key Hzz hz0 hz1 hz2 hi hG hM hg1 hg2
  go_loopw [16] (fun i wr => ∃ k : Nat, k ≤ n ∧ i = .int .i64 k ∧ Ow wr w.heap.size (some ⟨M, 0, none⟩) n n (part (mapTo (candG xs s) n) k n) ∧ Hid (CBox wr G (cnt xs s n) s) ∧ Below w.heap.size w wr) (fun i _ => n - (intOf i).toNat)
  case atStart => exact ⟨0, Nat.zero_le _, rfl, ho3, hx3, hb3⟩
  case round =>
    obtain ⟨k, hk, rfl, ho, hx, hb⟩ := hrel
    by_cases hlt : k < n
    · obtain ⟨b, off, rfl, hbB, hck⟩ := (h.below (hb.mono hB)).at_ hlt
      obtain ⟨x0, x4⟩ := hok.out k hlt
      obtain ⟨v, hv⟩ := Int.eq_ofNat_of_zero_le x0
      rw [hv] at hck
      have hst := (World.ownsRow.stored ho k (.int .i64 (nth (mapTo (candG xs s) n) k))).1
      rw [part_set, mapTo_nth hlt] at hst
      have hfill := hst
      have hx6 : ∀ v : Value, Hid (CBox (wr.setCell ⟨M, k, none⟩ v) G (cnt xs s n) s) := fun v => Lib.hid (hx.out.other hne)
      by_cases hz : v = 0
      · subst hz
        obtain ⟨hr8, hc8⟩ := rc_lt s hs k (by have := Hn.out; omega)
        have Hr : Hid ((k : Int) / (s : Int) = ((k / s : Nat) : Int)) := Lib.hid (by simp)
        have Hc : Hid ((s : Int) + (k : Int) % (s : Int) = ((s + k % s : Nat) : Int)) := Lib.hid (by simp)
        have Hg := Lib.hid (show ((freeTo (cnt xs s n) (k / s) (s + k % s) s : Nat) : Int) = candG xs s k by
          rw [free_cand hs Hn.out hok.out hlt (by rw [hv]; rfl) s (Nat.le_refl _)]
          simp only [candG, candN, hv, Int.toNat_natCast]
          rw [if_neg (by decide)])
        have hC : ∀ j, cnt xs s n j ≤ 64 := fun j => by have := cnt_le xs s n j; omega
        have HC := Lib.hid hC
        clear hC hst hfill
        go_wp2_with (first
          | (refine wpList_load_row rfl 78 _ rfl G rfl 78 (ccells (cnt xs s n) s) (0, 0) _ hx.out Try.underlying78 rfl (Hi.out _) ?_)
          | (go_at_call 92; refine (free_any (cnt xs s n) s k (k / s) (s + k % s) _ hs2 hs4 Hr Hc hr8 hc8 (by omega) HC.out).mono ?_; rintro e w4 ⟨rfl, hb4⟩; rw [Hg.out]; have ho4 := ho.below hb4; obtain ⟨hold4, hfr4⟩ := ho4.cell hlt; have hx4 := Lib.hid (CBox.below hx.out hx.out.lt hb4); have hb4' := step hb hb4; have hst := (World.ownsRow.stored ho4 k (.int .i64 (nth (mapTo (candG xs s) n) k))).1; rw [part_set, mapTo_nth hlt] at hst; have Hst := Lib.hid hst; clear hst; have hx5 : ∀ v : Value, Hid (CBox (w4.setCell ⟨M, k, none⟩ v) G (cnt xs s n) s) := fun v => Lib.hid (hx4.out.other hne); clear hb4))
        go_roundw
        case rel => exact ⟨k + 1, by omega, by go_num, Hst.out, hx5 _, hb4'.setCell (p := (⟨M, k, none⟩ : Addr)) hlo _⟩
        case measure => simp [intOf]; omega
      · have Hg := Lib.hid (show ((2 ^ v : Nat) : Int) = candG xs s k by
          simp only [candG, candN, hv, Int.toNat_natCast]
          rw [if_pos (by omega)])
        have hz1 : ((v : Int) == 0) = false := by simp; omega
        have hpw := two_pow_nat v (by omega)
        have Hpw := Lib.hid hpw
        have Hfill := Lib.hid hfill
        obtain ⟨hold, hfr⟩ := ho.cell hlt
        clear hpw hst hfill hz
        go_wp2
        go_roundw
        case rel => exact ⟨k + 1, by omega, by go_num, by rw [show (wrap64 (2 ^ v)) = candG xs s k from Hpw.out.trans Hg.out]; exact Hfill.out, hx6 _, hb.setCell (p := (⟨M, k, none⟩ : Addr)) hlo _⟩
        case measure => simp [intOf]; omega
    · obtain rfl : k = n := by omega
      have hp : part (mapTo (candG xs s) k) k k = mapTo (candG xs s) k := part_all' (mapTo_length _ _)
      rw [hp] at ho
      go_wp2
      go_ret
      have := retSl_mk ho hb
      exact this
end Go.Proofs.Ytmnacejmkjhpnaa
