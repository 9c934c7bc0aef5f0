import Derived.Test.YtcjdjcpappfkgaaGreatDoorGOwn
import Derived.Test.YtcjdjcpappfkgaaGreatDoorGP5A
set_option maxRecDepth 8000
namespace Go.Proofs.YtcjdjcpappfkgaaGreatDoor
open Go.ChangeShapes Go.WideShapes Go.ChangeAt Go.RowKit
theorem specL6Copy (A : Option Addr) (n c B : Nat) (xs : List Int) (w : World) (h : Rd w B A n xs) (hB : B ≤ w.heap.size) (hm : n ≤ 1099511627776) :
    Calls Tryz.prog 68 #[.slice A n c] w fun e w' => ∃ A' c', e = .returned (.slice A' n c') ∧ Ow w' w.heap.size A' n c' xs ∧ Below w.heap.size w w' := by
  have hb0 : Below w.heap.size w (w.alloc (.cells #[] 3)) := (Below.refl _ _).alloc (Nat.le_refl _) _; have HO := Lib.hid (Ow.made0 w w.heap.size (Nat.le_refl _)); have HR := Lib.hid (h.below (hb0.mono hB))
  have hsO : w.heap.size ≤ (w.alloc (.cells #[] 3)).heap.size := by simp
  go_enter Tryz.func68, Tryz.ntmps68
  go_wp2_with (at_builtin; (refine push_new rfl (.tmp 3) (.tmp 4) rfl w.heap.size (some ⟨w.heap.size, 0, none⟩) A n c B xs rfl rfl HO.out HR.out hm hsO ?_); intro A1 c1 w1 ho1 hg1; have hb1 := hb0.grown hg1 hb0.size (fun k hk => HO.out.own_lo k hk))
  go_ret
  exact ⟨_, _, rfl, ho1, hb1⟩
def startC (gi : List Int) (s : Nat) (j : Nat) : Int := if 0 < nth gi j then 2 ^ (nth gi j).toNat else 2 ^ (s + 1) - 2
def startL (s : Int) (gi : List Int) (rs : List RuleM) (n : Nat) : List Int := if pvB s gi rs = true then mapTo (startC gi s.toNat) n else []
set_option maxHeartbeats 2000000 in
theorem specStartMasks (s : Int) (Ag : Option Addr) (n cg Bg : Nat) (gi : List Int) (Ar : Option Addr) (nr cr Br : Nat) (rs : List RuleM) (w : World) (hp : PGs w s Ag n cg Bg gi Ar nr cr Br rs) :
    Calls Tryz.prog 79 #[.agg #[.int .i64 s, .slice Ag n cg, .slice Ar nr cr]] w (RetSl w (startL s gi rs n)) := by
  have hx0 := pbox_new w s Ag n cg Ar nr cr 26; have hb0 : Below w.heap.size w (w.alloc (.cells #[.int .i64 s, .slice Ag n cg, .slice Ar nr cr] 26)) := (Below.refl _ _).alloc (Nat.le_refl _) _
  have hs0 : w.heap.size < (w.alloc (.cells #[.int .i64 s, .slice Ag n cg, .slice Ar nr cr] 26)).heap.size := by simp
  have HP := Lib.hid (fun w' (hb : Below w.heap.size w w') => specPuzzleValid s Ag n cg Bg gi Ar nr cr Br rs w' (hp.below hb).g (hp.below hb).gB hp.gm (hp.below hb).r (hp.below hb).rB hp.rm); have hlen := Lib.hid hp.g.1; have hm := hp.gm; cases hv : pvB s gi rs
  · have HL := Lib.hid (show startL s gi rs n = [] by simp [startL, hv])
    go_enter Tryz.func79, Tryz.ntmps79
    go_wp2
    obtain ⟨W0, hW0⟩ : ∃ W0, W0 = w.alloc (.cells #[.int .i64 s, .slice Ag n cg, .slice Ar nr cr] 26) := ⟨_, rfl⟩; rw [← hW0] at hx0 hb0 hs0; rw [← hW0]
    have hsW : W0.heap.size = w.heap.size + 1 := by rw [hW0]; simp
    clear hW0; have hb1 : Below W0.heap.size W0 (W0.alloc (.cells #[] 3)) := (Below.refl _ _).alloc (Nat.le_refl _) _; have hO := Ow.made0 W0 W0.heap.size (Nat.le_refl _); obtain ⟨c0, c1, c2⟩ := hx0.below hs0 hb1; have hb1' := step hb0 hb1; rw [hsW] at hO
    go_loopw [3, 4] (fun v i wr => v = .slice (some ⟨w.heap.size + 1, 0, none⟩) 0 0 ∧ i = .int .i64 0 ∧ wr = W0.alloc (.cells #[] 3)) (fun _ _ _ => 0)
    case atStart => exact ⟨by first | rfl | rw [hsW], rfl, rfl⟩
    case round =>
      obtain ⟨rfl, rfl, rfl⟩ := hrel
      by_cases hlt : 0 < n
      · have hlt' : (0 : Int) < (n : Int) := (by omega)
        go_wp2_with (go_at_call 21; refine (HP.out _ hb1').mono ?_; rintro e w1 ⟨rfl, hb2⟩; rw [hv])
        go_ret
        rw [HL.out]; exact ⟨_, _, rfl, ((show Ow _ (w.heap.size + 1) _ 0 0 [] from hO).below hb2).mono (by omega), step hb1' hb2⟩
      · obtain rfl : n = 0 := by omega
        go_wp2
        go_ret
        rw [HL.out]; exact ⟨_, _, rfl, (show Ow _ (w.heap.size + 1) _ 0 0 [] from hO).mono (by omega), hb1'⟩
  · obtain ⟨t, hst, hs, hn', hn16, hok'⟩ := pv_grid hv hp.g.1
    have hs3 : s = 2 ∨ s = 3 ∨ s = 4 := by rw [hst]; simp at hs; omega
    rw [← hst] at hok'; have hok := Lib.hid hok'; clear hn' hok' hst hs
    rcases hs3 with rfl | rfl | rfl
    · have HL := Lib.hid (show startL 2 gi rs n = mapTo (startC gi 2) n by simp [startL, hv])
      go_enter Tryz.func79, Tryz.ntmps79
      go_wp2
      obtain ⟨W0, hW0⟩ : ∃ W0, W0 = w.alloc (.cells #[.int .i64 2, .slice Ag n cg, .slice Ar nr cr] 26) := ⟨_, rfl⟩; rw [← hW0] at hx0 hb0 hs0; rw [← hW0]; have hsW : W0.heap.size = w.heap.size + 1 := (by rw [hW0]; simp); clear hW0; have hb1 : Below W0.heap.size W0 (W0.alloc (.cells #[] 3)) := (Below.refl _ _).alloc (Nat.le_refl _) _; have hO := Ow.made0 W0 W0.heap.size (Nat.le_refl _)
      go_loopw [3, 4] (fun v i wr => ∃ (u : Nat) (A' : Option Addr) (c' : Nat), u ≤ n ∧ i = .int .i64 u ∧ v = .slice A' u c' ∧ Ow wr W0.heap.size A' u c' (mapTo (startC gi 2) u) ∧ Below W0.heap.size W0 wr) (fun _ i _ => n - (intOf i).toNat)
      case atStart => exact ⟨0, _, _, Nat.zero_le _, rfl, by first | rfl | rw [hsW], hO, hb1⟩
      case round =>
        obtain ⟨u, A', c', hu, rfl, rfl, ho, hb⟩ := hrel; obtain ⟨c0, c1, c2⟩ := hx0.below hs0 hb
        by_cases hlt : u < n
        · have hbw := step hb0 hb; have hsw := hb.size; have hlow : W0.heap.size ≤ wr.heap.size := hsw; obtain ⟨b, off, hA, hbB, hck⟩ := (hp.below hbw).g.at_ hlt; subst hA; have hbwr : b < wr.heap.size := Nat.lt_of_lt_of_le hbB (hp.below hbw).gB; have hu1 : u ≤ 1099511627776 := (by omega); have hx4 := hok.out u hlt
          have hcase : nth gi u = 0 ∨ nth gi u = 1 ∨ nth gi u = 2 ∨ nth gi u = 3 ∨ nth gi u = 4 := by
            have : (0 : Int) ≤ 0 := (by omega); omega
          have hwr0 : w.heap.size < wr.heap.size := (by omega)
          rcases hcase with h | h | h | h | h
          · rw [h] at hck; have hq : startC gi 2 u = 6 := (by simp [startC, h]); clear h
            go_wp2_with (first
              | (go_at_call 21; refine (HP.out _ hbw).mono ?_; rintro e w1 ⟨rfl, hb2⟩; rw [hv]; obtain ⟨d0, d1, d2⟩ := PBox.below ⟨c0, c1, c2⟩ hwr0 hb2; have hck1 := (hb2.cell (p := ⟨b, off + u, none⟩) hbwr).trans hck; have ho2 := ho.below hb2; have hs2 := Nat.le_trans hlow hb2.size)
              | (at_builtin; refine push_int rfl (.tmp 32) (.tmp 38) rfl W0.heap.size A' u c' (mapTo (startC gi 2) u) _ rfl rfl ho2 hu1 hs2 ?_; intro A5 c5 w5 ho5 hg5))
            go_roundw
            case rel => exact ⟨u + 1, _, _, by omega, by go_num, rfl, by rw [mapTo_succ, hq]; exact ho5, push_below (hb.trans (hb2.mono hlow)) ho2 (Nat.le_refl _) hs2 hg5⟩
            case measure => simp [intOf]; omega
          · rw [h] at hck; have hq : startC gi 2 u = 2 := (by simp [startC, h]); clear h
            go_wp2_with (first
              | (go_at_call 21; refine (HP.out _ hbw).mono ?_; rintro e w1 ⟨rfl, hb2⟩; rw [hv]; obtain ⟨d0, d1, d2⟩ := PBox.below ⟨c0, c1, c2⟩ hwr0 hb2; have hck1 := (hb2.cell (p := ⟨b, off + u, none⟩) hbwr).trans hck; have ho2 := ho.below hb2; have hs2 := Nat.le_trans hlow hb2.size)
              | (at_builtin; refine push_int rfl (.tmp 23) (.tmp 30) rfl W0.heap.size A' u c' (mapTo (startC gi 2) u) _ rfl rfl ho2 hu1 hs2 ?_; intro A5 c5 w5 ho5 hg5))
            go_roundw
            case rel => exact ⟨u + 1, _, _, by omega, by go_num, rfl, by rw [mapTo_succ, hq]; exact ho5, push_below (hb.trans (hb2.mono hlow)) ho2 (Nat.le_refl _) hs2 hg5⟩
            case measure => simp [intOf]; omega
          · rw [h] at hck; have hq : startC gi 2 u = 4 := (by simp [startC, h]); clear h
            go_wp2_with (first
              | (go_at_call 21; refine (HP.out _ hbw).mono ?_; rintro e w1 ⟨rfl, hb2⟩; rw [hv]; obtain ⟨d0, d1, d2⟩ := PBox.below ⟨c0, c1, c2⟩ hwr0 hb2; have hck1 := (hb2.cell (p := ⟨b, off + u, none⟩) hbwr).trans hck; have ho2 := ho.below hb2; have hs2 := Nat.le_trans hlow hb2.size)
              | (at_builtin; refine push_int rfl (.tmp 23) (.tmp 30) rfl W0.heap.size A' u c' (mapTo (startC gi 2) u) _ rfl rfl ho2 hu1 hs2 ?_; intro A5 c5 w5 ho5 hg5))
            go_roundw
            case rel => exact ⟨u + 1, _, _, by omega, by go_num, rfl, by rw [mapTo_succ, hq]; exact ho5, push_below (hb.trans (hb2.mono hlow)) ho2 (Nat.le_refl _) hs2 hg5⟩
            case measure => simp [intOf]; omega
          · rw [h] at hck; have hq : startC gi 2 u = 8 := (by simp [startC, h]); clear h
            go_wp2_with (first
              | (go_at_call 21; refine (HP.out _ hbw).mono ?_; rintro e w1 ⟨rfl, hb2⟩; rw [hv]; obtain ⟨d0, d1, d2⟩ := PBox.below ⟨c0, c1, c2⟩ hwr0 hb2; have hck1 := (hb2.cell (p := ⟨b, off + u, none⟩) hbwr).trans hck; have ho2 := ho.below hb2; have hs2 := Nat.le_trans hlow hb2.size)
              | (at_builtin; refine push_int rfl (.tmp 23) (.tmp 30) rfl W0.heap.size A' u c' (mapTo (startC gi 2) u) _ rfl rfl ho2 hu1 hs2 ?_; intro A5 c5 w5 ho5 hg5))
            go_roundw
            case rel => exact ⟨u + 1, _, _, by omega, by go_num, rfl, by rw [mapTo_succ, hq]; exact ho5, push_below (hb.trans (hb2.mono hlow)) ho2 (Nat.le_refl _) hs2 hg5⟩
            case measure => simp [intOf]; omega
          · rw [h] at hck; have hq : startC gi 2 u = 16 := (by simp [startC, h]); clear h
            go_wp2_with (first
              | (go_at_call 21; refine (HP.out _ hbw).mono ?_; rintro e w1 ⟨rfl, hb2⟩; rw [hv]; obtain ⟨d0, d1, d2⟩ := PBox.below ⟨c0, c1, c2⟩ hwr0 hb2; have hck1 := (hb2.cell (p := ⟨b, off + u, none⟩) hbwr).trans hck; have ho2 := ho.below hb2; have hs2 := Nat.le_trans hlow hb2.size)
              | (at_builtin; refine push_int rfl (.tmp 23) (.tmp 30) rfl W0.heap.size A' u c' (mapTo (startC gi 2) u) _ rfl rfl ho2 hu1 hs2 ?_; intro A5 c5 w5 ho5 hg5))
            go_roundw
            case rel => exact ⟨u + 1, _, _, by omega, by go_num, rfl, by rw [mapTo_succ, hq]; exact ho5, push_below (hb.trans (hb2.mono hlow)) ho2 (Nat.le_refl _) hs2 hg5⟩
            case measure => simp [intOf]; omega
        · obtain rfl : u = n := by omega
          go_wp2
          go_ret
          rw [HL.out]; exact retSl_mk (ho.mono (by omega)) (step hb0 hb)
    · have HL := Lib.hid (show startL 3 gi rs n = mapTo (startC gi 3) n by simp [startL, hv])
      go_enter Tryz.func79, Tryz.ntmps79
      go_wp2
      obtain ⟨W0, hW0⟩ : ∃ W0, W0 = w.alloc (.cells #[.int .i64 3, .slice Ag n cg, .slice Ar nr cr] 26) := ⟨_, rfl⟩; rw [← hW0] at hx0 hb0 hs0; rw [← hW0]; have hsW : W0.heap.size = w.heap.size + 1 := (by rw [hW0]; simp); clear hW0; have hb1 : Below W0.heap.size W0 (W0.alloc (.cells #[] 3)) := (Below.refl _ _).alloc (Nat.le_refl _) _; have hO := Ow.made0 W0 W0.heap.size (Nat.le_refl _)
      go_loopw [3, 4] (fun v i wr => ∃ (u : Nat) (A' : Option Addr) (c' : Nat), u ≤ n ∧ i = .int .i64 u ∧ v = .slice A' u c' ∧ Ow wr W0.heap.size A' u c' (mapTo (startC gi 3) u) ∧ Below W0.heap.size W0 wr) (fun _ i _ => n - (intOf i).toNat)
      case atStart => exact ⟨0, _, _, Nat.zero_le _, rfl, by first | rfl | rw [hsW], hO, hb1⟩
      case round =>
        obtain ⟨u, A', c', hu, rfl, rfl, ho, hb⟩ := hrel; obtain ⟨c0, c1, c2⟩ := hx0.below hs0 hb
        by_cases hlt : u < n
        · have hbw := step hb0 hb; have hsw := hb.size; have hlow : W0.heap.size ≤ wr.heap.size := hsw; obtain ⟨b, off, hA, hbB, hck⟩ := (hp.below hbw).g.at_ hlt; subst hA; have hbwr : b < wr.heap.size := Nat.lt_of_lt_of_le hbB (hp.below hbw).gB; have hu1 : u ≤ 1099511627776 := (by omega); have hx4 := hok.out u hlt
          have hcase : nth gi u = 0 ∨ nth gi u = 1 ∨ nth gi u = 2 ∨ nth gi u = 3 ∨ nth gi u = 4 := by
            have : (0 : Int) ≤ 0 := (by omega); omega
          have hwr0 : w.heap.size < wr.heap.size := (by omega)
          rcases hcase with h | h | h | h | h
          · rw [h] at hck; have hq : startC gi 3 u = 14 := (by simp [startC, h]); clear h
            go_wp2_with (first
              | (go_at_call 21; refine (HP.out _ hbw).mono ?_; rintro e w1 ⟨rfl, hb2⟩; rw [hv]; obtain ⟨d0, d1, d2⟩ := PBox.below ⟨c0, c1, c2⟩ hwr0 hb2; have hck1 := (hb2.cell (p := ⟨b, off + u, none⟩) hbwr).trans hck; have ho2 := ho.below hb2; have hs2 := Nat.le_trans hlow hb2.size)
              | (at_builtin; refine push_int rfl (.tmp 32) (.tmp 38) rfl W0.heap.size A' u c' (mapTo (startC gi 3) u) _ rfl rfl ho2 hu1 hs2 ?_; intro A5 c5 w5 ho5 hg5))
            go_roundw
            case rel => exact ⟨u + 1, _, _, by omega, by go_num, rfl, by rw [mapTo_succ, hq]; exact ho5, push_below (hb.trans (hb2.mono hlow)) ho2 (Nat.le_refl _) hs2 hg5⟩
            case measure => simp [intOf]; omega
          · rw [h] at hck; have hq : startC gi 3 u = 2 := (by simp [startC, h]); clear h
            go_wp2_with (first
              | (go_at_call 21; refine (HP.out _ hbw).mono ?_; rintro e w1 ⟨rfl, hb2⟩; rw [hv]; obtain ⟨d0, d1, d2⟩ := PBox.below ⟨c0, c1, c2⟩ hwr0 hb2; have hck1 := (hb2.cell (p := ⟨b, off + u, none⟩) hbwr).trans hck; have ho2 := ho.below hb2; have hs2 := Nat.le_trans hlow hb2.size)
              | (at_builtin; refine push_int rfl (.tmp 23) (.tmp 30) rfl W0.heap.size A' u c' (mapTo (startC gi 3) u) _ rfl rfl ho2 hu1 hs2 ?_; intro A5 c5 w5 ho5 hg5))
            go_roundw
            case rel => exact ⟨u + 1, _, _, by omega, by go_num, rfl, by rw [mapTo_succ, hq]; exact ho5, push_below (hb.trans (hb2.mono hlow)) ho2 (Nat.le_refl _) hs2 hg5⟩
            case measure => simp [intOf]; omega
          · rw [h] at hck; have hq : startC gi 3 u = 4 := (by simp [startC, h]); clear h
            go_wp2_with (first
              | (go_at_call 21; refine (HP.out _ hbw).mono ?_; rintro e w1 ⟨rfl, hb2⟩; rw [hv]; obtain ⟨d0, d1, d2⟩ := PBox.below ⟨c0, c1, c2⟩ hwr0 hb2; have hck1 := (hb2.cell (p := ⟨b, off + u, none⟩) hbwr).trans hck; have ho2 := ho.below hb2; have hs2 := Nat.le_trans hlow hb2.size)
              | (at_builtin; refine push_int rfl (.tmp 23) (.tmp 30) rfl W0.heap.size A' u c' (mapTo (startC gi 3) u) _ rfl rfl ho2 hu1 hs2 ?_; intro A5 c5 w5 ho5 hg5))
            go_roundw
            case rel => exact ⟨u + 1, _, _, by omega, by go_num, rfl, by rw [mapTo_succ, hq]; exact ho5, push_below (hb.trans (hb2.mono hlow)) ho2 (Nat.le_refl _) hs2 hg5⟩
            case measure => simp [intOf]; omega
          · rw [h] at hck; have hq : startC gi 3 u = 8 := (by simp [startC, h]); clear h
            go_wp2_with (first
              | (go_at_call 21; refine (HP.out _ hbw).mono ?_; rintro e w1 ⟨rfl, hb2⟩; rw [hv]; obtain ⟨d0, d1, d2⟩ := PBox.below ⟨c0, c1, c2⟩ hwr0 hb2; have hck1 := (hb2.cell (p := ⟨b, off + u, none⟩) hbwr).trans hck; have ho2 := ho.below hb2; have hs2 := Nat.le_trans hlow hb2.size)
              | (at_builtin; refine push_int rfl (.tmp 23) (.tmp 30) rfl W0.heap.size A' u c' (mapTo (startC gi 3) u) _ rfl rfl ho2 hu1 hs2 ?_; intro A5 c5 w5 ho5 hg5))
            go_roundw
            case rel => exact ⟨u + 1, _, _, by omega, by go_num, rfl, by rw [mapTo_succ, hq]; exact ho5, push_below (hb.trans (hb2.mono hlow)) ho2 (Nat.le_refl _) hs2 hg5⟩
            case measure => simp [intOf]; omega
          · rw [h] at hck; have hq : startC gi 3 u = 16 := (by simp [startC, h]); clear h
            go_wp2_with (first
              | (go_at_call 21; refine (HP.out _ hbw).mono ?_; rintro e w1 ⟨rfl, hb2⟩; rw [hv]; obtain ⟨d0, d1, d2⟩ := PBox.below ⟨c0, c1, c2⟩ hwr0 hb2; have hck1 := (hb2.cell (p := ⟨b, off + u, none⟩) hbwr).trans hck; have ho2 := ho.below hb2; have hs2 := Nat.le_trans hlow hb2.size)
              | (at_builtin; refine push_int rfl (.tmp 23) (.tmp 30) rfl W0.heap.size A' u c' (mapTo (startC gi 3) u) _ rfl rfl ho2 hu1 hs2 ?_; intro A5 c5 w5 ho5 hg5))
            go_roundw
            case rel => exact ⟨u + 1, _, _, by omega, by go_num, rfl, by rw [mapTo_succ, hq]; exact ho5, push_below (hb.trans (hb2.mono hlow)) ho2 (Nat.le_refl _) hs2 hg5⟩
            case measure => simp [intOf]; omega
        · obtain rfl : u = n := by omega
          go_wp2
          go_ret
          rw [HL.out]; exact retSl_mk (ho.mono (by omega)) (step hb0 hb)
    · have HL := Lib.hid (show startL 4 gi rs n = mapTo (startC gi 4) n by simp [startL, hv])
      go_enter Tryz.func79, Tryz.ntmps79
      go_wp2
      obtain ⟨W0, hW0⟩ : ∃ W0, W0 = w.alloc (.cells #[.int .i64 4, .slice Ag n cg, .slice Ar nr cr] 26) := ⟨_, rfl⟩; rw [← hW0] at hx0 hb0 hs0; rw [← hW0]; have hsW : W0.heap.size = w.heap.size + 1 := (by rw [hW0]; simp); clear hW0; have hb1 : Below W0.heap.size W0 (W0.alloc (.cells #[] 3)) := (Below.refl _ _).alloc (Nat.le_refl _) _; have hO := Ow.made0 W0 W0.heap.size (Nat.le_refl _)
      go_loopw [3, 4] (fun v i wr => ∃ (u : Nat) (A' : Option Addr) (c' : Nat), u ≤ n ∧ i = .int .i64 u ∧ v = .slice A' u c' ∧ Ow wr W0.heap.size A' u c' (mapTo (startC gi 4) u) ∧ Below W0.heap.size W0 wr) (fun _ i _ => n - (intOf i).toNat)
      case atStart => exact ⟨0, _, _, Nat.zero_le _, rfl, by first | rfl | rw [hsW], hO, hb1⟩
      case round =>
        obtain ⟨u, A', c', hu, rfl, rfl, ho, hb⟩ := hrel; obtain ⟨c0, c1, c2⟩ := hx0.below hs0 hb
        by_cases hlt : u < n
        · have hbw := step hb0 hb; have hsw := hb.size; have hlow : W0.heap.size ≤ wr.heap.size := hsw; obtain ⟨b, off, hA, hbB, hck⟩ := (hp.below hbw).g.at_ hlt; subst hA; have hbwr : b < wr.heap.size := Nat.lt_of_lt_of_le hbB (hp.below hbw).gB; have hu1 : u ≤ 1099511627776 := (by omega); have hx4 := hok.out u hlt
          have hcase : nth gi u = 0 ∨ nth gi u = 1 ∨ nth gi u = 2 ∨ nth gi u = 3 ∨ nth gi u = 4 := by
            have : (0 : Int) ≤ 0 := (by omega); omega
          have hwr0 : w.heap.size < wr.heap.size := (by omega)
          rcases hcase with h | h | h | h | h
          · rw [h] at hck; have hq : startC gi 4 u = 30 := (by simp [startC, h]); clear h
            go_wp2_with (first
              | (go_at_call 21; refine (HP.out _ hbw).mono ?_; rintro e w1 ⟨rfl, hb2⟩; rw [hv]; obtain ⟨d0, d1, d2⟩ := PBox.below ⟨c0, c1, c2⟩ hwr0 hb2; have hck1 := (hb2.cell (p := ⟨b, off + u, none⟩) hbwr).trans hck; have ho2 := ho.below hb2; have hs2 := Nat.le_trans hlow hb2.size)
              | (at_builtin; refine push_int rfl (.tmp 32) (.tmp 38) rfl W0.heap.size A' u c' (mapTo (startC gi 4) u) _ rfl rfl ho2 hu1 hs2 ?_; intro A5 c5 w5 ho5 hg5))
            go_roundw
            case rel => exact ⟨u + 1, _, _, by omega, by go_num, rfl, by rw [mapTo_succ, hq]; exact ho5, push_below (hb.trans (hb2.mono hlow)) ho2 (Nat.le_refl _) hs2 hg5⟩
            case measure => simp [intOf]; omega
          · rw [h] at hck; have hq : startC gi 4 u = 2 := (by simp [startC, h]); clear h
            go_wp2_with (first
              | (go_at_call 21; refine (HP.out _ hbw).mono ?_; rintro e w1 ⟨rfl, hb2⟩; rw [hv]; obtain ⟨d0, d1, d2⟩ := PBox.below ⟨c0, c1, c2⟩ hwr0 hb2; have hck1 := (hb2.cell (p := ⟨b, off + u, none⟩) hbwr).trans hck; have ho2 := ho.below hb2; have hs2 := Nat.le_trans hlow hb2.size)
              | (at_builtin; refine push_int rfl (.tmp 23) (.tmp 30) rfl W0.heap.size A' u c' (mapTo (startC gi 4) u) _ rfl rfl ho2 hu1 hs2 ?_; intro A5 c5 w5 ho5 hg5))
            go_roundw
            case rel => exact ⟨u + 1, _, _, by omega, by go_num, rfl, by rw [mapTo_succ, hq]; exact ho5, push_below (hb.trans (hb2.mono hlow)) ho2 (Nat.le_refl _) hs2 hg5⟩
            case measure => simp [intOf]; omega
          · rw [h] at hck; have hq : startC gi 4 u = 4 := (by simp [startC, h]); clear h
            go_wp2_with (first
              | (go_at_call 21; refine (HP.out _ hbw).mono ?_; rintro e w1 ⟨rfl, hb2⟩; rw [hv]; obtain ⟨d0, d1, d2⟩ := PBox.below ⟨c0, c1, c2⟩ hwr0 hb2; have hck1 := (hb2.cell (p := ⟨b, off + u, none⟩) hbwr).trans hck; have ho2 := ho.below hb2; have hs2 := Nat.le_trans hlow hb2.size)
              | (at_builtin; refine push_int rfl (.tmp 23) (.tmp 30) rfl W0.heap.size A' u c' (mapTo (startC gi 4) u) _ rfl rfl ho2 hu1 hs2 ?_; intro A5 c5 w5 ho5 hg5))
            go_roundw
            case rel => exact ⟨u + 1, _, _, by omega, by go_num, rfl, by rw [mapTo_succ, hq]; exact ho5, push_below (hb.trans (hb2.mono hlow)) ho2 (Nat.le_refl _) hs2 hg5⟩
            case measure => simp [intOf]; omega
          · rw [h] at hck; have hq : startC gi 4 u = 8 := (by simp [startC, h]); clear h
            go_wp2_with (first
              | (go_at_call 21; refine (HP.out _ hbw).mono ?_; rintro e w1 ⟨rfl, hb2⟩; rw [hv]; obtain ⟨d0, d1, d2⟩ := PBox.below ⟨c0, c1, c2⟩ hwr0 hb2; have hck1 := (hb2.cell (p := ⟨b, off + u, none⟩) hbwr).trans hck; have ho2 := ho.below hb2; have hs2 := Nat.le_trans hlow hb2.size)
              | (at_builtin; refine push_int rfl (.tmp 23) (.tmp 30) rfl W0.heap.size A' u c' (mapTo (startC gi 4) u) _ rfl rfl ho2 hu1 hs2 ?_; intro A5 c5 w5 ho5 hg5))
            go_roundw
            case rel => exact ⟨u + 1, _, _, by omega, by go_num, rfl, by rw [mapTo_succ, hq]; exact ho5, push_below (hb.trans (hb2.mono hlow)) ho2 (Nat.le_refl _) hs2 hg5⟩
            case measure => simp [intOf]; omega
          · rw [h] at hck; have hq : startC gi 4 u = 16 := (by simp [startC, h]); clear h
            go_wp2_with (first
              | (go_at_call 21; refine (HP.out _ hbw).mono ?_; rintro e w1 ⟨rfl, hb2⟩; rw [hv]; obtain ⟨d0, d1, d2⟩ := PBox.below ⟨c0, c1, c2⟩ hwr0 hb2; have hck1 := (hb2.cell (p := ⟨b, off + u, none⟩) hbwr).trans hck; have ho2 := ho.below hb2; have hs2 := Nat.le_trans hlow hb2.size)
              | (at_builtin; refine push_int rfl (.tmp 23) (.tmp 30) rfl W0.heap.size A' u c' (mapTo (startC gi 4) u) _ rfl rfl ho2 hu1 hs2 ?_; intro A5 c5 w5 ho5 hg5))
            go_roundw
            case rel => exact ⟨u + 1, _, _, by omega, by go_num, rfl, by rw [mapTo_succ, hq]; exact ho5, push_below (hb.trans (hb2.mono hlow)) ho2 (Nat.le_refl _) hs2 hg5⟩
            case measure => simp [intOf]; omega
        · obtain rfl : u = n := by omega
          go_wp2
          go_ret
          rw [HL.out]; exact retSl_mk (ho.mono (by omega)) (step hb0 hb)
end Go.Proofs.YtcjdjcpappfkgaaGreatDoor
