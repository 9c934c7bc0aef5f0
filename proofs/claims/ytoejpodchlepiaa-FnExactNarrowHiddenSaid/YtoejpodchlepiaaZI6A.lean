import Derived.Test.YtoejpodchlepiaaOm
import Derived.Test.YtoejpodchlepiaaI5V
import Derived.Test.YtoejpodchlepiaaI3V
import Derived.Test.YtoejpodchlepiaaZSix
import Derived.Test.YtoejpodchlepiaaSixC
set_option maxRecDepth 8000
namespace Go.Proofs.Ytoejpodchlepiaa
open Go.ChangeShapes Go.WideShapes Go.ChangeAt Go.RowKit
theorem start_em {gi : List Int} {s n : Nat} (hl : gi.length = n) (hok : ∀ k, k < n → 0 ≤ nth gi k) (hs : s ∈ [2, 3, 4]) : mapTo (startC gi s) n = emL gi s := by
  apply ext_nth (by rw [mapTo_length, emL_len_ hl])
  intro k hk
  rw [mapTo_length] at hk
  rw [mapTo_nth hk, emL_at hl hk]
  have h0 := hok k hk
  unfold startC emN
  by_cases e : nth gi k = 0
  · rw [if_neg (by omega), if_pos e]
    simp at hs
    rcases hs with rfl | rfl | rfl <;> rfl
  · rw [if_pos (by omega), if_neg e]
    simp
theorem implStartMasks (s : Int) (Ag : Option Addr) (n cg Bg : Nat) (gi : List Int) (Ar : Option Addr) (nr cr Br : Nat) (rs : List RuleM) (w : World) (hp : PGc w s Ag n cg Bg gi Ar nr cr Br rs) :
    Calls Try.prog 42 #[.agg #[.int .i64 s, .slice Ag n cg, .slice Ar nr cr]] w (RetSl w (startL s gi rs n)) := by
  have hx0 := pbox_new w s Ag n cg Ar nr cr 48
  have hb0 : Below w.heap.size w (w.alloc (.cells #[.int .i64 s, .slice Ag n cg, .slice Ar nr cr] 48)) := (Below.refl _ _).alloc (Nat.le_refl _) _
  have hs0 : w.heap.size < (w.alloc (.cells #[.int .i64 s, .slice Ag n cg, .slice Ar nr cr] 48)).heap.size := by simp
  obtain ⟨z0, z1, z2⟩ := id hx0
  have HV := Lib.hid (valid_any s Ag n cg Bg gi Ar nr cr Br rs _ (hp.below hb0))
  cases hv : pvB s gi rs
  · have HL := Lib.hid (show startL s gi rs n = [] by simp [startL, hv])
    go_enter Try.func42, Try.ntmps42
    go_wp2_with (go_at_call 87; refine HV.out.mono ?_; rintro e w1 ⟨rfl, hb1⟩; rw [hv])
    go_ret
    rw [HL.out]
    exact ⟨_, _, rfl, Ow.nil_ _ _, step hb0 hb1⟩
  · obtain ⟨t, rfl, hs, _, hn16, hok⟩ := pv_grid hv hp.g.1
    have hs4 : t ≤ 4 := by simp at hs; omega
    have hlen := hp.g.1
    have HL := Lib.hid (show startL t gi rs n = emL gi t by
      rw [← start_em hlen (fun k hk => (hok k hk).1) hs]
      simp [startL, hv])
    have Hel := Lib.hid (emL_len_ (s := t) hlen)
    have HO := Lib.hid (fun w' (hb : Below w.heap.size w w') => openMasks_any Ag cg n Bg gi t w' (hp.below hb).g (hp.below hb).gB hn16 hs (fun i hi => by have := hok i hi; omega))
    clear hok
    go_enter Try.func42, Try.ntmps42
    go_wp2_with (first
      | (go_at_call 87; refine HV.out.mono ?_; rintro e w1 ⟨rfl, hb1⟩; rw [hv]; have h01 := step hb0 hb1; obtain ⟨c0, c1, c2⟩ := hx0.below hs0 hb1)
      | (go_at_call 91; refine (HO.out _ h01).mono ?_; rintro e w2 ⟨A2, c2', rfl, ho2, hb2⟩))
    go_ret
    rw [HL.out]
    exact ⟨_, _, rfl, ho2.mono h01.size, step h01 hb2⟩
set_option maxHeartbeats 1000000 in
theorem implMasksHave (A : Option Addr) (c n B : Nat) (m : List Int) (s : Int) (Ag : Option Addr) (cg ng Bg : Nat) (g : List Int) (w : World) (h : Rd w B A n m) (hm64 : B64 m) (hB : B ≤ w.heap.size) (hm : n ≤ 1099511627776) (hg : Rd w Bg Ag ng g) (hBg : Bg ≤ w.heap.size) (hmg : ng ≤ 1099511627776) (hsb : -9223372036854775808 ≤ s ∧ s ≤ 9223372036854775807) :
    Calls Try.prog 51 #[.slice A n c, .int .i64 s, .slice Ag ng cg] w fun e w' => e = .returned (.bool (mhB m s g)) ∧ Below w.heap.size w w' := by
  have hlen := Lib.hid h.1
  have hleng := Lib.hid hg.1
  have HV := Lib.hid (implMasksValid A c n B m s w h hm64 hB hm hsb)
  have HG := Lib.hid (fun w' (hb : Below w.heap.size w w') => implGridValid Ag cg ng Bg g s w' (hg.below (hb.mono hBg)) (Nat.le_trans hBg hb.size) hmg)
  cases hv : mvd m s
  · have HL := Lib.hid (show mhB m s g = false by simp [mhB, hv])
    go_enter Try.func51, Try.ntmps51
    go_wp2_with (go_at_call 65; refine HV.out.mono ?_; rintro e w1 ⟨rfl, hb1⟩; rw [hv])
    go_ret
    exact ⟨by rw [HL.out]; rfl, hb1⟩
  · cases hgv : gv g s
    · have HL := Lib.hid (show mhB m s g = false by simp [mhB, hgv])
      go_enter Try.func51, Try.ntmps51
      go_wp2_with (first | (go_at_call 65; refine HV.out.mono ?_; rintro e w1 ⟨rfl, hb1⟩; rw [hv]) | (go_at_call 74; refine (HG.out _ hb1).mono ?_; rintro e w2 ⟨rfl, hb2⟩; rw [hgv]))
      go_ret
      exact ⟨by rw [HL.out]; rfl, step hb1 hb2⟩
    · have HL := Lib.hid (show mhB m s g = (List.range ng).all (inMask m g) by simp [mhB, hv, hgv, hleng.out])
      obtain ⟨_, hsq, hn16, hrng⟩ := mvd_at hv
      rw [hlen.out] at hsq hn16 hrng
      have hlg := gv_len hgv
      rw [hleng.out] at hlg
      obtain rfl : n = ng := by omega
      have Hrng := Lib.hid hrng
      have Hg := Lib.hid (fun k (hk : k < n) => gv_nth hgv (show k < g.length by rw [hleng.out]; exact hk))
      obtain ⟨s2, s4⟩ := gv_size hgv
      clear hrng hsq hlg
      go_enter Try.func51, Try.ntmps51
      go_wp2_with (first | (go_at_call 65; refine HV.out.mono ?_; rintro e w1 ⟨rfl, hb1⟩; rw [hv]) | (go_at_call 74; refine (HG.out _ hb1).mono ?_; rintro e w2 ⟨rfl, hb2⟩; rw [hgv]; have h02 := step hb1 hb2))
      go_loop [21] (fun i => ∃ k : Nat, k ≤ n ∧ i = .int .i64 k ∧ Hid (∀ j, j < k → inMask m g j = true)) (fun i => n - (intOf i).toNat)
      case atStart => exact ⟨0, Nat.zero_le _, rfl, Lib.hid (fun j hj => absurd hj (by omega))⟩
      case round =>
        obtain ⟨k, hk, rfl, hall⟩ := hrel
        by_cases hlt : k < n
        · obtain ⟨b, off, rfl, hbB, hck⟩ := (h.below (h02.mono hB)).at_ hlt
          obtain ⟨b', off', rfl, hbB', hck'⟩ := (hg.below (h02.mono hBg)).at_ hlt
          obtain ⟨x0, x1, _⟩ := Hrng.out k hlt
          obtain ⟨y0, y1⟩ := Hg.out k hlt
          obtain ⟨M, hM⟩ := Int.eq_ofNat_of_zero_le x0
          obtain ⟨v, hV⟩ := Int.eq_ofNat_of_zero_le y0
          have hbit : inMask m g k = M.testBit v := by simp only [inMask, hM, hV, Int.toNat_natCast]
          have hsh := and_pow0 M v (by omega) (by omega)
          rw [hM] at hck x1
          rw [hV] at hck' y1
          have hvs : v < 64 := by omega
          cases hh : M.testBit v
          · rw [hh] at hsh hbit
            have Hf := Lib.hid (show mhB m s g = false by rw [HL.out]; exact all_stop hlt hbit)
            clear hh hbit hM hV x0 y0
            go_wp2
            go_ret
            exact ⟨by rw [Hf.out]; rfl, h02⟩
          · rw [hh] at hsh hbit
            have Hn := Lib.hid (show ∀ j, j < k + 1 → inMask m g j = true from fun j hj => by
              by_cases e : j = k
              · subst e; exact hbit
              · exact hall.out j (by omega))
            clear hh hbit hM hV x0 y0
            go_wp2
            go_round
            case rel => exact ⟨k + 1, by omega, by go_num, Hn⟩
            case measure => simp [intOf]; omega
        · obtain rfl : k = n := by omega
          have Hf := Lib.hid (show mhB m s g = true by rw [HL.out]; exact all_done hall.out)
          go_wp2
          go_ret
          exact ⟨by rw [Hf.out]; rfl, h02⟩
end Go.Proofs.Ytoejpodchlepiaa
