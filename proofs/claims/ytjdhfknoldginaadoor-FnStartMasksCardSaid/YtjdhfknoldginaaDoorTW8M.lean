import Derived.Test.YtjdhfknoldginaaDoorRTop
import Derived.Deep.QuietTactic
import Derived.Deep.RegionHeld3
import Derived.BigQuiet
set_option maxRecDepth 8000
namespace Go.Proofs.YtjdhfknoldginaaDoor
open Go.ChangeShapes Go.WideShapes Go.ChangeAt Go.RowKit
theorem emN_lt {vs : List Int} {s j : Nat} (hs : s ∈ [2, 3, 4]) (h0 : 0 ≤ nth vs j) (h4 : nth vs j ≤ 4) : emN vs s j < 32 := by
  unfold emN
  split
  · have := (all_even s hs).2; omega
  · have : (nth vs j).toNat < 5 := by omega
    exact Nat.pow_lt_pow_right (n := 5) (by omega) this
theorem emL_len_ {vs : List Int} {s n : Nat} (h : vs.length = n) : (emL vs s).length = n := by unfold emL; rw [mapTo_length, h]
theorem emL_at {vs : List Int} {s n k : Nat} (hl : vs.length = n) (hk : k < n) : nth (emL vs s) k = ((emN vs s k : Nat) : Int) := by
  unfold emL
  rw [mapTo_nth (by omega)]
  simp [emG]
theorem openMasks_any (A : Option Addr) (c n B : Nat) (vs : List Int) (s : Nat) (w : World) (h : Rd w B A n vs) (hB : B ≤ w.heap.size) (n16 : n ≤ 16) (hs : s ∈ [2, 3, 4]) (hsm : ∀ i, i < n → 0 ≤ nth vs i ∧ nth vs i ≤ 4) :
    Calls Tryd.prog 41 #[.slice A n c, .int .i64 s] w (RetSl w (emL vs s)) := by
  obtain ⟨i0, hi, hz0, hz1, hz2⟩ := info_parts int_info
  have hlen := h.1
  have Hpm := Lib.hid (fun k (hk : k < n) => emL_at (s := s) hlen hk)
  have Hsm := Lib.hid hsm
  have HAV := Lib.hid (fun w' => allValues_any s hs w')
  have Hall : Hid (∀ k, k < n → nth vs k = 0 → ((2 ^ (s + 1) - 2 : Nat) : Int) = nth (emL vs s) k) := Lib.hid (fun k hk hz => by rw [Hpm.out k hk]; unfold emN; rw [if_pos hz])
  have Hl := Lib.hid (emL_len_ (s := s) hlen)
  clear hlen hsm
  obtain ⟨av, hav⟩ : ∃ av, av = 2 ^ (s + 1) - 2 := ⟨_, rfl⟩
  rw [← hav] at HAV Hall
  clear hav
  go_enter Tryd.func41, Tryd.ntmps41
  go_wp2_with (refine wpList_make_full _ rfl (.tmp 9) (.tmp 9) 23 rfl w.heap.size 3 i0 (.int .i64 0) 1 Tryd.underlying23 hi hz0 hz1 .i64 .i64 n n n rfl rfl rfl rfl (by rw [hz2]; omega) (by simp only [maxLen]; omega) (Nat.le_refl _) ?_; intro w1 hown hgr)
  have ho1 := made_part (emL vs s) hown
  have hb1 := made_below hgr (Nat.le_refl w.heap.size)
  clear hown hgr hz0 hz1 hz2 hi
  go_loopw [13] (fun i wr => ∃ k : Nat, k ≤ n ∧ i = .int .i64 k ∧ Ow wr w.heap.size (some ⟨w.heap.size, 0, none⟩) n n (part (emL vs s) k n) ∧ Below w.heap.size w wr) (fun i _ => n - (intOf i).toNat)
  case atStart => exact ⟨0, Nat.zero_le _, rfl, ho1, hb1⟩
  case round =>
    obtain ⟨k, hk, rfl, ho, hb⟩ := hrel
    by_cases hlt : k < n
    · obtain ⟨b, off, rfl, hbB, hck⟩ := (h.below (hb.mono hB)).at_ hlt
      obtain ⟨x0, x4⟩ := Hsm.out k hlt
      obtain ⟨v, hv⟩ := Int.eq_ofNat_of_zero_le x0
      rw [hv] at hck x4
      have hst := (World.ownsRow.stored ho k (.int .i64 (nth (emL vs s) k))).1
      rw [part_set] at hst
      have Hst := Lib.hid hst; clear hst
      obtain ⟨hold, hfr⟩ := ho.cell hlt
      by_cases hz : v = 0
      · subst hz
        have Hg := Lib.hid (Hall.out k hlt (by rw [hv]; rfl))
        clear hv x0 x4
        go_wp2_with (go_at_call 79; refine (HAV.out _).mono ?_; rintro e w' ⟨rfl, rfl⟩; rw [Hg.out])
        go_roundw
        case rel => exact ⟨k + 1, by omega, by go_num, Hst.out, hb.setCell (p := (⟨w.heap.size, k, none⟩ : Addr)) (Nat.le_refl _) _⟩
        case measure => simp [intOf]; omega
      · have Hg := Lib.hid (show ((2 ^ v : Nat) : Int) = nth (emL vs s) k by
          rw [Hpm.out k hlt]; unfold emN; rw [hv, if_neg (by omega), Int.toNat_natCast])
        have hz1 : ((v : Int) == 0) = false := by simp; omega
        have Hpw := Lib.hid (two_pow_nat v (by omega))
        clear hz hv
        go_wp2
        go_roundw
        case rel => exact ⟨k + 1, by omega, by go_num, by rw [show (wrap64 (2 ^ v)) = nth (emL vs s) k from Hpw.out.trans Hg.out]; exact Hst.out, hb.setCell (p := (⟨w.heap.size, k, none⟩ : Addr)) (Nat.le_refl _) _⟩
        case measure => simp [intOf]; omega
    · obtain rfl : k = n := by omega
      have hp : part (emL vs s) k k = emL vs s := part_all' Hl.out
      rw [hp] at ho
      go_wp2
      go_ret
      exact retSl_mk ho hb
end Go.Proofs.YtjdhfknoldginaaDoor
set_option maxRecDepth 8000
namespace Go.Proofs.YtjdhfknoldginaaDoor
open Go.ChangeShapes Go.WideShapes Go.ChangeAt Go.RowKit
theorem start_em {gi : List Int} {s n : Nat} (hl : gi.length = n) (hok : ∀ k, k < n → 0 ≤ nth gi k) (hs : s ∈ [2, 3, 4]) : mapTo (startC gi s) n = emL gi s := by
  apply ext_nth (by rw [mapTo_length, emL_len_ hl])
  intro k hk
  rw [mapTo_length] at hk
  rw [mapTo_nth hk, emL_at hl hk]
  have h0 := hok k hk
  unfold startC emN
  by_cases e : nth gi k = 0
  · rw [if_neg (by omega), if_pos e]
    simp at hs
    rcases hs with rfl | rfl | rfl <;> rfl
  · rw [if_pos (by omega), if_neg e]
    simp
theorem implStartMasks (s : Int) (Ag : Option Addr) (n cg Bg : Nat) (gi : List Int) (Ar : Option Addr) (nr cr Br : Nat) (rs : List RuleM) (w : World) (hp : PGc w s Ag n cg Bg gi Ar nr cr Br rs) :
    Calls Tryd.prog 11 #[.agg #[.int .i64 s, .slice Ag n cg, .slice Ar nr cr]] w (RetSl w (startL s gi rs n)) := by
  have hx0 := pbox_new w s Ag n cg Ar nr cr 26
  have hb0 : Below w.heap.size w (w.alloc (.cells #[.int .i64 s, .slice Ag n cg, .slice Ar nr cr] 26)) := (Below.refl _ _).alloc (Nat.le_refl _) _
  have hs0 : w.heap.size < (w.alloc (.cells #[.int .i64 s, .slice Ag n cg, .slice Ar nr cr] 26)).heap.size := by simp
  obtain ⟨z0, z1, z2⟩ := id hx0
  have HV := Lib.hid (valid_any s Ag n cg Bg gi Ar nr cr Br rs _ (hp.below hb0))
  cases hv : pvB s gi rs
  · have HL := Lib.hid (show startL s gi rs n = [] by simp [startL, hv])
    go_enter Tryd.func11, Tryd.ntmps11
    go_wp2_with (go_at_call 40; refine HV.out.mono ?_; rintro e w1 ⟨rfl, hb1⟩; rw [hv])
    go_ret
    rw [HL.out]
    exact ⟨_, _, rfl, Ow.nil_ _ _, step hb0 hb1⟩
  · obtain ⟨t, rfl, hs, _, hn16, hok⟩ := pv_grid hv hp.g.1
    have hs4 : t ≤ 4 := by simp at hs; omega
    have hlen := hp.g.1
    have HL := Lib.hid (show startL t gi rs n = emL gi t by
      rw [← start_em hlen (fun k hk => (hok k hk).1) hs]
      simp [startL, hv])
    have Hel := Lib.hid (emL_len_ (s := t) hlen)
    have HO := Lib.hid (fun w' (hb : Below w.heap.size w w') => openMasks_any Ag cg n Bg gi t w' (hp.below hb).g (hp.below hb).gB hn16 hs (fun i hi => by have := hok i hi; omega))
    clear hok
    go_enter Tryd.func11, Tryd.ntmps11
    go_wp2_with (first
      | (go_at_call 40; refine HV.out.mono ?_; rintro e w1 ⟨rfl, hb1⟩; rw [hv]; have h01 := step hb0 hb1; obtain ⟨c0, c1, c2⟩ := hx0.below hs0 hb1)
      | (go_at_call 41; refine (HO.out _ h01).mono ?_; rintro e w2 ⟨A2, c2', rfl, ho2, hb2⟩))
    go_ret
    rw [HL.out]
    exact ⟨_, _, rfl, ho2.mono h01.size, step h01 hb2⟩
end Go.Proofs.YtjdhfknoldginaaDoor
set_option maxRecDepth 8000
namespace Go.Proofs.YtjdhfknoldginaaDoor
open Go.ChangeShapes Go.WideShapes Go.ChangeAt Go.RowKit
theorem start_mvdM {s : Int} {gi : List Int} {rs : List RuleM} {n : Nat} (hl : gi.length = n) (hv : pvB s gi rs = true) : (startL s gi rs n).length = n ∧ mvd (startL s gi rs n) s = true := by
  obtain ⟨t, rfl, hs, hn, _, hok⟩ := pv_grid hv hl
  have e : startL t gi rs n = mapTo (startC gi t) n := by simp [startL, hv]
  rw [e]
  refine ⟨mapTo_length _ _, ?_⟩
  simp only [mvd, Bool.and_eq_true, beq_iff_eq, mapTo_length, Int.toNat_natCast]
  refine ⟨⟨by simp at hs; simp [inr]; omega, hn⟩, allTo_all (n := n) (fun k hk => ?_) (mapTo_length _ _)⟩
  rw [mapTo_nth hk]
  obtain ⟨y0, y1⟩ := hok k hk
  unfold startC
  have hk4 : nth gi k = 0 ∨ nth gi k = 1 ∨ nth gi k = 2 ∨ nth gi k = 3 ∨ nth gi k = 4 := by simp at hs; omega
  simp at hs
  rcases hs with rfl | rfl | rfl <;> rcases hk4 with h | h | h | h | h <;> rw [h] at y1 ⊢ <;> first | (exfalso; revert y1; decide) | decide
theorem start_have {t : Nat} {gi y : List Int} {rs : List RuleM} {n : Nat} (hs : t ∈ [2, 3, 4]) (hl : gi.length = n) (hp : psB t gi rs y = true) : mhB (startL t gi rs n) t y = true := by
  unfold psB at hp
  rw [Bool.and_eq_true] at hp
  obtain ⟨hpv, hg, h1, _, _⟩ := fp_parts.1 hp.1
  obtain ⟨hsl, hsv⟩ := start_mvdM hl hpv
  have hgf : gf y t = (cnz y y.length : Int) := by simp [gf, hg]
  have hc : cnz y y.length = y.length := by have := hp.2; rw [hgf, beq_iff_eq] at this; omega
  have hn := cnz_all hc
  have e : startL t gi rs n = mapTo (startC gi t) n := by simp [startL, hpv]
  have hyl := gv_len hg
  have hgl := gv_len (pv_gv hpv).1
  have hyn : y.length = n := by omega
  unfold mhB
  rw [hsv, hg, Bool.true_and, Bool.true_and]
  refine all_done (fun k hk => ?_)
  have a1 := hn k hk
  have a2 := gv_nth hg hk
  have a3 := gv_nth (pv_gv hpv).1 (show k < gi.length by omega)
  have a4 := h1 k hk
  rw [hyn] at hk
  unfold inMask
  rw [e, mapTo_nth hk]
  unfold startC
  unfold giveOk at a4
  have t4 : t = 2 ∨ t = 3 ∨ t = 4 := by simpa using hs
  have y4 : nth y k = 1 ∨ nth y k = 2 ∨ nth y k = 3 ∨ nth y k = 4 := by omega
  have g4 : nth gi k = 0 ∨ nth gi k = 1 ∨ nth gi k = 2 ∨ nth gi k = 3 ∨ nth gi k = 4 := by omega
  clear hs hl hp hpv hg h1 hsl hsv hgf hc hn e hyl hgl hyn hk
  generalize nth y k = a at *
  generalize nth gi k = b at *
  rcases t4 with rfl | rfl | rfl <;> rcases y4 with rfl | rfl | rfl | rfl <;> rcases g4 with rfl | rfl | rfl | rfl | rfl <;> first | decide | (exfalso; omega) | (exfalso; revert a4; decide)
theorem sf_psM {s : Nat} {gi : List Int} {rs : List RuleM} {n : Nat} (hl : gi.length = n) (hv : pvB s gi rs = true) (hn : n = s * s) (h : sfB s n gi rs = true) : psB s gi rs (sfL s n gi rs) = true := by
  cases e : cv s gi rs (s * s) [] with
  | nil => rw [(sf_nil hl hv hn e).2] at h; cases h
  | cons y zs =>
    rw [(sf_cons hl hv hn e).1]
    have : y ∈ (sqL s).filter (psB s gi rs) := by rw [← cv_sqL hl hv hn, e]; exact List.mem_cons_self ..
    exact (List.mem_filter.1 this).2
theorem all_vals {t : Nat} (hs : t ∈ [2, 3, 4]) : (maskVals (2 ^ (t + 1) - 2)).length = t ∧ (-9223372036854775808 ≤ (2 ^ (t + 1) - 2 : Int) ∧ (2 ^ (t + 1) - 2 : Int) ≤ 9223372036854775807) := by
  have t4 : t = 2 ∨ t = 3 ∨ t = 4 := by simpa using hs
  rcases t4 with rfl | rfl | rfl <;> decide
theorem step_skipM {o : Oper} {yl : Nat → Option Bool} {X E : Prop} (h : Region.wanted o yl = false) (he : E) : if Region.wanted o yl = true then X else E := by rw [h]; exact he
set_option maxHeartbeats 4000000 in
theorem startMasks_walk (A : Option Addr) (c n : Nat) (bs : List Int) (w : World) (h : Code_ w A n c bs) (hT : Tz w) :
    Calls Tryd.prog 3 #[.slice A n c] w fun e w' => e = .returned (.bool true) ∧ Below w.heap.size w w' := by
  by_cases hn : n ≤ 1048576
  · go_enter Tryd.func3, Tryd.ntmps3
    go_wp2_with fail
    refine (draw_DrawStartMasks _ _ _ _ _ h).mono ?_
    rintro e w1 ⟨s, A1, n1, c1, gi, A2, nr, c2, rs, rfl, s2, s4, hrd, hn16, hR, hl, hnr, hb1⟩
    have hx0 := pbox_new w1 s A1 n1 c1 A2 nr c2 26
    have hbA : Below w1.heap.size w1 (w1.alloc (.cells #[.int .i64 s, .slice A1 n1 c1, .slice A2 nr c2] 26)) := (Below.refl _ _).alloc (Nat.le_refl _) _
    have hpc0 : PGc w1 s A1 n1 c1 w1.heap.size gi A2 nr c2 w1.heap.size rs := ⟨hrd, Nat.le_refl _, by omega, hR.rdc hl, Nat.le_refl _, by omega⟩
    have hpcA := hpc0.below hbA
    have hsA : w1.heap.size < (w1.alloc (.cells #[.int .i64 s, .slice A1 n1 c1, .slice A2 nr c2] 26)).heap.size := by simp
    obtain ⟨W, hW⟩ : ∃ W, w1.alloc (.cells #[.int .i64 s, .slice A1 n1 c1, .slice A2 nr c2] 26) = W := ⟨_, rfl⟩
    rw [hW] at hx0 hbA hpcA hsA
    have hb0W : Below w.heap.size w W := step hb1 hbA
    have HX := Lib.hid (fun w' (hb : Below W.heap.size W w') => hx0.below (by omega : w1.heap.size < W.heap.size) hb)
    have HPc := Lib.hid (fun w' (hb : Below W.heap.size W w') => hpcA.below hb)
    have HTz := Lib.hid (fun w' (hb : Below W.heap.size W w') => hT.below hT.lt (step hb0W hb))
    have HB := Lib.hid (fun w' (hb : Below W.heap.size W w') => step hb0W hb)
    obtain ⟨X, hX⟩ : ∃ X, X = startL s gi rs n1 := ⟨_, rfl⟩
    have hgl := hrd.1
    have HI0 := implStartMasks _ _ _ _ _ _ _ _ _ _ _ _ hpcA
    rw [← hX] at HI0
    have HI0 := Lib.hid HI0
    have HS := Lib.hid (fun w' (hb : Below W.heap.size W w') => by
      have := specStartMasks _ _ _ _ _ _ _ _ _ _ _ _ (hpcA.below hb).rd
      rw [← hX] at this
      exact this)
    have HPV := Lib.hid (fun w' (hb : Below W.heap.size W w') => specPuzzleValid s A1 n1 c1 w1.heap.size gi A2 nr c2 w1.heap.size rs w' (hpcA.below hb).rd.g (hpcA.below hb).rd.gB (hpcA.below hb).rd.gm (hpcA.below hb).rd.r (hpcA.below hb).rd.rB (hpcA.below hb).rd.rm)
    have HW := Lib.hid hW
    obtain ⟨z0, z1, z2⟩ := id hx0
    clear hW hpc0 hpcA hbA hx0 hR hrd
    have hsame : same X X = true := by simp [same]
    cases hv : pvB s gi rs
    · have hX0 : X = [] := by rw [hX]; simp [startL, hv]
      subst hX0
      clear hX
      go_wp2_with (first
        | (go_at_call 11; rw [HW.out]; refine HI0.out.mono ?_; rintro e w2 ⟨Ax, cx, rfl, hox, hb2⟩; obtain ⟨y0, y1, y2⟩ := HX.out _ hb2)
        | (go_at_call 13; refine (HS.out _ hb2).mono ?_; rintro e w3 ⟨Ay, cy, rfl, hoy, hb3⟩; have h23 := step hb2 hb3; have hox3 := hox.rd.below hb3; have hB3 := hb3.size)
        | (go_at_call 12; refine (sameInts_any _ _ _ _ _ _ _ _ [] [] _ hox3 hoy.rd (by simp)).mono ?_; rintro e w4 ⟨rfl, hb4⟩; rw [hsame]; have h24 := step h23 hb4; obtain ⟨v0, v1, v2⟩ := HX.out _ h24)
        | (go_at_call 14; refine (HPV.out _ h24).mono ?_; rintro e w5 ⟨rfl, hb5⟩; rw [hv]; have h25 := step h24 hb5)
        | (go_at_call 15; (with_reducible refine (alive_any _).mono ?_); rintro e w6 ⟨rfl, hb6⟩))
      go_ret
      exact ⟨rfl, HB.out _ (step h25 hb6)⟩
    · obtain ⟨t, rfl, hs, hnn, _, hok⟩ := pv_grid hv hgl
      have hnn2 : n1 = t * t := by simp at hs; rcases hs with rfl | rfl | rfl <;> omega
      obtain ⟨hXl, hXv⟩ := start_mvdM hgl hv
      rw [← hX] at hXl hXv
      have hX64 : B64 X := b64_of hXl fun k _ => by have := mvd_nth hXv k; omega
      have HXk := Lib.hid (fun k (hk : k < n1) => show nth X k = startC gi t k by rw [hX]; simp only [startL, hv, if_true, Int.toNat_natCast]; exact mapTo_nth hk)
      have HMV := Lib.hid (all_vals hs)
      have HGk := Lib.hid (fun k (hk : k < n1) => gv_nth (pv_gv hv).1 (show k < gi.length by omega))
      obtain ⟨FL, hFL⟩ : ∃ FL, FL = sfL t n1 gi rs := ⟨_, rfl⟩
      obtain ⟨bb, hbb⟩ : ∃ bb, bb = sfB t n1 gi rs := ⟨_, rfl⟩
      have HMH := Lib.hid (fun (e : bb = true) => show mhB X t FL = true from by rw [hX, hFL]; exact start_have hs hgl (sf_psM hgl hv hnn2 (by rw [← hbb]; exact e)))
      have HSF := Lib.hid (fun w' (hb : Below W.heap.size W w') => by
        have := implSolveFirst _ _ _ _ _ _ _ _ _ _ _ _ (HPc.out _ hb) (HTz.out _ hb)
        rw [← hFL, ← hbb] at this
        exact this)
      have hsb : -9223372036854775808 ≤ (t : Int) ∧ (t : Int) ≤ 9223372036854775807 := by omega
      have Hsb := Lib.hid hsb
      have hn40 : n1 ≤ 1099511627776 := by omega
      have HX64 := Lib.hid hX64
      have HXv := Lib.hid hXv
      subst hXl
      clear hok hnn hnn2 hs hFL hbb hX hXv hX64 hsb
      go_upto_region 9 with (first
        | (go_at_call 11; rw [HW.out]; refine HI0.out.mono ?_; rintro e w2 ⟨Ax, cx, rfl, hox, hb2⟩; obtain ⟨y0, y1, y2⟩ := HX.out _ hb2)
        | (go_at_call 13; refine (HS.out _ hb2).mono ?_; rintro e w3 ⟨Ay, cy, rfl, hoy, hb3⟩; have h23 := step hb2 hb3; have hox3 := hox.rd.below hb3; have hB3 := hb3.size)
        | (go_at_call 12; refine (sameInts_any _ _ _ _ _ _ _ _ X X _ hox3 hoy.rd (by omega)).mono ?_; rintro e w4 ⟨rfl, hb4⟩; rw [hsame]; have h24 := step h23 hb4; obtain ⟨v0, v1, v2⟩ := HX.out _ h24)
        | (go_at_call 14; refine (HPV.out _ h24).mono ?_; rintro e w5 ⟨rfl, hb5⟩; rw [hv]; have h25 := step h24 hb5))
      have hB2 : w2.heap.size ≤ w5.heap.size := Nat.le_trans hB3 (Nat.le_trans hb4.size hb5.size)
      have hx5 := (hox3.below (hb4.mono hB3)).below (hb5.mono (Nat.le_trans hB3 hb4.size))
      have HRx := Lib.hid (fun w' (hb : Below w5.heap.size w5 w') => hx5.below (hb.mono hB2))
      have H5 := Lib.hid h25
      have h1w : w1.heap.size < w5.heap.size := Nat.lt_of_lt_of_le hsA h25.size
      clear hox hoy hox3 hx5 hb2 hb3 hb4 hb5 h23 h24 h25 y0 y1 y2 v0 v1 v2 z0 z1 z2 hsame h hT hv hgl
      go_wp2
      go_loopw [5] (fun iv wr => ∃ u : Nat, u ≤ X.length ∧ iv = .int .i64 u ∧ Below w5.heap.size w5 wr) (fun iv _ => X.length - (intOf iv).toNat)
      case atStart => exact ⟨0, Nat.zero_le _, rfl, Below.refl _ _⟩
      case round =>
        obtain ⟨u, hu, rfl, hb⟩ := hrel
        obtain ⟨p0, p1, p2⟩ := HX.out _ (step H5.out hb)
        by_cases hlt : u < X.length
        · have hltI : (u : Int) < (X.length : Int) := by omega
          obtain ⟨b1, o1, hA1, hB1, hc1⟩ := (HPc.out _ (step H5.out hb)).g.at_ hlt
          obtain ⟨b2, o2, hA2, hB2', hc2⟩ := (HRx.out _ hb).at_ hlt
          subst hA1 hA2
          have hbs := hb.size
          have hws : w1.heap.size < wr.heap.size := by omega
          have hb1w : b1 < wr.heap.size := cell_lt hc1
          have hb2w : b2 < wr.heap.size := cell_lt hc2
          have hg := HGk.out u hlt
          rw [HXk.out u hlt] at hc2
          by_cases e0 : nth gi u = 0
          · rw [e0] at hc1
            have hM : startC gi t u = 2 ^ (t + 1) - 2 := by unfold startC; rw [e0]; rfl
            rw [hM] at hc2
            obtain ⟨hml, hm64⟩ := HMV.out
            obtain ⟨M, hMM⟩ : ∃ M : Int, M = 2 ^ (t + 1) - 2 := ⟨_, rfl⟩
            rw [← hMM] at hc2 hml hm64
            have HM := Lib.hid (fun w' => implMaskValues M w' hm64)
            have Hml := Lib.hid hml
            have HK := Lib.hid (fun w' (hbx : Below wr.heap.size wr w') => (⟨(hbx.cell (p := ⟨w1.heap.size, 0, none⟩) hws).trans p0, (hbx.cell (p := ⟨w1.heap.size, 1, none⟩) hws).trans p1, (hbx.cell (p := ⟨b1, o1 + u, none⟩) hb1w).trans hc1, (hbx.cell (p := ⟨b2, o2 + u, none⟩) hb2w).trans hc2⟩ : w'.cell? ⟨w1.heap.size, 0, none⟩ = some (.int .i64 (t : Int)) ∧ w'.cell? ⟨w1.heap.size, 1, none⟩ = some (.slice (some ⟨b1, o1, none⟩) X.length c1) ∧ w'.cell? ⟨b1, o1 + u, none⟩ = some (.int .i64 0) ∧ w'.cell? ⟨b2, o2 + u, none⟩ = some (.int .i64 M)))
            clear hM hMM hml hm64 e0 hg
            go_wp2
            refine wp_region_held_drew (S := (fun w' : World => w'.cell? ⟨w1.heap.size, 0, none⟩ = some (.int .i64 (t : Int)) ∧ w'.cell? ⟨w1.heap.size, 1, none⟩ = some (.slice (some ⟨b1, o1, none⟩) X.length c1) ∧ w'.cell? ⟨b1, o1 + u, none⟩ = some (.int .i64 0) ∧ w'.cell? ⟨b2, o2 + u, none⟩ = some (.int .i64 M))) (by kernel_rfl) (HK.out _ ((Below.refl _ _).drew)) (fun hHeld => ?_)
            refine wpAnyH_take (i := 0) (oi := { dst := some 35, op := Op.fieldAddr 26 (Operand.tmp 3) 1, type := 0, pos := "laws.go:582", after := #[], guard := none }) (v := .pointer (some ⟨w1.heap.size, 1, none⟩)) rfl (by kernel_rfl) (by kernel_rfl) (by kernel_rfl) (fun _ _ _ h => h) (Or.inl ⟨by rfl, ?_⟩) (by assumption) ?_
            · intro w' hSw
              obtain ⟨k0, k1, k2, k3⟩ := hSw
              clear hHeld
              go_simp
            simp only [Act.put, List.setIfInBounds_toArray, List.set_cons_zero, List.set_cons_succ]
            refine wpAnyH_take (i := 1) (oi := { dst := some 36, op := Op.load 23 (Operand.tmp 35), type := 23, pos := "laws.go:582", after := #[{ on := 0, ground := Ground.data }], guard := none }) (v := .slice (some ⟨b1, o1, none⟩) X.length c1) rfl (by kernel_rfl) (by kernel_rfl) (by kernel_rfl) (fun _ _ _ h => h) (Or.inl ⟨by rfl, ?_⟩) (by assumption) ?_
            · intro w' hSw
              obtain ⟨k0, k1, k2, k3⟩ := hSw
              clear hHeld
              go_simp
            simp only [Act.put, List.setIfInBounds_toArray, List.set_cons_zero, List.set_cons_succ]
            refine wpAnyH_take (i := 2) (oi := { dst := some 37, op := Op.move (Operand.tmp 5), type := 3, pos := "laws.go:582", after := #[], guard := none }) (v := .int .i64 (u : Int)) rfl (by kernel_rfl) (by kernel_rfl) (by kernel_rfl) (fun _ _ _ h => h) (Or.inl ⟨by rfl, ?_⟩) (by assumption) ?_
            · intro w' hSw
              obtain ⟨k0, k1, k2, k3⟩ := hSw
              clear hHeld
              go_simp
            simp only [Act.put, List.setIfInBounds_toArray, List.set_cons_zero, List.set_cons_succ]
            refine wpAnyH_take (i := 3) (oi := { dst := some 38, op := Op.indexAddr 23 (Operand.tmp 36) (Operand.tmp 37), type := 0, pos := "laws.go:582", after := #[{ on := 1, ground := Ground.data }, { on := 2, ground := Ground.data }], guard := none }) (v := .pointer (some ⟨b1, o1 + u, none⟩)) rfl (by kernel_rfl) (by kernel_rfl) (by kernel_rfl) (fun _ _ _ h => h) (Or.inl ⟨by rfl, ?_⟩) (by assumption) ?_
            · intro w' hSw
              obtain ⟨k0, k1, k2, k3⟩ := hSw
              clear hHeld
              go_simp
            simp only [Act.put, List.setIfInBounds_toArray, List.set_cons_zero, List.set_cons_succ]
            refine wpAnyH_take (i := 4) (oi := { dst := some 39, op := Op.load 3 (Operand.tmp 38), type := 3, pos := "laws.go:582", after := #[{ on := 3, ground := Ground.data }], guard := none }) (v := .int .i64 0) rfl (by kernel_rfl) (by kernel_rfl) (by kernel_rfl) (fun _ _ _ h => h) (Or.inl ⟨by rfl, ?_⟩) (by assumption) ?_
            · intro w' hSw
              obtain ⟨k0, k1, k2, k3⟩ := hSw
              clear hHeld
              go_simp
            simp only [Act.put, List.setIfInBounds_toArray, List.set_cons_zero, List.set_cons_succ]
            refine wpAnyH_take (i := 5) (oi := { dst := some 40, op := Op.binOp BinOp.eql 3 (Operand.tmp 39) (Operand.const (Value.int IntKind.i64 0)) 3, type := 4, pos := "laws.go:582", after := #[{ on := 4, ground := Ground.data }], guard := none }) (v := .bool true) rfl (by kernel_rfl) (by kernel_rfl) (by kernel_rfl) (fun _ _ _ h => h) (Or.inl ⟨by rfl, ?_⟩) (by assumption) ?_
            · intro w' hSw
              obtain ⟨k0, k1, k2, k3⟩ := hSw
              clear hHeld
              go_simp
            simp only [Act.put, List.setIfInBounds_toArray, List.set_cons_zero, List.set_cons_succ]
            refine wpAnyH_take (i := 6) (oi := { dst := some 41, op := Op.move (Operand.tmp 40), type := 4, pos := "laws.go:582", after := #[{ on := 5, ground := Ground.data }], guard := none }) (v := .bool true) rfl (by kernel_rfl) (by kernel_rfl) (by kernel_rfl) (fun _ _ _ h => h) (Or.inl ⟨by rfl, ?_⟩) (by assumption) ?_
            · intro w' hSw
              obtain ⟨k0, k1, k2, k3⟩ := hSw
              clear hHeld
              go_simp
            simp only [Act.put, List.setIfInBounds_toArray, List.set_cons_zero, List.set_cons_succ]
            refine wpAnyH_take (i := 7) (oi := { dst := some 42, op := Op.move (Operand.tmp 4), type := 23, pos := "laws.go:582", after := #[{ on := 6, ground := Ground.guard }], guard := some (6, true) }) (v := .slice (some ⟨b2, o2, none⟩) X.length cx) rfl (by kernel_rfl) (by kernel_rfl) (by kernel_rfl) (fun _ _ _ h => h) (Or.inl ⟨by rfl, ?_⟩) (by assumption) ?_
            · intro w' hSw
              obtain ⟨k0, k1, k2, k3⟩ := hSw
              clear hHeld
              go_simp
            simp only [Act.put, List.setIfInBounds_toArray, List.set_cons_zero, List.set_cons_succ]
            refine wpAnyH_take (i := 8) (oi := { dst := some 43, op := Op.move (Operand.tmp 5), type := 3, pos := "laws.go:582", after := #[{ on := 6, ground := Ground.guard }], guard := some (6, true) }) (v := .int .i64 (u : Int)) rfl (by kernel_rfl) (by kernel_rfl) (by kernel_rfl) (fun _ _ _ h => h) (Or.inl ⟨by rfl, ?_⟩) (by assumption) ?_
            · intro w' hSw
              obtain ⟨k0, k1, k2, k3⟩ := hSw
              clear hHeld
              go_simp
            simp only [Act.put, List.setIfInBounds_toArray, List.set_cons_zero, List.set_cons_succ]
            refine wpAnyH_take (i := 9) (oi := { dst := some 44, op := Op.indexAddr 23 (Operand.tmp 42) (Operand.tmp 43), type := 0, pos := "laws.go:582", after := #[{ on := 7, ground := Ground.data }, { on := 8, ground := Ground.data }, { on := 6, ground := Ground.guard }], guard := some (6, true) }) (v := .pointer (some ⟨b2, o2 + u, none⟩)) rfl (by kernel_rfl) (by kernel_rfl) (by kernel_rfl) (fun _ _ _ h => h) (Or.inl ⟨by rfl, ?_⟩) (by assumption) ?_
            · intro w' hSw
              obtain ⟨k0, k1, k2, k3⟩ := hSw
              clear hHeld
              go_simp
            simp only [Act.put, List.setIfInBounds_toArray, List.set_cons_zero, List.set_cons_succ]
            refine wpAnyH_take (i := 10) (oi := { dst := some 45, op := Op.load 3 (Operand.tmp 44), type := 3, pos := "laws.go:582", after := #[{ on := 9, ground := Ground.data }, { on := 6, ground := Ground.guard }], guard := some (6, true) }) (v := .int .i64 M) rfl (by kernel_rfl) (by kernel_rfl) (by kernel_rfl) (fun _ _ _ h => h) (Or.inl ⟨by rfl, ?_⟩) (by assumption) ?_
            · intro w' hSw
              obtain ⟨k0, k1, k2, k3⟩ := hSw
              clear hHeld
              go_simp
            simp only [Act.put, List.setIfInBounds_toArray, List.set_cons_zero, List.set_cons_succ]
            refine wpAnyH_take (i := 13) (oi := { dst := some 48, op := Op.fieldAddr 26 (Operand.tmp 3) 0, type := 0, pos := "laws.go:582", after := #[{ on := 6, ground := Ground.guard }], guard := some (6, true) }) (v := .pointer (some ⟨w1.heap.size, 0, none⟩)) rfl (by kernel_rfl) (by kernel_rfl) (by kernel_rfl) (fun _ _ _ h => h) (Or.inl ⟨by rfl, ?_⟩) (by assumption) ?_
            · intro w' hSw
              obtain ⟨k0, k1, k2, k3⟩ := hSw
              clear hHeld
              go_simp
            simp only [Act.put, List.setIfInBounds_toArray, List.set_cons_zero, List.set_cons_succ]
            refine wpAnyH_take (i := 14) (oi := { dst := some 49, op := Op.load 3 (Operand.tmp 48), type := 3, pos := "laws.go:582", after := #[{ on := 13, ground := Ground.data }, { on := 6, ground := Ground.guard }], guard := some (6, true) }) (v := .int .i64 (t : Int)) rfl (by kernel_rfl) (by kernel_rfl) (by kernel_rfl) (fun _ _ _ h => h) (Or.inl ⟨by rfl, ?_⟩) (by assumption) ?_
            · intro w' hSw
              obtain ⟨k0, k1, k2, k3⟩ := hSw
              clear hHeld
              go_simp
            simp only [Act.put, List.setIfInBounds_toArray, List.set_cons_zero, List.set_cons_succ]
            refine wpAnyH_ready (rs := [11]) (by kernel_rfl) (by simp) ?_
            refine AllReadyH.cons (o := { dst := some 46, op := Op.call { callee := Callee.value (Operand.func 16), args := #[Operand.tmp 45], argTypes := #[3] }, type := 23, pos := "laws.go:582", after := #[{ on := 10, ground := Ground.data }, { on := 6, ground := Ground.chain }, { on := 6, ground := Ground.guard }], guard := some (6, true) }) rfl (fun K hK => ?_) ?_
            rotate_left
            · exact AllReadyH.nil
            go_simp
            go_at_call 16; refine (HM.out _).mono ?_; rintro e w9 ⟨A9, c9, rfl, ho9, hb9'⟩
            rw [Hml.out]
            have hb9 : Below wr.heap.size wr w9 := ((Below.refl _ _).drew).trans hb9'
            refine hK.out _ _ (HK.out _ hb9) (fun hHeld2 => ?_)
            clear hK K hHeld
            try simp only [Act.put, List.setIfInBounds_toArray, List.set_cons_zero, List.set_cons_succ]
            have hHeld := hHeld2
            clear hHeld2
            refine wpAnyH_take (i := 12) (oi := { dst := some 47, op := Op.call { callee := Callee.builtin Builtin.len, args := #[Operand.tmp 46], argTypes := #[23] }, type := 3, pos := "laws.go:582", after := #[{ on := 11, ground := Ground.data }, { on := 6, ground := Ground.guard }], guard := some (6, true) }) (v := .int .i64 (t : Int)) rfl (by kernel_rfl) (by kernel_rfl) (by kernel_rfl) (fun _ _ _ h => h) (Or.inl ⟨by rfl, ?_⟩) (by assumption) ?_
            · intro w' hSw
              obtain ⟨k0, k1, k2, k3⟩ := hSw
              clear hHeld
              go_simp
            simp only [Act.put, List.setIfInBounds_toArray, List.set_cons_zero, List.set_cons_succ]
            refine wpAnyH_take (i := 15) (oi := { dst := some 50, op := Op.binOp BinOp.neq 3 (Operand.tmp 47) (Operand.tmp 49) 3, type := 4, pos := "laws.go:582", after := #[{ on := 12, ground := Ground.data }, { on := 14, ground := Ground.data }, { on := 6, ground := Ground.guard }], guard := some (6, true) }) (v := .bool false) rfl (by kernel_rfl) (by kernel_rfl) (by kernel_rfl) (fun _ _ _ h => h) (Or.inl ⟨by rfl, ?_⟩) (by assumption) ?_
            · intro w' hSw
              obtain ⟨k0, k1, k2, k3⟩ := hSw
              clear hHeld
              go_simp
            simp only [Act.put, List.setIfInBounds_toArray, List.set_cons_zero, List.set_cons_succ]
            refine wpAnyH_take (i := 16) (oi := { dst := some 51, op := Op.pick (Operand.tmp 41) (Operand.tmp 50) (Operand.const (Value.bool false)), type := 4, pos := "laws.go:582", after := #[{ on := 6, ground := Ground.data }, { on := 15, ground := Ground.data }], guard := none }) (v := .bool false) rfl (by kernel_rfl) (by kernel_rfl) (by kernel_rfl) (fun _ _ _ h => h) (Or.inl ⟨by rfl, ?_⟩) (by assumption) ?_
            · intro w' hSw
              obtain ⟨k0, k1, k2, k3⟩ := hSw
              clear hHeld
              go_simp
            simp only [Act.put, List.setIfInBounds_toArray, List.set_cons_zero, List.set_cons_succ]
            refine wpAnyH_take (i := 17) (oi := { dst := some 52, op := Op.move (Operand.tmp 51), type := 4, pos := "laws.go:582", after := #[{ on := 16, ground := Ground.data }, { on := 11, ground := Ground.chain }], guard := none }) (v := .bool false) rfl (by kernel_rfl) (by kernel_rfl) (by kernel_rfl) (fun _ _ _ h => h) (Or.inl ⟨by rfl, ?_⟩) (by assumption) ?_
            · intro w' hSw
              obtain ⟨k0, k1, k2, k3⟩ := hSw
              clear hHeld
              go_simp
            simp only [Act.put, List.setIfInBounds_toArray, List.set_cons_zero, List.set_cons_succ]
            refine wpAnyH_take (i := 18) (oi := { dst := some 53, op := Op.fieldAddr 26 (Operand.tmp 3) 1, type := 0, pos := "laws.go:582", after := #[{ on := 17, ground := Ground.guard }], guard := some (17, false) }) (v := .pointer (some ⟨w1.heap.size, 1, none⟩)) rfl (by kernel_rfl) (by kernel_rfl) (by kernel_rfl) (fun _ _ _ h => h) (Or.inl ⟨by rfl, ?_⟩) (by assumption) ?_
            · intro w' hSw
              obtain ⟨k0, k1, k2, k3⟩ := hSw
              clear hHeld
              go_simp
            simp only [Act.put, List.setIfInBounds_toArray, List.set_cons_zero, List.set_cons_succ]
            refine wpAnyH_take (i := 19) (oi := { dst := some 54, op := Op.load 23 (Operand.tmp 53), type := 23, pos := "laws.go:582", after := #[{ on := 18, ground := Ground.data }, { on := 17, ground := Ground.guard }], guard := some (17, false) }) (v := .slice (some ⟨b1, o1, none⟩) X.length c1) rfl (by kernel_rfl) (by kernel_rfl) (by kernel_rfl) (fun _ _ _ h => h) (Or.inl ⟨by rfl, ?_⟩) (by assumption) ?_
            · intro w' hSw
              obtain ⟨k0, k1, k2, k3⟩ := hSw
              clear hHeld
              go_simp
            simp only [Act.put, List.setIfInBounds_toArray, List.set_cons_zero, List.set_cons_succ]
            refine wpAnyH_take (i := 20) (oi := { dst := some 55, op := Op.move (Operand.tmp 5), type := 3, pos := "laws.go:582", after := #[{ on := 17, ground := Ground.guard }], guard := some (17, false) }) (v := .int .i64 (u : Int)) rfl (by kernel_rfl) (by kernel_rfl) (by kernel_rfl) (fun _ _ _ h => h) (Or.inl ⟨by rfl, ?_⟩) (by assumption) ?_
            · intro w' hSw
              obtain ⟨k0, k1, k2, k3⟩ := hSw
              clear hHeld
              go_simp
            simp only [Act.put, List.setIfInBounds_toArray, List.set_cons_zero, List.set_cons_succ]
            refine wpAnyH_take (i := 21) (oi := { dst := some 56, op := Op.indexAddr 23 (Operand.tmp 54) (Operand.tmp 55), type := 0, pos := "laws.go:582", after := #[{ on := 19, ground := Ground.data }, { on := 20, ground := Ground.data }, { on := 17, ground := Ground.guard }], guard := some (17, false) }) (v := .pointer (some ⟨b1, o1 + u, none⟩)) rfl (by kernel_rfl) (by kernel_rfl) (by kernel_rfl) (fun _ _ _ h => h) (Or.inl ⟨by rfl, ?_⟩) (by assumption) ?_
            · intro w' hSw
              obtain ⟨k0, k1, k2, k3⟩ := hSw
              clear hHeld
              go_simp
            simp only [Act.put, List.setIfInBounds_toArray, List.set_cons_zero, List.set_cons_succ]
            refine wpAnyH_take (i := 22) (oi := { dst := some 57, op := Op.load 3 (Operand.tmp 56), type := 3, pos := "laws.go:582", after := #[{ on := 21, ground := Ground.data }, { on := 17, ground := Ground.guard }], guard := some (17, false) }) (v := .int .i64 0) rfl (by kernel_rfl) (by kernel_rfl) (by kernel_rfl) (fun _ _ _ h => h) (Or.inl ⟨by rfl, ?_⟩) (by assumption) ?_
            · intro w' hSw
              obtain ⟨k0, k1, k2, k3⟩ := hSw
              clear hHeld
              go_simp
            simp only [Act.put, List.setIfInBounds_toArray, List.set_cons_zero, List.set_cons_succ]
            refine wpAnyH_take (i := 23) (oi := { dst := some 58, op := Op.binOp BinOp.gtr 3 (Operand.tmp 57) (Operand.const (Value.int IntKind.i64 0)) 3, type := 4, pos := "laws.go:582", after := #[{ on := 22, ground := Ground.data }, { on := 17, ground := Ground.guard }], guard := some (17, false) }) (v := .bool false) rfl (by kernel_rfl) (by kernel_rfl) (by kernel_rfl) (fun _ _ _ h => h) (Or.inl ⟨by rfl, ?_⟩) (by assumption) ?_
            · intro w' hSw
              obtain ⟨k0, k1, k2, k3⟩ := hSw
              clear hHeld
              go_simp
            simp only [Act.put, List.setIfInBounds_toArray, List.set_cons_zero, List.set_cons_succ]
            refine wpAnyH_take (i := 24) (oi := { dst := some 59, op := Op.move (Operand.tmp 58), type := 4, pos := "laws.go:582", after := #[{ on := 23, ground := Ground.data }, { on := 17, ground := Ground.chain }, { on := 17, ground := Ground.guard }], guard := some (17, false) }) (v := .bool false) rfl (by kernel_rfl) (by kernel_rfl) (by kernel_rfl) (fun _ _ _ h => h) (Or.inl ⟨by rfl, ?_⟩) (by assumption) ?_
            · intro w' hSw
              obtain ⟨k0, k1, k2, k3⟩ := hSw
              clear hHeld
              go_simp
            simp only [Act.put, List.setIfInBounds_toArray, List.set_cons_zero, List.set_cons_succ]
            refine wpAnyH_take (i := 25) (oi := { dst := some 60, op := Op.move (Operand.tmp 4), type := 23, pos := "laws.go:582", after := #[{ on := 24, ground := Ground.guard }], guard := some (24, true) }) (v := undef) rfl (by kernel_rfl) (by kernel_rfl) (by kernel_rfl) (fun _ _ _ h => h) (Or.inr ⟨by rfl, rfl⟩) (by assumption) ?_
            simp only [Act.put, List.setIfInBounds_toArray, List.set_cons_zero, List.set_cons_succ]
            refine wpAnyH_take (i := 26) (oi := { dst := some 61, op := Op.move (Operand.tmp 5), type := 3, pos := "laws.go:582", after := #[{ on := 24, ground := Ground.guard }], guard := some (24, true) }) (v := undef) rfl (by kernel_rfl) (by kernel_rfl) (by kernel_rfl) (fun _ _ _ h => h) (Or.inr ⟨by rfl, rfl⟩) (by assumption) ?_
            simp only [Act.put, List.setIfInBounds_toArray, List.set_cons_zero, List.set_cons_succ]
            refine wpAnyH_take (i := 27) (oi := { dst := some 62, op := Op.indexAddr 23 (Operand.tmp 60) (Operand.tmp 61), type := 0, pos := "laws.go:582", after := #[{ on := 25, ground := Ground.data }, { on := 26, ground := Ground.data }, { on := 24, ground := Ground.guard }], guard := some (24, true) }) (v := undef) rfl (by kernel_rfl) (by kernel_rfl) (by kernel_rfl) (fun _ _ _ h => h) (Or.inr ⟨by rfl, rfl⟩) (by assumption) ?_
            simp only [Act.put, List.setIfInBounds_toArray, List.set_cons_zero, List.set_cons_succ]
            refine wpAnyH_take (i := 28) (oi := { dst := some 63, op := Op.load 3 (Operand.tmp 62), type := 3, pos := "laws.go:582", after := #[{ on := 27, ground := Ground.data }, { on := 24, ground := Ground.guard }], guard := some (24, true) }) (v := undef) rfl (by kernel_rfl) (by kernel_rfl) (by kernel_rfl) (fun _ _ _ h => h) (Or.inr ⟨by rfl, rfl⟩) (by assumption) ?_
            simp only [Act.put, List.setIfInBounds_toArray, List.set_cons_zero, List.set_cons_succ]
            refine wpAnyH_take (i := 29) (oi := { dst := some 64, op := Op.fieldAddr 26 (Operand.tmp 3) 1, type := 0, pos := "laws.go:582", after := #[{ on := 24, ground := Ground.guard }], guard := some (24, true) }) (v := undef) rfl (by kernel_rfl) (by kernel_rfl) (by kernel_rfl) (fun _ _ _ h => h) (Or.inr ⟨by rfl, rfl⟩) (by assumption) ?_
            simp only [Act.put, List.setIfInBounds_toArray, List.set_cons_zero, List.set_cons_succ]
            refine wpAnyH_take (i := 30) (oi := { dst := some 65, op := Op.load 23 (Operand.tmp 64), type := 23, pos := "laws.go:582", after := #[{ on := 29, ground := Ground.data }, { on := 24, ground := Ground.guard }], guard := some (24, true) }) (v := undef) rfl (by kernel_rfl) (by kernel_rfl) (by kernel_rfl) (fun _ _ _ h => h) (Or.inr ⟨by rfl, rfl⟩) (by assumption) ?_
            simp only [Act.put, List.setIfInBounds_toArray, List.set_cons_zero, List.set_cons_succ]
            refine wpAnyH_take (i := 31) (oi := { dst := some 66, op := Op.move (Operand.tmp 5), type := 3, pos := "laws.go:582", after := #[{ on := 24, ground := Ground.guard }], guard := some (24, true) }) (v := undef) rfl (by kernel_rfl) (by kernel_rfl) (by kernel_rfl) (fun _ _ _ h => h) (Or.inr ⟨by rfl, rfl⟩) (by assumption) ?_
            simp only [Act.put, List.setIfInBounds_toArray, List.set_cons_zero, List.set_cons_succ]
            refine wpAnyH_take (i := 32) (oi := { dst := some 67, op := Op.indexAddr 23 (Operand.tmp 65) (Operand.tmp 66), type := 0, pos := "laws.go:582", after := #[{ on := 30, ground := Ground.data }, { on := 31, ground := Ground.data }, { on := 24, ground := Ground.guard }], guard := some (24, true) }) (v := undef) rfl (by kernel_rfl) (by kernel_rfl) (by kernel_rfl) (fun _ _ _ h => h) (Or.inr ⟨by rfl, rfl⟩) (by assumption) ?_
            simp only [Act.put, List.setIfInBounds_toArray, List.set_cons_zero, List.set_cons_succ]
            refine wpAnyH_take (i := 33) (oi := { dst := some 68, op := Op.load 3 (Operand.tmp 67), type := 3, pos := "laws.go:582", after := #[{ on := 32, ground := Ground.data }, { on := 24, ground := Ground.guard }], guard := some (24, true) }) (v := undef) rfl (by kernel_rfl) (by kernel_rfl) (by kernel_rfl) (fun _ _ _ h => h) (Or.inr ⟨by rfl, rfl⟩) (by assumption) ?_
            simp only [Act.put, List.setIfInBounds_toArray, List.set_cons_zero, List.set_cons_succ]
            refine wpAnyH_take (i := 34) (oi := { dst := some 69, op := Op.binOp BinOp.shl 3 (Operand.const (Value.int IntKind.i64 1)) (Operand.tmp 68) 3, type := 3, pos := "laws.go:582", after := #[{ on := 33, ground := Ground.data }, { on := 24, ground := Ground.guard }], guard := some (24, true) }) (v := undef) rfl (by kernel_rfl) (by kernel_rfl) (by kernel_rfl) (fun _ _ _ h => h) (Or.inr ⟨by rfl, rfl⟩) (by assumption) ?_
            simp only [Act.put, List.setIfInBounds_toArray, List.set_cons_zero, List.set_cons_succ]
            refine wpAnyH_take (i := 35) (oi := { dst := some 70, op := Op.binOp BinOp.neq 3 (Operand.tmp 63) (Operand.tmp 69) 3, type := 4, pos := "laws.go:582", after := #[{ on := 28, ground := Ground.data }, { on := 34, ground := Ground.data }, { on := 24, ground := Ground.guard }], guard := some (24, true) }) (v := undef) rfl (by kernel_rfl) (by kernel_rfl) (by kernel_rfl) (fun _ _ _ h => h) (Or.inr ⟨by rfl, rfl⟩) (by assumption) ?_
            simp only [Act.put, List.setIfInBounds_toArray, List.set_cons_zero, List.set_cons_succ]
            refine wpAnyH_take (i := 36) (oi := { dst := some 71, op := Op.pick (Operand.tmp 59) (Operand.tmp 70) (Operand.const (Value.bool false)), type := 4, pos := "laws.go:582", after := #[{ on := 24, ground := Ground.data }, { on := 35, ground := Ground.data }, { on := 17, ground := Ground.guard }], guard := some (17, false) }) (v := .bool false) rfl (by kernel_rfl) (by kernel_rfl) (by kernel_rfl) (fun _ _ _ h => h) (Or.inl ⟨by rfl, ?_⟩) (by assumption) ?_
            · intro w' hSw
              obtain ⟨k0, k1, k2, k3⟩ := hSw
              clear hHeld
              go_simp
            simp only [Act.put, List.setIfInBounds_toArray, List.set_cons_zero, List.set_cons_succ]
            refine wpAnyH_take (i := 37) (oi := { dst := some 72, op := Op.pick (Operand.tmp 52) (Operand.const (Value.bool true)) (Operand.tmp 71), type := 4, pos := "laws.go:582", after := #[{ on := 17, ground := Ground.data }, { on := 36, ground := Ground.data }], guard := none }) (v := .bool false) rfl (by kernel_rfl) (by kernel_rfl) (by kernel_rfl) (fun _ _ _ h => h) (Or.inl ⟨by rfl, ?_⟩) (by assumption) ?_
            · intro w' hSw
              obtain ⟨k0, k1, k2, k3⟩ := hSw
              clear hHeld
              go_simp
            simp only [Act.put, List.setIfInBounds_toArray, List.set_cons_zero, List.set_cons_succ]
            refine wpAnyH_done (by kernel_rfl) ?_ _
            all_goals
              go_wp2
              go_roundw
              case rel => exact ⟨u + 1, by omega, by go_num, step hb hb9⟩
              case measure => simp [intOf]; omega
          · have hv4 : nth gi u = 1 ∨ nth gi u = 2 ∨ nth gi u = 3 ∨ nth gi u = 4 := by omega
            have hC : startC gi t u = 2 ^ (nth gi u).toNat := by unfold startC; rw [if_pos (by omega)]
            rw [hC] at hc2
            clear hC e0 hg
            rcases hv4 with e | e | e | e
            all_goals
              rw [e] at hc1 hc2
              clear e
              first
                | (have hc2 : wr.cell? ⟨b2, o2 + u, none⟩ = some (.int .i64 2) := hc2)
                | (have hc2 : wr.cell? ⟨b2, o2 + u, none⟩ = some (.int .i64 4) := hc2)
                | (have hc2 : wr.cell? ⟨b2, o2 + u, none⟩ = some (.int .i64 8) := hc2)
                | (have hc2 : wr.cell? ⟨b2, o2 + u, none⟩ = some (.int .i64 16) := hc2)
              go_wp2
              go_quiet (fail)
              go_wp2
              go_roundw
              case rel => exact ⟨u + 1, by omega, by go_num, below_drewN hb _⟩
              case measure => simp [intOf]; omega
        · obtain rfl : u = X.length := by omega
          have HV2 := Lib.hid (fun w' (hbx : Below w5.heap.size w5 w') => by
            have := implMasksValid Ax cx X.length w2.heap.size X t w' (HRx.out _ hbx) HX64.out (Nat.le_trans hB2 hbx.size) hn40 Hsb.out
            rw [HXv.out] at this
            exact this)
          have HH2 := Lib.hid (fun w' (hbx : Below w5.heap.size w5 w') (Ag : Option Addr) (cg ng Bg : Nat) (hg : Rd w' Bg Ag ng FL) (hB : Bg ≤ w'.heap.size) (hm : ng ≤ 1099511627776) => implMasksHave Ax cx X.length w2.heap.size X t Ag cg ng Bg FL w' (HRx.out _ hbx) HX64.out (Nat.le_trans hB2 hbx.size) hn40 hg hB hm Hsb.out)
          cases bb
          · go_wp2_with (first
              | (go_at_call 17; refine (HSF.out _ (step H5.out hb)).mono ?_; rintro e w6 ⟨A6, m6, c6, rfl, hm6, ho6, hb6⟩; have h56 := step hb hb6; obtain ⟨r0, r1, r2⟩ := HX.out _ (step H5.out h56))
              | (go_at_call 18; refine (HV2.out _ h56).mono ?_; rintro e w7 ⟨rfl, hb7⟩; have h57 := step h56 hb7))
            go_ret
            exact ⟨by trivial, HB.out _ (step H5.out h57)⟩
          · have Hmh := Lib.hid (HMH.out rfl)
            go_wp2_with (first
              | (go_at_call 17; refine (HSF.out _ (step H5.out hb)).mono ?_; rintro e w6 ⟨A6, m6, c6, rfl, hm6, ho6, hb6⟩; have h56 := step hb hb6; have Hm6 := Lib.hid (hm6 (by trivial)); clear hm6; obtain ⟨r0, r1, r2⟩ := HX.out _ (step H5.out h56))
              | (go_at_call 18; refine (HV2.out _ h56).mono ?_; rintro e w7 ⟨rfl, hb7⟩; have h57 := step h56 hb7; have hr7 := ho6.rd.below hb7; have hB7 := hb7.size; obtain ⟨q0, q1, q2⟩ := HX.out _ (step H5.out h57))
              | (go_at_call 19; refine (HH2.out _ h57 _ _ _ _ hr7 hB7 (by have := Hm6.out; omega)).mono ?_; rintro e w8 ⟨rfl, hb8⟩; rw [Hmh.out]; have h58 := step h57 hb8))
            go_ret
            exact ⟨by trivial, HB.out _ (step H5.out h58)⟩
  · go_enter Tryd.func3, Tryd.ntmps3
    go_wp2
    go_ret
    exact ⟨rfl, Below.refl _ _⟩
end Go.Proofs.YtjdhfknoldginaaDoor
