import Derived.Test.YtmnacejmkjhpnaaFm
namespace Go.Proofs.Ytmnacejmkjhpnaa
open Go.ChangeShapes Go.WideShapes Go.ChangeAt Go.RowKit

set_option maxHeartbeats 1000000 in
theorem fill_any (P G n s : Nat) (hs : s ∈ [2, 3, 4]) (hn : n = s * s) (f : Nat) : ∀ (xs ys : List Int) (p : Nat) (sk : Int) (w : World),
    p + f = n → xs.length = n → Hid (okAll xs s n) → Hid (zfrom xs p n) → clash xs s = false → agree ys xs p → SB w P G n s sk ys → 0 ≤ sk → sk ≤ 9223372036854775807 →
    Calls Try.prog 75 #[.pointer (some ⟨P, 0, none⟩), .int .i64 p, .agg (mcells (lmask xs s p) s)] w (FillPost w P G n s xs p (srch s f xs p sk)) := by
  have hs2 : 2 ≤ s := by simp at hs; omega
  have hs4 : s ≤ 4 := by simp at hs; omega
  have hn16 : n ≤ 16 := by simp at hs; rcases hs with rfl | rfl | rfl <;> omega
  have Hn := Lib.hid hn; clear hn
  induction f with
  | zero =>
    intro xs ys p sk w hp hl hok hz hcl hag hS k0 k1
    obtain rfl : p = n := by omega
    have hnn : ((p : Int) == (p : Int)) = true := by simp
    have hys : ys = xs := ext_nth (by rw [hS.2.2.1, hl]) (fun k hk => hag k (by rw [hS.2.2.1] at hk; exact hk))
    subst hys
    have Hl := Lib.hid hl; clear hl
    have Hcl := Lib.hid hcl; clear hcl
    have hB := (Below.refl w.heap.size w).alloc (Nat.le_refl _) (.cells (mcells (lmask ys s p) s) 54)
    have hS1 := hS.below hB hS.ltP hS.ltG
    have hS2 := hS1.setP (sk - 1)
    have hC : Chg w ((w.alloc (.cells (mcells (lmask ys s p) s) 54)).setCell ⟨P, 2, none⟩ (.int .i64 (sk - 1))) P G := (Chg.ofBelow hB).trans (Chg.setP _ P G 2 _)
    have a0 := hS1.c0
    have a2 := hS1.c2
    have a3 := hS1.f2
    have b2 := hS2.c2
    have HS2 := Lib.hid hS2; clear hS2
    by_cases h0 : sk = 0
    · have hsr := Lib.hid (show srch s 0 ys p sk = (some ys, sk) by rw [srch, if_pos h0])
      have hlt : sk - 1 < 0 := by omega
      clear h0
      go_enter Try.func75, Try.ntmps75
      go_wp2
      go_ret
      rw [hsr.out]
      exact ⟨hC, rfl, _, HS2.out⟩
    · have hsr := Lib.hid (show srch s 0 ys p sk = (none, sk - 1) by rw [srch, if_neg h0])
      have hlt : ¬ sk - 1 < 0 := by omega
      clear h0
      go_enter Try.func75, Try.ntmps75
      go_wp2
      go_ret
      rw [hsr.out]
      exact ⟨hC, rfl, _, HS2.out, fun _ _ => rfl⟩
  | succ f ih =>
    intro xs ys p sk w hp hl hok hz hcl hag hS k0 k1
    have hpn : p < n := by omega
    have hpp : ((p : Int) == (n : Int)) = false := by simp; omega
    have Hp := Lib.hid (show (p + 1) + f = n by omega)
    clear hp
    have Ih := Lib.hid ih; clear ih
    have Hl := Lib.hid hl; clear hl
    have Hc0 := Lib.hid hcl; clear hcl
    have Hag := Lib.hid hag; clear hag
    have hT := Lib.hid (show srch s (f + 1) xs p sk = tryFrom (fun ys l => srch s f ys (p + 1) l) xs s p (s + 1 - 1) 1 sk from by rw [srch, Int.toNat_natCast]; rfl)
    have Hi9 := Lib.hid (show (Try.prog.info? 54).map (·.size) = some (mcells (lmask xs s p) s).size by rw [mcells_size]; kernel_rfl)
    obtain ⟨hr8, hc8⟩ := rc_lt s hs p (by have := Hn.out; omega)
    have Hr : Hid ((p : Int) / (s : Int) = ((p / s : Nat) : Int)) := Lib.hid (by simp)
    have Hc : Hid ((s : Int) + (p : Int) % (s : Int) = ((s + p % s : Nat) : Int)) := Lib.hid (by simp)
    have Hm := Lib.hid (lmask_lt (xs := xs) (by omega : (s : Int) ≤ 4) hok.out p (by omega))
    have hB := (Below.refl w.heap.size w).alloc (Nat.le_refl _) (.cells (mcells (lmask xs s p) s) 54)
    have hS1 := hS.below hB hS.ltP hS.ltG
    have hx1 : Hid (MBox (w.alloc (.cells (mcells (lmask xs s p) s) 54)) w.heap.size (lmask xs s p) s) := Lib.hid (heap_alloc_new _ _)
    have hPw := hS.ltP
    have hGw := hS.ltG
    have hC1 : Chg w (w.alloc (.cells (mcells (lmask xs s p) s) 54)) P G := Chg.ofBelow hB
    have a0 := hS1.c0
    clear hS hB
    go_enter Try.func75, Try.ntmps75
    go_wp2
    go_loopw [7] (fun i wr => ∃ (v : Nat) (l : Int) (zs : List Int), 1 ≤ v ∧ v ≤ s + 1 ∧ i = .int .i64 v ∧ Hid (srch s (f + 1) xs p sk = tryFrom (fun ys l => srch s f ys (p + 1) l) xs s p (s + 1 - v) v l) ∧ Chg w wr P G ∧ SB wr P G n s l zs ∧ Hid (agree zs xs p) ∧ Hid (MBox wr w.heap.size (lmask xs s p) s) ∧ 0 ≤ l ∧ l ≤ 9223372036854775807) (fun i _ => (s + 1 - intOf i).toNat)
    case atStart => exact ⟨1, sk, ys, by omega, by omega, rfl, hT, hC1, hS1, Hag, hx1, k0, k1⟩
    case round =>
      clear a0 hS1 hx1 hC1 hT
      obtain ⟨v, l, zs, v1, v2, rfl, hS', hC, hS, hag, hx, l0, l1⟩ := hrel
      have a1 := hS.c1
      by_cases hlt : v ≤ s
      · have Hcl := Lib.hid (clash_put hs Hn.out Hl.out hok.out hz.out Hc0.out hpn v1 hlt)
        have Hr2 := Lib.hid (show s + 1 - v = (s - v) + 1 by omega)
        have Hr3 := Lib.hid (show s - v = s + 1 - (v + 1) by omega)
        have HS' := Lib.hid (show srch s (f + 1) xs p sk = tryFrom (fun ys l => srch s f ys (p + 1) l) xs s p ((s - v) + 1) v l by rw [← Hr2.out]; exact hS'.out)
        clear hS'
        cases hcc : clash (xs.set p (v : Int)) s
        · have Hlm := Lib.hid (lmask_put (s := s) Hl.out hpn v1)
          have hok2 := Lib.hid (okAll_set hok.out Hl.out hpn (by omega : (0 : Int) ≤ (v : Int)) (by omega : (v : Int) ≤ s))
          have hz2 := Lib.hid (zfrom_set (v := (v : Int)) hz.out Hl.out hpn)
          have Hl2 := Lib.hid (show (xs.set p (v : Int)).length = n by rw [List.length_set]; exact Hl.out)
          have hag2 : Hid (agree (zs.set p (v : Int)) (xs.set p (v : Int)) (p + 1)) := Lib.hid (fun j hj => by
            rw [nth_set (by rw [hS.2.2.1]; exact hpn), nth_set (by rw [Hl.out]; exact hpn)]
            split
            · rfl
            · exact hag.out j (by omega))
          have hagx := Lib.hid (agree_set xs (v : Int) Hl.out hpn)
          cases hrr : srch s f (xs.set p (v : Int)) (p + 1) l with
          | mk o l2 =>
            have Hrr := Lib.hid hrr
            obtain ⟨bd0, bd1⟩ : 0 ≤ l2 ∧ l2 ≤ l := by
              have hbd := srch_bd (size := s) (f := f) (xs := xs.set p (v : Int)) (p := p + 1) l0
              rw [hrr] at hbd
              exact hbd
            clear hrr
            have Hcc := Lib.hid hcc
            cases o with
            | none =>
              have Hno := Lib.hid (tryFrom_none (rec := fun ys l => srch s f ys (p + 1) l) (r := s - v) hcc Hrr.out)
              go_wp2_with (first | (refine wpList_load_row rfl 54 _ rfl w.heap.size rfl 54 (mcells (lmask xs s p) s) (0, 0) _ hx.out Try.underlying54 rfl Hi9.out ?_) | (go_at_call 84; refine (meets_any (lmask xs s p) s p (p / s) (s + p % s) v _ (by omega) (by omega) Hr.out Hc.out hr8 hc8 (by omega) (by omega) Hm.out).mono ?_; rintro e w1 ⟨rfl, hb1⟩; rw [← Hcl.out]; have hS1 := hS.below hb1 hS.ltP hS.ltG; have hx1 := Lib.hid (MBox.below hx.out hx.out.lt hb1); have hC1 := hC.trans (Chg.ofBelow hb1); clear hb1; rw [Hcc.out]; have a0 := hS1.c0; obtain ⟨g1, g2⟩ := hS1.g hpn; have hS2 := Lib.hid (hS1.setG p (v : Int)); have hC2 := hC1.trans (Chg.setG _ P G p (.int .i64 (v : Int))); have hx2 := Lib.hid (MBox.other (k := p) (v := .int .i64 (v : Int)) hx1.out (show w.heap.size ≠ G by omega))) | (refine wpList_load_row rfl 54 _ rfl w.heap.size rfl 54 (mcells (lmask xs s p) s) (0, 0) _ hx2.out Try.underlying54 rfl Hi9.out ?_) | (go_at_call 85; refine (with_any (lmask xs s p) s p (p / s) (s + p % s) v _ (by omega) (by omega) Hr.out Hc.out hr8 hc8 (by omega) (by omega) Hm.out).mono ?_; rintro e w3 ⟨rfl, hb3⟩; rw [← Hlm.out]; have hS3 := hS2.out.below hb3 (by have := hS2.out.ltP; exact this) (by have := hS2.out.ltG; exact this); have hx3 := Lib.hid (MBox.below hx2.out hx2.out.lt hb3); have hC3 := hC2.trans (Chg.ofBelow hb3); clear hb3) | (go_at_call 75; rw [show ((p : Int) + 1) = ((p + 1 : Nat) : Int) from by omega]; refine (Ih.out _ _ (p + 1) l _ Hp.out Hl2.out hok2 hz2 Hcc.out hag2.out hS3 l0 l1).mono ?_; rintro e w4 hpost; rw [Hrr.out] at hpost; obtain ⟨hC4, rfl, zs4, hS4, hag4⟩ := hpost))
              have hx4 := Lib.hid (hC4.mbox hx3.out (by omega) (by omega))
              go_roundw
              case rel => exact ⟨v + 1, l2, zs4, by omega, by omega, by go_num, by rw [← Hr3.out]; exact Lib.hid (HS'.out.trans Hno.out), hC3.trans hC4, hS4, Lib.hid (fun j hj => (hag4 j (by omega)).trans (hagx.out j hj)), hx4, bd0, by omega⟩
              case measure => simp [intOf]; omega
            | some y =>
              have Hno := Lib.hid (tryFrom_some (rec := fun ys l => srch s f ys (p + 1) l) (r := s - v) hcc Hrr.out)
              go_wp2_with (first | (refine wpList_load_row rfl 54 _ rfl w.heap.size rfl 54 (mcells (lmask xs s p) s) (0, 0) _ hx.out Try.underlying54 rfl Hi9.out ?_) | (go_at_call 84; refine (meets_any (lmask xs s p) s p (p / s) (s + p % s) v _ (by omega) (by omega) Hr.out Hc.out hr8 hc8 (by omega) (by omega) Hm.out).mono ?_; rintro e w1 ⟨rfl, hb1⟩; rw [← Hcl.out]; have hS1 := hS.below hb1 hS.ltP hS.ltG; have hx1 := Lib.hid (MBox.below hx.out hx.out.lt hb1); have hC1 := hC.trans (Chg.ofBelow hb1); clear hb1; rw [Hcc.out]; have a0 := hS1.c0; obtain ⟨g1, g2⟩ := hS1.g hpn; have hS2 := Lib.hid (hS1.setG p (v : Int)); have hC2 := hC1.trans (Chg.setG _ P G p (.int .i64 (v : Int))); have hx2 := Lib.hid (MBox.other (k := p) (v := .int .i64 (v : Int)) hx1.out (show w.heap.size ≠ G by omega))) | (refine wpList_load_row rfl 54 _ rfl w.heap.size rfl 54 (mcells (lmask xs s p) s) (0, 0) _ hx2.out Try.underlying54 rfl Hi9.out ?_) | (go_at_call 85; refine (with_any (lmask xs s p) s p (p / s) (s + p % s) v _ (by omega) (by omega) Hr.out Hc.out hr8 hc8 (by omega) (by omega) Hm.out).mono ?_; rintro e w3 ⟨rfl, hb3⟩; rw [← Hlm.out]; have hS3 := hS2.out.below hb3 (by have := hS2.out.ltP; exact this) (by have := hS2.out.ltG; exact this); have hx3 := Lib.hid (MBox.below hx2.out hx2.out.lt hb3); have hC3 := hC2.trans (Chg.ofBelow hb3); clear hb3) | (go_at_call 75; rw [show ((p : Int) + 1) = ((p + 1 : Nat) : Int) from by omega]; refine (Ih.out _ _ (p + 1) l _ Hp.out Hl2.out hok2 hz2 Hcc.out hag2.out hS3 l0 l1).mono ?_; rintro e w4 hpost; rw [Hrr.out] at hpost; obtain ⟨hC4, rfl, sk4, hS4⟩ := hpost))
              go_ret
              rw [HS'.out, Hno.out]
              exact ⟨hC3.trans hC4, rfl, sk4, hS4⟩
        · have Hno := Lib.hid (tryFrom_clash (rec := fun ys l => srch s f ys (p + 1) l) (r := s - v) (l := l) hcc)
          have Hcc := Lib.hid hcc
          clear hcc
          go_wp2_with (first | (refine wpList_load_row rfl 54 _ rfl w.heap.size rfl 54 (mcells (lmask xs s p) s) (0, 0) _ hx.out Try.underlying54 rfl Hi9.out ?_) | (go_at_call 84; refine (meets_any (lmask xs s p) s p (p / s) (s + p % s) v _ (by omega) (by omega) Hr.out Hc.out hr8 hc8 (by omega) (by omega) Hm.out).mono ?_; rintro e w1 ⟨rfl, hb1⟩; rw [← Hcl.out]; have hS1 := hS.below hb1 hS.ltP hS.ltG; have hx1 := Lib.hid (MBox.below hx.out hx.out.lt hb1); have hC1 := hC.trans (Chg.ofBelow hb1); clear hb1; rw [Hcc.out]))
          go_roundw
          case rel => exact ⟨v + 1, l, zs, by omega, by omega, by go_num, by rw [← Hr3.out]; exact Lib.hid (HS'.out.trans Hno.out), hC1, hS1, hag, hx1, l0, l1⟩
          case measure => simp [intOf]; omega
      · go_wp2
        go_ret
        have e : s + 1 - v = 0 := by omega
        rw [hS'.out, e]
        exact ⟨hC, rfl, zs, hS, hag.out⟩
end Go.Proofs.Ytmnacejmkjhpnaa
