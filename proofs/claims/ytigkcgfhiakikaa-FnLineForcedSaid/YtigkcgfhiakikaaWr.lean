import Derived.Test.YtigkcgfhiakikaaWq
import Derived.Deep.CutRange
import Derived.Deep.CutBlock
set_option maxRecDepth 8000
namespace Go.Proofs.Ytigkcgfhiakikaa
open Go.ChangeShapes Go.WideShapes Go.ChangeAt Go.RowKit
theorem two_a {wr w4 : World} {A4 : Option Addr} {c4 n b off B : Nat} {ks : List Int} (hr : Rd wr B (some ⟨b, off, none⟩) n ks) (hB : B ≤ wr.heap.size) (hn : 0 < n) (ho4 : Ow w4 wr.heap.size A4 n c4 ks) (hg4 : (wr.alloc (.cells #[] 3)).grownBy w4 (Value.slice (some ⟨wr.heap.size, 0, none⟩) 0 0).ownBlock) :
    Below wr.heap.size wr w4 ∧ (∃ g4, A4 = some ⟨g4, 0, none⟩ ∧ wr.heap.size ≤ g4 ∧ g4 < w4.heap.size) ∧ Hid (Ow (w4.alloc (.cells #[] 3)) w4.heap.size (some ⟨w4.heap.size, 0, none⟩) 0 0 []) ∧ Hid (Rd (w4.alloc (.cells #[] 3)) B (some ⟨b, off, none⟩) n ks) ∧ w4.heap.size ≤ (w4.alloc (.cells #[] 3)).heap.size := by
  have hbA : Below wr.heap.size wr (wr.alloc (.cells #[] 3)) := (Below.refl _ _).alloc (Nat.le_refl _) _
  have hb4 : Below wr.heap.size wr w4 := hbA.grown hg4 hbA.size (fun k hk => (Ow.made0 wr wr.heap.size (Nat.le_refl _)).own_lo k hk)
  obtain ⟨g4, e4, l4, s4⟩ := ho4.form hn
  have hbB2 : Below w4.heap.size w4 (w4.alloc (.cells #[] 3)) := (Below.refl _ _).alloc (Nat.le_refl _) _
  exact ⟨hb4, ⟨g4, e4, l4, s4⟩, Lib.hid (Ow.made0 w4 w4.heap.size (Nat.le_refl _)), Lib.hid ((hr.below (hb4.mono hB)).below (hbB2.mono (Nat.le_trans hB hb4.size))), by simp⟩
theorem two_b {wr w4 w5 : World} {g4 c4 c5 n k : Nat} {A5 : Option Addr} {ks : List Int} (hlt : k < n) (hb4 : Below wr.heap.size wr w4) (l4 : wr.heap.size ≤ g4) (s4 : g4 < w4.heap.size) (ho4 : Ow w4 wr.heap.size (some ⟨g4, 0, none⟩) n c4 ks) (ho5 : Ow w5 w4.heap.size A5 n c5 ks) (hg5 : (w4.alloc (.cells #[] 3)).grownBy w5 (Value.slice (some ⟨w4.heap.size, 0, none⟩) 0 0).ownBlock) :
    ∃ g5, A5 = some ⟨g5, 0, none⟩ ∧ g4 ≠ g5 ∧ w5.cell? ⟨g4, k, none⟩ = some (.int .i64 (nth ks k)) ∧ w5.frozen? ⟨g4, k, none⟩ = false ∧ w5.cell? ⟨g5, k, none⟩ = some (.int .i64 (nth ks k)) ∧ w5.frozen? ⟨g5, k, none⟩ = false ∧ Hid (∀ u v : Int, ∃ WW, WW = (w5.setCell ⟨g4, k, none⟩ (.int .i64 u)).setCell ⟨g5, k, none⟩ (.int .i64 v) ∧ Ow WW wr.heap.size (some ⟨g4, 0, none⟩) n c4 (ks.set k u) ∧ Ow WW wr.heap.size (some ⟨g5, 0, none⟩) n c5 (ks.set k v) ∧ Below wr.heap.size wr WW) := by
  have hbB2 : Below w4.heap.size w4 (w4.alloc (.cells #[] 3)) := (Below.refl _ _).alloc (Nat.le_refl _) _
  have hb5 : Below w4.heap.size w4 w5 := hbB2.grown hg5 hbB2.size (fun k hk => (Ow.made0 w4 w4.heap.size (Nat.le_refl _)).own_lo k hk)
  obtain ⟨g5, rfl, l5, s5⟩ := ho5.form (by omega)
  have ho45 := ho4.below hb5
  have d4 := ho45.cell hlt
  have d5 := ho5.cell hlt
  refine ⟨g5, rfl, by omega, d4.1, d4.2, d5.1, d5.2, Lib.hid fun u v => ⟨_, rfl, ?_, ?_, ?_⟩⟩
  · have p1 := ho45.put k u
    exact World.ownsRow.kept p1 (grownSetF (w := w5.setCell ⟨g4, k, none⟩ (.int .i64 u)) (g := g5) (o := k) (v := .int .i64 v)) (.inr (fun e => by have e' : some g4 = some g5 := e; have := Option.some.inj e'; omega))
  · have p1 : Ow (w5.setCell ⟨g4, k, none⟩ (.int .i64 u)) w4.heap.size (some ⟨g5, 0, none⟩) n c5 ks := World.ownsRow.kept ho5 (grownSetF (w := w5) (g := g4) (o := k) (v := .int .i64 u)) (.inr (fun e => by have e' : some g5 = some g4 := e; have := Option.some.inj e'; omega))
    exact (p1.put k v).mono hb4.size
  · have q1 := hb4.trans (hb5.mono hb4.size)
    exact (q1.setCell (p := ⟨g4, k, none⟩) l4 _).setCell (p := ⟨g5, k, none⟩) (by show wr.heap.size ≤ g5; have := hb4.size; omega) _
set_option maxHeartbeats 4000000 in
theorem fnLineForced_walk (A : Option Addr) (c n : Nat) (bs : List Int) (w : World) (h : Code_ w A n c bs) :
    Calls Try.prog 7 #[.slice A n c] w fun e w' => e = .returned (.bool true) ∧ Below w.heap.size w w' := by
  by_cases hn : n ≤ 1048576
  · go_enter Try.func7, Try.ntmps7
    go_wp2_with fail
    refine (drawLineForced _ _ _ _ _ h).mono ?_
    rintro e w1 ⟨A1, m, c1, cs, A2, nk, c2, ks, rfl, hr, hm, hx, hr', hn8, ⟨hc1, hc2⟩, hb⟩
    have hlk := Lib.hid hr'.1
    have hfl := forI_len cs ks
    rw [hlk.out] at hfl
    go_wp2_with fail
    refine (implLineForced A1 m c1 w1.heap.size cs A2 nk c2 w1.heap.size ks w1 hr (Nat.le_refl _) (by omega) hx hr' (Nat.le_refl _) (by omega) hc1 hc2).mono ?_
    rintro e w2 ⟨A3, c3, rfl, ho3, hb2⟩
    go_wp2_with fail
    refine (specLineForced A1 A2 m c1 nk c2 w1.heap.size w1.heap.size cs ks w2 (hr.below hb2) hb2.size (by omega) (hr'.below hb2) hb2.size (by omega)).mono ?_
    rintro e w3 ⟨A4, c4, rfl, ho4, hb3⟩
    have hsame := same_refl (forI cs ks)
    go_wp2_with fail
    refine (sameInts_any _ _ _ _ _ _ _ _ _ _ _ (ho3.below hb3).rd ho4.rd (by omega)).mono ?_
    rintro e w4 ⟨rfl, hb4⟩
    rw [hsame]
    have hb14 := step (step hb2 hb3) hb4
    have ho34 := (ho3.below hb3).below hb4
    have hr4 := hr.below hb14
    have hr4' := hr'.below hb14
    have hs14 := hb14.size
    clear ho3 ho4 hb2 hb3 hb4 hsame
    cases hfb : forB cs ks
    · rcases forI_not hfb with e0 | ⟨e0, e1⟩
      · have hl0 : (forI cs ks).length = 0 := by rw [e0]; rfl
        rw [hl0]
        clear hl0 e0 hfb
        go_wp2_with (go_at_call 19; refine (alive_any _).mono ?_; rintro e w5 ⟨rfl, hb5⟩)
        go_ret
        exact ⟨rfl, hb.trans ((step hb14 hb5).mono hb.size)⟩
      · rw [e0] at ho34 ⊢
        rw [hlk.out] at ho34 ⊢
        have hsk := same_refl ks
        have HW := Lib.hid (fun (w5 : World) (hb5 : Below w4.heap.size w4 w5) => implLineWays A1 m c1 w1.heap.size cs A2 nk c2 w1.heap.size ks w5 (hr4.below (hb5.mono hs14)) (Nat.le_trans hs14 hb5.size) (by omega) hx (hr4'.below (hb5.mono hs14)) (Nat.le_trans hs14 hb5.size) (by omega) hc1 hc2)
        rw [e1] at HW
        clear e0 e1 hfb
        by_cases hk0 : nk = 0
        · have hkI : ((nk : Int) == 0) = true := by simp [hk0]
          clear hk0
          go_wp2_with (go_at_call 19; refine (alive_any _).mono ?_; rintro e w5 ⟨rfl, hb5⟩)
          go_ret
          exact ⟨rfl, hb.trans ((step hb14 hb5).mono hb.size)⟩
        · have hkI : ((nk : Int) == 0) = false := by simp; omega
          clear hk0
          go_wp2_with (first
            | (go_at_call 17; refine (sameInts_any _ _ _ _ _ _ _ _ _ _ _ ho34.rd hr4' (by omega)).mono ?_; rintro e w5 ⟨rfl, hb5⟩; rw [hsk])
            | (go_at_call 23; refine (HW.out w5 hb5).mono ?_; rintro e w6 ⟨rfl, hb6⟩)
            | (go_at_call 19; refine (alive_any _).mono ?_; rintro e w7 ⟨rfl, hb7⟩))
          go_ret
          exact ⟨rfl, hb.trans ((step (step (step hb14 hb5) hb6) hb7).mono hb.size)⟩
    · obtain ⟨q1, q2, q3⟩ := forI_yes hfb
      rw [hlk.out] at q2 q3
      have hw1 := waysI_for hlk.out q2 q3
      have hw0 := waysI_ok hlk.out q2
      have hfll : (forI cs ks).length = nk := by rw [q1]; unfold forL; rw [mapTo_length, hlk.out]
      rw [hfll] at ho34 ⊢
      rw [q1] at ho34
      obtain ⟨W, hW⟩ : ∃ W, W = wys (kk ks) cs nk := ⟨_, rfl⟩
      have hxn : ∀ j, j < nk → nth (forL cs ks) j = fcV W (flC (kk ks) cs nk j) := fun j hj => by unfold forL; rw [hlk.out, mapTo_nth hj, hW]
      have hWb : W ≤ 256 := by rw [hW]; exact Nat.le_trans (sm_le (fun L => by split <;> omega)) (Nat.pow_le_pow_right (by omega) hn8 : 2 ^ nk ≤ 2 ^ 8)
      rw [← hW] at hw0 q3
      rw [hw0] at hw1
      have HW := Lib.hid hW
      have HX := Lib.hid hxn
      have HLx := Lib.hid (fun (w5 : World) (hb5 : Below w4.heap.size w4 w5) => implLineWays A1 m c1 w1.heap.size cs A3 nk c3 w4.heap.size (forL cs ks) w5 (hr4.below (hb5.mono hs14)) (Nat.le_trans hs14 hb5.size) (by omega) hx (ho34.rd.below hb5) hb5.size (by omega) ho34.caps.1 ho34.caps.2)
      rw [hw1] at HLx
      have HLk := Lib.hid (fun (w5 : World) (hb5 : Below w4.heap.size w4 w5) => implLineWays A1 m c1 w1.heap.size cs A2 nk c2 w1.heap.size ks w5 (hr4.below (hb5.mono hs14)) (Nat.le_trans hs14 hb5.size) (by omega) hx (hr4'.below (hb5.mono hs14)) (Nat.le_trans hs14 hb5.size) (by omega) hc1 hc2)
      rw [hw0] at HLk
      have hrx := ho34.rd
      clear hW hxn hfll hw0 hw1 hfb q1 ho34
      go_wp2
      go_loopw [9] (fun i wr => ∃ k : Nat, k ≤ nk ∧ i = .int .i64 k ∧ Below w4.heap.size w4 wr) (fun i _ => nk - (intOf i).toNat)
      case atStart => exact ⟨0, Nat.zero_le _, rfl, Below.refl _ _⟩
      case round =>
        obtain ⟨k, hk, rfl, hbr⟩ := hrel
        by_cases hlt : k < nk
        · have hkI : (k : Int) < (nk : Int) := by omega
          have hs4 := hbr.size
          obtain ⟨b, off, rfl, hbB, _⟩ := hr4'.at_ hlt
          obtain ⟨b3, off3, rfl, hbB3, _⟩ := hrx.at_ hlt
          have hrk := (hr4'.below (hbr.mono hs14))
          have HO := Lib.hid (Ow.made0 wr wr.heap.size (Nat.le_refl _))
          have hbA : Below wr.heap.size wr (wr.alloc (.cells #[] 3)) := (Below.refl _ _).alloc (Nat.le_refl _) _
          have HR := Lib.hid (hrk.below (hbA.mono (Nat.le_trans hs14 hs4)))
          have hsO : wr.heap.size ≤ (wr.alloc (.cells #[] 3)).heap.size := by simp
          have HK := Lib.hid (fun (w9 : World) (hb9 : Below wr.heap.size wr w9) => show w9.cell? ⟨b, off + k, none⟩ = some (.int .i64 (nth ks k)) ∧ w9.cell? ⟨b3, off3 + k, none⟩ = some (.int .i64 (nth (forL cs ks) k)) from by
            have hb49 := step hbr hb9
            obtain ⟨_, _, e1, _, k1⟩ := (hr4'.below (hb49.mono hs14)).at_ hlt
            obtain ⟨_, _, e2, _, k2⟩ := (hrx.below hb49).at_ hlt
            cases e1
            cases e2
            exact ⟨k1, k2⟩)
          clear hbA
          go_upto_region 17 with (first
            | ((refine push_new rfl (.tmp 68) (.tmp 69) rfl wr.heap.size (some ⟨wr.heap.size, 0, none⟩) (some ⟨b, off, none⟩) nk c2 w1.heap.size ks rfl rfl HO.out HR.out (by omega) hsO ?_); intro A5 c5 w5 ho5 hg5; obtain ⟨hb5, ⟨g5, rfl, l5, s5⟩, HO5, HR5, hs5⟩ := two_a hrk (Nat.le_trans hs14 hs4) (by omega) ho5 hg5; clear hg5)
            | ((refine push_new rfl (.tmp 71) (.tmp 72) rfl w5.heap.size (some ⟨w5.heap.size, 0, none⟩) (some ⟨b, off, none⟩) nk c2 w1.heap.size ks rfl rfl HO5.out HR5.out (by omega) hs5 ?_); intro A6 c6 w6 ho6 hg6; obtain ⟨g6, rfl, hne56, d1, d2, d3, d4, HD⟩ := two_b hlt hb5 l5 s5 ho5 ho6 hg6; clear hg6))
          obtain ⟨WW, hWW, oa, ob, hbW⟩ := HD.out 0 1
          rw [← hWW]
          obtain ⟨ck, cx⟩ := HK.out WW hbW
          have hsW := hbW.size
          have hb4W := step hbr hbW
          have HLa := Lib.hid (fun (w7 : World) (hb7 : Below WW.heap.size WW w7) => implLineWays A1 m c1 w1.heap.size cs (some ⟨g5, 0, none⟩) nk c5 WW.heap.size (ks.set k 0) w7 (hr4.below ((step hb4W hb7).mono hs14)) (Nat.le_trans hs14 (step hb4W hb7).size) (by omega) hx (oa.rd.below hb7) hb7.size (by omega) oa.caps.1 oa.caps.2)
          have HLb := Lib.hid (fun (w7 : World) (hb7 : Below WW.heap.size WW w7) => implLineWays A1 m c1 w1.heap.size cs (some ⟨g6, 0, none⟩) nk c6 WW.heap.size (ks.set k 1) w7 (hr4.below ((step hb4W hb7).mono hs14)) (Nat.le_trans hs14 (step hb4W hb7).size) (by omega) hx (ob.rd.below hb7) hb7.size (by omega) ob.caps.1 ob.caps.2)
          have HK2 := Lib.hid (fun (w9 : World) (hb9 : Below WW.heap.size WW w9) => HK.out w9 (step hbW hb9))
          have hef := ep_fl (kk ks) cs nk k
          rw [← HW.out] at hef
          rw [HX.out k hlt] at cx HK2
          have hv := allN_at (show allN ks (-1) 1 = true by have := okK_kv q2; unfold kvB at this; rw [Bool.and_eq_true] at this; exact this.1) (show k < ks.length by rw [hlk.out]; exact hlt)
          have ha0 := fun h => waysI_set0 (cs := cs) hlk.out q2 hlt h
          have hb1 := fun h => waysI_set1 (cs := cs) hlk.out q2 hlt h
          have hf0 := fun h => fl_of0 (cs := cs) hlk.out hlt h
          have he1 := fun h => ep_of1 (cs := cs) hlk.out hlt h
          clear hWW d1 d2 d3 d4 HD HO HR HO5 HR5 hsO hs5 ho5 ho6 hb5 oa ob HK hrk hne56 s5 l5
          generalize epC (kk ks) cs nk k = ee at *
          generalize flC (kk ks) cs nk k = ff at *
          generalize nth ks k = v at *
          have hW0 : (0 : Int) < (W : Int) := by omega
          by_cases h0 : v = 0
          · subst h0
            have hf := hf0 rfl
            subst hf
            have he : ee = W := by omega
            subst he
            rw [show fcV ee 0 = 0 from by unfold fcV; rw [if_pos rfl]] at cx HK2
            rw [ha0 (by decide)] at HLa
            clear ha0 hb1 hf0 he1 hef hv HLb
            go_wp2_with (go_at_call 23; refine (HLa.out _ (Below.refl _ _)).mono ?_; rintro e w7 ⟨rfl, hb7⟩; obtain ⟨ck7, cx7⟩ := HK2.out w7 hb7)
            go_roundw
            case rel => exact ⟨k + 1, by omega, by go_num, step hb4W hb7⟩
            case measure => simp [intOf]; omega
          · by_cases h1 : v = 1
            · subst h1
              have he := he1 rfl
              subst he
              have hf : ff = W := by omega
              subst hf
              rw [show fcV ff ff = 1 from by unfold fcV; rw [if_neg (by omega), if_pos rfl]] at cx HK2
              rw [hb1 (by decide)] at HLb
              clear ha0 hb1 hf0 he1 hef hv HLa h0
              go_wp2_with (go_at_call 23; refine (HLb.out _ (Below.refl _ _)).mono ?_; rintro e w7 ⟨rfl, hb7⟩; obtain ⟨ck7, cx7⟩ := HK2.out w7 hb7)
              go_roundw
              case rel => exact ⟨k + 1, by omega, by go_num, step hb4W hb7⟩
              case measure => simp [intOf]; omega
            · have hm : v = -1 := by omega
              subst hm
              rw [ha0 (by decide)] at HLa
              rw [hb1 (by decide)] at HLb
              clear ha0 hb1 hf0 he1 hv h0 h1
              by_cases hf : ff = 0
              · subst hf
                have he : ee = W := by omega
                subst he
                rw [show fcV ee 0 = 0 from by unfold fcV; rw [if_pos rfl]] at cx HK2
                clear hef
                go_wp2_with (first
                  | (go_at_call 23; refine (HLb.out w7 hb7).mono ?_; rintro e w8 ⟨rfl, hb8⟩; have hb78 := step hb7 hb8; obtain ⟨ck8, cx8⟩ := HK2.out w8 hb78)
                  | (go_at_call 23; refine (HLa.out _ (Below.refl _ _)).mono ?_; rintro e w7 ⟨rfl, hb7⟩; obtain ⟨ck7, cx7⟩ := HK2.out w7 hb7))
                go_roundw
                case rel => exact ⟨k + 1, by omega, by go_num, step hb4W hb78⟩
                case measure => simp [intOf]; omega
              · by_cases he : ee = 0
                · subst he
                  have hf2 : ff = W := by omega
                  subst hf2
                  rw [show fcV ff ff = 1 from by unfold fcV; rw [if_neg (by omega), if_pos rfl]] at cx HK2
                  clear hef hf
                  go_wp2_with (first
                    | (go_at_call 23; refine (HLb.out w7 hb7).mono ?_; rintro e w8 ⟨rfl, hb8⟩; have hb78 := step hb7 hb8; obtain ⟨ck8, cx8⟩ := HK2.out w8 hb78)
                    | (go_at_call 23; refine (HLa.out _ (Below.refl _ _)).mono ?_; rintro e w7 ⟨rfl, hb7⟩; obtain ⟨ck7, cx7⟩ := HK2.out w7 hb7))
                  go_roundw
                  case rel => exact ⟨k + 1, by omega, by go_num, step hb4W hb78⟩
                  case measure => simp [intOf]; omega
                · rw [show fcV W ff = -1 from by unfold fcV; rw [if_neg (by omega), if_neg (by omega)]] at cx HK2
                  have he0 : (0 : Int) < (ee : Int) := by omega
                  have hf0 : (0 : Int) < (ff : Int) := by omega
                  clear hef hf he
                  go_wp2_with (first
                    | (go_at_call 23; refine (HLb.out w7 hb7).mono ?_; rintro e w8 ⟨rfl, hb8⟩; have hb78 := step hb7 hb8; obtain ⟨ck8, cx8⟩ := HK2.out w8 hb78)
                    | (go_at_call 23; refine (HLa.out _ (Below.refl _ _)).mono ?_; rintro e w7 ⟨rfl, hb7⟩; obtain ⟨ck7, cx7⟩ := HK2.out w7 hb7))
                  go_roundw
                  case rel => exact ⟨k + 1, by omega, by go_num, step hb4W hb78⟩
                  case measure => simp [intOf]; omega
        · have hkI : ¬ ((k : Int) < (nk : Int)) := by omega
          have hs4 := hbr.size
          go_wp2_with (first
            | (go_at_call 23; refine (HLk.out w5 hb5).mono ?_; rintro e w6 ⟨rfl, hb6⟩)
            | (go_at_call 23; refine (HLx.out _ hbr).mono ?_; rintro e w5 ⟨rfl, hb5'⟩; have hb5 := step hbr hb5'))
          go_ret
          exact ⟨rfl, hb.trans ((step hb14 (step hb5 hb6)).mono hb.size)⟩
  · go_enter Try.func7, Try.ntmps7
    go_wp2
    go_ret
    exact ⟨rfl, Below.refl _ _⟩
end Go.Proofs.Ytigkcgfhiakikaa
