import Derived.Test.YtcjdjcpappfkgaaGreatDoorEGSe
set_option maxRecDepth 8000
namespace Go.Proofs.YtcjdjcpappfkgaaGreatDoor
open Go.ChangeShapes Go.WideShapes Go.ChangeAt Go.RowKit
set_option maxHeartbeats 8000000 in
theorem specNarrowRules (s : Int) (Ag : Option Addr) (n cg Bg : Nat) (gi : List Int) (Ar : Option Addr) (nr cr Br : Nat) (rs : List RuleM) (A : Option Addr) (c nm B : Nat) (m : List Int) (w : World) (hp : PGs w s Ag n cg Bg gi Ar nr cr Br rs) (h : Rd w B A nm m) (hBm : B ≤ w.heap.size) (hm : nm ≤ 1099511627776) (hsb : -9223372036854775808 ≤ s ∧ s ≤ 9223372036854775807) :
    Calls Tryz.prog 29 #[.agg #[.int .i64 s, .slice Ag n cg, .slice Ar nr cr], .slice A nm c] w (RetSl w (nrL s gi rs m)) := by
  have hlen := Lib.hid h.1; have hlenr := Lib.hid hp.r.1; have hx0 := pbox_new w s Ag n cg Ar nr cr 26; have hb0 : Below w.heap.size w (w.alloc (.cells #[.int .i64 s, .slice Ag n cg, .slice Ar nr cr] 26)) := (Below.refl _ _).alloc (Nat.le_refl _) _
  have hs0 : w.heap.size < (w.alloc (.cells #[.int .i64 s, .slice Ag n cg, .slice Ar nr cr] 26)).heap.size := by simp
  obtain ⟨z0, z1, z2⟩ := id hx0; have HP := Lib.hid (fun w' (hb : Below w.heap.size w w') => specPuzzleValid s Ag n cg Bg gi Ar nr cr Br rs w' (hp.below hb).g (hp.below hb).gB hp.gm (hp.below hb).r (hp.below hb).rB hp.rm); have HV := Lib.hid (fun w' (hb : Below w.heap.size w w') => specMasksValid A c nm B m s w' (h.below (hb.mono hBm)) (Nat.le_trans hBm hb.size) hm hsb); cases hv : pvB s gi rs
  · have HL := Lib.hid (show nrL s gi rs m = [] by simp [nrL, hv])
    go_enter Tryz.func29, Tryz.ntmps29
    go_wp2_with (go_at_call 21; refine (HP.out _ hb0).mono ?_; rintro e w1 ⟨rfl, hb1⟩; rw [hv]; have h01 := step hb0 hb1)
    go_ret
    rw [HL.out]; exact ⟨_, _, rfl, Ow.made0 _ _ h01.size, h01.alloc h01.size _⟩
  · cases hmv : mvd m s
    · have HL := Lib.hid (show nrL s gi rs m = [] by simp [nrL, hmv])
      go_enter Tryz.func29, Tryz.ntmps29
      go_wp2_with (first
        | (go_at_call 21; refine (HP.out _ hb0).mono ?_; rintro e w1 ⟨rfl, hb1⟩; rw [hv]; have h01 := step hb0 hb1; obtain ⟨c0, c1, c2⟩ := hx0.below hs0 hb1)
        | (go_at_call 30; refine (HV.out _ h01).mono ?_; rintro e w2 ⟨rfl, hb2⟩; rw [hmv]; have h02 := step h01 hb2))
      go_ret
      rw [HL.out]; exact ⟨_, _, rfl, Ow.made0 _ _ h02.size, h02.alloc h02.size _⟩
    · obtain ⟨⟨s2, s4⟩, hsq, hnm16, _⟩ := mvd_at hmv; rw [hlen.out] at hsq hnm16; have hall := (pv_gv hv).2.2
      have hnm0 : 0 < nm := by
        have : s = 2 ∨ s = 3 ∨ s = 4 := (by omega)
        rcases this with rfl | rfl | rfl <;> omega
      have HCp := Lib.hid (fun w' (hb : Below w.heap.size w w') => specL6Copy A nm c B m w' (h.below (hb.mono hBm)) (Nat.le_trans hBm hb.size) hm); have HL := Lib.hid (show nrL s gi rs m = nrTo s rs m nr by unfold nrL; rw [hv, hmv, Bool.true_and, if_pos rfl, hlenr.out]); have HS := Lib.hid (fun u (hu : u ≤ nr) => nrTo_sub (rs := rs) hmv hall u (by rw [hlenr.out]; exact hu)); have HA := Lib.hid (fun u (hu : u < nr) => hall u (by rw [hlenr.out]; exact hu)); have Hsq := Lib.hid hsq; clear hall hsq
      go_enter Tryz.func29, Tryz.ntmps29
      go_wp2_with (first
        | (go_at_call 21; refine (HP.out _ hb0).mono ?_; rintro e w1 ⟨rfl, hb1⟩; rw [hv]; have h01 := step hb0 hb1; have hx1 := hx0.below hs0 hb1; have hs1 := Nat.lt_of_lt_of_le hs0 hb1.size; obtain ⟨c0, c1, c2⟩ := id hx1)
        | (go_at_call 30; refine (HV.out _ h01).mono ?_; rintro e w2 ⟨rfl, hb2⟩; rw [hmv]; have h02 := step h01 hb2; have hx2 := hx1.below hs1 hb2; have hs2 := Nat.lt_of_lt_of_le hs1 hb2.size)
        | (go_at_call 68; refine (HCp.out _ h02).mono ?_; rintro e w3 ⟨Ac, cc, rfl, ho3, hb3⟩))
      have h03 := step h02 hb3; have hx3 := hx2.below hs2 hb3; obtain ⟨g, rfl, hgl, hgw⟩ := ho3.form hnm0; have hmv' := Lib.hid hmv; clear hmv hx0 hx1 hx2 z0 z1 z2 c0 c1 c2
      go_loopw [6] (fun i wr => ∃ u : Nat, u ≤ nr ∧ i = .int .i64 u ∧ Ow wr w2.heap.size (some ⟨g, 0, none⟩) nm cc (nrTo s rs m u) ∧ PBox wr w.heap.size s Ag n cg Ar nr cr ∧ Below w.heap.size w wr ∧ w2.heap.size ≤ wr.heap.size) (fun i _ => nr - (intOf i).toNat)
      case atStart => exact ⟨0, Nat.zero_le _, rfl, ho3, hx3, h03, hb3.size⟩
      case round =>
        clear ho3 hx3 h03 hb3; obtain ⟨u, hu, rfl, ho, hx, hb, hsw⟩ := hrel; obtain ⟨c0, c1, c2⟩ := id hx
        by_cases hlt : u < nr
        · have hltI : (u : Int) < (nr : Int) := (by omega); have hmu := (HS.out u hu).mvd_ hmv'.out; have hpb := hp.below hb; obtain ⟨b, off, rfl, hbB, hcc⟩ := hpb.r.2 (by omega); obtain ⟨A', c', r0, r1, r2, r3, r4⟩ := hcc u hlt; have hv0 := HA.out u hlt; have HT0 : nrTo s rs m (u + 1) = nrIn (rat rs u).xs (rmL (rat rs u).k (rat rs u).xs (rat rs u).v (nrTo s rs m u) s) (nrTo s rs m u) (rat rs u).xs.length := rfl; obtain ⟨rk, hrk⟩ : ∃ x, x = (rat rs u).k := ⟨_, rfl⟩; obtain ⟨rx, hrx⟩ : ∃ x, x = (rat rs u).xs := ⟨_, rfl⟩; obtain ⟨rvv, hrv⟩ : ∃ x, x = (rat rs u).v := ⟨_, rfl⟩; have hvv : rv rk rx rvv s = true := (by rw [hrk, hrx, hrv]; exact hv0)
          obtain ⟨O, hO⟩ : ∃ O, O = nrTo s rs m u := ⟨_, rfl⟩; rw [← hrk, ← hrx, ← hrv, ← hO] at HT0; rw [← hO] at hmu ho; rw [← hrk] at r0; rw [← hrx] at r1 r3 r4; rw [← hrv] at r2; have hlf := rm_len (o := O) hvv hmu; obtain ⟨_, ⟨hn1, hn4⟩, _, hxin⟩ := rv_facts rfl hvv; obtain ⟨l, hl⟩ : ∃ l, l = rx.length := ⟨_, rfl⟩; rw [← hl] at r1 r3 r4 HT0 hlf hn1 hn4 hxin; have hBr : Br ≤ wr.heap.size := hpb.rB; have hrlen := Lib.hid (show rx.length = l from hl.symm)
          have Hxin := Lib.hid (show ∀ i, i < l → ∃ q : Nat, nth rx i = (q : Int) ∧ q < nm from fun i hi => by
            obtain ⟨y0, y1⟩ := hxin i hi; obtain ⟨q, hq⟩ := Int.eq_ofNat_of_zero_le y0
            exact ⟨q, hq, by have := Hsq.out; omega⟩)
          have hy0 := rbox_new wr rk A' l c' rvv 87; have hb1 : Below wr.heap.size wr (wr.alloc (.cells #[.int .i64 rk, .slice A' l c', .int .i64 rvv] 87)) := (Below.refl _ _).alloc (Nat.le_refl _) _; have hs1' : (wr.alloc (.cells #[.int .i64 rk, .slice A' l c', .int .i64 rvv] 87)).heap.size = wr.heap.size + 1 := (by simp); obtain ⟨y0, y1, y2⟩ := id hy0; obtain ⟨x0, x1, x2⟩ := hx.below (show w.heap.size < wr.heap.size by omega) hb1; obtain ⟨W, hW⟩ : ∃ W, wr.alloc (.cells #[.int .i64 rk, .slice A' l c', .int .i64 rvv] 87) = W := ⟨_, rfl⟩; rw [hW] at hy0 hb1 hs1'; have hxW := hx.below (show w.heap.size < wr.heap.size by omega) hb1
          have hoW := ho.below hb1; have hrW := r3.below (hb1.mono hBr); have hbW := hb.trans (hb1.mono hb.size); have HRM := Lib.hid (specRuleMasks A' c' l Br rx rk rvv s (some ⟨g, 0, none⟩) cc nm W.heap.size O W hrW (by omega) (by omega) hoW.rd (Nat.le_refl _) (by omega) hsb); obtain ⟨f, hf⟩ : ∃ f, f = rmL rk rx rvv O s := ⟨_, rfl⟩; rw [← hf] at HRM hlf HT0; have Hlf := Lib.hid hlf; have HT := Lib.hid HT0; have HW := Lib.hid hW; have hgr : g < wr.heap.size := ho.own_hi g rfl; clear hcc HT0 hlf hrk hrx hrv hvv hv0 hmu hO hf hW hxin hl
          go_wp2_with fail
          rw [HW.out]; refine HRM.out.mono ?_; rintro e w4 ⟨A3, c3, rfl, ho4, hb4⟩; rw [Hlf.out] at ho4 ⊢; obtain ⟨g3, rfl, hg3, _⟩ := ho4.form (by omega); have hy4 := hy0.below (show wr.heap.size < W.heap.size by omega) hb4; have hx4 := hxW.below (show w.heap.size < W.heap.size by omega) hb4; have hog := hoW.below hb4; have hr4 := hrW.below (hb4.mono (show Br ≤ W.heap.size by omega)); have hs4 := hb4.size; have hbw4 := hbW.trans (hb4.mono hbW.size)
          have hbg : ∀ b off, A' = some ⟨b, off, none⟩ → b ≠ g := fun b off e e2 => by
            obtain ⟨b', off', e3, hlt', _⟩ := hrW.2 (by omega); rw [e] at e3
            injection e3 with e3
            injection e3 with e3 _ _
            have := hp.rB; omega
          have HF := Lib.hid (fun wx (hg : w4.grownBy wx (some g)) => (⟨(hg.cell_far ⟨wr.heap.size, 1, none⟩ (by show wr.heap.size < _; omega) (fun e2 => by have e3 : wr.heap.size = g := Option.some.inj e2; omega)).trans hy4.2.1, hr4.grown hg hbg (show Br ≤ w4.heap.size by omega), ho4.far hg (fun b hb e2 => by have := ho4.own_lo b hb; injection e2 with e2; omega)⟩ : wx.cell? ⟨wr.heap.size, 1, none⟩ = some (.slice A' l c') ∧ Rd wx Br A' l rx ∧ Ow wx W.heap.size (some ⟨g3, 0, none⟩) l c3 f)); have HPB := Lib.hid (fun wx (hg : w4.grownBy wx (some g)) => (⟨(hg.cell_far ⟨w.heap.size, 0, none⟩ (by show w.heap.size < _; omega) (fun e2 => by have e3 : w.heap.size = g := Option.some.inj e2; have := h02.size; omega)).trans hx4.1, (hg.cell_far ⟨w.heap.size, 1, none⟩ (by show w.heap.size < _; omega) (fun e2 => by have e3 : w.heap.size = g := Option.some.inj e2; have := h02.size; omega)).trans hx4.2.1, (hg.cell_far ⟨w.heap.size, 2, none⟩ (by show w.heap.size < _; omega) (fun e2 => by have e3 : w.heap.size = g := Option.some.inj e2; have := h02.size; omega)).trans hx4.2.2⟩ : PBox wx w.heap.size s Ag n cg (some ⟨b, off, none⟩) nr cr))
          clear y0 y1 y2 x0 x1 x2 c0 c1 c2 r0 r1 r2 r3 hy0 hxW hoW hrW ho hx hbg
          go_wp2
          go_loopw [9] (fun j wx => ∃ k : Nat, k ≤ l ∧ j = .int .i64 k ∧ Ow wx w2.heap.size (some ⟨g, 0, none⟩) nm cc (nrIn rx f O k) ∧ w4.grownBy wx (some g)) (fun j _ => l - (intOf j).toNat)
          case atStart => exact ⟨0, Nat.zero_le _, rfl, hog, World.grownBy.refl _ _⟩
          case round =>
            obtain ⟨k, hk, rfl, ho, hg⟩ := hrel; obtain ⟨y1, hrd, hof⟩ := HF.out _ hg
            by_cases hkl : k < l
            · have hklI : (k : Int) < (l : Int) := (by omega); obtain ⟨q, hq, hqn⟩ := Hxin.out k hkl; obtain ⟨b', off', rfl, hbB', hcx⟩ := hrd.at_ hkl; rw [hq] at hcx; obtain ⟨hcf, _⟩ := hof.cell hkl; obtain ⟨hcell, hfr⟩ := ho.cell hqn; have HN := Lib.hid (show nrIn rx f O (k + 1) = (nrIn rx f O k).set q (nth f k) by simp only [nrIn, hq, Int.toNat_natCast]); have hput := Lib.hid (ho.putN q (nth f k)); have hgp := Lib.hid (grown_drew (hg.trans (grown_set (w := wr) (G := g) (i := q) (v := .int .i64 (nth f k))))); clear hq
              go_wp2
              go_region
              go_wp2
              go_roundw
              case rel => exact ⟨k + 1, by omega, by go_num, by rw [HN.out]; exact hput.out, hgp.out⟩
              case measure => simp [intOf]; omega
            · obtain rfl : k = l := by omega
              have hrm := hp.rm
              go_wp2
              go_roundw
              case rel => exact ⟨u + 1, hlt, by go_num, by rw [HT.out]; exact ho, HPB.out _ hg, hbw4.grown hg hbw4.size (fun k hk => by injection hk with hk; omega), by have := hg.size; omega⟩
              case measure => simp [intOf]; omega
        · obtain rfl : u = nr := by omega
          go_wp2
          go_ret
          rw [HL.out]; exact retSl_mk (ho.mono (by omega)) hb
def nbL (s : Int) (gi : List Int) (rs : List RuleM) (m : List Int) (t : Int) : List Int :=
  if (pvB s gi rs && mvd m s) = true then (if t = 1 then nsL m s m.length else if t = 2 then nhL m s else if t = 3 then npL m s else if t = 4 then nrL s gi rs m else []) else []
theorem nb_sub {s : Int} {gi : List Int} {rs : List RuleM} {m : List Int} {t : Int} (hv : pvB s gi rs = true) (hm : mvd m s = true) (h1 : 1 ≤ t) (h4 : t ≤ 4) : Sub (nbL s gi rs m t) m := by
  unfold nbL; rw [hv, hm, Bool.true_and, if_pos rfl]
  have : t = 1 ∨ t = 2 ∨ t = 3 ∨ t = 4 := by omega
  rcases this with rfl | rfl | rfl | rfl
  · exact ns_sub hm _
  · exact nh_sub hm
  · exact np_sub hm
  · exact nr_sub hv hm
set_option maxHeartbeats 4000000 in
theorem specNarrowBy (s : Int) (Ag : Option Addr) (n cg Bg : Nat) (gi : List Int) (Ar : Option Addr) (nr cr Br : Nat) (rs : List RuleM) (A : Option Addr) (c nm B : Nat) (m : List Int) (t : Int) (w : World) (hp : PGs w s Ag n cg Bg gi Ar nr cr Br rs) (h : Rd w B A nm m) (hBm : B ≤ w.heap.size) (hm : nm ≤ 1099511627776) (hsb : -9223372036854775808 ≤ s ∧ s ≤ 9223372036854775807) :
    Calls Tryz.prog 75 #[.agg #[.int .i64 s, .slice Ag n cg, .slice Ar nr cr], .slice A nm c, .int .i64 t] w (RetSl w (nbL s gi rs m t)) := by
  have hlen := Lib.hid h.1; have hx0 := pbox_new w s Ag n cg Ar nr cr 26; have hb0 : Below w.heap.size w (w.alloc (.cells #[.int .i64 s, .slice Ag n cg, .slice Ar nr cr] 26)) := (Below.refl _ _).alloc (Nat.le_refl _) _
  have hs0 : w.heap.size < (w.alloc (.cells #[.int .i64 s, .slice Ag n cg, .slice Ar nr cr] 26)).heap.size := by simp
  obtain ⟨z0, z1, z2⟩ := id hx0; have HP := Lib.hid (fun w' (hb : Below w.heap.size w w') => specPuzzleValid s Ag n cg Bg gi Ar nr cr Br rs w' (hp.below hb).g (hp.below hb).gB hp.gm (hp.below hb).r (hp.below hb).rB hp.rm); have HV := Lib.hid (fun w' (hb : Below w.heap.size w w') => specMasksValid A c nm B m s w' (h.below (hb.mono hBm)) (Nat.le_trans hBm hb.size) hm hsb); cases hv : pvB s gi rs
  · have HL := Lib.hid (show nbL s gi rs m t = [] by simp [nbL, hv])
    go_enter Tryz.func75, Tryz.ntmps75
    go_wp2_with (go_at_call 21; refine (HP.out _ hb0).mono ?_; rintro e w1 ⟨rfl, hb1⟩; rw [hv]; have h01 := step hb0 hb1)
    go_ret
    rw [HL.out]; exact ⟨_, _, rfl, Ow.made0 _ _ h01.size, h01.alloc h01.size _⟩
  · cases hmv : mvd m s
    · have HL := Lib.hid (show nbL s gi rs m t = [] by simp [nbL, hmv])
      go_enter Tryz.func75, Tryz.ntmps75
      go_wp2_with (first
        | (go_at_call 21; refine (HP.out _ hb0).mono ?_; rintro e w1 ⟨rfl, hb1⟩; rw [hv]; have h01 := step hb0 hb1; obtain ⟨c0, c1, c2⟩ := hx0.below hs0 hb1)
        | (go_at_call 30; refine (HV.out _ h01).mono ?_; rintro e w2 ⟨rfl, hb2⟩; rw [hmv]; have h02 := step h01 hb2))
      go_ret
      rw [HL.out]; exact ⟨_, _, rfl, Ow.made0 _ _ h02.size, h02.alloc h02.size _⟩
    · have h64 : Hid (∀ k, k < nm → -9223372036854775808 ≤ nth m k ∧ nth m k ≤ 9223372036854775807) := Lib.hid (fun k _ => by have := mvd_nth hmv k; omega); have HL0 : nbL s gi rs m t = (if t = 1 then nsL m s m.length else if t = 2 then nhL m s else if t = 3 then npL m s else if t = 4 then nrL s gi rs m else []) := (by unfold nbL; rw [hv, hmv, Bool.true_and, if_pos rfl]); rw [hlen.out] at HL0
      by_cases h1 : t = 1
      · subst h1; have HL := Lib.hid (show nbL s gi rs m 1 = nsL m s nm by rw [HL0]; rfl); have HC := Lib.hid (fun w' (hb : Below w.heap.size w w') => specNarrowSingles A c nm B m s w' (h.below (hb.mono hBm)) (Nat.le_trans hBm hb.size) hm hsb h64); clear HL0
        go_enter Tryz.func75, Tryz.ntmps75
        go_wp2_with (first
          | (go_at_call 21; refine (HP.out _ hb0).mono ?_; rintro e w1 ⟨rfl, hb1⟩; rw [hv]; have h01 := step hb0 hb1; have hx1 := hx0.below hs0 hb1; have hs1 := Nat.lt_of_lt_of_le hs0 hb1.size; obtain ⟨c0, c1, c2⟩ := id hx1)
          | (go_at_call 30; refine (HV.out _ h01).mono ?_; rintro e w2 ⟨rfl, hb2⟩; rw [hmv]; have h02 := step h01 hb2; obtain ⟨d0, d1, d2⟩ := hx1.below hs1 hb2)
          | (go_at_call 118; refine (HC.out _ h02).mono ?_; rintro e w3 ⟨A3, c3, rfl, ho3, hb3⟩))
        go_ret
        rw [HL.out]; exact ⟨_, _, rfl, ho3.mono h02.size, step h02 hb3⟩
      · have n1 : (t == 1) = false := (by simpa using h1)
        by_cases h2 : t = 2
        · subst h2; have HL := Lib.hid (show nbL s gi rs m 2 = nhL m s by rw [HL0]; rfl); have HC := Lib.hid (fun w' (hb : Below w.heap.size w w') => specNarrowHidden A c nm B m s w' (h.below (hb.mono hBm)) (Nat.le_trans hBm hb.size) hm hsb); clear HL0
          go_enter Tryz.func75, Tryz.ntmps75
          go_wp2_with (first
            | (go_at_call 21; refine (HP.out _ hb0).mono ?_; rintro e w1 ⟨rfl, hb1⟩; rw [hv]; have h01 := step hb0 hb1; have hx1 := hx0.below hs0 hb1; have hs1 := Nat.lt_of_lt_of_le hs0 hb1.size; obtain ⟨c0, c1, c2⟩ := id hx1)
            | (go_at_call 30; refine (HV.out _ h01).mono ?_; rintro e w2 ⟨rfl, hb2⟩; rw [hmv]; have h02 := step h01 hb2; obtain ⟨d0, d1, d2⟩ := hx1.below hs1 hb2)
            | (go_at_call 119; refine (HC.out _ h02).mono ?_; rintro e w3 ⟨A3, c3, rfl, ho3, hb3⟩))
          go_ret
          rw [HL.out]; exact ⟨_, _, rfl, ho3.mono h02.size, step h02 hb3⟩
        · have n2 : (t == 2) = false := (by simpa using h2)
          by_cases h3 : t = 3
          · subst h3; have HL := Lib.hid (show nbL s gi rs m 3 = npL m s by rw [HL0]; rfl); have HC := Lib.hid (fun w' (hb : Below w.heap.size w w') => specNarrowPairs A c nm B m s w' (h.below (hb.mono hBm)) (Nat.le_trans hBm hb.size) hm hsb); clear HL0
            go_enter Tryz.func75, Tryz.ntmps75
            go_wp2_with (first
              | (go_at_call 21; refine (HP.out _ hb0).mono ?_; rintro e w1 ⟨rfl, hb1⟩; rw [hv]; have h01 := step hb0 hb1; have hx1 := hx0.below hs0 hb1; have hs1 := Nat.lt_of_lt_of_le hs0 hb1.size; obtain ⟨c0, c1, c2⟩ := id hx1)
              | (go_at_call 30; refine (HV.out _ h01).mono ?_; rintro e w2 ⟨rfl, hb2⟩; rw [hmv]; have h02 := step h01 hb2; obtain ⟨d0, d1, d2⟩ := hx1.below hs1 hb2)
              | (go_at_call 120; refine (HC.out _ h02).mono ?_; rintro e w3 ⟨A3, c3, rfl, ho3, hb3⟩))
            go_ret
            rw [HL.out]; exact ⟨_, _, rfl, ho3.mono h02.size, step h02 hb3⟩
          · have n3 : (t == 3) = false := (by simpa using h3)
            by_cases h4 : t = 4
            · subst h4; have HL := Lib.hid (show nbL s gi rs m 4 = nrL s gi rs m by rw [HL0]; rfl); have HC := Lib.hid (fun w' (hb : Below w.heap.size w w') => specNarrowRules s Ag n cg Bg gi Ar nr cr Br rs A c nm B m w' (hp.below hb) (h.below (hb.mono hBm)) (Nat.le_trans hBm hb.size) hm hsb); clear HL0
              go_enter Tryz.func75, Tryz.ntmps75
              go_wp2_with (first
                | (go_at_call 21; refine (HP.out _ hb0).mono ?_; rintro e w1 ⟨rfl, hb1⟩; rw [hv]; have h01 := step hb0 hb1; have hx1 := hx0.below hs0 hb1; have hs1 := Nat.lt_of_lt_of_le hs0 hb1.size; obtain ⟨c0, c1, c2⟩ := id hx1)
                | (go_at_call 30; refine (HV.out _ h01).mono ?_; rintro e w2 ⟨rfl, hb2⟩; rw [hmv]; have h02 := step h01 hb2; obtain ⟨d0, d1, d2⟩ := hx1.below hs1 hb2)
                | (go_at_call 29; refine (HC.out _ h02).mono ?_; rintro e w3 ⟨A3, c3, rfl, ho3, hb3⟩))
              go_ret
              rw [HL.out]; exact ⟨_, _, rfl, ho3.mono h02.size, step h02 hb3⟩
            · have n4 : (t == 4) = false := (by simpa using h4); have HL := Lib.hid (show nbL s gi rs m t = [] by rw [HL0, if_neg h1, if_neg h2, if_neg h3, if_neg h4]); clear HL0
              go_enter Tryz.func75, Tryz.ntmps75
              go_wp2_with (first
                | (go_at_call 21; refine (HP.out _ hb0).mono ?_; rintro e w1 ⟨rfl, hb1⟩; rw [hv]; have h01 := step hb0 hb1; have hx1 := hx0.below hs0 hb1; have hs1 := Nat.lt_of_lt_of_le hs0 hb1.size; obtain ⟨c0, c1, c2⟩ := id hx1)
                | (go_at_call 30; refine (HV.out _ h01).mono ?_; rintro e w2 ⟨rfl, hb2⟩; rw [hmv]; have h02 := step h01 hb2; obtain ⟨d0, d1, d2⟩ := hx1.below hs1 hb2))
              go_ret
              rw [HL.out]; exact ⟨_, _, rfl, Ow.made0 _ _ h02.size, h02.alloc h02.size _⟩
def loUF (F : Nat → Nat) (M j : Nat) : Nat → Nat
  | 0 => 0
  | u + 1 => loUF F M j u ||| (if M.testBit u = true then 0 else F (j * 5 + u))
def loJF (F : Nat → Nat) (Ms : Nat → Nat) : Nat → Nat
  | 0 => 0
  | j + 1 => loJF F Ms j ||| loUF F (Ms j) j 5
def nmUF (F : Nat → Nat) (lo j : Nat) : Nat → Nat
  | 0 => 0
  | u + 1 => nmUF F lo j u ||| (if anU (F (j * 5 + u)) lo ≠ 0 then 2 ^ u else 0)
theorem loUF_lt {F : Nat → Nat} {M j : Nat} (h : ∀ i, F i < 2 ^ 64) (u : Nat) : loUF F M j u < 2 ^ 64 := by
  induction u with
  | zero => simp [loUF]
  | succ u ih =>
    simp only [loUF]; refine Nat.or_lt_two_pow ih ?_
    split
    · exact Nat.two_pow_pos _
    · exact h _
theorem loJF_lt {F : Nat → Nat} {Ms : Nat → Nat} (h : ∀ i, F i < 2 ^ 64) (j : Nat) : loJF F Ms j < 2 ^ 64 := by
  induction j with
  | zero => simp [loJF]
  | succ j ih => exact Nat.or_lt_two_pow ih (loUF_lt h 5)
theorem loUF_is {L : List (List Int)} {n M j : Nat} (hL : L.length ≤ 64) (hj : j < n) (u : Nat) (hu : u ≤ 5) : loUF (tF L n) M j u = loU L M j u := by
  induction u with
  | zero => rfl
  | succ u ih => simp only [loUF, loU]; rw [ih (by omega), tF_at hL hj (by omega)]
theorem loJF_is {L : List (List Int)} {n : Nat} {Ms : Nat → Nat} (hL : L.length ≤ 64) (j : Nat) (hj : j ≤ n) : loJF (tF L n) Ms j = loJ L Ms j := by
  induction j with
  | zero => rfl
  | succ j ih => simp only [loJF, loJ]; rw [ih (by omega), loUF_is hL (by omega) 5 (Nat.le_refl _)]
theorem nmUF_is {L : List (List Int)} {n lo j : Nat} (hL : L.length ≤ 64) (hj : j < n) (u : Nat) (hu : u ≤ 5) : nmUF (tF L n) lo j u = nmU L lo j u := by
  induction u with
  | zero => rfl
  | succ u ih => simp only [nmUF, nmU]; rw [ih (by omega), tF_at hL hj (by omega)]
theorem nmUF_lt {F : Nat → Nat} {lo j : Nat} (u : Nat) : nmUF F lo j u < 2 ^ u := by
  induction u with
  | zero => simp [nmUF]
  | succ u ih =>
    simp only [nmUF]; refine Nat.or_lt_two_pow (Nat.lt_of_lt_of_le ih (Nat.pow_le_pow_right (by omega) (by omega))) ?_
    split
    · exact Nat.pow_lt_pow_right (by omega) (by omega)
    · exact Nat.two_pow_pos _
theorem idx5_0 (a0 a1 a2 a3 a4 : Value) (w : World) : (Instr.index 132 (.agg #[a0, a1, a2, a3, a4]) (.int .i64 0)).run Tryz.prog w = .ok a0 w := by kernel_rfl
theorem idx5_1 (a0 a1 a2 a3 a4 : Value) (w : World) : (Instr.index 132 (.agg #[a0, a1, a2, a3, a4]) (.int .i64 1)).run Tryz.prog w = .ok a1 w := by kernel_rfl
theorem idx5_2 (a0 a1 a2 a3 a4 : Value) (w : World) : (Instr.index 132 (.agg #[a0, a1, a2, a3, a4]) (.int .i64 2)).run Tryz.prog w = .ok a2 w := by kernel_rfl
theorem idx5_3 (a0 a1 a2 a3 a4 : Value) (w : World) : (Instr.index 132 (.agg #[a0, a1, a2, a3, a4]) (.int .i64 3)).run Tryz.prog w = .ok a3 w := by kernel_rfl
theorem idx5_4 (a0 a1 a2 a3 a4 : Value) (w : World) : (Instr.index 132 (.agg #[a0, a1, a2, a3, a4]) (.int .i64 4)).run Tryz.prog w = .ok a4 w := by kernel_rfl
set_option maxHeartbeats 1000000 in
theorem lost_any (F : Nat → Nat) (A : Option Addr) (c n B : Nat) (xs : List Int) (Am : Option Addr) (cm nm Bm : Nat) (m : List Int) (w : World) (h : Rd w B A n xs) (hB : B ≤ w.heap.size) (hm : Rd w Bm Am nm m) (hBm : Bm ≤ w.heap.size) (n4 : n ≤ 4) (hF : ∀ i, F i < 2 ^ 64)
    (hin : ∀ i, i < n → ∃ q : Nat, nth xs i = (q : Int) ∧ q < nm) (hms : ∀ i, i < nm → 0 ≤ nth m i ∧ nth m i < 32) :
    Calls Tryz.prog 180 #[.agg (tcells F A n c), .slice Am nm cm] w fun e w' => e = .returned (.int .u64 (loJF F (fun j => (nth m (nth xs j).toNat).toNat) n : Nat)) ∧ Below w.heap.size w w' := by
  obtain ⟨W, hW⟩ : ∃ W, w.alloc (.cells (tcells F A n c) 135) = W := ⟨_, rfl⟩
  have ht : TBox W w.heap.size F A n c := by rw [← hW]; exact heap_alloc_new w _
  have hb0 : Below w.heap.size w W := by rw [← hW]; exact (Below.refl _ _).alloc (Nat.le_refl _) _
  have hs0 : W.heap.size = w.heap.size + 1 := by rw [← hW]; simp
  have hc0 := ht.cell0
  obtain ⟨Ms, hMs⟩ : ∃ Ms : Nat → Nat, Ms = fun j => (nth m (nth xs j).toNat).toNat := ⟨_, rfl⟩
  rw [← hMs]; have HMs := Lib.hid hMs; have HT := Lib.hid ht; have HIN := Lib.hid hin; have HMS := Lib.hid hms; have HLo := Lib.hid (fun j => loJF_lt (Ms := Ms) hF j); have HLu := Lib.hid (fun M j u => loUF_lt (M := M) (j := j) hF u); have HF := Lib.hid hF; have H := Lib.hid h; have HM := Lib.hid hm; have HB0 := Lib.hid hb0; clear hMs ht hin hms hF h hm hb0
  go_enter Tryz.func180, Tryz.ntmps180
  go_wp2
  go_loopw [13, 5] (fun i l wr => ∃ j : Nat, j ≤ n ∧ i = .int .i64 j ∧ l = .int .u64 (loJF F Ms j : Nat) ∧ Below W.heap.size W wr) (fun i _ _ => n - (intOf i).toNat)
  case atStart => exact ⟨0, Nat.zero_le _, rfl, rfl, Below.refl _ _⟩
  case round =>
    obtain ⟨j, hj, rfl, rfl, hb⟩ := hrel
    by_cases hlt : j < n
    · have hltI : (j : Int) < (n : Int) := by omega
      obtain ⟨b, off, rfl, hbB, hck⟩ := (H.out.below ((HB0.out.trans (hb.mono (by omega))).mono hB)).at_ hlt; obtain ⟨q, hq, hqn⟩ := HIN.out j hlt; rw [hq] at hck; have htr : TBox wr w.heap.size F (some ⟨b, off, none⟩) n c := HT.out.kept (hb.block _ (by omega)); have t0 := htr.cell (i := j * 5) (by omega); have t1 := htr.cell (i := j * 5 + 1) (by omega); have t2 := htr.cell (i := j * 5 + 2) (by omega); have t3 := htr.cell (i := j * 5 + 3) (by omega); have t4 := htr.cell (i := j * 5 + 4) (by omega); simp only [← Nat.add_assoc] at t1 t2 t3 t4; have hj4 : (j : Int) < 4 := (by omega); have hx0 := HMS.out q hqn
      have HM2 := Lib.hid (fun w' (hb : Below W.heap.size W w') => (HM.out.below ((HB0.out.trans (hb.mono (by omega))).mono hBm)).at_ hqn); obtain ⟨M, hM⟩ : ∃ M : Nat, nth m q = (M : Int) := Int.eq_ofNat_of_zero_le hx0.1; have hM32 : M < 32 := (by omega); have hMj : Ms j = M := (by rw [HMs.out]; show (nth m (nth xs j).toNat).toNat = M; rw [hq, Int.toNat_natCast, hM]; simp); rw [hM] at HM2; have HStep := Lib.hid (fun (_u : Nat) => show loJF F Ms (j + 1) = loJF F Ms j ||| loUF F M j 5 by simp only [loJF]; rw [hMj]); have HL0 := Lib.hid (HLo.out j); have HLu := Lib.hid (fun u => HLu.out M j u); have HF5 := Lib.hid (fun u => HF.out (j * 5 + u))
      have HU := Lib.hid (fun u => show loUF F M j (u + 1) = loUF F M j u ||| (if M.testBit u = true then 0 else F (j * 5 + u)) from rfl)
      obtain ⟨G, hG⟩ : ∃ G : Nat → Nat, G = fun u => F (j * 5 + u) := ⟨_, rfl⟩
      obtain ⟨K, hK⟩ : ∃ K, K = loJF F Ms j := ⟨_, rfl⟩
      obtain ⟨U, hU⟩ : ∃ U : Nat → Nat, U = fun u => loUF F M j u := ⟨_, rfl⟩
      have g0 : F (j * 5) = G 0 := (by rw [hG]; rfl); have g1 : F (j * 5 + 1) = G 1 := (by rw [hG]); have g2 : F (j * 5 + 2) = G 2 := (by rw [hG]); have g3 : F (j * 5 + 3) = G 3 := (by rw [hG]); have g4 : F (j * 5 + 4) = G 4 := (by rw [hG]); rw [g0] at t0; rw [g1] at t1; rw [g2] at t2; rw [g3] at t3; rw [g4] at t4; have HU' : Hid (∀ u, U (u + 1) = U u ||| (if M.testBit u = true then 0 else G u)) := Lib.hid (fun u => by rw [hU, hG]; exact HU.out u); have HU0 : Hid (U 0 = 0) := Lib.hid (by rw [hU]; rfl); have HU5 : Hid (loJF F Ms (j + 1) = K ||| U 5) := Lib.hid (by rw [HStep.out 0, hK, hU]); have HUl : Hid (∀ u, U u < 2 ^ 64) := Lib.hid (fun u => by rw [hU]; exact HLu.out u)
      have HGl : Hid (∀ u, G u < 2 ^ 64) := Lib.hid (fun u => by rw [hG]; exact HF5.out u); have HKl : Hid (K < 2 ^ 64) := Lib.hid (by rw [hK]; exact HL0.out); rw [← hK]; have hj1 := hlt; clear hq hM hMj HStep HL0 HLu HF5 HU hG hK hU g0 g1 g2 g3 g4 hx0 hlt htr
      go_wp2
      go_loopw [22, 5] (fun i l wx => ∃ u : Nat, u ≤ 5 ∧ i = .int .i64 u ∧ l = .int .u64 (K ||| U u : Nat) ∧ Below W.heap.size W wx) (fun i _ _ => 5 - (intOf i).toNat)
      case atStart => exact ⟨0, by omega, rfl, by rw [HU0.out, Nat.or_zero], hb⟩
      case round =>
        clear hb hck t0 t1 t2 t3 t4; obtain ⟨u, hu, rfl, rfl, hb⟩ := hrel
        by_cases hlt : u < 5
        · have hltI : (u : Int) < 5 := (by omega); obtain ⟨b2, off2, rfl, hb2, hc2⟩ := HM2.out _ hb
          have hidx : ∀ w', (Instr.index 132 (.agg #[Value.int IntKind.u64 (G 0 : Nat), Value.int IntKind.u64 (G 1 : Nat), Value.int IntKind.u64 (G 2 : Nat), Value.int IntKind.u64 (G 3 : Nat), Value.int IntKind.u64 (G 4 : Nat)]) (.int .i64 (u : Int))).run Tryz.prog w' = .ok (Value.int IntKind.u64 (G u : Nat)) w' := fun w' => by
            have : u = 0 ∨ u = 1 ∨ u = 2 ∨ u = 3 ∨ u = 4 := (by omega)
            rcases this with rfl | rfl | rfl | rfl | rfl
            · exact idx5_0 _ _ _ _ _ _
            · exact idx5_1 _ _ _ _ _ _
            · exact idx5_2 _ _ _ _ _ _
            · exact idx5_3 _ _ _ _ _ _
            · exact idx5_4 _ _ _ _ _ _
          have hA0 := and_pow0 M u hM32 (by omega); have HGu := Lib.hid (HGl.out u); have HO := Lib.hid (bits_or_u64_nat (K ||| U u) (G u) (by have := Nat.or_lt_two_pow HKl.out (HUl.out u); omega) (by have := HGl.out u; omega))
          go_wp2
          go_quiet (fail)
          cases hbit : M.testBit u
          · rw [hbit] at hA0; have HN := Lib.hid (show K ||| U u ||| G u = K ||| U (u + 1) by rw [HU'.out u, hbit, Nat.or_assoc]; simp)
            go_wp2
            go_roundw
            case rel => exact ⟨u + 1, by omega, by go_num, by rw [← HN.out, ← HO.out], below_drewN hb _⟩
            case measure => simp [intOf]; omega
          · rw [hbit] at hA0; have HN := Lib.hid (show K ||| U u = K ||| U (u + 1) by rw [HU'.out u, hbit]; simp)
            go_wp2
            go_roundw
            case rel => exact ⟨u + 1, by omega, by go_num, by rw [← HN.out], below_drewN hb _⟩
            case measure => simp [intOf]; omega
        · obtain rfl : u = 5 := by omega
          go_wp2
          go_roundw
          case rel => exact ⟨j + 1, hj1, by go_num, by rw [HU5.out], hb⟩
          case measure => simp [intOf]; omega
    · obtain rfl : j = n := by omega
      go_wp2
      go_ret
      exact ⟨rfl, HB0.out.trans (hb.mono (by omega))⟩
set_option maxHeartbeats 1000000 in
theorem narrow_any (F : Nat → Nat) (A : Option Addr) (c n B : Nat) (xs f : List Int) (g cm nm lo : Nat) (o : List Int) (w : World) (h : Rd w B A n xs) (hBg : B ≤ g) (ho : Ow w lo (some ⟨g, 0, none⟩) nm cm o) (n4 : n ≤ 4) (hF : ∀ i, F i < 2 ^ 64)
    (hin : ∀ i, i < n → ∃ q : Nat, nth xs i = (q : Int) ∧ q < nm) (hms : ∀ i, i < nm → 0 ≤ nth o i ∧ nth o i < 32)
    (hf : ∀ j, j < n → nth f j = ((nmUF F (loJF F (fun j => (nth o (nth xs j).toNat).toNat) n) j 5 : Nat) : Int)) :
    Calls Tryz.prog 164 #[.agg (tcells F A n c), .slice (some ⟨g, 0, none⟩) nm cm] w fun e w' => e = .returned (.tuple #[]) ∧ Ow w' lo (some ⟨g, 0, none⟩) nm cm (nrIn xs f o n) ∧ w.grownBy w' (some g) := by
  have hgw := ho.own_hi g rfl; obtain ⟨W, hW⟩ : ∃ W, w.alloc (.cells (tcells F A n c) 135) = W := ⟨_, rfl⟩
  have ht : TBox W w.heap.size F A n c := by rw [← hW]; exact heap_alloc_new w _
  have hb0 : Below w.heap.size w W := by rw [← hW]; exact (Below.refl _ _).alloc (Nat.le_refl _) _
  have hs0 : W.heap.size = w.heap.size + 1 := by rw [← hW]; simp
  have hB : B ≤ w.heap.size := by omega
  have HLs := Lib.hid (lost_any F A c n B xs (some ⟨g, 0, none⟩) cm nm W.heap.size o W (h.below (hb0.mono hB)) (by omega) (ho.below hb0).rd (Nat.le_refl _) n4 hF hin hms); obtain ⟨L, hL⟩ : ∃ L, L = loJF F (fun j => (nth o (nth xs j).toNat).toNat) n := ⟨_, rfl⟩; rw [← hL] at HLs hf; have HL64 := Lib.hid (show L < 2 ^ 64 by rw [hL]; exact loJF_lt hF n); have hlen := ho.len; have Hi := Lib.hid (show (Tryz.prog.info? 135).map (·.size) = some 21 from by kernel_rfl); have HT := Lib.hid ht; have HIN := Lib.hid hin; have HFf := Lib.hid hf; have HF := Lib.hid hF; have H := Lib.hid h; have HO := Lib.hid ho
  have HB0 := Lib.hid hb0; have hr0 : W.heap[w.heap.size]? = some (.cells (tcells F A n c) 135) := ht; clear hL ht hin hms hf hF h ho hb0
  go_enter Tryz.func164, Tryz.ntmps164
  go_wp2_with (first
    | (refine wpList_load_row rfl 135 _ rfl w.heap.size rfl 135 (tcells F A n c) (0, 0) _ hr0 Tryz.underlying135 rfl Hi.out ?_)
    | (go_at_call 180; refine HLs.out.mono ?_; rintro e w1 ⟨rfl, hb1⟩; have ht1 : TBox w1 w.heap.size F A n c := HT.out.kept (hb1.block _ (by omega)); have hc0 := ht1.cell0))
  have HB1 := Lib.hid (HB0.out.trans (hb1.mono (by omega))); have HT1 := Lib.hid ht1; have hs1 := hb1.size; clear ht1 hc0 hr0 hb1
  go_loopw [15] (fun i wr => ∃ j : Nat, j ≤ n ∧ i = .int .i64 j ∧ Ow wr lo (some ⟨g, 0, none⟩) nm cm (nrIn xs f o j) ∧ w1.grownBy wr (some g)) (fun i _ => n - (intOf i).toNat)
  case atStart => exact ⟨0, Nat.zero_le _, rfl, HO.out.below HB1.out, World.grownBy.refl _ _⟩
  case round =>
    obtain ⟨j, hj, rfl, ho, hg⟩ := hrel; have htr : TBox wr w.heap.size F A n c := HT1.out.kept (hg.block _ (by omega) (fun e => by have := Option.some.inj e; omega))
    by_cases hlt : j < n
    · have hltI : (j : Int) < (n : Int) := by omega
      obtain ⟨b, off, rfl, hbB, hck0⟩ := (H.out.below (HB1.out.mono hB)).at_ hlt; have hck := (hg.cell_far ⟨b, off + j, none⟩ (by show b < _; omega) (fun e => by have e : b = g := Option.some.inj e; omega)).trans hck0; obtain ⟨q, hq, hqn⟩ := HIN.out j hlt; rw [hq] at hck; have t0 := htr.cell (i := j * 5) (by omega); have t1 := htr.cell (i := j * 5 + 1) (by omega); have t2 := htr.cell (i := j * 5 + 2) (by omega); have t3 := htr.cell (i := j * 5 + 3) (by omega); have t4 := htr.cell (i := j * 5 + 4) (by omega); simp only [← Nat.add_assoc] at t1 t2 t3 t4; have hj4 : (j : Int) < 4 := (by omega); have hqI : (q : Int) < (nm : Int) := (by omega)
      obtain ⟨hcq, hfq⟩ := ho.cell hqn
      obtain ⟨G, hG⟩ : ∃ G : Nat → Nat, G = fun u => F (j * 5 + u) := ⟨_, rfl⟩
      obtain ⟨U, hU⟩ : ∃ U : Nat → Nat, U = fun u => nmUF F L j u := ⟨_, rfl⟩
      have g0 : F (j * 5) = G 0 := (by rw [hG]; rfl); have g1 : F (j * 5 + 1) = G 1 := (by rw [hG]); have g2 : F (j * 5 + 2) = G 2 := (by rw [hG]); have g3 : F (j * 5 + 3) = G 3 := (by rw [hG]); have g4 : F (j * 5 + 4) = G 4 := (by rw [hG]); rw [g0] at t0; rw [g1] at t1; rw [g2] at t2; rw [g3] at t3; rw [g4] at t4; have HU : Hid (∀ u, U (u + 1) = U u ||| (if anU (G u) L ≠ 0 then 2 ^ u else 0)) := Lib.hid (fun u => by rw [hU, hG]; rfl); have HUl : Hid (∀ u, U u < 2 ^ u) := Lib.hid (fun u => by rw [hU]; exact nmUF_lt u); have HGl : Hid (∀ u, G u < 2 ^ 64) := Lib.hid (fun u => by rw [hG]; exact HF.out _)
      have HEnd : Hid (nrIn xs f o (j + 1) = (nrIn xs f o j).set q ((U 5 : Nat) : Int)) := Lib.hid (by simp only [nrIn]; rw [hq, Int.toNat_natCast, HFf.out j hlt, hU]); obtain ⟨oj, hoj⟩ : ∃ oj, oj = nrIn xs f o j := ⟨_, rfl⟩; rw [← hoj] at ho hcq HEnd; have hol : q < oj.length := (by rw [ho.len]; exact hqn); have hput := ho.putN q 0; have HS0 := Lib.hid (show Ow (wr.setCell ⟨g, q, none⟩ (.int .i64 0)) lo (some ⟨g, 0, none⟩) nm cm (oj.set q ((U 0 : Nat) : Int)) by rw [show ((U 0 : Nat) : Int) = 0 by rw [hU]; rfl]; exact hput); have HG1 := Lib.hid (hg.trans (grown_set (w := wr) (G := g) (i := q) (v := .int .i64 0)))
      have hts : ∀ i, i < 20 → (wr.setCell ⟨g, q, none⟩ (.int .i64 0)).cell? ⟨w.heap.size, 1 + i, none⟩ = wr.cell? ⟨w.heap.size, 1 + i, none⟩ := fun i _ => World.cell?_of_block (a := ⟨w.heap.size, 1 + i, none⟩) (heap_setCell_other wr ⟨g, q, none⟩ w.heap.size _ (fun e => by dsimp only at e; omega))
      have s0 := (hts (j * 5) (by omega)).trans t0; have s1 := (hts (j * 5 + 1) (by omega)).trans t1; have s2 := (hts (j * 5 + 2) (by omega)).trans t2; have s3 := (hts (j * 5 + 3) (by omega)).trans t3; have s4 := (hts (j * 5 + 4) (by omega)).trans t4; simp only [← Nat.add_assoc] at s0 s1 s2 s3 s4; have htc := htr.cell0; have Hlt := Lib.hid hlt; clear hq hG hU g0 g1 g2 g3 g4 hoj hput hts t0 t1 t2 t3 t4 hlt htr
      go_wp2
      go_loopw [27] (fun i wx => ∃ u : Nat, u ≤ 5 ∧ i = .int .i64 u ∧ Ow wx lo (some ⟨g, 0, none⟩) nm cm (oj.set q ((U u : Nat) : Int)) ∧ w1.grownBy wx (some g)) (fun i _ => 5 - (intOf i).toNat)
      case atStart => exact ⟨0, by omega, rfl, HS0.out, HG1.out⟩
      case round =>
        clear hck s0 s1 s2 s3 s4 htc hcq hfq hg; obtain ⟨u, hu, rfl, ho, hg⟩ := hrel
        by_cases hlt : u < 5
        · have hltI : (u : Int) < 5 := (by omega)
          have hidx : ∀ w', (Instr.index 132 (.agg #[Value.int IntKind.u64 (G 0 : Nat), Value.int IntKind.u64 (G 1 : Nat), Value.int IntKind.u64 (G 2 : Nat), Value.int IntKind.u64 (G 3 : Nat), Value.int IntKind.u64 (G 4 : Nat)]) (.int .i64 (u : Int))).run Tryz.prog w' = .ok (Value.int IntKind.u64 (G u : Nat)) w' := fun w' => by
            have : u = 0 ∨ u = 1 ∨ u = 2 ∨ u = 3 ∨ u = 4 := (by omega)
            rcases this with rfl | rfl | rfl | rfl | rfl
            · exact idx5_0 _ _ _ _ _ _
            · exact idx5_1 _ _ _ _ _ _
            · exact idx5_2 _ _ _ _ _ _
            · exact idx5_3 _ _ _ _ _ _
            · exact idx5_4 _ _ _ _ _ _
          have hAn := andNot_u64 (a := G u) (b := L) (by have := HGl.out u; omega) (by have := HL64.out; omega); have HUu := HU.out u; obtain ⟨Z, hZ⟩ : ∃ Z, Z = anU (G u) L := ⟨_, rfl⟩; rw [← hZ] at hAn HUu
          by_cases hz : Z = 0
          · rw [if_neg (by simpa using hz), Nat.or_zero] at HUu; have hZ0 : ((Z : Int) != 0) = false := (by simp; exact hz); have HN := Lib.hid HUu; clear hZ hz HUu
            go_wp2
            go_roundw
            case rel => exact ⟨u + 1, by omega, by go_num, by rw [HN.out]; exact ho, hg⟩
            case measure => simp [intOf]; omega
          · rw [if_pos hz] at HUu; have hZ0 : ((Z : Int) != 0) = true := (by simp; exact hz); obtain ⟨hc, hfr⟩ := ho.cell hqn; rw [nth_set hol, if_pos rfl] at hc; have hU32 : U u < 32 := Nat.lt_of_lt_of_le (HUl.out u) (Nat.pow_le_pow_right (n := 2) (j := 5) (by omega) (by omega)); have hor := or_pow (U u) u hU32 (by omega); rw [← HUu] at hor; obtain ⟨U1, hU1⟩ : ∃ U1, U1 = U (u + 1) := ⟨_, rfl⟩; rw [← hU1] at hor; obtain ⟨U0, hU0⟩ : ∃ U0, U0 = U u := ⟨_, rfl⟩; rw [← hU0] at hor hc; have hp := ho.putN q ((U1 : Nat) : Int); rw [List.set_set] at hp; have HE1 : Hid (Ow (wr.setCell ⟨g, q, none⟩ (.int .i64 (bits .or .i64 (U0 : Int) (wrap64 (2 ^ u))))).drew lo (some ⟨g, 0, none⟩) nm cm (oj.set q ((U (u + 1) : Nat) : Int))) := Lib.hid (by rw [hor, ← hU1]; exact World.ownsRow.drew hp)
            have HE2 : Hid (w1.grownBy (wr.setCell ⟨g, q, none⟩ (.int .i64 (bits .or .i64 (U0 : Int) (wrap64 (2 ^ u))))).drew (some g)) := Lib.hid (grown_drew (hg.trans grown_set)); have hu64 : (u : Int) < 64 := (by omega); clear hZ hz HUu hU1 hU0 hp ho hg hor hU32
            go_wp2
            go_region
            all_goals
              go_wp2
              first
                | (go_roundw
                   case rel => exact ⟨u + 1, by omega, by go_num, HE1.out, HE2.out⟩
                   case measure => simp [intOf]; omega)
                | exact ⟨⟨u + 1, by omega, by go_num, HE1.out, HE2.out⟩, by simp [intOf]; omega⟩
        · obtain rfl : u = 5 := by omega
          go_wp2
          go_roundw
          case rel => exact ⟨j + 1, Hlt.out, by go_num, by rw [HEnd.out]; exact ho, hg⟩
          case measure => have := Hlt.out; simp [intOf]; omega
    · obtain rfl : j = n := by omega
      go_wp2
      go_end0
      have hg0 : w.grownBy wr (some g) := (grown_of_below HB1.out).trans hg; exact ⟨rfl, ho, hg0⟩
theorem own_kept8 {w w' : World} {lo sz k : Nat} {t : TypeId} {v : Value} {vs : List Value} {row : Option Nat} (h : w.ownsRow lo t sz v k vs) (hg : w.grownBy w' row) (hne : ∀ g, v.ownBlock = some g → row ≠ some g) : w'.ownsRow lo t sz v k vs := by
  refine World.ownsRow.kept h hg ?_
  cases e : v.ownBlock with
  | none => exact .inl rfl
  | some g => exact .inr (fun he => hne g e he.symm)
theorem own_below8 {w w' : World} {lo sz k : Nat} {t : TypeId} {v : Value} {vs : List Value} (h : w.ownsRow lo t sz v k vs) (hb : Below w.heap.size w w') : w'.ownsRow lo t sz v k vs :=
  own_kept8 (row := none) h ⟨hb.os, hb.tape, hb.output, hb.size, fun k hk _ => hb.block k hk⟩ (fun g _ e => by cases e)
theorem rdrc_fun8 {W : World} {B n : Nat} {A : Option Addr} {rs : List RuleM} (h : RdRc W B A n rs) : ∃ (b off : Nat) (RA : Nat → Option Addr) (RC : Nat → Nat), (0 < n → A = some ⟨b, off, none⟩ ∧ b < B) ∧ ∀ i, i < n → W.cell? ⟨b, off + i * 3, none⟩ = some (.int .i64 (rat rs i).k) ∧ W.cell? ⟨b, off + i * 3 + 1, none⟩ = some (.slice (RA i) (rat rs i).xs.length (RC i)) ∧ W.cell? ⟨b, off + i * 3 + 2, none⟩ = some (.int .i64 (rat rs i).v) ∧ Rd W B (RA i) (rat rs i).xs.length (rat rs i).xs ∧ (rat rs i).xs.length ≤ RC i := by
  by_cases h0 : 0 < n
  · obtain ⟨b, off, e, hlt, hc⟩ := h.2 h0
    have key : ∀ i, ∃ q : Option Addr × Nat, i < n → W.cell? ⟨b, off + i * 3, none⟩ = some (.int .i64 (rat rs i).k) ∧ W.cell? ⟨b, off + i * 3 + 1, none⟩ = some (.slice q.1 (rat rs i).xs.length q.2) ∧ W.cell? ⟨b, off + i * 3 + 2, none⟩ = some (.int .i64 (rat rs i).v) ∧ Rd W B q.1 (rat rs i).xs.length (rat rs i).xs ∧ (rat rs i).xs.length ≤ q.2 := fun i => by
      by_cases hi : i < n
      · obtain ⟨A', c', a0, a1, a2, a3, _, a5⟩ := hc i hi; exact ⟨(A', c'), fun _ => ⟨a0, a1, a2, a3, a5⟩⟩
      · exact ⟨(none, 0), fun h => absurd h hi⟩
    obtain ⟨f, hf⟩ := Classical.axiomOfChoice key; exact ⟨b, off, fun i => (f i).1, fun i => (f i).2, fun _ => ⟨e, hlt⟩, hf⟩
  · exact ⟨0, 0, fun _ => none, fun _ => 0, fun h => absurd h h0, fun i hi => absurd hi (by omega)⟩
theorem mvd_top {m : List Int} {s : Nat} (h : mvd m s = true) (i : Nat) : (nth m i).toNat < 2 ^ (s + 1) := by
  by_cases hi : i < m.length
  · simp only [mvd, Bool.and_eq_true, List.all_eq_true] at h; have hm := h.2 _ (List.getElem_mem hi); simp only [mkOk, Bool.and_eq_true] at hm
    have e : nth m i = m[i] := by simp [nth, List.getD_eq_getElem?_getD, hi]
    rw [e]; obtain ⟨m0, m1⟩ := inr_t hm.1
    have hp : (2 : Int) ^ ((s : Int).toNat + 1) = ((2 ^ (s + 1) : Nat) : Int) := by rw [Int.toNat_natCast]; simp
    rw [hp] at m1; omega
  · have : nth m i = 0 := by simp [nth, List.getD_eq_getElem?_getD, List.getElem?_eq_none (by omega : m.length ≤ i)]
    rw [this]; exact Nat.two_pow_pos _
theorem opN_bit {s n i t : Nat} (hs : s ∈ [2, 3, 4]) (hi : i < n) (h1 : 1 ≤ t) (h4 : t ≤ s) : (nth (opN n s) i).toNat.testBit t = true := by
  unfold opN; rw [emL_at (n := n) (by simp [zeros]) hi, Int.toNat_natCast]; unfold emN; rw [if_pos (by rw [zeros_nth])]
  simp at hs
  rcases hs with rfl | rfl | rfl
  · have : t = 1 ∨ t = 2 := by omega
    rcases this with rfl | rfl <;> decide
  · have : t = 1 ∨ t = 2 ∨ t = 3 := by omega
    rcases this with rfl | rfl | rfl <;> decide
  · have : t = 1 ∨ t = 2 ∨ t = 3 ∨ t = 4 := by omega
    rcases this with rfl | rfl | rfl | rfl <;> decide
def rtF (s : Nat) (r : RuleM) : Nat → Nat := tF (rW r.k r.v r.xs.length s) r.xs.length
theorem rtF_lt (s : Nat) (r : RuleM) (i : Nat) : rtF s r i < 2 ^ 64 := tF_lt _ _ _
theorem nm_rm {s : Nat} {r : RuleM} {o : List Int} (hs : s ∈ [2, 3, 4]) (hv : rvR s r = true) (hm : mvd o s = true) (j : Nat) (hj : j < r.xs.length) :
    nth (rmL r.k r.xs r.v o s) j = ((nmUF (rtF s r) (loJF (rtF s r) (fun j => (nth o (nth r.xs j).toNat).toNat) r.xs.length) j 5 : Nat) : Int) := by
  have hL := rW_len (s := s) rfl hv; unfold rtF; rw [nmUF_is (by omega) hj 5 (Nat.le_refl _), loJF_is (by omega) _ (Nat.le_refl _), rm_nth hv hm j, nm_is (P := pks o r.xs r.xs.length) (by omega) (fun i hi => by rw [pks_nth hi]) (fun i hi t h1 _ hb => ?_) hj]; rw [pks_nth hi] at hb; have hlt := mvd_top hm (nth r.xs i).toNat; refine opN_bit hs hi h1 ?_
  rcases Nat.lt_or_ge t (s + 1) with h | h
  · omega
  · rw [Nat.testBit_lt_two_pow (Nat.lt_of_lt_of_le hlt (Nat.pow_le_pow_right (n := 2) (by omega) h))] at hb; cases hb
def tabV (s : Nat) (RA : Nat → Option Addr) (RC : Nat → Nat) (rs : List RuleM) : Nat → List Value
  | 0 => []
  | u + 1 => tabV s RA RC rs u ++ (tcells (rtF s (rat rs u)) (RA u) (rat rs u).xs.length (RC u)).toList
theorem tabV_len (s : Nat) (RA : Nat → Option Addr) (RC : Nat → Nat) (rs : List RuleM) (u : Nat) : (tabV s RA RC rs u).length = u * 21 := by
  induction u with
  | zero => rfl
  | succ u ih => simp only [tabV, List.length_append, ih]; rw [show (tcells (rtF s (rat rs u)) (RA u) (rat rs u).xs.length (RC u)).toList.length = 21 from rfl]; omega
theorem tabV_at (s : Nat) (RA : Nat → Option Addr) (RC : Nat → Nat) (rs : List RuleM) {u j i : Nat} (hj : j < u) (hi : i < 21) : (tabV s RA RC rs u)[j * 21 + i]? = (tcells (rtF s (rat rs j)) (RA j) (rat rs j).xs.length (RC j)).toList[i]? := by
  induction u with
  | zero => omega
  | succ u ih =>
    simp only [tabV]
    by_cases e : j = u
    · subst e; rw [List.getElem?_append_right (by rw [tabV_len]; omega), tabV_len]
      congr 1; omega
    · rw [List.getElem?_append_left (by rw [tabV_len]; omega)]; exact ih (by omega)
def TbR (w : World) (L B Br s : Nat) (rs : List RuleM) (A : Option Addr) (n : Nat) : Prop :=
  rs.length = n ∧ (0 < n → ∃ b, A = some ⟨b, 0, none⟩ ∧ L ≤ b ∧ b < B ∧ ∀ j, j < n → ∃ A' c', w.rangeAt b (j * 21) (tcells (rtF s (rat rs j)) A' (rat rs j).xs.length c').toList ∧ Rd w Br A' (rat rs j).xs.length (rat rs j).xs)
theorem rangeAt_below {w w' : World} {B b o : Nat} {cs : List Value} (h : w.rangeAt b o cs) (hb : Below B w w') (hB : b < B) : w'.rangeAt b o cs := fun j v hj => (hb.cell (p := ⟨b, o + j, none⟩) hB).trans (h j v hj)
theorem TbR.below {w w' : World} {L B Br s : Nat} {rs : List RuleM} {A : Option Addr} {n : Nat} (h : TbR w L B Br s rs A n) (hb : Below B w w') (hBr : Br ≤ B) : TbR w' L B Br s rs A n :=
  ⟨h.1, fun hn => by
    obtain ⟨b, e, hL, hlt, hc⟩ := h.2 hn; refine ⟨b, e, hL, hlt, fun j hj => ?_⟩; obtain ⟨A', c', h0, h1⟩ := hc j hj
    exact ⟨A', c', rangeAt_below h0 hb hlt, h1.below (hb.mono hBr)⟩⟩
theorem TbR.keep {w w' : World} {L B Br s : Nat} {rs : List RuleM} {A : Option Addr} {n : Nat} (h : TbR w L B Br s rs A n) (hk : ∀ k, L ≤ k → k < B → w'.heap[k]? = w.heap[k]?) (hb : Below Br w w') : TbR w' L B Br s rs A n :=
  ⟨h.1, fun hn => by
    obtain ⟨b, e, hL, hlt, hc⟩ := h.2 hn; refine ⟨b, e, hL, hlt, fun j hj => ?_⟩; obtain ⟨A', c', h0, h1⟩ := hc j hj
    exact ⟨A', c', fun i v hi => (World.cell?_of_block (a := ⟨b, j * 21 + i, none⟩) (hk b hL hlt)).trans (h0 i v hi), h1.below hb⟩⟩
theorem tbr_own {w : World} {L lo Br s n c : Nat} {A : Option Addr} {rs : List RuleM} {RA : Nat → Option Addr} {RC : Nat → Nat} (h : w.ownsRow lo 135 21 (.slice A n c) n (tabV s RA RC rs n)) (hl : rs.length = n)
    (hr : ∀ j, j < n → Rd w Br (RA j) (rat rs j).xs.length (rat rs j).xs) (hL : L ≤ lo) : TbR w L w.heap.size Br s rs A n := by
  refine ⟨hl, fun hn => ?_⟩; obtain ⟨g, cap, hv, h1, h2⟩ := World.ownsRow.form h hn
  injection hv with hA
  subst hA; refine ⟨g, rfl, by omega, h2, fun j hj => ⟨RA j, RC j, fun i v hi => ?_, hr j hj⟩⟩
  have hi21 : i < 21 := by
    have := (List.getElem?_eq_some_iff.1 hi).1; exact this
  have := World.ownsRow.cellAt h (j * 21 + i) (by omega); rw [this, tabV_at s RA RC rs hj hi21]; exact hi
end Go.Proofs.YtcjdjcpappfkgaaGreatDoor
namespace Go.Proofs.YtcjdjcpappfkgaaGreatDoor
section
variable {P : Program} {md : Region.Mode} {ops : Array Oper} {Q : Exit → Act → World → Prop} {Inv : Array Bool → Act → World → Prop}
def unl (l : Array Bool) : Nat := l.toList.countP (fun b => b == false)
theorem unl_set {l : Array Bool} {i : Nat} (h : l.getD i true = false) : unl (l.setIfInBounds i true) < unl l := by
  have hi : i < l.size := by
    rcases Nat.lt_or_ge i l.size with h' | h'
    · exact h'
    · simp [Array.getElem?_eq_none h'] at h
  have he : l.toList[i]'(by simpa using hi) = false := by simpa [hi] using h
  unfold unl; rw [Array.toList_setIfInBounds, List.countP_set (by simpa using hi), he]; have : 0 < l.toList.countP (fun b => b == false) := List.countP_pos_iff.2 ⟨false, by rw [← he]; exact List.getElem_mem _, rfl⟩
  show List.countP (fun b => b == false) l.toList - 1 + 0 < List.countP (fun b => b == false) l.toList
  omega
theorem unl_zero {l : Array Bool} (h : unl l = 0) (i : Nat) : l.getD i true = true := by
  unfold unl at h; rw [List.countP_eq_zero] at h
  rcases Nat.lt_or_ge i l.size with h' | h'
  · have := h (l.toList[i]'(by simpa using h')) (List.getElem_mem _)
    simpa [h'] using this
  · simp [Array.getElem?_eq_none h']
theorem wpAny_inv (hback : ∀ (i : Nat) (o : Oper), ops[i]? = some o → ∀ e ∈ o.after, e.on < i) (hsz : ∀ l a w, Inv l a w → l.size = ops.size)
    (hstep : ∀ l a w (i : Nat) (o : Oper), Inv l a w → ops[i]? = some o → l.getD i true = false → (∀ e ∈ o.after, Region.binds md e = true → l.getD e.on false = true) → wpOp P ops Q i (Inv (l.setIfInBounds i true)) a w)
    (hdone : ∀ l a w, Inv l a w → (∀ i, i < ops.size → l.getD i false = true) → Q .normal a w) :
    ∀ fuel l a w, unl l ≤ fuel → Inv l a w → wpAny P md ops Q fuel l a w := by
  have fin : ∀ l a w, Inv l a w → Region.ready md ops l = [] → Q .normal a w := by
    intro l a w hI hr; refine hdone l a w hI ?_; intro i
    induction i using Nat.strongRecOn with
    | ind i ih =>
      intro hi
      cases hb : l.getD i false with
      | true => rfl
      | false =>
        exfalso
        have hil : i < l.size := (by rw [hsz l a w hI]; exact hi); have ho : ops[i]? = some ops[i] := Array.getElem?_eq_getElem hi; have : i ∈ Region.ready md ops l := mem_ready.2 ⟨by simpa [hil] using hb, ops[i], ho, fun e he _ => ih e.on (hback i _ ho e he) (Nat.lt_trans (hback i _ ho e he) hi)⟩; rw [hr] at this; cases this
  intro fuel
  induction fuel with
  | zero =>
    intro l a w hu hI
    have hr : Region.ready md ops l = [] := by
      cases e : Region.ready md ops l with
      | nil => rfl
      | cons j r =>
        have hj : j ∈ Region.ready md ops l := (by rw [e]; exact List.mem_cons_self ..); have h1 := (mem_ready.1 hj).1; rw [unl_zero (by omega) j] at h1; cases h1
    exact ⟨hr, fin l a w hI hr⟩
  | succ fuel ih =>
    intro l a w hu hI; refine ⟨fin l a w hI, fun i hi => ?_⟩; obtain ⟨h1, o, ho, hall⟩ := mem_ready.1 hi; refine wpOp_mono (fun a' w' h => ih _ a' w' ?_ h) (hstep l a w i o hI ho h1 hall); have := unl_set h1; omega
theorem wp_region_inv {id : Nat} {a : Act} {w : World} (hm : P.follows .mixedOrders = true) (hback : ∀ (i : Nat) (o : Oper), ops[i]? = some o → ∀ e ∈ o.after, e.on < i) (hsz : ∀ l a w, Inv l a w → l.size = ops.size)
    (hstep : ∀ l a w (i : Nat) (o : Oper), Inv l a w → ops[i]? = some o → l.getD i true = false → (∀ e ∈ o.after, Region.binds .any e = true → l.getD e.on false = true) → wpOp P ops Q i (Inv (l.setIfInBounds i true)) a w)
    (hdone : ∀ l a w, Inv l a w → (∀ i, i < ops.size → l.getD i false = true) → Q .normal a w)
    (h0 : Inv (Array.replicate ops.size false) a { w with drawn := w.drawn + 1 }) : (Code.region id ops true).wp P Q a w :=
  wp_region_any hm (wpAny_inv hback hsz hstep hdone _ _ _ _ (by
    unfold unl
    exact Nat.le_trans (List.countP_le_length) (by simp)) h0)
end
theorem frame_of {a a0 : Array Value} (ts : List Nat) (hs : a.size = a0.size) (h : ∀ t, t ∉ ts → a[t]? = a0[t]?) : a = ts.foldl (fun tm t => tm.setIfInBounds t (a.getD t undef)) a0 := by
  have key : ∀ (ts : List Nat) (b : Array Value), b.size = a.size → ∀ t, (ts.foldl (fun tm t => tm.setIfInBounds t (a.getD t undef)) b)[t]? = if t ∈ ts then a[t]? else b[t]? := by
    intro ts
    induction ts with
    | nil => intro b _ t; simp
    | cons u ts ih =>
      intro b hb t; rw [List.foldl_cons, ih _ (by simpa using hb)]
      by_cases e : t ∈ ts
      · simp [e]
      · simp only [e, if_false, List.mem_cons, or_false]
        by_cases hu : t = u
        · subst hu; rw [if_pos rfl]
          rcases Nat.lt_or_ge t a.size with h' | h'
          · simp [Array.getElem?_setIfInBounds_self_of_lt (hb ▸ h'), h']
          · rw [Array.getElem?_eq_none h', Array.getElem?_eq_none (by simp; omega)]
        · rw [if_neg hu, Array.getElem?_setIfInBounds_ne (fun e' => hu e'.symm)]
  apply Array.ext_getElem?
  intro t; rw [key ts a0 hs.symm t]
  split
  · rfl
  · exact h t (by assumption)
section
variable {P : Program} {ops : Array Oper} {Q : Exit → Act → World → Prop} {md : Region.Mode} {S : World → Prop} {z : Nat}
end
end Go.Proofs.YtcjdjcpappfkgaaGreatDoor
namespace Go.Proofs.YtcjdjcpappfkgaaGreatDoor
open Go.ChangeShapes Go.WideShapes Go.ChangeAt Go.RowKit
theorem eval_put_same {a : Act} {t : Nat} {v : Value} (h : t < a.tmps.size) : (a.put (some t) v).eval (.tmp t) = v := by
  simp [Act.put, Act.eval, h]
theorem eval_put_ne {a : Act} {t u : Nat} {v : Value} (h : t ≠ u) : (a.put (some t) v).eval (.tmp u) = a.eval (.tmp u) := by
  simp [Act.put, Act.eval, Array.getElem?_setIfInBounds_ne h]
theorem size_put {a : Act} {d : Option Tmp} {v : Value} : (a.put d v).tmps.size = a.tmps.size := by
  cases d <;> simp [Act.put]
def Off (d : Nat → Nat) (m : Nat) (a a0 : Act) : Prop := a.tmps.size = a0.tmps.size ∧ a.defers = a0.defers ∧ ∀ t, (∀ j, j < m → d j ≠ t) → a.tmps[t]? = a0.tmps[t]?
theorem Off.eval {d : Nat → Nat} {m : Nat} {a a0 : Act} (h : Off d m a a0) {t : Nat} (ht : ∀ j, j < m → d j ≠ t) : a.eval (.tmp t) = a0.eval (.tmp t) := by
  simp [Act.eval, h.2.2 t ht]
theorem wp_region_made {P : Program} {ops : Array Oper} {Q : Exit → Act → World → Prop} {id : Nat} {a0 : Act} {W : World} (m : Nat) (d : Nat → Nat) (G : Nat → Value → World → Prop)
    (hm : P.follows .mixedOrders = true) (hlen : ops.size = m + 1) (hback : ∀ (i : Nat) (o : Oper), ops[i]? = some o → ∀ e ∈ o.after, e.on < i)
    (hd : ∀ i o, i < m → ops[i]? = some o → o.dst = some (d i) ∧ o.guard = none) (hinj : ∀ i j, i < m → j < m → d i = d j → i = j) (hlt : ∀ i, i < m → d i < a0.tmps.size)
    (hl : ∀ o, ops[m]? = some o → o.dst = none ∧ o.guard = none ∧ ∀ j, j < m → ∃ e ∈ o.after, e.on = j ∧ Region.binds .any e = true)
    (hG : ∀ j v w w', Below w.heap.size w w' → G j v w → G j v w')
    (hstep : ∀ i o a w, i < m → ops[i]? = some o → Below W.heap.size W w → Off d m a a0 → (∀ e ∈ o.after, Region.binds .any e = true → G e.on (a.eval (.tmp (d e.on))) w) → ∃ v w', (execOp a.eval o).run P w = .ok (.value v) w' ∧ Below w.heap.size w w' ∧ G i v w')
    (hlast : ∀ o a w, ops[m]? = some o → Below W.heap.size W w → Off d m a a0 → (∀ j, j < m → G j (a.eval (.tmp (d j))) w) → ∃ w', (execOp a.eval o).run P w = .ok .skip w' ∧ Q .normal a w') :
    (Code.region id ops true).wp P Q a0 W := by
  refine wp_region_inv (Inv := fun l a w => l.size = ops.size ∧ ((l.getD m false = false ∧ Below W.heap.size W w ∧ Off d m a a0 ∧ ∀ j, j < m → l.getD j false = true → G j (a.eval (.tmp (d j))) w) ∨ ((∀ j, j < ops.size → l.getD j false = true) ∧ Q .normal a w))) hm hback (fun l a w h => h.1) ?step ?done ?h0
  case done =>
    rintro l a w ⟨hs, h⟩ hall
    rcases h with ⟨h1, _⟩ | ⟨_, h⟩
    · rw [hall m (by omega)] at h1; cases h1
    · exact h
  case h0 =>
    refine ⟨by simp, .inl ⟨by rw [Array.getD_eq_getD_getElem?, Array.getElem?_replicate]; split <;> rfl, (Below.refl W.heap.size W).drew, ⟨rfl, rfl, fun _ _ => rfl⟩, fun j hj hlj => ?_⟩⟩
    simp at hlj
    have : j < ops.size := by omega
    simp [this] at hlj
  case step =>
    rintro l a w i o ⟨hs, h⟩ ho hli hall; have hi : i < ops.size := (Array.getElem?_eq_some_iff.1 ho).1
    have hil : i < l.size := by omega
    rcases h with ⟨h1, hb, hoff, hg⟩ | ⟨h, _⟩
    · refine wpOp_step ho (fun K hK => ?_); have hsz : (l.setIfInBounds i true).size = ops.size := (by simpa using hs)
      by_cases him : i = m
      · subst him; obtain ⟨q1, q2, q3⟩ := hl o ho
        have hallj : ∀ j, j < i → l.getD j false = true := fun j hj => by
          obtain ⟨e, he, rfl, hbd⟩ := q3 j hj; exact hall e he hbd
        obtain ⟨w', hrun, hq⟩ := hlast o a w ho hb hoff (fun j hj => hg j hj (hallj j hj)); rw [if_pos (by simp [Region.wanted, q2])]; unfold Oper.wp; rw [hrun]; have hput : a.put o.dst undef = a := (by rw [q1]; rfl); refine hK _ _ ⟨hsz, .inr ⟨fun j hj => ?_, ?_⟩⟩
        · by_cases e : j = i
          · subst e; simp [hil]
          · have := hallj j (by omega); have hjl : j < l.size := (by omega); have hset : (l.setIfInBounds i true).getD j false = l.getD j false := (by simp [Array.getElem?_setIfInBounds_ne (fun e' => e (Eq.symm e'))]); rw [hset]; exact this
        · first | exact hq | (rw [hput]; exact hq)
      · have him' : i < m := (by omega); obtain ⟨q1, q2⟩ := hd i o him' ho
        have hpre : ∀ e ∈ o.after, Region.binds .any e = true → G e.on (a.eval (.tmp (d e.on))) w := fun e he hbd => hg e.on (Nat.lt_trans (hback i o ho e he) him') (hall e he hbd)
        obtain ⟨v, w', hrun, hb', hgi⟩ := hstep i o a w him' ho hb hoff hpre; rw [if_pos (by simp [Region.wanted, q2])]; unfold Oper.wp; rw [hrun]; have hdlt : d i < a.tmps.size := (by rw [hoff.1]; exact hlt i him')
        have hset : ∀ j, (l.setIfInBounds i true).getD j false = if j = i then true else l.getD j false := fun j => by
          by_cases e : j = i
          · subst e; simp [hil]
          · rw [if_neg e]; simp [Array.getElem?_setIfInBounds_ne (fun e' => e (Eq.symm e'))]
        refine hK _ _ ⟨hsz, .inl ⟨by rw [hset, if_neg (fun e => him e.symm)]; exact h1, step hb hb', ?_, fun j hj hlj => ?_⟩⟩
        · rw [q1]; refine ⟨by rw [size_put]; exact hoff.1, hoff.2.1, fun t ht => ?_⟩; rw [← hoff.2.2 t ht]
          simp [Act.put, Array.getElem?_setIfInBounds_ne (ht i him')]
        · rw [q1]
          by_cases e : j = i
          · subst e; rw [eval_put_same hdlt]; exact hgi
          · rw [eval_put_ne (fun e' => e (hinj _ _ hj him' e'.symm))]; rw [hset, if_neg e] at hlj; exact hG _ _ _ _ hb' (hg j hj hlj)
    · have := h i hi
      simp [hil] at hli this
      rw [this] at hli; cases hli
def chkOps (ops : Array Oper) (ds : List Nat) : Bool :=
  ops.size == ds.length + 1 && ((List.range ops.size).all fun i => match ops[i]? with
    | some o => o.after.all fun e => decide (e.on < i)
    | none => false) && ((List.range ds.length).all fun i => match ops[i]? with
    | some o => decide (o.dst = some (ds.getD i 0)) && o.guard.isNone
    | none => false) && (match ops[ds.length]? with
    | some o => o.dst.isNone && o.guard.isNone && (List.range ds.length).all fun j => o.after.any fun e => e.on == j && Region.binds .any e
    | none => false) && decide ds.Nodup
theorem wp_region_ds {P : Program} {ops : Array Oper} {Q : Exit → Act → World → Prop} {id : Nat} {a0 : Act} {W : World} (ds : List Nat) (G : Nat → Value → World → Prop)
    (hm : P.follows .mixedOrders = true) (hc : chkOps ops ds = true) (hlt : ∀ t ∈ ds, t < a0.tmps.size)
    (hG : ∀ j v w w', Below w.heap.size w w' → G j v w → G j v w')
    (hstep : ∀ (i : Nat) (o : Oper) (a : Act) (w : World), i < ds.length → ops[i]? = some o → Below W.heap.size W w → (∀ t, t ∉ ds → a.eval (.tmp t) = a0.eval (.tmp t)) → (∀ e ∈ o.after, Region.binds .any e = true → G e.on (a.eval (.tmp (ds.getD e.on 0))) w) → ∃ v w', (execOp a.eval o).run P w = .ok (.value v) w' ∧ Below w.heap.size w w' ∧ G i v w')
    (hlast : ∀ (o : Oper) (a : Act) (w : World), ops[ds.length]? = some o → Below W.heap.size W w → a.defers = a0.defers → a.tmps = ds.foldl (fun tm t => tm.setIfInBounds t (a.tmps.getD t undef)) a0.tmps → (∀ t, t ∉ ds → a.eval (.tmp t) = a0.eval (.tmp t)) → (∀ j, j < ds.length → G j (a.eval (.tmp (ds.getD j 0))) w) → ∃ w', (execOp a.eval o).run P w = .ok .skip w' ∧ Q .normal a w') :
    (Code.region id ops true).wp P Q a0 W := by
  simp only [chkOps, Bool.and_eq_true, beq_iff_eq, List.all_eq_true, List.mem_range, decide_eq_true_eq] at hc; obtain ⟨⟨⟨⟨c1, c2⟩, c3⟩, c4⟩, c5⟩ := hc
  have hout : ∀ t, t ∉ ds → ∀ j, j < ds.length → ds.getD j 0 ≠ t := fun t ht j hj e => ht (by
    rw [← e, List.getD_eq_getElem?_getD, List.getElem?_eq_getElem hj]; exact List.getElem_mem _)
  have hmem : ∀ j, j < ds.length → ds.getD j 0 ∈ ds := fun j hj => by
    rw [List.getD_eq_getElem?_getD, List.getElem?_eq_getElem hj]; exact List.getElem_mem _
  refine wp_region_made ds.length (fun j => ds.getD j 0) G hm c1 ?back ?hd ?inj (fun i hi => hlt _ (hmem i hi)) ?hl hG ?step ?last
  case back =>
    intro i o ho e he; have hi : i < ops.size := (Array.getElem?_eq_some_iff.1 ho).1; have := c2 i hi; rw [ho] at this; simp only [Array.all_eq_true_iff_forall_mem, decide_eq_true_eq] at this; exact this e he
  case hd =>
    intro i o hi ho; have := c3 i hi; rw [ho] at this; simp only [Bool.and_eq_true, decide_eq_true_eq, Option.isNone_iff_eq_none] at this; exact this
  case inj =>
    intro i j hi hj e; simp only [List.getD_eq_getElem?_getD, List.getElem?_eq_getElem hi, List.getElem?_eq_getElem hj, Option.getD_some] at e; exact (List.getElem_inj c5).1 e
  case hl =>
    intro o ho; rw [ho] at c4; simp only [Bool.and_eq_true, Option.isNone_iff_eq_none, List.all_eq_true, List.mem_range] at c4; refine ⟨c4.1.1, c4.1.2, fun j hj => ?_⟩; obtain ⟨e, he, h⟩ := Array.any_eq_true'.1 (c4.2 j hj); rw [Bool.and_eq_true, beq_iff_eq] at h; exact ⟨e, he, h.1, h.2⟩
  case step =>
    intro i o a w hi ho hb hoff hpre; exact hstep i o a w hi ho hb (fun t ht => hoff.eval (hout t ht)) hpre
  case last =>
    intro o a w ho hb hoff hpre; refine hlast o a w ho hb hoff.2.1 (frame_of ds hoff.1 (fun t ht => hoff.2.2 t (hout t ht))) (fun t ht => hoff.eval (hout t ht)) hpre
theorem oper_val {P : Program} {o : Oper} {a : Act} {w w' : World} {K : Act → World → Prop} {Q : Exit → Act → World → Prop} {v : Value} (hrun : (execOp a.eval o).run P w = .ok (.value v) w') (h : K (a.put o.dst v) w') : o.wp P a w K Q := by
  unfold Oper.wp; rw [hrun]; exact h
theorem oper_call {P : Program} {o : Oper} {a : Act} {w : World} {K : Act → World → Prop} {Q : Exit → Act → World → Prop} {f : FuncId} {args : Array Value} {R : Ending → World → Prop} (hrun : (execOp a.eval o).run P w = .ok (.enter f args) w) (hc : Calls P f args w R) (h : ∀ e w', R e w' → ∃ v, e = .returned v ∧ K (a.put o.dst v) w') : o.wp P a w K Q := by
  unfold Oper.wp; rw [hrun]; refine hc.mono (fun e w' hr => ?_); obtain ⟨v, rfl, hk⟩ := h e w' hr; exact hk
theorem wp_region_madeS {P : Program} {ops : Array Oper} {Q : Exit → Act → World → Prop} {id : Nat} {a0 : Act} {W : World} (m : Nat) (d : Nat → Nat) (G : Nat → Value → World → Prop) (Rel : World → World → Prop) (Eff : Nat → World → World → Prop) (C : Nat → World → Prop) (hC0 : ∀ j, C j W.drew) (hrefl : Rel W W.drew) (htrans : ∀ w w', Rel W w → Rel w w' → Rel W w')
    (hm : P.follows .mixedOrders = true) (hlen : ops.size = m + 1) (hback : ∀ (i : Nat) (o : Oper), ops[i]? = some o → ∀ e ∈ o.after, e.on < i)
    (hd : ∀ i o, i < m → ops[i]? = some o → o.dst = some (d i) ∧ o.guard = none) (hinj : ∀ i j, i < m → j < m → d i = d j → i = j) (hlt : ∀ i, i < m → d i < a0.tmps.size)
    (hl : ∀ o, ops[m]? = some o → o.dst = none ∧ o.guard = none ∧ ∀ j, j < m → ∃ e ∈ o.after, e.on = j ∧ Region.binds .any e = true)
    (hG : ∀ j i v w w', j ≠ i → Rel W w → Eff i w w' → G j v w → G j v w')
    (hstep : ∀ i o a w (K : Act → World → Prop) (D : Nat → Prop), (∀ e ∈ o.after, Region.binds .any e = true → D e.on) → (∀ i' o', ops[i']? = some o' → D i' → ∀ e ∈ o'.after, Region.binds .any e = true → D e.on) → i < m → ops[i]? = some o → Rel W w → Off d m a a0 → (∀ e ∈ o.after, Region.binds .any e = true → G e.on (a.eval (.tmp (d e.on))) w) → C i w → (∀ v w', Rel w w' → Eff i w w' → (∀ j, j ≠ i → ¬ D j → C j w → C j w') → G i v w' → K (a.put o.dst v) w') → o.wp P a w K Q)
    (hlast : ∀ o a w, ops[m]? = some o → Rel W w → Off d m a a0 → (∀ j, j < m → G j (a.eval (.tmp (d j))) w) → ∃ w', (execOp a.eval o).run P w = .ok .skip w' ∧ Q .normal a w') :
    (Code.region id ops true).wp P Q a0 W := by
  refine wp_region_inv (Inv := fun l a w => (l.size = ops.size ∧ ∀ i' o', ops[i']? = some o' → l.getD i' false = true → ∀ e ∈ o'.after, Region.binds .any e = true → l.getD e.on false = true) ∧ ((l.getD m false = false ∧ Rel W w ∧ Off d m a a0 ∧ (∀ j, l.getD j false = false → C j w) ∧ ∀ j, j < m → l.getD j false = true → G j (a.eval (.tmp (d j))) w) ∨ ((∀ j, j < ops.size → l.getD j false = true) ∧ Q .normal a w))) hm hback (fun l a w h => h.1.1) ?step ?done ?h0
  case done =>
    rintro l a w ⟨⟨hs, _⟩, h⟩ hall
    rcases h with ⟨h1, _⟩ | ⟨_, h⟩
    · rw [hall m (by omega)] at h1; cases h1
    · exact h
  case h0 =>
    refine ⟨⟨by simp, fun i' o' _ hd' => by rw [Array.getD_eq_getD_getElem?, Array.getElem?_replicate] at hd'; split at hd' <;> cases hd'⟩, .inl ⟨by rw [Array.getD_eq_getD_getElem?, Array.getElem?_replicate]; split <;> rfl, hrefl, ⟨rfl, rfl, fun _ _ => rfl⟩, fun j _ => hC0 j, fun j hj hlj => ?_⟩⟩
    simp at hlj
    have : j < ops.size := by omega
    simp [this] at hlj
  case step =>
    rintro l a w i o ⟨⟨hs, hcl⟩, h⟩ ho hli hall; have hi : i < ops.size := (Array.getElem?_eq_some_iff.1 ho).1
    have hil : i < l.size := by omega
    rcases h with ⟨h1, hb, hoff, hcj, hg⟩ | ⟨h, _⟩
    · refine wpOp_step ho (fun K hK => ?_)
      have hset0 : ∀ j, (l.setIfInBounds i true).getD j false = if j = i then true else l.getD j false := fun j => by
        by_cases e : j = i
        · subst e; simp [hil]
        · rw [if_neg e]; simp [Array.getElem?_setIfInBounds_ne (fun e' => e (Eq.symm e'))]
      have hsz : (l.setIfInBounds i true).size = ops.size ∧ ∀ i' o', ops[i']? = some o' → (l.setIfInBounds i true).getD i' false = true → ∀ e ∈ o'.after, Region.binds .any e = true → (l.setIfInBounds i true).getD e.on false = true := by
        refine ⟨by simpa using hs, fun i' o' ho' hd' e he hbd => ?_⟩; rw [hset0] at hd' ⊢
        split
        · rfl
        · split at hd'
          · rename_i _ hii
            subst hii; rw [ho] at ho'
            injection ho' with ho'
            subst ho'; exact hall e he hbd
          · exact hcl i' o' ho' hd' e he hbd
      by_cases him : i = m
      · subst him; obtain ⟨q1, q2, q3⟩ := hl o ho
        have hallj : ∀ j, j < i → l.getD j false = true := fun j hj => by
          obtain ⟨e, he, rfl, hbd⟩ := q3 j hj; exact hall e he hbd
        obtain ⟨w', hrun, hq⟩ := hlast o a w ho hb hoff (fun j hj => hg j hj (hallj j hj)); rw [if_pos (by simp [Region.wanted, q2])]; unfold Oper.wp; rw [hrun]; have hput : a.put o.dst undef = a := (by rw [q1]; rfl); refine hK _ _ ⟨hsz, .inr ⟨fun j hj => ?_, ?_⟩⟩
        · by_cases e : j = i
          · subst e; simp [hil]
          · have := hallj j (by omega); have hjl : j < l.size := (by omega); have hset : (l.setIfInBounds i true).getD j false = l.getD j false := (by simp [Array.getElem?_setIfInBounds_ne (fun e' => e (Eq.symm e'))]); rw [hset]; exact this
        · first | exact hq | (rw [hput]; exact hq)
      · have him' : i < m := (by omega); obtain ⟨q1, q2⟩ := hd i o him' ho
        have hpre : ∀ e ∈ o.after, Region.binds .any e = true → G e.on (a.eval (.tmp (d e.on))) w := fun e he hbd => hg e.on (Nat.lt_trans (hback i o ho e he) him') (hall e he hbd)
        rw [if_pos (by simp [Region.wanted, q2])]; refine hstep i o a w K (fun j => l.getD j false = true) hall hcl him' ho hb hoff hpre (hcj i (by simp [hil] at hli ⊢; exact hli)) (fun v w' hb' hef hcs hgi => ?_); have hdlt : d i < a.tmps.size := (by rw [hoff.1]; exact hlt i him')
        have hset : ∀ j, (l.setIfInBounds i true).getD j false = if j = i then true else l.getD j false := fun j => by
          by_cases e : j = i
          · subst e; simp [hil]
          · rw [if_neg e]; simp [Array.getElem?_setIfInBounds_ne (fun e' => e (Eq.symm e'))]
        refine hK _ _ ⟨hsz, .inl ⟨by rw [hset, if_neg (fun e => him e.symm)]; exact h1, htrans _ _ hb hb', ?_, fun j hlj => (by rw [hset] at hlj; split at hlj; (cases hlj); (rename_i hji; exact hcs j hji (fun e2 => by rw [e2] at hlj; cases hlj) (hcj j hlj))), fun j hj hlj => ?_⟩⟩
        · rw [q1]; refine ⟨by rw [size_put]; exact hoff.1, hoff.2.1, fun t ht => ?_⟩; rw [← hoff.2.2 t ht]
          simp [Act.put, Array.getElem?_setIfInBounds_ne (ht i him')]
        · rw [q1]
          by_cases e : j = i
          · subst e; rw [eval_put_same hdlt]; exact hgi
          · rw [eval_put_ne (fun e' => e (hinj _ _ hj him' e'.symm))]; rw [hset, if_neg e] at hlj; exact hG _ _ _ _ _ e hb hef (hg j hj hlj)
    · have := h i hi
      simp [hil] at hli this
      rw [this] at hli; cases hli
theorem wp_region_dsS {P : Program} {ops : Array Oper} {Q : Exit → Act → World → Prop} {id : Nat} {a0 : Act} {W : World} (ds : List Nat) (G : Nat → Value → World → Prop) (Rel : World → World → Prop) (Eff : Nat → World → World → Prop) (C : Nat → World → Prop) (hC0 : ∀ j, C j W.drew) (hrefl : Rel W W.drew) (htrans : ∀ w w', Rel W w → Rel w w' → Rel W w')
    (hm : P.follows .mixedOrders = true) (hc : chkOps ops ds = true) (hlt : ∀ t ∈ ds, t < a0.tmps.size)
    (hG : ∀ j i v w w', j ≠ i → Rel W w → Eff i w w' → G j v w → G j v w')
    (hstep : ∀ (i : Nat) (o : Oper) (a : Act) (w : World) (K : Act → World → Prop) (D : Nat → Prop), (∀ e ∈ o.after, Region.binds .any e = true → D e.on) → (∀ i' o', ops[i']? = some o' → D i' → ∀ e ∈ o'.after, Region.binds .any e = true → D e.on) → i < ds.length → ops[i]? = some o → Rel W w → (∀ t, t ∉ ds → a.eval (.tmp t) = a0.eval (.tmp t)) → (∀ e ∈ o.after, Region.binds .any e = true → G e.on (a.eval (.tmp (ds.getD e.on 0))) w) → C i w → (∀ v w', Rel w w' → Eff i w w' → (∀ j, j ≠ i → ¬ D j → C j w → C j w') → G i v w' → K (a.put o.dst v) w') → o.wp P a w K Q)
    (hlast : ∀ (o : Oper) (a : Act) (w : World), ops[ds.length]? = some o → Rel W w → a.defers = a0.defers → a.tmps = ds.foldl (fun tm t => tm.setIfInBounds t (a.tmps.getD t undef)) a0.tmps → (∀ t, t ∉ ds → a.eval (.tmp t) = a0.eval (.tmp t)) → (∀ j, j < ds.length → G j (a.eval (.tmp (ds.getD j 0))) w) → ∃ w', (execOp a.eval o).run P w = .ok .skip w' ∧ Q .normal a w') :
    (Code.region id ops true).wp P Q a0 W := by
  simp only [chkOps, Bool.and_eq_true, beq_iff_eq, List.all_eq_true, List.mem_range, decide_eq_true_eq] at hc; obtain ⟨⟨⟨⟨c1, c2⟩, c3⟩, c4⟩, c5⟩ := hc
  have hout : ∀ t, t ∉ ds → ∀ j, j < ds.length → ds.getD j 0 ≠ t := fun t ht j hj e => ht (by
    rw [← e, List.getD_eq_getElem?_getD, List.getElem?_eq_getElem hj]; exact List.getElem_mem _)
  have hmem : ∀ j, j < ds.length → ds.getD j 0 ∈ ds := fun j hj => by
    rw [List.getD_eq_getElem?_getD, List.getElem?_eq_getElem hj]; exact List.getElem_mem _
  refine wp_region_madeS ds.length (fun j => ds.getD j 0) G Rel Eff C hC0 hrefl htrans hm c1 ?back ?hd ?inj (fun i hi => hlt _ (hmem i hi)) ?hl hG ?step ?last
  case back =>
    intro i o ho e he; have hi : i < ops.size := (Array.getElem?_eq_some_iff.1 ho).1; have := c2 i hi; rw [ho] at this; simp only [Array.all_eq_true_iff_forall_mem, decide_eq_true_eq] at this; exact this e he
  case hd =>
    intro i o hi ho; have := c3 i hi; rw [ho] at this; simp only [Bool.and_eq_true, decide_eq_true_eq, Option.isNone_iff_eq_none] at this; exact this
  case inj =>
    intro i j hi hj e; simp only [List.getD_eq_getElem?_getD, List.getElem?_eq_getElem hi, List.getElem?_eq_getElem hj, Option.getD_some] at e; exact (List.getElem_inj c5).1 e
  case hl =>
    intro o ho; rw [ho] at c4; simp only [Bool.and_eq_true, Option.isNone_iff_eq_none, List.all_eq_true, List.mem_range] at c4; refine ⟨c4.1.1, c4.1.2, fun j hj => ?_⟩; obtain ⟨e, he, h⟩ := Array.any_eq_true'.1 (c4.2 j hj); rw [Bool.and_eq_true, beq_iff_eq] at h; exact ⟨e, he, h.1, h.2⟩
  case step =>
    intro i o a w K D hD hcl hi ho hb hoff hpre hc hK; exact hstep i o a w K D hD hcl hi ho hb (fun t ht => hoff.eval (hout t ht)) hpre hc hK
  case last =>
    intro o a w ho hb hoff hpre; refine hlast o a w ho hb hoff.2.1 (frame_of ds hoff.1 (fun t ht => hoff.2.2 t (hout t ht))) (fun t ht => hoff.eval (hout t ht)) hpre
section
variable {F : Fence} {m : Nat} {P : Program} {ops : Array Oper} {rest : List Oper} {o : Oper} {a : Act} {w : World} {Q : Exit → Act → World → Prop}
theorem wpListIn_store_row (hgd : o.guard = none) (ty : TypeId) (x y : Operand) (ho : o.op = .store ty x y)
    (g : Nat) (cells : Array Value) (hx : a.eval x = .pointer (some ⟨g, 0, none⟩)) (hy : a.eval y = .agg cells)
    (t : TypeId) (old : Array Value) (hg : w.heap[g]? = some (.cells old t (0, 0))) (hi : (P.info? ty).map (·.size) = some cells.size)
    (hold : old.size = cells.size) (h1 : cells.all (·.oneCell') = true)
    (h : wpListIn F m P ops Q rest (a.put o.dst undef) (w.setRow g cells)) : wpListIn F m P ops Q (o :: rest) a w := by
  refine wpListIn_plain hgd fun K hK' => ?_
  unfold Oper.wpIn; refine ⟨?_, ?_⟩
  · simp [Oper.about, ho]
  · rw [Oper.semAt_plain F _ _ (by rw [ho]; intro c hc'; cases hc')]; unfold execOp; simp only [ho, hx, hy, Instr.storeAt, Instr.sureAddr, Sem.run_bind, Sem.run_pure, Result.andThen_ok, run_storeVar_row w g t ty old cells hg hi hold h1]; exact hK' _ _ h
theorem wpListIn_load_row (hgd : o.guard = none) (ty : TypeId) (x : Operand) (ho : o.op = .load ty x)
    (g : Nat) (hx : a.eval x = .pointer (some ⟨g, 0, none⟩)) (t : TypeId) (cs : Array Value) (fr : Nat × Nat) (d : TypeDesc) (hg : w.heap[g]? = some (.cells cs t fr))
    (hu : P.underlying ty = some d) (hd : (match d with | .struct _ | .array _ _ => true | _ => false) = true) (hi : (P.info? ty).map (·.size) = some cs.size)
    (h : wpListIn F m P ops Q rest (a.put o.dst (.agg cs)) w) : wpListIn F m P ops Q (o :: rest) a w := by
  refine wpListIn_plain hgd fun K hK' => ?_
  unfold Oper.wpIn; refine ⟨?_, ?_⟩
  · simp [Oper.about, ho]
  · rw [Oper.semAt_plain F _ _ (by rw [ho]; intro c hc'; cases hc')]; unfold execOp; simp only [ho, hx, Instr.loadAt, Instr.sureAddr, Sem.run_bind, Sem.run_pure, Result.andThen_ok, run_loadVar_row w g t ty cs fr d hg hu hd hi]; exact hK' _ _ h
end
end Go.Proofs.YtcjdjcpappfkgaaGreatDoor
