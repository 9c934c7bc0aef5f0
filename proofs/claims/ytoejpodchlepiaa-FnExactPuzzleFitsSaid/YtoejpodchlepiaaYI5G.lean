import Derived.Test.YtoejpodchlepiaaYI5F
set_option maxRecDepth 8000
namespace Go.Proofs.Ytoejpodchlepiaa
open Go.ChangeShapes Go.WideShapes Go.ChangeAt Go.RowKit
def possB (s : Int) (g : List Int) (rs : List RuleM) : Bool := (List.range rs.length).all fun i => rpR s g (rat rs i)
set_option maxHeartbeats 1000000 in
theorem rulesPossible_any (s : Nat) (Ag : Option Addr) (ng cg : Nat) (Ar : Option Addr) (nr cr Br : Nat) (rs : List RuleM) (A : Option Addr) (n c B : Nat) (g : List Int) (w : World) (hr : RdRc w Br Ar nr rs) (hBr : Br ≤ w.heap.size) (hmr : nr ≤ 1099511627776) (hg : Rd w B A n g) (hB : B ≤ w.heap.size) (hs : s ∈ [2, 3, 4]) (hgv : gv g s = true) (hall0 : ∀ i, i < nr → rvR s (rat rs i) = true) :
    Calls Try.prog 120 #[.agg #[.int .i64 s, .slice Ag ng cg, .slice Ar nr cr], .slice A n c] w fun e w' => e = .returned (.bool (possB s g rs)) ∧ Below w.heap.size w w' := by
  have hlen := Lib.hid hr.1
  have hx0 := pbox_new w s Ag ng cg Ar nr cr 48
  have hb0 : Below w.heap.size w (w.alloc (.cells #[.int .i64 s, .slice Ag ng cg, .slice Ar nr cr] 48)) := (Below.refl _ _).alloc (Nat.le_refl _) _
  have hs0 : w.heap.size + 1 ≤ (w.alloc (.cells #[.int .i64 s, .slice Ag ng cg, .slice Ar nr cr] 48)).heap.size := by simp
  obtain ⟨z0, z1, z2⟩ := id hx0
  have HR := Lib.hid (fun (w' : World) (hb : Below w.heap.size w w') => hr.below (hb.mono hBr))
  have HA := Lib.hid hall0
  clear hall0
  go_enter Try.func120, Try.ntmps120
  go_wp2
  go_loopw [10] (fun i wr => ∃ u : Nat, u ≤ nr ∧ i = .int .i64 u ∧ Hid (allR (rpR s g) rs u) ∧ PBox wr w.heap.size s Ag ng cg Ar nr cr ∧ Below w.heap.size w wr ∧ w.heap.size + 1 ≤ wr.heap.size) (fun i _ => nr - (intOf i).toNat)
  case atStart => exact ⟨0, Nat.zero_le _, rfl, Lib.hid (fun j hj => absurd hj (by omega)), hx0, hb0, hs0⟩
  case round =>
    obtain ⟨u, hu, rfl, hall, hx, hb, hsw⟩ := hrel
    obtain ⟨c0, c1, c2⟩ := id hx
    by_cases hlt : u < nr
    · obtain ⟨b, off, rfl, hbB, hcc⟩ := (HR.out _ hb).2 (by omega)
      obtain ⟨A', c', r0, r1, r2, r3, r4, r5⟩ := hcc u hlt
      have hv0 := HA.out u hlt
      obtain ⟨rk, hrk⟩ : ∃ x, x = (rat rs u).k := ⟨_, rfl⟩
      obtain ⟨rx, hrx⟩ : ∃ x, x = (rat rs u).xs := ⟨_, rfl⟩
      obtain ⟨rvv, hrv⟩ : ∃ x, x = (rat rs u).v := ⟨_, rfl⟩
      have hv : rv rk rx rvv s = true := by rw [hrk, hrx, hrv]; exact hv0
      have hrr : rpR s g (rat rs u) = rpB rk rx rvv g s := by simp only [rpR, hrk, hrx, hrv]
      rw [← hrk] at r0
      rw [← hrx] at r1 r3 r4 r5
      rw [← hrv] at r2
      obtain ⟨_, ⟨hn1, hn4⟩, hk2, _⟩ := rv_facts rfl hv
      obtain ⟨hsm, hxin⟩ := pks_small rfl hv hgv
      rw [hg.1] at hxin
      have hin : (u : Int) < (nr : Int) := by omega
      have hy := rbox_new wr rk A' rx.length c' rvv 25
      have hb1 : Below wr.heap.size wr (wr.alloc (.cells #[.int .i64 rk, .slice A' rx.length c', .int .i64 rvv] 25)) := (Below.refl _ _).alloc (Nat.le_refl _) _
      obtain ⟨y0, y1, y2⟩ := id hy
      have hx1 := hx.below (Nat.lt_of_lt_of_le (Nat.lt_succ_self _) hsw) hb1
      obtain ⟨d0, d1, d2⟩ := id hx1
      have hbw := hb.trans (hb1.mono hb.size)
      have hs1 : w.heap.size < (wr.alloc (.cells #[.int .i64 rk, .slice A' rx.length c', .int .i64 rvv] 25)).heap.size := by simp; omega
      have hs2 : wr.heap.size < (wr.alloc (.cells #[.int .i64 rk, .slice A' rx.length c', .int .i64 rvv] 25)).heap.size := by simp
      obtain ⟨W, hW⟩ : ∃ W, wr.alloc (.cells #[.int .i64 rk, .slice A' rx.length c', .int .i64 rvv] 25) = W := ⟨_, rfl⟩
      rw [hW] at hy y0 y1 y2 hx1 d0 d1 d2 hbw hs1 hs2
      have HS : Hid (∀ w', Below W.heap.size W w' → w'.cell? ⟨wr.heap.size, 0, none⟩ = some (.int .i64 rk) ∧ w'.cell? ⟨wr.heap.size, 1, none⟩ = some (.slice A' rx.length c') ∧ w'.cell? ⟨wr.heap.size, 2, none⟩ = some (.int .i64 rvv) ∧ w'.cell? ⟨w.heap.size, 0, none⟩ = some (.int .i64 s)) :=
        Lib.hid (fun w' hb => by
          obtain ⟨e0, e1, e2⟩ := hy.below hs2 hb
          exact ⟨e0, e1, e2, (hx1.below hs1 hb).1⟩)
      have HPK := Lib.hid (fun w' (hb2 : Below W.heap.size W w') => implPick A c n B g A' c' rx.length Br rx w' (hg.below ((hbw.trans (hb2.mono hbw.size)).mono hB)) ((r3.below (by rw [← hW]; exact hb1.mono (Nat.le_trans hBr hb.size))).below (hb2.mono (Nat.le_trans hBr hbw.size))) (Nat.le_trans (Nat.le_trans hB hbw.size) hb2.size) (Nat.le_trans (Nat.le_trans hBr hbw.size) hb2.size) r4 hxin)
      have Hpl := Lib.hid (pks_length g rx rx.length)
      have Hsm := Lib.hid hsm
      have Hk := Lib.hid (rv_kind hv)
      have Hk2 := Lib.hid (show rk = 1 ∨ rk = 2 ∨ rk = 3 ∨ 2 ≤ rx.length from hk2)
      have HRP := Lib.hid (rp_ways rfl hv hgv hs)
      obtain ⟨bb, hbb⟩ : ∃ bb, (!((allW (emL (pks g rx rx.length) s) rx.length []).filter (holdsB rk rvv)).isEmpty) = bb := ⟨_, rfl⟩
      rw [hbb] at HRP
      have Hbb := Lib.hid hbb
      have Hb := Lib.hid hb
      have Hbw := Lib.hid hbw
      have hx1' := Lib.hid hx1
      clear hrk hrx hrv hcc hsm hxin hk2 hbb hv0 hx hb1
      cases bb
      · have HL := Lib.hid (show possB s g rs = false from not_all_rat hlen.out hlt (hrr.trans HRP.out))
        clear hrr
        go_wp2_with fail
        go_region_held3 (fun w' => w'.cell? ⟨wr.heap.size, 0, none⟩ = some (.int .i64 rk) ∧ w'.cell? ⟨wr.heap.size, 1, none⟩ = some (.slice A' rx.length c') ∧ w'.cell? ⟨wr.heap.size, 2, none⟩ = some (.int .i64 rvv) ∧ w'.cell? ⟨w.heap.size, 0, none⟩ = some (.int .i64 s))
          (first | go_keep | exact HS.out _ hb3 | exact HS.out _ hb4)
          ((first | (go_simp; go_at_call 75; refine (HPK.out _ ((Below.refl _ _).drew)).mono ?_; rintro e w3 ⟨A3, c3, rfl, ho3, hb3'⟩; rw [Hpl.out] at ho3 ⊢; have hb3 : Below W.heap.size W w3 := ((Below.refl _ _).drew).trans hb3') | (go_simp; go_at_call 80; refine (possible_any _ _ _ _ _ _ _ _ _ _ _ _ ho3.rd (Nat.le_refl _) hn1 hn4 hs (fun i hi => Hsm.out i hi) Hk.out Hk2.out).mono ?_; rw [Hbb.out]; rintro e w4 ⟨rfl, hb4'⟩; have hb4 := step hb3 hb4')))
        go_wp2
        go_ret
        exact ⟨by rw [HL.out]; rfl, step Hbw.out hb4⟩
      · have hall2 := Lib.hid (show allR (rpR s g) rs (u + 1) from fun i hi => by
          by_cases e : i = u
          · subst e; exact hrr.trans HRP.out
          · exact hall.out i (by omega))
        have Hlt := Lib.hid hlt
        clear hrr
        go_wp2_with fail
        go_region_held3 (fun w' => w'.cell? ⟨wr.heap.size, 0, none⟩ = some (.int .i64 rk) ∧ w'.cell? ⟨wr.heap.size, 1, none⟩ = some (.slice A' rx.length c') ∧ w'.cell? ⟨wr.heap.size, 2, none⟩ = some (.int .i64 rvv) ∧ w'.cell? ⟨w.heap.size, 0, none⟩ = some (.int .i64 s))
          (first | go_keep | exact HS.out _ hb3 | exact HS.out _ hb4)
          ((first | (go_simp; go_at_call 75; refine (HPK.out _ ((Below.refl _ _).drew)).mono ?_; rintro e w3 ⟨A3, c3, rfl, ho3, hb3'⟩; rw [Hpl.out] at ho3 ⊢; have hb3 : Below W.heap.size W w3 := ((Below.refl _ _).drew).trans hb3') | (go_simp; go_at_call 80; refine (possible_any _ _ _ _ _ _ _ _ _ _ _ _ ho3.rd (Nat.le_refl _) hn1 hn4 hs (fun i hi => Hsm.out i hi) Hk.out Hk2.out).mono ?_; rw [Hbb.out]; rintro e w4 ⟨rfl, hb4'⟩; have hb4 := step hb3 hb4')))
        go_wp2
        go_roundw
        case rel => exact ⟨u + 1, Hlt.out, by go_num, hall2, hx1'.out.below hs1 hb4, step Hbw.out hb4, Nat.le_trans hs1 hb4.size⟩
        case measure => have := Hlt.out; simp [intOf]; omega
    · obtain rfl : u = nr := by omega
      have HL := Lib.hid (show possB s g rs = true from all_rat hlen.out hall.out)
      go_wp2
      go_ret
      exact ⟨by rw [HL.out]; rfl, hb⟩
set_option maxHeartbeats 1000000 in
theorem fits_any (s : Nat) (Ag : Option Addr) (ng cg Bg : Nat) (gi : List Int) (Ar : Option Addr) (nr cr Br : Nat) (rs : List RuleM) (A : Option Addr) (c B : Nat) (g : List Int) (w : World) (hp : PGc w s Ag ng cg Bg gi Ar nr cr Br rs) (hg : Rd w B A ng g) (hB : B ≤ w.heap.size) (hs : s ∈ [2, 3, 4]) (hv : pvB s gi rs = true) (hgv : gv g s = true) :
    Calls Try.prog 88 #[.agg #[.int .i64 s, .slice Ag ng cg, .slice Ar nr cr], .slice A ng c] w fun e w' => e = .returned (.bool (fitB s gi rs g)) ∧ Below w.heap.size w w' := by
  obtain ⟨hgi, _, hall⟩ := pv_gv hv
  rw [hp.r.1] at hall
  have hx0 := pbox_new w s Ag ng cg Ar nr cr 48
  have hb0 : Below w.heap.size w (w.alloc (.cells #[.int .i64 s, .slice Ag ng cg, .slice Ar nr cr] 48)) := (Below.refl _ _).alloc (Nat.le_refl _) _
  have hs0 : w.heap.size < (w.alloc (.cells #[.int .i64 s, .slice Ag ng cg, .slice Ar nr cr] 48)).heap.size := by simp
  obtain ⟨z0, z1, z2⟩ := id hx0
  have Hg0 := Lib.hid (show ∀ i, i < ng → 0 ≤ nth g i from fun i hi => (gv_nth hgv (by rw [hg.1]; exact hi)).1)
  have Hgi0 := Lib.hid (show ∀ i, i < ng → 0 ≤ nth gi i from fun i hi => (gv_nth hgi (by rw [hp.g.1]; exact hi)).1)
  have HA := Lib.hid (fun w' (hb : Below w.heap.size w w') => agrees_any s Ag ng cg Bg gi Ar nr cr A c B g w' (hp.below hb).g (hp.below hb).gB (hg.below (hb.mono hB)) (Nat.le_trans hB hb.size) hp.gm Hgi0.out Hg0.out)
  have HSq := Lib.hid (fun w' (hb : Below w.heap.size w w') => implSquareFits A c ng B g s w' (hg.below (hb.mono hB)) (Nat.le_trans hB hb.size) hp.gm)
  have HRp := Lib.hid (fun w' (hb : Below w.heap.size w w') => rulesPossible_any s Ag ng cg Ar nr cr Br rs A ng c B g w' (hp.below hb).r (hp.below hb).rB hp.rm (hg.below (hb.mono hB)) (Nat.le_trans hB hb.size) hs hgv (fun i hi => hall i hi))
  have hfit : fitB s gi rs g = (agreeB gi g ng && possB s g rs && !clash g s) := by unfold fitB agreeB possB; rw [hg.1]
  have hsq : sqFits g s = !clash g s := by unfold sqFits; rw [hgv, Bool.true_and]
  rw [hsq] at HSq
  clear hsq
  cases ha : agreeB gi g ng
  · have HL := Lib.hid (show fitB s gi rs g = false by rw [hfit, ha]; rfl)
    clear hfit
    go_enter Try.func88, Try.ntmps88
    go_wp2_with (go_at_call 119; refine (HA.out _ hb0).mono ?_; rintro e w1 ⟨rfl, hb1⟩; rw [ha])
    go_ret
    exact ⟨by rw [HL.out]; rfl, step hb0 hb1⟩
  · cases hc : clash g s
    · have HL := Lib.hid (show fitB s gi rs g = possB s g rs by rw [hfit, ha, hc]; simp)
      clear hfit
      rw [hc] at HSq
      go_enter Try.func88, Try.ntmps88
      go_wp2_with (first | (go_at_call 119; refine (HA.out _ hb0).mono ?_; rintro e w1 ⟨rfl, hb1⟩; rw [ha]; have h01 := step hb0 hb1; have hx1 := hx0.below hs0 hb1; have hs1 := Nat.lt_of_lt_of_le hs0 hb1.size; obtain ⟨c0, c1, c2⟩ := id hx1) | (go_at_call 56; refine (HSq.out _ h01).mono ?_; rintro e w2 ⟨rfl, hb2⟩; have h02 := step h01 hb2; obtain ⟨d0, d1, d2⟩ := hx1.below hs1 hb2) | (go_at_call 120; refine (HRp.out _ h02).mono ?_; rintro e w3 ⟨rfl, hb3⟩))
      go_ret
      exact ⟨by rw [HL.out]; rfl, step h02 hb3⟩
    · have HL := Lib.hid (show fitB s gi rs g = false by rw [hfit, ha, hc]; simp)
      clear hfit
      rw [hc] at HSq
      go_enter Try.func88, Try.ntmps88
      go_wp2_with (first | (go_at_call 119; refine (HA.out _ hb0).mono ?_; rintro e w1 ⟨rfl, hb1⟩; rw [ha]; have h01 := step hb0 hb1; have hx1 := hx0.below hs0 hb1; have hs1 := Nat.lt_of_lt_of_le hs0 hb1.size; obtain ⟨c0, c1, c2⟩ := id hx1) | (go_at_call 56; refine (HSq.out _ h01).mono ?_; rintro e w2 ⟨rfl, hb2⟩; have h02 := step h01 hb2))
      go_ret
      exact ⟨by rw [HL.out]; rfl, h02⟩
set_option maxHeartbeats 1000000 in
theorem implPuzzleFits (s : Int) (Ag : Option Addr) (ng cg Bg : Nat) (gi : List Int) (Ar : Option Addr) (nr cr Br : Nat) (rs : List RuleM) (A : Option Addr) (n c B : Nat) (g : List Int) (w : World) (hp : PGc w s Ag ng cg Bg gi Ar nr cr Br rs) (hg : Rd w B A n g) (hB : B ≤ w.heap.size) (hm : n ≤ 1099511627776) :
    Calls Try.prog 37 #[.agg #[.int .i64 s, .slice Ag ng cg, .slice Ar nr cr], .slice A n c] w fun e w' => e = .returned (.bool (fpB s gi rs g)) ∧ Below w.heap.size w w' := by
  have hx0 := pbox_new w s Ag ng cg Ar nr cr 48
  have hb0 : Below w.heap.size w (w.alloc (.cells #[.int .i64 s, .slice Ag ng cg, .slice Ar nr cr] 48)) := (Below.refl _ _).alloc (Nat.le_refl _) _
  have hs0 : w.heap.size < (w.alloc (.cells #[.int .i64 s, .slice Ag ng cg, .slice Ar nr cr] 48)).heap.size := by simp
  obtain ⟨z0, z1, z2⟩ := id hx0
  have HV := Lib.hid (fun w' (hb : Below w.heap.size w w') => valid_any s Ag ng cg Bg gi Ar nr cr Br rs w' (hp.below hb))
  have HG := Lib.hid (fun w' (hb : Below w.heap.size w w') => implGridValid A c n B g s w' (hg.below (hb.mono hB)) (Nat.le_trans hB hb.size) hm)
  cases hv : pvB s gi rs
  · have HL := Lib.hid (show fpB s gi rs g = false by simp [fpB, hv])
    go_enter Try.func37, Try.ntmps37
    go_wp2_with (go_at_call 87; refine (HV.out _ hb0).mono ?_; rintro e w1 ⟨rfl, hb1⟩; rw [hv])
    go_ret
    exact ⟨by rw [HL.out]; rfl, step hb0 hb1⟩
  · cases hgv : gv g s
    · have HL := Lib.hid (show fpB s gi rs g = false by simp [fpB, hgv])
      go_enter Try.func37, Try.ntmps37
      go_wp2_with (first | (go_at_call 87; refine (HV.out _ hb0).mono ?_; rintro e w1 ⟨rfl, hb1⟩; rw [hv]; have h01 := step hb0 hb1; obtain ⟨c0, c1, c2⟩ := hx0.below hs0 hb1) | (go_at_call 74; refine (HG.out _ h01).mono ?_; rintro e w2 ⟨rfl, hb2⟩; rw [hgv]))
      go_ret
      exact ⟨by rw [HL.out]; rfl, step h01 hb2⟩
    · obtain ⟨hgi, _, _⟩ := pv_gv hv
      obtain ⟨s2, s4⟩ := gv_size hgv
      obtain ⟨t, rfl⟩ := Int.eq_ofNat_of_zero_le (by omega : 0 ≤ s)
      have hs : t ∈ [2, 3, 4] := by
        have : t = 2 ∨ t = 3 ∨ t = 4 := by omega
        simpa using this
      have e1 := gv_len hgv
      have e2 := gv_len hgi
      rw [hg.1] at e1
      rw [hp.g.1] at e2
      obtain rfl : n = ng := by omega
      have HL := Lib.hid (show fpB t gi rs g = fitB t gi rs g by simp [fpB, hv, hgv])
      have HF := Lib.hid (fun w' (hb : Below w.heap.size w w') => fits_any t Ag n cg Bg gi Ar nr cr Br rs A c B g w' (hp.below hb) (hg.below (hb.mono hB)) (Nat.le_trans hB hb.size) hs hv hgv)
      clear e1 e2 hgi
      go_enter Try.func37, Try.ntmps37
      go_wp2_with (first | (go_at_call 87; refine (HV.out _ hb0).mono ?_; rintro e w1 ⟨rfl, hb1⟩; rw [hv]; have h01 := step hb0 hb1; have hx1 := hx0.below hs0 hb1; have hs1 := Nat.lt_of_lt_of_le hs0 hb1.size; obtain ⟨c0, c1, c2⟩ := id hx1) | (go_at_call 74; refine (HG.out _ h01).mono ?_; rintro e w2 ⟨rfl, hb2⟩; rw [hgv]; have h02 := step h01 hb2; obtain ⟨d0, d1, d2⟩ := hx1.below hs1 hb2) | (go_at_call 88; refine (HF.out _ h02).mono ?_; rintro e w3 ⟨rfl, hb3⟩))
      go_ret
      exact ⟨by rw [HL.out]; rfl, step h02 hb3⟩
theorem cnz_mem {g : List Int} {n : Nat} : memTo g 0 n = false ↔ cnz g n = n := by
  rw [cnz_full]
  constructor
  · intro h k hk e
    rw [memTo_hit hk e] at h; cases h
  · intro h
    induction n with
    | zero => rfl
    | succ n ih =>
      simp only [memTo, Bool.or_eq_false_iff, beq_eq_false_iff_ne]
      exact ⟨ih (fun k hk => h k (by omega)), h n (by omega)⟩
theorem ps_mem {s : Int} {gi g : List Int} {rs : List RuleM} : psB s gi rs g = (fpB s gi rs g && !memTo g 0 g.length) := by
  unfold psB
  cases hf : fpB s gi rs g
  · rfl
  · simp only [fpB, Bool.and_eq_true] at hf
    have hgv := hf.1.2
    rw [Bool.true_and, Bool.true_and]
    unfold gf
    rw [if_pos hgv]
    cases hm : memTo g 0 g.length
    · rw [cnz_mem.1 hm]; simp
    · have : cnz g g.length ≠ g.length := fun e => by rw [cnz_mem.2 e] at hm; cases hm
      simp; omega
set_option maxHeartbeats 1000000 in
theorem implPuzzleSolved (s : Int) (Ag : Option Addr) (ng cg Bg : Nat) (gi : List Int) (Ar : Option Addr) (nr cr Br : Nat) (rs : List RuleM) (A : Option Addr) (n c B : Nat) (g : List Int) (w : World) (hp : PGc w s Ag ng cg Bg gi Ar nr cr Br rs) (hg : Rd w B A n g) (hB : B ≤ w.heap.size) (hm : n ≤ 1099511627776) :
    Calls Try.prog 40 #[.agg #[.int .i64 s, .slice Ag ng cg, .slice Ar nr cr], .slice A n c] w fun e w' => e = .returned (.bool (psB s gi rs g)) ∧ Below w.heap.size w w' := by
  have hlen := Lib.hid hg.1
  have hx0 := pbox_new w s Ag ng cg Ar nr cr 48
  have hb0 : Below w.heap.size w (w.alloc (.cells #[.int .i64 s, .slice Ag ng cg, .slice Ar nr cr] 48)) := (Below.refl _ _).alloc (Nat.le_refl _) _
  obtain ⟨z0, z1, z2⟩ := id hx0
  have HF := Lib.hid (implPuzzleFits s Ag ng cg Bg gi Ar nr cr Br rs A n c B g _ (hp.below hb0) (hg.below (hb0.mono hB)) (Nat.le_trans hB hb0.size) hm)
  have HM := Lib.hid (fun w' (hb : Below w.heap.size w w') => contains_any A c n B g 0 w' (hg.below (hb.mono hB)) hm)
  cases hf : fpB s gi rs g
  · have HL := Lib.hid (show psB s gi rs g = false by simp [ps_mem, hf])
    go_enter Try.func40, Try.ntmps40
    go_wp2_with (go_at_call 37; refine HF.out.mono ?_; rintro e w1 ⟨rfl, hb1⟩; rw [hf])
    go_ret
    exact ⟨by rw [HL.out]; rfl, step hb0 hb1⟩
  · have HL := Lib.hid (show psB s gi rs g = !memTo g 0 n by rw [ps_mem, hf, hlen.out, Bool.true_and])
    go_enter Try.func40, Try.ntmps40
    go_wp2_with (first | (go_at_call 37; refine HF.out.mono ?_; rintro e w1 ⟨rfl, hb1⟩; rw [hf]; have h01 := step hb0 hb1) | (go_at_call 76; refine (HM.out _ h01).mono ?_; rintro e w2 ⟨rfl, rfl⟩))
    go_ret
    exact ⟨by rw [HL.out]; rfl, h01⟩
end Go.Proofs.Ytoejpodchlepiaa
