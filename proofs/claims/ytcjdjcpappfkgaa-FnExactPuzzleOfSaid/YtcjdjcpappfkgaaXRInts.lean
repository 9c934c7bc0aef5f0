import Derived.Test.YtcjdjcpappfkgaaXI5F
import Derived.Test.YtcjdjcpappfkgaaOwnL
import Derived.Test.YtcjdjcpappfkgaaOwn
import Derived.Test.YtcjdjcpappfkgaaXAdj
set_option maxRecDepth 8000
namespace Go.Proofs.Ytcjdjcpappfkgaa
open Go.ChangeShapes Go.WideShapes Go.ChangeAt Go.RowKit
def possB (s : Int) (g : List Int) (rs : List RuleM) : Bool := (List.range rs.length).all fun i => rpR s g (rat rs i)
set_option maxHeartbeats 1000000 in
theorem rulesPossible_any (s : Nat) (Ag : Option Addr) (ng cg : Nat) (Ar : Option Addr) (nr cr Br : Nat) (rs : List RuleM) (A : Option Addr) (n c B : Nat) (g : List Int) (w : World) (hr : RdRc w Br Ar nr rs) (hBr : Br ≤ w.heap.size) (hmr : nr ≤ 1099511627776) (hg : Rd w B A n g) (hB : B ≤ w.heap.size) (hs : s ∈ [2, 3, 4]) (hgv : gv g s = true) (hall0 : ∀ i, i < nr → rvR s (rat rs i) = true) :
    Calls Try.prog 48 #[.agg #[.int .i64 s, .slice Ag ng cg, .slice Ar nr cr], .slice A n c] w fun e w' => e = .returned (.bool (possB s g rs)) ∧ Below w.heap.size w w' := by
  have hlen := Lib.hid hr.1
  have hx0 := pbox_new w s Ag ng cg Ar nr cr 27
  have hb0 : Below w.heap.size w (w.alloc (.cells #[.int .i64 s, .slice Ag ng cg, .slice Ar nr cr] 27)) := (Below.refl _ _).alloc (Nat.le_refl _) _
  have hs0 : w.heap.size + 1 ≤ (w.alloc (.cells #[.int .i64 s, .slice Ag ng cg, .slice Ar nr cr] 27)).heap.size := by simp
  obtain ⟨z0, z1, z2⟩ := id hx0
  have HR := Lib.hid (fun (w' : World) (hb : Below w.heap.size w w') => hr.below (hb.mono hBr))
  have HA := Lib.hid hall0
  clear hall0
  go_enter Try.func48, Try.ntmps48
  go_wp2
  go_loopw [10] (fun i wr => ∃ u : Nat, u ≤ nr ∧ i = .int .i64 u ∧ Hid (allR (rpR s g) rs u) ∧ PBox wr w.heap.size s Ag ng cg Ar nr cr ∧ Below w.heap.size w wr ∧ w.heap.size + 1 ≤ wr.heap.size) (fun i _ => nr - (intOf i).toNat)
  case atStart => exact ⟨0, Nat.zero_le _, rfl, Lib.hid (fun j hj => absurd hj (by omega)), hx0, hb0, hs0⟩
  case round =>
    obtain ⟨u, hu, rfl, hall, hx, hb, hsw⟩ := hrel
    obtain ⟨c0, c1, c2⟩ := id hx
    by_cases hlt : u < nr
    · obtain ⟨b, off, rfl, hbB, hcc⟩ := (HR.out _ hb).2 (by omega)
      obtain ⟨A', c', r0, r1, r2, r3, r4, r5⟩ := hcc u hlt
      have hv0 := HA.out u hlt
      obtain ⟨rk, hrk⟩ : ∃ x, x = (rat rs u).k := ⟨_, rfl⟩
      obtain ⟨rx, hrx⟩ : ∃ x, x = (rat rs u).xs := ⟨_, rfl⟩
      obtain ⟨rvv, hrv⟩ : ∃ x, x = (rat rs u).v := ⟨_, rfl⟩
      have hv : rv rk rx rvv s = true := by rw [hrk, hrx, hrv]; exact hv0
      have hrr : rpR s g (rat rs u) = rpB rk rx rvv g s := by simp only [rpR, hrk, hrx, hrv]
      rw [← hrk] at r0
      rw [← hrx] at r1 r3 r4 r5
      rw [← hrv] at r2
      obtain ⟨_, ⟨hn1, hn4⟩, hk2, _⟩ := rv_facts rfl hv
      obtain ⟨hsm, hxin⟩ := pks_small rfl hv hgv
      rw [hg.1] at hxin
      have hin : (u : Int) < (nr : Int) := by omega
      have hy := rbox_new wr rk A' rx.length c' rvv 44
      have hb1 : Below wr.heap.size wr (wr.alloc (.cells #[.int .i64 rk, .slice A' rx.length c', .int .i64 rvv] 44)) := (Below.refl _ _).alloc (Nat.le_refl _) _
      obtain ⟨y0, y1, y2⟩ := id hy
      have hx1 := hx.below (Nat.lt_of_lt_of_le (Nat.lt_succ_self _) hsw) hb1
      obtain ⟨d0, d1, d2⟩ := id hx1
      have hbw := hb.trans (hb1.mono hb.size)
      have hs1 : w.heap.size < (wr.alloc (.cells #[.int .i64 rk, .slice A' rx.length c', .int .i64 rvv] 44)).heap.size := by simp; omega
      have hs2 : wr.heap.size < (wr.alloc (.cells #[.int .i64 rk, .slice A' rx.length c', .int .i64 rvv] 44)).heap.size := by simp
      obtain ⟨W, hW⟩ : ∃ W, wr.alloc (.cells #[.int .i64 rk, .slice A' rx.length c', .int .i64 rvv] 44) = W := ⟨_, rfl⟩
      rw [hW] at hy y0 y1 y2 hx1 d0 d1 d2 hbw hs1 hs2
      have HS : Hid (∀ w', Below W.heap.size W w' → w'.cell? ⟨wr.heap.size, 0, none⟩ = some (.int .i64 rk) ∧ w'.cell? ⟨wr.heap.size, 1, none⟩ = some (.slice A' rx.length c') ∧ w'.cell? ⟨wr.heap.size, 2, none⟩ = some (.int .i64 rvv) ∧ w'.cell? ⟨w.heap.size, 0, none⟩ = some (.int .i64 s)) :=
        Lib.hid (fun w' hb => by
          obtain ⟨e0, e1, e2⟩ := hy.below hs2 hb
          exact ⟨e0, e1, e2, (hx1.below hs1 hb).1⟩)
      have HPK := Lib.hid (fun w' (hb2 : Below W.heap.size W w') => implPick A c n B g A' c' rx.length Br rx w' (hg.below ((hbw.trans (hb2.mono hbw.size)).mono hB)) ((r3.below (by rw [← hW]; exact hb1.mono (Nat.le_trans hBr hb.size))).below (hb2.mono (Nat.le_trans hBr hbw.size))) (Nat.le_trans (Nat.le_trans hB hbw.size) hb2.size) (Nat.le_trans (Nat.le_trans hBr hbw.size) hb2.size) r4 hxin)
      have Hpl := Lib.hid (pks_length g rx rx.length)
      have Hsm := Lib.hid hsm
      have Hk := Lib.hid (rv_kind hv)
      have Hk2 := Lib.hid (show rk = 1 ∨ rk = 2 ∨ rk = 3 ∨ 2 ≤ rx.length from hk2)
      have HRP := Lib.hid (rp_ways rfl hv hgv hs)
      obtain ⟨bb, hbb⟩ : ∃ bb, (!((allW (emL (pks g rx rx.length) s) rx.length []).filter (holdsB rk rvv)).isEmpty) = bb := ⟨_, rfl⟩
      rw [hbb] at HRP
      have Hbb := Lib.hid hbb
      have Hb := Lib.hid hb
      have Hbw := Lib.hid hbw
      have hx1' := Lib.hid hx1
      clear hrk hrx hrv hcc hsm hxin hk2 hbb hv0 hx hb1
      cases bb
      · have HL := Lib.hid (show possB s g rs = false from not_all_rat hlen.out hlt (hrr.trans HRP.out))
        clear hrr
        go_wp2_with fail
        go_region_held3 (fun w' => w'.cell? ⟨wr.heap.size, 0, none⟩ = some (.int .i64 rk) ∧ w'.cell? ⟨wr.heap.size, 1, none⟩ = some (.slice A' rx.length c') ∧ w'.cell? ⟨wr.heap.size, 2, none⟩ = some (.int .i64 rvv) ∧ w'.cell? ⟨w.heap.size, 0, none⟩ = some (.int .i64 s))
          (first | go_keep | exact HS.out _ hb3 | exact HS.out _ hb4)
          ((first | (go_simp; go_at_call 55; refine (HPK.out _ ((Below.refl _ _).drew)).mono ?_; rintro e w3 ⟨A3, c3, rfl, ho3, hb3'⟩; rw [Hpl.out] at ho3 ⊢; have hb3 : Below W.heap.size W w3 := ((Below.refl _ _).drew).trans hb3') | (go_simp; go_at_call 54; refine (possible_any _ _ _ _ _ _ _ _ _ _ _ _ ho3.rd (Nat.le_refl _) hn1 hn4 hs (fun i hi => Hsm.out i hi) Hk.out Hk2.out).mono ?_; rw [Hbb.out]; rintro e w4 ⟨rfl, hb4'⟩; have hb4 := step hb3 hb4')))
        go_wp2
        go_ret
        exact ⟨by rw [HL.out]; rfl, step Hbw.out hb4⟩
      · have hall2 := Lib.hid (show allR (rpR s g) rs (u + 1) from fun i hi => by
          by_cases e : i = u
          · subst e; exact hrr.trans HRP.out
          · exact hall.out i (by omega))
        have Hlt := Lib.hid hlt
        clear hrr
        go_wp2_with fail
        go_region_held3 (fun w' => w'.cell? ⟨wr.heap.size, 0, none⟩ = some (.int .i64 rk) ∧ w'.cell? ⟨wr.heap.size, 1, none⟩ = some (.slice A' rx.length c') ∧ w'.cell? ⟨wr.heap.size, 2, none⟩ = some (.int .i64 rvv) ∧ w'.cell? ⟨w.heap.size, 0, none⟩ = some (.int .i64 s))
          (first | go_keep | exact HS.out _ hb3 | exact HS.out _ hb4)
          ((first | (go_simp; go_at_call 55; refine (HPK.out _ ((Below.refl _ _).drew)).mono ?_; rintro e w3 ⟨A3, c3, rfl, ho3, hb3'⟩; rw [Hpl.out] at ho3 ⊢; have hb3 : Below W.heap.size W w3 := ((Below.refl _ _).drew).trans hb3') | (go_simp; go_at_call 54; refine (possible_any _ _ _ _ _ _ _ _ _ _ _ _ ho3.rd (Nat.le_refl _) hn1 hn4 hs (fun i hi => Hsm.out i hi) Hk.out Hk2.out).mono ?_; rw [Hbb.out]; rintro e w4 ⟨rfl, hb4'⟩; have hb4 := step hb3 hb4')))
        go_wp2
        go_roundw
        case rel => exact ⟨u + 1, Hlt.out, by go_num, hall2, hx1'.out.below hs1 hb4, step Hbw.out hb4, Nat.le_trans hs1 hb4.size⟩
        case measure => have := Hlt.out; simp [intOf]; omega
    · obtain rfl : u = nr := by omega
      have HL := Lib.hid (show possB s g rs = true from all_rat hlen.out hall.out)
      go_wp2
      go_ret
      exact ⟨by rw [HL.out]; rfl, hb⟩
set_option maxHeartbeats 1000000 in
theorem fits_any (s : Nat) (Ag : Option Addr) (ng cg Bg : Nat) (gi : List Int) (Ar : Option Addr) (nr cr Br : Nat) (rs : List RuleM) (A : Option Addr) (c B : Nat) (g : List Int) (w : World) (hp : PGc w s Ag ng cg Bg gi Ar nr cr Br rs) (hg : Rd w B A ng g) (hB : B ≤ w.heap.size) (hs : s ∈ [2, 3, 4]) (hv : pvB s gi rs = true) (hgv : gv g s = true) :
    Calls Try.prog 38 #[.agg #[.int .i64 s, .slice Ag ng cg, .slice Ar nr cr], .slice A ng c] w fun e w' => e = .returned (.bool (fitB s gi rs g)) ∧ Below w.heap.size w w' := by
  obtain ⟨hgi, _, hall⟩ := pv_gv hv
  rw [hp.r.1] at hall
  have hx0 := pbox_new w s Ag ng cg Ar nr cr 27
  have hb0 : Below w.heap.size w (w.alloc (.cells #[.int .i64 s, .slice Ag ng cg, .slice Ar nr cr] 27)) := (Below.refl _ _).alloc (Nat.le_refl _) _
  have hs0 : w.heap.size < (w.alloc (.cells #[.int .i64 s, .slice Ag ng cg, .slice Ar nr cr] 27)).heap.size := by simp
  obtain ⟨z0, z1, z2⟩ := id hx0
  have Hg0 := Lib.hid (show ∀ i, i < ng → 0 ≤ nth g i from fun i hi => (gv_nth hgv (by rw [hg.1]; exact hi)).1)
  have Hgi0 := Lib.hid (show ∀ i, i < ng → 0 ≤ nth gi i from fun i hi => (gv_nth hgi (by rw [hp.g.1]; exact hi)).1)
  have HA := Lib.hid (fun w' (hb : Below w.heap.size w w') => agrees_any s Ag ng cg Bg gi Ar nr cr A c B g w' (hp.below hb).g (hp.below hb).gB (hg.below (hb.mono hB)) (Nat.le_trans hB hb.size) hp.gm Hgi0.out Hg0.out)
  have HSq := Lib.hid (fun w' (hb : Below w.heap.size w w') => implSquareFits A c ng B g s w' (hg.below (hb.mono hB)) (Nat.le_trans hB hb.size) hp.gm)
  have HRp := Lib.hid (fun w' (hb : Below w.heap.size w w') => rulesPossible_any s Ag ng cg Ar nr cr Br rs A ng c B g w' (hp.below hb).r (hp.below hb).rB hp.rm (hg.below (hb.mono hB)) (Nat.le_trans hB hb.size) hs hgv (fun i hi => hall i hi))
  have hfit : fitB s gi rs g = (agreeB gi g ng && possB s g rs && !clash g s) := by unfold fitB agreeB possB; rw [hg.1]
  have hsq : sqFits g s = !clash g s := by unfold sqFits; rw [hgv, Bool.true_and]
  rw [hsq] at HSq
  clear hsq
  cases ha : agreeB gi g ng
  · have HL := Lib.hid (show fitB s gi rs g = false by rw [hfit, ha]; rfl)
    clear hfit
    go_enter Try.func38, Try.ntmps38
    go_wp2_with (go_at_call 46; refine (HA.out _ hb0).mono ?_; rintro e w1 ⟨rfl, hb1⟩; rw [ha])
    go_ret
    exact ⟨by rw [HL.out]; rfl, step hb0 hb1⟩
  · cases hc : clash g s
    · have HL := Lib.hid (show fitB s gi rs g = possB s g rs by rw [hfit, ha, hc]; simp)
      clear hfit
      rw [hc] at HSq
      go_enter Try.func38, Try.ntmps38
      go_wp2_with (first | (go_at_call 46; refine (HA.out _ hb0).mono ?_; rintro e w1 ⟨rfl, hb1⟩; rw [ha]; have h01 := step hb0 hb1; have hx1 := hx0.below hs0 hb1; have hs1 := Nat.lt_of_lt_of_le hs0 hb1.size; obtain ⟨c0, c1, c2⟩ := id hx1) | (go_at_call 47; refine (HSq.out _ h01).mono ?_; rintro e w2 ⟨rfl, hb2⟩; have h02 := step h01 hb2; obtain ⟨d0, d1, d2⟩ := hx1.below hs1 hb2) | (go_at_call 48; refine (HRp.out _ h02).mono ?_; rintro e w3 ⟨rfl, hb3⟩))
      go_ret
      exact ⟨by rw [HL.out]; rfl, step h02 hb3⟩
    · have HL := Lib.hid (show fitB s gi rs g = false by rw [hfit, ha, hc]; simp)
      clear hfit
      rw [hc] at HSq
      go_enter Try.func38, Try.ntmps38
      go_wp2_with (first | (go_at_call 46; refine (HA.out _ hb0).mono ?_; rintro e w1 ⟨rfl, hb1⟩; rw [ha]; have h01 := step hb0 hb1; have hx1 := hx0.below hs0 hb1; have hs1 := Nat.lt_of_lt_of_le hs0 hb1.size; obtain ⟨c0, c1, c2⟩ := id hx1) | (go_at_call 47; refine (HSq.out _ h01).mono ?_; rintro e w2 ⟨rfl, hb2⟩; have h02 := step h01 hb2))
      go_ret
      exact ⟨by rw [HL.out]; rfl, h02⟩
set_option maxHeartbeats 1000000 in
theorem implPuzzleFits (s : Int) (Ag : Option Addr) (ng cg Bg : Nat) (gi : List Int) (Ar : Option Addr) (nr cr Br : Nat) (rs : List RuleM) (A : Option Addr) (n c B : Nat) (g : List Int) (w : World) (hp : PGc w s Ag ng cg Bg gi Ar nr cr Br rs) (hg : Rd w B A n g) (hB : B ≤ w.heap.size) (hm : n ≤ 1099511627776) :
    Calls Try.prog 29 #[.agg #[.int .i64 s, .slice Ag ng cg, .slice Ar nr cr], .slice A n c] w fun e w' => e = .returned (.bool (fpB s gi rs g)) ∧ Below w.heap.size w w' := by
  have hx0 := pbox_new w s Ag ng cg Ar nr cr 27
  have hb0 : Below w.heap.size w (w.alloc (.cells #[.int .i64 s, .slice Ag ng cg, .slice Ar nr cr] 27)) := (Below.refl _ _).alloc (Nat.le_refl _) _
  have hs0 : w.heap.size < (w.alloc (.cells #[.int .i64 s, .slice Ag ng cg, .slice Ar nr cr] 27)).heap.size := by simp
  obtain ⟨z0, z1, z2⟩ := id hx0
  have HV := Lib.hid (fun w' (hb : Below w.heap.size w w') => valid_any s Ag ng cg Bg gi Ar nr cr Br rs w' (hp.below hb))
  have HG := Lib.hid (fun w' (hb : Below w.heap.size w w') => implGridValid A c n B g s w' (hg.below (hb.mono hB)) (Nat.le_trans hB hb.size) hm)
  cases hv : pvB s gi rs
  · have HL := Lib.hid (show fpB s gi rs g = false by simp [fpB, hv])
    go_enter Try.func29, Try.ntmps29
    go_wp2_with (go_at_call 36; refine (HV.out _ hb0).mono ?_; rintro e w1 ⟨rfl, hb1⟩; rw [hv])
    go_ret
    exact ⟨by rw [HL.out]; rfl, step hb0 hb1⟩
  · cases hgv : gv g s
    · have HL := Lib.hid (show fpB s gi rs g = false by simp [fpB, hgv])
      go_enter Try.func29, Try.ntmps29
      go_wp2_with (first | (go_at_call 36; refine (HV.out _ hb0).mono ?_; rintro e w1 ⟨rfl, hb1⟩; rw [hv]; have h01 := step hb0 hb1; obtain ⟨c0, c1, c2⟩ := hx0.below hs0 hb1) | (go_at_call 37; refine (HG.out _ h01).mono ?_; rintro e w2 ⟨rfl, hb2⟩; rw [hgv]))
      go_ret
      exact ⟨by rw [HL.out]; rfl, step h01 hb2⟩
    · obtain ⟨hgi, _, _⟩ := pv_gv hv
      obtain ⟨s2, s4⟩ := gv_size hgv
      obtain ⟨t, rfl⟩ := Int.eq_ofNat_of_zero_le (by omega : 0 ≤ s)
      have hs : t ∈ [2, 3, 4] := by
        have : t = 2 ∨ t = 3 ∨ t = 4 := by omega
        simpa using this
      have e1 := gv_len hgv
      have e2 := gv_len hgi
      rw [hg.1] at e1
      rw [hp.g.1] at e2
      obtain rfl : n = ng := by omega
      have HL := Lib.hid (show fpB t gi rs g = fitB t gi rs g by simp [fpB, hv, hgv])
      have HF := Lib.hid (fun w' (hb : Below w.heap.size w w') => fits_any t Ag n cg Bg gi Ar nr cr Br rs A c B g w' (hp.below hb) (hg.below (hb.mono hB)) (Nat.le_trans hB hb.size) hs hv hgv)
      clear e1 e2 hgi
      go_enter Try.func29, Try.ntmps29
      go_wp2_with (first | (go_at_call 36; refine (HV.out _ hb0).mono ?_; rintro e w1 ⟨rfl, hb1⟩; rw [hv]; have h01 := step hb0 hb1; have hx1 := hx0.below hs0 hb1; have hs1 := Nat.lt_of_lt_of_le hs0 hb1.size; obtain ⟨c0, c1, c2⟩ := id hx1) | (go_at_call 37; refine (HG.out _ h01).mono ?_; rintro e w2 ⟨rfl, hb2⟩; rw [hgv]; have h02 := step h01 hb2; obtain ⟨d0, d1, d2⟩ := hx1.below hs1 hb2) | (go_at_call 38; refine (HF.out _ h02).mono ?_; rintro e w3 ⟨rfl, hb3⟩))
      go_ret
      exact ⟨by rw [HL.out]; rfl, step h02 hb3⟩
theorem cnz_mem {g : List Int} {n : Nat} : memTo g 0 n = false ↔ cnz g n = n := by
  rw [cnz_full]
  constructor
  · intro h k hk e
    rw [memTo_hit hk e] at h; cases h
  · intro h
    induction n with
    | zero => rfl
    | succ n ih =>
      simp only [memTo, Bool.or_eq_false_iff, beq_eq_false_iff_ne]
      exact ⟨ih (fun k hk => h k (by omega)), h n (by omega)⟩
theorem ps_mem {s : Int} {gi g : List Int} {rs : List RuleM} : psB s gi rs g = (fpB s gi rs g && !memTo g 0 g.length) := by
  unfold psB
  cases hf : fpB s gi rs g
  · rfl
  · simp only [fpB, Bool.and_eq_true] at hf
    have hgv := hf.1.2
    rw [Bool.true_and, Bool.true_and]
    unfold gf
    rw [if_pos hgv]
    cases hm : memTo g 0 g.length
    · rw [cnz_mem.1 hm]; simp
    · have : cnz g g.length ≠ g.length := fun e => by rw [cnz_mem.2 e] at hm; cases hm
      simp; omega
set_option maxHeartbeats 1000000 in
theorem implPuzzleSolved (s : Int) (Ag : Option Addr) (ng cg Bg : Nat) (gi : List Int) (Ar : Option Addr) (nr cr Br : Nat) (rs : List RuleM) (A : Option Addr) (n c B : Nat) (g : List Int) (w : World) (hp : PGc w s Ag ng cg Bg gi Ar nr cr Br rs) (hg : Rd w B A n g) (hB : B ≤ w.heap.size) (hm : n ≤ 1099511627776) :
    Calls Try.prog 20 #[.agg #[.int .i64 s, .slice Ag ng cg, .slice Ar nr cr], .slice A n c] w fun e w' => e = .returned (.bool (psB s gi rs g)) ∧ Below w.heap.size w w' := by
  have hlen := Lib.hid hg.1
  have hx0 := pbox_new w s Ag ng cg Ar nr cr 27
  have hb0 : Below w.heap.size w (w.alloc (.cells #[.int .i64 s, .slice Ag ng cg, .slice Ar nr cr] 27)) := (Below.refl _ _).alloc (Nat.le_refl _) _
  obtain ⟨z0, z1, z2⟩ := id hx0
  have HF := Lib.hid (implPuzzleFits s Ag ng cg Bg gi Ar nr cr Br rs A n c B g _ (hp.below hb0) (hg.below (hb0.mono hB)) (Nat.le_trans hB hb0.size) hm)
  have HM := Lib.hid (fun w' (hb : Below w.heap.size w w') => contains_any A c n B g 0 w' (hg.below (hb.mono hB)) hm)
  cases hf : fpB s gi rs g
  · have HL := Lib.hid (show psB s gi rs g = false by simp [ps_mem, hf])
    go_enter Try.func20, Try.ntmps20
    go_wp2_with (go_at_call 29; refine HF.out.mono ?_; rintro e w1 ⟨rfl, hb1⟩; rw [hf])
    go_ret
    exact ⟨by rw [HL.out]; rfl, step hb0 hb1⟩
  · have HL := Lib.hid (show psB s gi rs g = !memTo g 0 n by rw [ps_mem, hf, hlen.out, Bool.true_and])
    go_enter Try.func20, Try.ntmps20
    go_wp2_with (first | (go_at_call 29; refine HF.out.mono ?_; rintro e w1 ⟨rfl, hb1⟩; rw [hf]; have h01 := step hb0 hb1) | (go_at_call 30; refine (HM.out _ h01).mono ?_; rintro e w2 ⟨rfl, rfl⟩))
    go_ret
    exact ⟨by rw [HL.out]; rfl, h01⟩
end Go.Proofs.Ytcjdjcpappfkgaa
set_option maxRecDepth 8000
namespace Go.Proofs.Ytcjdjcpappfkgaa
open Go.ChangeShapes Go.WideShapes Go.ChangeAt Go.RowKit

theorem OwR.far {w w' : World} {lo n c : Nat} {A : Option Addr} {rs : List RuleM} {row : Option Nat} (h : OwR w lo (.slice A n c) rs n) (hg : w.grownBy w' row) (hr : ∀ g, row = some g → g < lo) : OwR w' lo (.slice A n c) rs n := by
  obtain ⟨vs, hown, hin⟩ := h
  refine ⟨vs, World.ownsRow.kept hown hg (by
    cases e : (Value.slice A n c).ownBlock with
    | none => exact .inl rfl
    | some g => exact .inr (fun he => by have h1 := (World.ownsRow.lt hown g e).1; have h2 := hr g he.symm; omega)), fun i hi => ?_⟩
  obtain ⟨A', c', e0, e1, e2, e3, e4, e5⟩ := hin i hi
  exact ⟨A', c', e0, e1, e2, e3.far hg (fun g hgg e => by have h1 := e3.own_lo g hgg; have h2 := hr g e; omega), e4, e5⟩
theorem lt_set5 {a : Nat} {w : World} {p : Addr} {v : Value} (h : a < w.heap.size) : a < (w.setCell p v).heap.size := by rw [World.size_setCell]; exact h
theorem grown_row {w : World} {g : Nat} {cs : Array Value} : w.grownBy (w.setRow g cs) (some g) :=
  ⟨rfl, rfl, rfl, by simp, fun k hk hne => by unfold World.setRow; simp only [Array.getElem?_modify]; rw [if_neg (fun e => hne (by rw [e]))]⟩
theorem OwR.mono {w : World} {lo lo' n : Nat} {v : Value} {rs : List RuleM} (h : OwR w lo v rs n) (hl : lo' ≤ lo) : OwR w lo' v rs n := by
  obtain ⟨vs, hown, hin⟩ := h
  refine ⟨vs, World.ownsRow.mono hown hl, fun i hi => ?_⟩
  obtain ⟨A', c', e0, e1, e2, e3, e4, e5⟩ := hin i hi
  exact ⟨A', c', e0, e1, e2, e3.mono hl, e4, e5⟩
end Go.Proofs.Ytcjdjcpappfkgaa
set_option maxRecDepth 8000
namespace Go.Proofs.Ytcjdjcpappfkgaa
open Go.ChangeShapes Go.WideShapes Go.ChangeAt Go.RowKit

set_option maxHeartbeats 1000000 in
theorem toRule_any (k : Int) (A : Option Addr) (n c B : Nat) (xs : List Int) (v : Int) (w : World) (h : Rd w B A n xs) (hB : B ≤ w.heap.size) (hm : n ≤ 1099511627776) :
    Calls Try.prog 19 #[.agg #[.int .i64 k, .slice A n c, .int .i64 v]] w fun e w' => ∃ A', e = .returned (.agg #[.int .i64 k, .slice A' n n, .int .i64 v]) ∧ Ow w' w.heap.size A' n n xs ∧ Below w.heap.size w w' := by
  have Hone := Lib.hid rule_one
  have Hi := Lib.hid rule_info
  have hx0 := rbox_new w k A n c v 41
  have hb0 : Below w.heap.size w (w.alloc (.cells #[.int .i64 k, .slice A n c, .int .i64 v] 41)) := (Below.refl _ _).alloc (Nat.le_refl _) _
  have hs0 : w.heap.size < (w.alloc (.cells #[.int .i64 k, .slice A n c, .int .i64 v] 41)).heap.size := by simp
  obtain ⟨V, hV⟩ : ∃ V, V = ((w.alloc (.cells #[.int .i64 k, .slice A n c, .int .i64 v] 41)).alloc (.cells #[.int .i64 0, .slice none 0 0, .int .i64 0] 44)).alloc (.cells #[.int .i64 k, .slice none 0 0, .int .i64 0] 44) := ⟨_, rfl⟩
  have hb1 : Below w.heap.size w ((w.alloc (.cells #[.int .i64 k, .slice A n c, .int .i64 v] 41)).alloc (.cells #[.int .i64 0, .slice none 0 0, .int .i64 0] 44)) := hb0.alloc hb0.size _
  have hbV : Below w.heap.size w V := by rw [hV]; exact hb1.alloc hb1.size _
  have hsV : V.heap.size = w.heap.size + 1 + 1 + 1 := by rw [hV]; simp
  have hv2 : V.heap[w.heap.size + 1 + 1]? = some (.cells #[.int .i64 k, .slice none 0 0, .int .i64 0] 44) := by
    have := heap_alloc2_new (w.alloc (.cells #[.int .i64 k, .slice A n c, .int .i64 v] 41)) (.cells #[.int .i64 0, .slice none 0 0, .int .i64 0] 44) (.cells #[.int .i64 k, .slice none 0 0, .int .i64 0] 44)
    rw [World.size_alloc] at this
    rw [hV]
    exact this
  have hv1 : V.heap[w.heap.size + 1]? = some (.cells #[.int .i64 0, .slice none 0 0, .int .i64 0] 44) := by
    have := heap_alloc2_old (w.alloc (.cells #[.int .i64 k, .slice A n c, .int .i64 v] 41)) (.cells #[.int .i64 0, .slice none 0 0, .int .i64 0] 44) (.cells #[.int .i64 k, .slice none 0 0, .int .i64 0] 44)
    rw [World.size_alloc] at this
    rw [hV]
    exact this
  have hx1 : RBox V w.heap.size k A n c v := by
    rw [hV]
    refine hx0.below hs0 ?_
    have e : (w.alloc (.cells #[.int .i64 k, .slice A n c, .int .i64 v] 41)).heap.size = w.heap.size + 1 := by simp
    rw [e]
    have b1 : Below (w.heap.size + 1) (w.alloc (.cells #[.int .i64 k, .slice A n c, .int .i64 v] 41)) ((w.alloc (.cells #[.int .i64 k, .slice A n c, .int .i64 v] 41)).alloc (.cells #[.int .i64 0, .slice none 0 0, .int .i64 0] 44)) := (Below.refl _ _).alloc (Nat.le_of_eq e.symm) _
    exact b1.alloc (by simp) _
  obtain ⟨k0, k1, k2⟩ := id hx1
  have hR := h.below (hbV.mono hB)
  have hBV : B ≤ V.heap.size := by omega
  have hwV : w.heap.size ≤ V.heap.size := by omega
  have hwV0 : w.heap.size < V.heap.size := by omega
  have hwV1 : w.heap.size + 1 < V.heap.size := by omega
  have hwV2 : w.heap.size + 1 + 1 < V.heap.size := by omega
  have hne02 : w.heap.size + 1 + 1 ≠ w.heap.size := by omega
  have hne12 : w.heap.size + 1 ≠ w.heap.size + 1 + 1 := by omega
  have HV := Lib.hid hV
  have HsV := Lib.hid hsV
  clear hV hsV
  go_enter Try.func19, Try.ntmps19
  go_wp2_with (first
    | (go_at_call 6; (rw [← HV.out]); refine (toIntS_any _ _ _ _ _ _ hR hBV hm).mono ?_; rintro e w1 ⟨rfl, ho1, hbw1⟩; have f1 := (hbw1.block (w.heap.size + 1) hwV1).trans hv1; have f2 := (hbw1.block (w.heap.size + 1 + 1) hwV2).trans hv2; obtain ⟨j0, j1, j2⟩ := hx1.below hwV0 hbw1; have g1 := (heap_setCell_other w1 ⟨w.heap.size + 1 + 1, 1, none⟩ (w.heap.size + 1) (.slice (some ⟨V.heap.size, 0, none⟩) n n) hne12).trans f1; have g2 := heap_setCell_same w1 (w.heap.size + 1 + 1) 1 _ _ (.slice (some ⟨V.heap.size, 0, none⟩) n n) f2; have fz := frozen_of_row w1 (w.heap.size + 1 + 1) 1 _ _ f2; have m0 : w1.cell? ⟨w.heap.size + 1 + 1, 0, none⟩ = some (.int .i64 k) := cell_of_row _ _ 0 _ _ (0, 0) f2; have m1 : w1.cell? ⟨w.heap.size + 1 + 1, 1, none⟩ = some (.slice none 0 0) := cell_of_row _ _ 1 _ _ (0, 0) f2; have m2 : w1.cell? ⟨w.heap.size + 1 + 1, 2, none⟩ = some (.int .i64 0) := cell_of_row _ _ 2 _ _ (0, 0) f2; have n2 : (w1.setCell ⟨w.heap.size + 1 + 1, 1, none⟩ (.slice (some ⟨V.heap.size, 0, none⟩) n n)).cell? ⟨w.heap.size + 1 + 1, 2, none⟩ = some (.int .i64 0) := cell_of_row _ _ 2 _ _ (0, 0) g2; have fz2 := frozen_of_row (w1.setCell ⟨w.heap.size + 1 + 1, 1, none⟩ (.slice (some ⟨V.heap.size, 0, none⟩) n n)) (w.heap.size + 1 + 1) 2 _ _ g2; have l0 : (w1.setCell ⟨w.heap.size + 1 + 1, 1, none⟩ (.slice (some ⟨V.heap.size, 0, none⟩) n n)).cell? ⟨w.heap.size, 2, none⟩ = some (.int .i64 v) := (World.cell?_setCell_far w1 ⟨w.heap.size + 1 + 1, 1, none⟩ ⟨w.heap.size, 2, none⟩ _ hne02).trans j2; have r1 := (heap_setCell_other (w1.setCell ⟨w.heap.size + 1 + 1, 1, none⟩ (.slice (some ⟨V.heap.size, 0, none⟩) n n)) ⟨w.heap.size + 1 + 1, 2, none⟩ (w.heap.size + 1) (.int .i64 v) hne12).trans g1; have r2 := heap_setCell_same (w1.setCell ⟨w.heap.size + 1 + 1, 1, none⟩ (.slice (some ⟨V.heap.size, 0, none⟩) n n)) (w.heap.size + 1 + 1) 2 _ _ (.int .i64 v) g2)
    | ((refine wpList_load_row rfl 44 _ rfl (w.heap.size + 1 + 1) rfl 44 #[.int .i64 k, .slice (some ⟨V.heap.size, 0, none⟩) n n, .int .i64 v] (0, 0) _ r2 Try.underlying44 rfl (Hi.out _ _ _ _ _) ?_))
    | ((refine wpList_store_row rfl 44 _ _ rfl (w.heap.size + 1) #[.int .i64 k, .slice (some ⟨V.heap.size, 0, none⟩) n n, .int .i64 v] rfl rfl 44 #[.int .i64 0, .slice none 0 0, .int .i64 0] r1 (Hi.out _ _ _ _ _) rfl (Hone.out _ _ _ _ _) ?_)))
  have hbw2 : Below w.heap.size w w1 := hbV.trans (hbw1.mono hwV)
  have hB2 : Below w.heap.size w (((w1.setCell ⟨w.heap.size + 1 + 1, 1, none⟩ (.slice (some ⟨V.heap.size, 0, none⟩) n n)).setCell ⟨w.heap.size + 1 + 1, 2, none⟩ (.int .i64 v)).setRow (w.heap.size + 1) #[.int .i64 k, .slice (some ⟨V.heap.size, 0, none⟩) n n, .int .i64 v]) := setRow_below5 ((hbw2.setCell (show w.heap.size ≤ w.heap.size + 1 + 1 by omega) _).setCell (show w.heap.size ≤ w.heap.size + 1 + 1 by omega) _) (by omega)
  have hlo1 := ho1.own_lo
  have HsV' := HsV.out
  have ho2 : Ow (w1.setCell ⟨w.heap.size + 1 + 1, 1, none⟩ (.slice (some ⟨V.heap.size, 0, none⟩) n n)) V.heap.size (some ⟨V.heap.size, 0, none⟩) n n xs := ho1.far (row := some (w.heap.size + 1 + 1)) grown_set (fun b hb e => by have := hlo1 b hb; injection e with e; omega)
  have ho3 : Ow ((w1.setCell ⟨w.heap.size + 1 + 1, 1, none⟩ (.slice (some ⟨V.heap.size, 0, none⟩) n n)).setCell ⟨w.heap.size + 1 + 1, 2, none⟩ (.int .i64 v)) V.heap.size (some ⟨V.heap.size, 0, none⟩) n n xs := ho2.far (row := some (w.heap.size + 1 + 1)) grown_set (fun b hb e => by have := hlo1 b hb; injection e with e; omega)
  refine bodyPost_ret (v := .agg #[.int .i64 k, .slice (some ⟨V.heap.size, 0, none⟩) n n, .int .i64 v]) (results_cell_row (by rfl) _ _ (w.heap.size + 1) 44 _ (0, 0) _ rfl (setRow_heap _ _ _ _ _ _ r1) Try.underlying44 rfl (Hi.out _ _ _ _ _)) rfl ⟨_, rfl, (ho3.row5 (fun b hb => ?_)).mono (by omega), hB2⟩
  have := hlo1 b hb
  omega
theorem eqRule_any (A A' : Option Addr) (c c' n n' B B' : Nat) (xs ys : List Int) (k v k' v' : Int) (w : World) (h : Rd w B A n xs) (h' : Rd w B' A' n' ys) (hB : B ≤ w.heap.size) (hB' : B' ≤ w.heap.size) (hm : n ≤ 1099511627776) (hk : k = k') (hv : v = v') (he : xs = ys) :
    Calls Try.prog 22 #[.agg #[.int .i64 k, .slice A n c, .int .i64 v], .agg #[.int .i64 k', .slice A' n' c', .int .i64 v']] w fun e w' => e = .returned (.bool true) ∧ Below w.heap.size w w' := by
  subst hk hv he
  have hx := rbox_new w k A n c v 44
  have hb0 : Below w.heap.size w (w.alloc (.cells #[.int .i64 k, .slice A n c, .int .i64 v] 44)) := (Below.refl _ _).alloc (Nat.le_refl _) _
  have hs0 : w.heap.size < (w.alloc (.cells #[.int .i64 k, .slice A n c, .int .i64 v] 44)).heap.size := by simp
  have hx2 := rbox_new (w.alloc (.cells #[.int .i64 k, .slice A n c, .int .i64 v] 44)) k A' n' c' v 44
  have hb1 : Below w.heap.size w ((w.alloc (.cells #[.int .i64 k, .slice A n c, .int .i64 v] 44)).alloc (.cells #[.int .i64 k, .slice A' n' c', .int .i64 v] 44)) := hb0.alloc hb0.size _
  have hx1 := hx.below hs0 ((Below.refl _ _).alloc (Nat.le_refl _) (.cells #[.int .i64 k, .slice A' n' c', .int .i64 v] 44))
  rw [World.size_alloc] at hx2
  have hs1 : w.heap.size < ((w.alloc (.cells #[.int .i64 k, .slice A n c, .int .i64 v] 44)).alloc (.cells #[.int .i64 k, .slice A' n' c', .int .i64 v] 44)).heap.size := by simp; omega
  have hs2 : w.heap.size + 1 < ((w.alloc (.cells #[.int .i64 k, .slice A n c, .int .i64 v] 44)).alloc (.cells #[.int .i64 k, .slice A' n' c', .int .i64 v] 44)).heap.size := by simp
  obtain ⟨a0, a1, a2⟩ := id hx1
  obtain ⟨b0, b1, b2⟩ := id hx2
  have hkk : (k != k) = false := by simp
  have hvv : (v != v) = false := by simp
  have hC : Hid (Calls Try.prog 10 #[.slice A n c, .slice A' n' c'] ((w.alloc (.cells #[.int .i64 k, .slice A n c, .int .i64 v] 44)).alloc (.cells #[.int .i64 k, .slice A' n' c', .int .i64 v] 44)) fun e w' => e = .returned (.bool (same xs xs)) ∧ Below ((w.alloc (.cells #[.int .i64 k, .slice A n c, .int .i64 v] 44)).alloc (.cells #[.int .i64 k, .slice A' n' c', .int .i64 v] 44)).heap.size ((w.alloc (.cells #[.int .i64 k, .slice A n c, .int .i64 v] 44)).alloc (.cells #[.int .i64 k, .slice A' n' c', .int .i64 v] 44)) w') :=
    Lib.hid (eqIntS_any _ _ _ _ _ _ _ _ _ _ _ (h.below (hb1.mono hB)) (h'.below (hb1.mono hB')) hm)
  have hsame := same_refl xs
  go_enter Try.func22, Try.ntmps22
  go_wp2_with (go_at_call 10; refine hC.out.mono ?_; rintro e w2 ⟨rfl, hb2⟩; rw [hsame]; obtain ⟨d0, d1, d2⟩ := hx1.below hs1 hb2; obtain ⟨e0, e1, e2⟩ := hx2.below hs2 hb2)
  go_ret
  exact ⟨rfl, step hb1 hb2⟩
theorem szIntS_any (A : Option Addr) (c n : Nat) (l : Int) (w : World) (hm : n ≤ 9223372036854775807) (h0 : 0 ≤ l) (h1 : l ≤ 1099511627776) :
    Calls Try.prog 25 #[.slice A n c, .int .i64 l] w fun e w' => e = .returned (.int .i64 (if (n : Int) ≤ l then l - n else -1)) ∧ w = w' := by
  have e1 : wrap64 (l - n) = l - n := IntWalk.wrap64_in _ ⟨by omega, by omega⟩
  by_cases hn : (n : Int) ≤ l
  · go_enter Try.func25, Try.ntmps25
    go_wp2
    go_ret
    exact ⟨rfl, rfl⟩
  · go_enter Try.func25, Try.ntmps25
    go_wp2
    go_ret
    exact ⟨rfl, rfl⟩
theorem szRule_any (A : Option Addr) (c n : Nat) (k v l : Int) (w : World) (hm : n ≤ 9223372036854775807) (h0 : 0 ≤ l) (h1 : l ≤ 1099511627776) :
    Calls Try.prog 16 #[.agg #[.int .i64 k, .slice A n c, .int .i64 v], .int .i64 l] w fun e w' => e = .returned (.int .i64 (if (n : Int) ≤ l then l - n else -1)) ∧ Below w.heap.size w w' := by
  have hx := rbox_new w k A n c v 41
  have hb0 : Below w.heap.size w (w.alloc (.cells #[.int .i64 k, .slice A n c, .int .i64 v] 41)) := (Below.refl _ _).alloc (Nat.le_refl _) _
  obtain ⟨a0, a1, a2⟩ := id hx
  obtain ⟨r, hr⟩ : ∃ r, r = (if (n : Int) ≤ l then l - (n : Int) else -1) := ⟨_, rfl⟩
  have HC := Lib.hid (fun w => szIntS_any A c n l w hm h0 h1)
  rw [← hr] at HC ⊢
  by_cases hr0 : r < 0
  · have hr1 : r = -1 := by rw [hr] at hr0 ⊢; split at hr0 <;> omega
    have HR := Lib.hid hr1
    clear hr hr1
    go_enter Try.func16, Try.ntmps16
    go_wp2_with (go_at_call 25; refine (HC.out _).mono ?_; rintro e w2 ⟨rfl, rfl⟩)
    go_ret
    exact ⟨by rw [HR.out]; rfl, hb0⟩
  · clear hr
    go_enter Try.func16, Try.ntmps16
    go_wp2_with (go_at_call 25; refine (HC.out _).mono ?_; rintro e w2 ⟨rfl, rfl⟩)
    go_ret
    exact ⟨rfl, hb0⟩
end Go.Proofs.Ytcjdjcpappfkgaa
