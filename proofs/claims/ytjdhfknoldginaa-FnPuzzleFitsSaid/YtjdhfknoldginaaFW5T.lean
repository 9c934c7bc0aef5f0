import Derived.Test.YtjdhfknoldginaaFW2E
import Derived.Test.YtjdhfknoldginaaFPow
import Derived.Deep.RegionHeld3
import Derived.Test.YtjdhfknoldginaaFPerm
import Derived.Test.YtjdhfknoldginaaOwn
namespace Go.Proofs.Ytjdhfknoldginaa
open Go.ChangeShapes Go.WideShapes Go.ChangeAt Go.RowKit

theorem implSquareFits : ISquareFits := by
  intro A c n B xs size w h hB hm
  have hlen := Lib.hid h.1
  cases hg : gv xs size
  · have HL := Lib.hid (show sqFits xs size = false by simp [sqFits, hg])
    have h1 := h.alloc hB (.cells #[.slice A n c, .int .i64 size] 43)
    have hB1 : B ≤ (w.alloc (.cells #[.slice A n c, .int .i64 size] 43)).heap.size := by simp; omega
    have hB0 : Below w.heap.size w (w.alloc (.cells #[.slice A n c, .int .i64 size] 43)) := (Below.refl _ _).alloc (Nat.le_refl _) _
    go_enter Try.func9, Try.ntmps9
    go_wp2_with (go_at_call 24; refine (implValid _ _ _ _ _ _ _ h1 hB1 hm).mono ?_; rintro e w1 ⟨rfl, hb1⟩; rw [hg])
    go_ret
    exact ⟨by rw [HL.out]; rfl, step hB0 hb1⟩
  · obtain ⟨s, rfl, hs, hls⟩ := size_nat hg
    have hn : n = s * s := by have := hlen.out; omega
    have hok := Lib.hid (gv_okAll hg hlen.out)
    have HL := Lib.hid (show sqFits xs s = !(twice xs s n) by rw [twice_clash hs hn hok.out, sqFits, hg]; rfl)
    have Hn := Lib.hid hn; clear hn hls
    have h1 := h.alloc hB (.cells #[.slice A n c, .int .i64 s] 43)
    have hB1 : B ≤ (w.alloc (.cells #[.slice A n c, .int .i64 s] 43)).heap.size := by simp; omega
    have hB0 : Below w.heap.size w (w.alloc (.cells #[.slice A n c, .int .i64 s] 43)) := (Below.refl _ _).alloc (Nat.le_refl _) _
    have hz0 : ∀ u : World, MBox (u.alloc (.cells #[.int .i64 0, .int .i64 0, .int .i64 0, .int .i64 0, .int .i64 0, .int .i64 0, .int .i64 0, .int .i64 0, .int .i64 0] 46)) u.heap.size (fun _ => 0) 0 := fun u => heap_alloc_new u _
    have Hz0 := Lib.hid hz0; clear hz0
    have Hi9 := Lib.hid (show (Try.prog.info? 46).map (·.size) = some (mcells (lmask xs s n) s).size by rw [mcells_size]; kernel_rfl)
    have Hone := Lib.hid (mone (lmask xs s n) s)
    go_enter Try.func9, Try.ntmps9
    go_wp2_with (go_at_call 24; refine (implValid _ _ _ _ _ _ _ h1 hB1 hm).mono ?_; rintro e w1 ⟨rfl, hb1⟩; rw [hg]; have hr1 := (h1.below (hb1.mono (Nat.le_trans hB1 (Nat.le_refl _)))); have hbox := box_cell hb1; have hB2 := step hB0 hb1)
    have c0 := hbox 0
    have c1 := hbox 1
    simp at c0 c1
    clear hbox
    have hBw : B ≤ w1.heap.size := Nat.le_trans hB hB2.size
    go_wp2_with (first | (go_at_call 25; refine (lines_any _ _ _ _ _ _ _ hr1 hBw hs Hn.out hok).mono ?_; rintro e w2 ⟨rfl, hb2⟩; have hB3 := step hB2 hb2) | (refine wpList_store_row rfl 46 _ _ rfl w2.heap.size (mcells (lmask xs s n) s) rfl rfl 46 (mcells (fun _ => 0) 0) (Hz0.out w2) Hi9.out rfl Hone.out ?_))
    go_ret
    exact ⟨by rw [HL.out]; rfl, setRow_below (hB3.alloc hB3.size _) hB3.size⟩
end Go.Proofs.Ytjdhfknoldginaa
set_option maxRecDepth 8000
namespace Go.Proofs.Ytjdhfknoldginaa
open Go.ChangeShapes Go.WideShapes Go.ChangeAt Go.RowKit
def agreeB (gi g : List Int) (n : Nat) : Bool := (List.range n).all fun i => giveOk gi g i
theorem agree_no {gi g : List Int} {n i : Nat} (hi : i < n) (h : giveOk gi g i = false) : agreeB gi g n = false := by
  cases e : agreeB gi g n
  · rfl
  · have := List.all_eq_true.1 e i (List.mem_range.2 (by omega))
    rw [h] at this; cases this
theorem agree_yes {gi g : List Int} {n : Nat} (h : ∀ i, i < n → giveOk gi g i = true) : agreeB gi g n = true := List.all_eq_true.2 (fun i hi => h i (by rw [List.mem_range] at hi; omega))
set_option maxHeartbeats 1000000 in
theorem agrees_any (s : Int) (Ag : Option Addr) (n cg Bg : Nat) (gi : List Int) (Ar : Option Addr) (nr cr : Nat) (A : Option Addr) (c B : Nat) (g : List Int) (w : World) (hgi : Rd w Bg Ag n gi) (hBg : Bg ≤ w.heap.size) (hg : Rd w B A n g) (hB : B ≤ w.heap.size) (hm : n ≤ 1099511627776)
    (hgi0 : ∀ i, i < n → 0 ≤ nth gi i) (hg0 : ∀ i, i < n → 0 ≤ nth g i) :
    Calls Try.prog 39 #[.agg #[.int .i64 s, .slice Ag n cg, .slice Ar nr cr], .slice A n c] w fun e w' => e = .returned (.bool (agreeB gi g n)) ∧ Below w.heap.size w w' := by
  have hx0 := pbox_new w s Ag n cg Ar nr cr 26
  have hb0 : Below w.heap.size w (w.alloc (.cells #[.int .i64 s, .slice Ag n cg, .slice Ar nr cr] 26)) := (Below.refl _ _).alloc (Nat.le_refl _) _
  obtain ⟨z0, z1, z2⟩ := id hx0
  have h1 := hgi.below (hb0.mono hBg)
  have h2 := hg.below (hb0.mono hB)
  have HGI := Lib.hid hgi0
  have HG := Lib.hid hg0
  clear hgi hg hgi0 hg0
  go_enter Try.func39, Try.ntmps39
  go_wp2
  go_loop [10] (fun i => ∃ u : Nat, u ≤ n ∧ i = .int .i64 u ∧ Hid (∀ j, j < u → giveOk gi g j = true)) (fun i => n - (intOf i).toNat)
  case atStart => exact ⟨0, Nat.zero_le _, rfl, Lib.hid (fun j hj => absurd hj (by omega))⟩
  case round =>
    obtain ⟨u, hu, rfl, hall⟩ := hrel
    by_cases hlt : u < n
    · obtain ⟨b, off, rfl, hbB, hc1⟩ := h1.at_ hlt
      obtain ⟨b2, off2, rfl, hbB2, hc2⟩ := h2.at_ hlt
      have hin : (u : Int) < (n : Int) := by omega
      obtain ⟨x, hx⟩ := Int.eq_ofNat_of_zero_le (HGI.out u hlt)
      obtain ⟨y, hy⟩ := Int.eq_ofNat_of_zero_le (HG.out u hlt)
      have hok : giveOk gi g u = !(decide (0 < x) && decide (0 < y) && (y != x)) := by
        unfold giveOk
        rw [hx, hy]
        simp only [Int.natCast_pos]
        congr 2
        rw [Bool.eq_iff_iff, bne_iff_ne, bne_iff_ne]
        omega
      rw [hx] at hc1
      rw [hy] at hc2
      clear hx hy
      have hnext : giveOk gi g u = true → Hid (∀ j, j < u + 1 → giveOk gi g j = true) := fun h => Lib.hid (fun j hj => by
        by_cases e : j = u
        · subst e; exact h
        · exact hall.out j (by omega))
      by_cases hx0 : x = 0
      · have HN := hnext (by rw [hok, hx0]; simp)
        have hxz : ((x : Int) != 0) = false := by simp [hx0]
        clear hok hnext hx0
        go_wp2
        go_round
        case rel => exact ⟨u + 1, hlt, by go_num, HN⟩
        case measure => simp [intOf]; omega
      · have hxz : ((x : Int) != 0) = true := by simp; omega
        by_cases hy0 : y = 0
        · have HN := hnext (by rw [hok, hy0]; simp)
          have hyz : ((y : Int) != 0) = false := by simp [hy0]
          clear hok hnext hy0
          go_wp2
          go_round
          case rel => exact ⟨u + 1, hlt, by go_num, HN⟩
          case measure => simp [intOf]; omega
        · have hyz : ((y : Int) != 0) = true := by simp; omega
          by_cases he : y = x
          · have HN := hnext (by rw [hok, he]; simp)
            have hyx : ((y : Int) != (x : Int)) = false := by simp [he]
            clear hok hnext
            go_wp2
            go_round
            case rel => exact ⟨u + 1, hlt, by go_num, HN⟩
            case measure => simp [intOf]; omega
          · have HL := Lib.hid (agree_no hlt (show giveOk gi g u = false by
              rw [hok, decide_eq_true (by omega), decide_eq_true (by omega)]
              simp [he]))
            have hyx : ((y : Int) != (x : Int)) = true := by simp; omega
            clear hok hnext
            go_wp2
            go_ret
            exact ⟨by rw [HL.out]; rfl, hb0⟩
    · obtain rfl : u = n := by omega
      have HL := Lib.hid (agree_yes hall.out)
      go_wp2
      go_ret
      exact ⟨by rw [HL.out]; rfl, hb0⟩
end Go.Proofs.Ytjdhfknoldginaa
set_option maxRecDepth 8000
namespace Go.Proofs.Ytjdhfknoldginaa
open Go.ChangeShapes Go.WideShapes Go.ChangeAt Go.RowKit
def possB (s : Int) (g : List Int) (rs : List RuleM) : Bool := (List.range rs.length).all fun i => rpR s g (rat rs i)
set_option maxHeartbeats 1000000 in
theorem rulesPossible_any (s : Nat) (Ag : Option Addr) (ng cg : Nat) (Ar : Option Addr) (nr cr Br : Nat) (rs : List RuleM) (A : Option Addr) (n c B : Nat) (g : List Int) (w : World) (hr : RdRc w Br Ar nr rs) (hBr : Br ≤ w.heap.size) (hmr : nr ≤ 1099511627776) (hg : Rd w B A n g) (hB : B ≤ w.heap.size) (hs : s ∈ [2, 3, 4]) (hgv : gv g s = true) (hall0 : ∀ i, i < nr → rvR s (rat rs i) = true) :
    Calls Try.prog 40 #[.agg #[.int .i64 s, .slice Ag ng cg, .slice Ar nr cr], .slice A n c] w fun e w' => e = .returned (.bool (possB s g rs)) ∧ Below w.heap.size w w' := by
  have hlen := Lib.hid hr.1
  have hx0 := pbox_new w s Ag ng cg Ar nr cr 26
  have hb0 : Below w.heap.size w (w.alloc (.cells #[.int .i64 s, .slice Ag ng cg, .slice Ar nr cr] 26)) := (Below.refl _ _).alloc (Nat.le_refl _) _
  have hs0 : w.heap.size + 1 ≤ (w.alloc (.cells #[.int .i64 s, .slice Ag ng cg, .slice Ar nr cr] 26)).heap.size := by simp
  obtain ⟨z0, z1, z2⟩ := id hx0
  have HR := Lib.hid (fun (w' : World) (hb : Below w.heap.size w w') => hr.below (hb.mono hBr))
  have HA := Lib.hid hall0
  clear hall0
  go_enter Try.func40, Try.ntmps40
  go_wp2
  go_loopw [10] (fun i wr => ∃ u : Nat, u ≤ nr ∧ i = .int .i64 u ∧ Hid (allR (rpR s g) rs u) ∧ PBox wr w.heap.size s Ag ng cg Ar nr cr ∧ Below w.heap.size w wr ∧ w.heap.size + 1 ≤ wr.heap.size) (fun i _ => nr - (intOf i).toNat)
  case atStart => exact ⟨0, Nat.zero_le _, rfl, Lib.hid (fun j hj => absurd hj (by omega)), hx0, hb0, hs0⟩
  case round =>
    obtain ⟨u, hu, rfl, hall, hx, hb, hsw⟩ := hrel
    obtain ⟨c0, c1, c2⟩ := id hx
    by_cases hlt : u < nr
    · obtain ⟨b, off, rfl, hbB, hcc⟩ := (HR.out _ hb).2 (by omega)
      obtain ⟨A', c', r0, r1, r2, r3, r4, r5⟩ := hcc u hlt
      have hv0 := HA.out u hlt
      obtain ⟨rk, hrk⟩ : ∃ x, x = (rat rs u).k := ⟨_, rfl⟩
      obtain ⟨rx, hrx⟩ : ∃ x, x = (rat rs u).xs := ⟨_, rfl⟩
      obtain ⟨rvv, hrv⟩ : ∃ x, x = (rat rs u).v := ⟨_, rfl⟩
      have hv : rv rk rx rvv s = true := by rw [hrk, hrx, hrv]; exact hv0
      have hrr : rpR s g (rat rs u) = rpB rk rx rvv g s := by simp only [rpR, hrk, hrx, hrv]
      rw [← hrk] at r0
      rw [← hrx] at r1 r3 r4 r5
      rw [← hrv] at r2
      obtain ⟨_, ⟨hn1, hn4⟩, hk2, _⟩ := rv_facts rfl hv
      obtain ⟨hsm, hxin⟩ := pks_small rfl hv hgv
      rw [hg.1] at hxin
      have hin : (u : Int) < (nr : Int) := by omega
      have hy := rbox_new wr rk A' rx.length c' rvv 36
      have hb1 : Below wr.heap.size wr (wr.alloc (.cells #[.int .i64 rk, .slice A' rx.length c', .int .i64 rvv] 36)) := (Below.refl _ _).alloc (Nat.le_refl _) _
      obtain ⟨y0, y1, y2⟩ := id hy
      have hx1 := hx.below (Nat.lt_of_lt_of_le (Nat.lt_succ_self _) hsw) hb1
      obtain ⟨d0, d1, d2⟩ := id hx1
      have hbw := hb.trans (hb1.mono hb.size)
      have hs1 : w.heap.size < (wr.alloc (.cells #[.int .i64 rk, .slice A' rx.length c', .int .i64 rvv] 36)).heap.size := by simp; omega
      have hs2 : wr.heap.size < (wr.alloc (.cells #[.int .i64 rk, .slice A' rx.length c', .int .i64 rvv] 36)).heap.size := by simp
      obtain ⟨W, hW⟩ : ∃ W, wr.alloc (.cells #[.int .i64 rk, .slice A' rx.length c', .int .i64 rvv] 36) = W := ⟨_, rfl⟩
      rw [hW] at hy y0 y1 y2 hx1 d0 d1 d2 hbw hs1 hs2
      have HS : Hid (∀ w', Below W.heap.size W w' → w'.cell? ⟨wr.heap.size, 0, none⟩ = some (.int .i64 rk) ∧ w'.cell? ⟨wr.heap.size, 1, none⟩ = some (.slice A' rx.length c') ∧ w'.cell? ⟨wr.heap.size, 2, none⟩ = some (.int .i64 rvv) ∧ w'.cell? ⟨w.heap.size, 0, none⟩ = some (.int .i64 s)) :=
        Lib.hid (fun w' hb => by
          obtain ⟨e0, e1, e2⟩ := hy.below hs2 hb
          exact ⟨e0, e1, e2, (hx1.below hs1 hb).1⟩)
      have HPK := Lib.hid (fun w' (hb2 : Below W.heap.size W w') => implPick A c n B g A' c' rx.length Br rx w' (hg.below ((hbw.trans (hb2.mono hbw.size)).mono hB)) ((r3.below (by rw [← hW]; exact hb1.mono (Nat.le_trans hBr hb.size))).below (hb2.mono (Nat.le_trans hBr hbw.size))) (Nat.le_trans (Nat.le_trans hB hbw.size) hb2.size) (Nat.le_trans (Nat.le_trans hBr hbw.size) hb2.size) r4 hxin)
      have Hpl := Lib.hid (pks_length g rx rx.length)
      have Hsm := Lib.hid hsm
      have Hk := Lib.hid (rv_kind hv)
      have Hk2 := Lib.hid (show rk = 1 ∨ rk = 2 ∨ rk = 3 ∨ 2 ≤ rx.length from hk2)
      have HRP := Lib.hid (rp_ways rfl hv hgv hs)
      obtain ⟨bb, hbb⟩ : ∃ bb, (!((allW (emL (pks g rx rx.length) s) rx.length []).filter (holdsB rk rvv)).isEmpty) = bb := ⟨_, rfl⟩
      rw [hbb] at HRP
      have Hbb := Lib.hid hbb
      have Hb := Lib.hid hb
      have Hbw := Lib.hid hbw
      have hx1' := Lib.hid hx1
      clear hrk hrx hrv hcc hsm hxin hk2 hbb hv0 hx hb1
      cases bb
      · have HL := Lib.hid (show possB s g rs = false from not_all_rat hlen.out hlt (hrr.trans HRP.out))
        clear hrr
        go_wp2_with fail
        go_region_held3 (fun w' => w'.cell? ⟨wr.heap.size, 0, none⟩ = some (.int .i64 rk) ∧ w'.cell? ⟨wr.heap.size, 1, none⟩ = some (.slice A' rx.length c') ∧ w'.cell? ⟨wr.heap.size, 2, none⟩ = some (.int .i64 rvv) ∧ w'.cell? ⟨w.heap.size, 0, none⟩ = some (.int .i64 s))
          (first | go_keep | exact HS.out _ hb3 | exact HS.out _ hb4)
          ((first | (go_simp; go_at_call 34; refine (HPK.out _ ((Below.refl _ _).drew)).mono ?_; rintro e w3 ⟨A3, c3, rfl, ho3, hb3'⟩; rw [Hpl.out] at ho3 ⊢; have hb3 : Below W.heap.size W w3 := ((Below.refl _ _).drew).trans hb3') | (go_simp; go_at_call 57; refine (possible_any _ _ _ _ _ _ _ _ _ _ _ _ ho3.rd (Nat.le_refl _) hn1 hn4 hs (fun i hi => Hsm.out i hi) Hk.out Hk2.out).mono ?_; rw [Hbb.out]; rintro e w4 ⟨rfl, hb4'⟩; have hb4 := step hb3 hb4')))
        go_wp2
        go_ret
        exact ⟨by rw [HL.out]; rfl, step Hbw.out hb4⟩
      · have hall2 := Lib.hid (show allR (rpR s g) rs (u + 1) from fun i hi => by
          by_cases e : i = u
          · subst e; exact hrr.trans HRP.out
          · exact hall.out i (by omega))
        have Hlt := Lib.hid hlt
        clear hrr
        go_wp2_with fail
        go_region_held3 (fun w' => w'.cell? ⟨wr.heap.size, 0, none⟩ = some (.int .i64 rk) ∧ w'.cell? ⟨wr.heap.size, 1, none⟩ = some (.slice A' rx.length c') ∧ w'.cell? ⟨wr.heap.size, 2, none⟩ = some (.int .i64 rvv) ∧ w'.cell? ⟨w.heap.size, 0, none⟩ = some (.int .i64 s))
          (first | go_keep | exact HS.out _ hb3 | exact HS.out _ hb4)
          ((first | (go_simp; go_at_call 34; refine (HPK.out _ ((Below.refl _ _).drew)).mono ?_; rintro e w3 ⟨A3, c3, rfl, ho3, hb3'⟩; rw [Hpl.out] at ho3 ⊢; have hb3 : Below W.heap.size W w3 := ((Below.refl _ _).drew).trans hb3') | (go_simp; go_at_call 57; refine (possible_any _ _ _ _ _ _ _ _ _ _ _ _ ho3.rd (Nat.le_refl _) hn1 hn4 hs (fun i hi => Hsm.out i hi) Hk.out Hk2.out).mono ?_; rw [Hbb.out]; rintro e w4 ⟨rfl, hb4'⟩; have hb4 := step hb3 hb4')))
        go_wp2
        go_roundw
        case rel => exact ⟨u + 1, Hlt.out, by go_num, hall2, hx1'.out.below hs1 hb4, step Hbw.out hb4, Nat.le_trans hs1 hb4.size⟩
        case measure => have := Hlt.out; simp [intOf]; omega
    · obtain rfl : u = nr := by omega
      have HL := Lib.hid (show possB s g rs = true from all_rat hlen.out hall.out)
      go_wp2
      go_ret
      exact ⟨by rw [HL.out]; rfl, hb⟩
set_option maxHeartbeats 1000000 in
theorem fits_any (s : Nat) (Ag : Option Addr) (ng cg Bg : Nat) (gi : List Int) (Ar : Option Addr) (nr cr Br : Nat) (rs : List RuleM) (A : Option Addr) (c B : Nat) (g : List Int) (w : World) (hp : PGc w s Ag ng cg Bg gi Ar nr cr Br rs) (hg : Rd w B A ng g) (hB : B ≤ w.heap.size) (hs : s ∈ [2, 3, 4]) (hv : pvB s gi rs = true) (hgv : gv g s = true) :
    Calls Try.prog 21 #[.agg #[.int .i64 s, .slice Ag ng cg, .slice Ar nr cr], .slice A ng c] w fun e w' => e = .returned (.bool (fitB s gi rs g)) ∧ Below w.heap.size w w' := by
  obtain ⟨hgi, _, hall⟩ := pv_gv hv
  rw [hp.r.1] at hall
  have hx0 := pbox_new w s Ag ng cg Ar nr cr 26
  have hb0 : Below w.heap.size w (w.alloc (.cells #[.int .i64 s, .slice Ag ng cg, .slice Ar nr cr] 26)) := (Below.refl _ _).alloc (Nat.le_refl _) _
  have hs0 : w.heap.size < (w.alloc (.cells #[.int .i64 s, .slice Ag ng cg, .slice Ar nr cr] 26)).heap.size := by simp
  obtain ⟨z0, z1, z2⟩ := id hx0
  have Hg0 := Lib.hid (show ∀ i, i < ng → 0 ≤ nth g i from fun i hi => (gv_nth hgv (by rw [hg.1]; exact hi)).1)
  have Hgi0 := Lib.hid (show ∀ i, i < ng → 0 ≤ nth gi i from fun i hi => (gv_nth hgi (by rw [hp.g.1]; exact hi)).1)
  have HA := Lib.hid (fun w' (hb : Below w.heap.size w w') => agrees_any s Ag ng cg Bg gi Ar nr cr A c B g w' (hp.below hb).g (hp.below hb).gB (hg.below (hb.mono hB)) (Nat.le_trans hB hb.size) hp.gm Hgi0.out Hg0.out)
  have HSq := Lib.hid (fun w' (hb : Below w.heap.size w w') => implSquareFits A c ng B g s w' (hg.below (hb.mono hB)) (Nat.le_trans hB hb.size) hp.gm)
  have HRp := Lib.hid (fun w' (hb : Below w.heap.size w w') => rulesPossible_any s Ag ng cg Ar nr cr Br rs A ng c B g w' (hp.below hb).r (hp.below hb).rB hp.rm (hg.below (hb.mono hB)) (Nat.le_trans hB hb.size) hs hgv (fun i hi => hall i hi))
  have hfit : fitB s gi rs g = (agreeB gi g ng && possB s g rs && !clash g s) := by unfold fitB agreeB possB; rw [hg.1]
  have hsq : sqFits g s = !clash g s := by unfold sqFits; rw [hgv, Bool.true_and]
  rw [hsq] at HSq
  clear hsq
  cases ha : agreeB gi g ng
  · have HL := Lib.hid (show fitB s gi rs g = false by rw [hfit, ha]; rfl)
    clear hfit
    go_enter Try.func21, Try.ntmps21
    go_wp2_with (go_at_call 39; refine (HA.out _ hb0).mono ?_; rintro e w1 ⟨rfl, hb1⟩; rw [ha])
    go_ret
    exact ⟨by rw [HL.out]; rfl, step hb0 hb1⟩
  · cases hc : clash g s
    · have HL := Lib.hid (show fitB s gi rs g = possB s g rs by rw [hfit, ha, hc]; simp)
      clear hfit
      rw [hc] at HSq
      go_enter Try.func21, Try.ntmps21
      go_wp2_with (first | (go_at_call 39; refine (HA.out _ hb0).mono ?_; rintro e w1 ⟨rfl, hb1⟩; rw [ha]; have h01 := step hb0 hb1; have hx1 := hx0.below hs0 hb1; have hs1 := Nat.lt_of_lt_of_le hs0 hb1.size; obtain ⟨c0, c1, c2⟩ := id hx1) | (go_at_call 9; refine (HSq.out _ h01).mono ?_; rintro e w2 ⟨rfl, hb2⟩; have h02 := step h01 hb2; obtain ⟨d0, d1, d2⟩ := hx1.below hs1 hb2) | (go_at_call 40; refine (HRp.out _ h02).mono ?_; rintro e w3 ⟨rfl, hb3⟩))
      go_ret
      exact ⟨by rw [HL.out]; rfl, step h02 hb3⟩
    · have HL := Lib.hid (show fitB s gi rs g = false by rw [hfit, ha, hc]; simp)
      clear hfit
      rw [hc] at HSq
      go_enter Try.func21, Try.ntmps21
      go_wp2_with (first | (go_at_call 39; refine (HA.out _ hb0).mono ?_; rintro e w1 ⟨rfl, hb1⟩; rw [ha]; have h01 := step hb0 hb1; have hx1 := hx0.below hs0 hb1; have hs1 := Nat.lt_of_lt_of_le hs0 hb1.size; obtain ⟨c0, c1, c2⟩ := id hx1) | (go_at_call 9; refine (HSq.out _ h01).mono ?_; rintro e w2 ⟨rfl, hb2⟩; have h02 := step h01 hb2))
      go_ret
      exact ⟨by rw [HL.out]; rfl, h02⟩
set_option maxHeartbeats 1000000 in
theorem implPuzzleFits (s : Int) (Ag : Option Addr) (ng cg Bg : Nat) (gi : List Int) (Ar : Option Addr) (nr cr Br : Nat) (rs : List RuleM) (A : Option Addr) (n c B : Nat) (g : List Int) (w : World) (hp : PGc w s Ag ng cg Bg gi Ar nr cr Br rs) (hg : Rd w B A n g) (hB : B ≤ w.heap.size) (hm : n ≤ 1099511627776) :
    Calls Try.prog 6 #[.agg #[.int .i64 s, .slice Ag ng cg, .slice Ar nr cr], .slice A n c] w fun e w' => e = .returned (.bool (fpB s gi rs g)) ∧ Below w.heap.size w w' := by
  have hx0 := pbox_new w s Ag ng cg Ar nr cr 26
  have hb0 : Below w.heap.size w (w.alloc (.cells #[.int .i64 s, .slice Ag ng cg, .slice Ar nr cr] 26)) := (Below.refl _ _).alloc (Nat.le_refl _) _
  have hs0 : w.heap.size < (w.alloc (.cells #[.int .i64 s, .slice Ag ng cg, .slice Ar nr cr] 26)).heap.size := by simp
  obtain ⟨z0, z1, z2⟩ := id hx0
  have HV := Lib.hid (fun w' (hb : Below w.heap.size w w') => valid_any s Ag ng cg Bg gi Ar nr cr Br rs w' (hp.below hb))
  have HG := Lib.hid (fun w' (hb : Below w.heap.size w w') => implGridValid A c n B g s w' (hg.below (hb.mono hB)) (Nat.le_trans hB hb.size) hm)
  cases hv : pvB s gi rs
  · have HL := Lib.hid (show fpB s gi rs g = false by simp [fpB, hv])
    go_enter Try.func6, Try.ntmps6
    go_wp2_with (go_at_call 19; refine (HV.out _ hb0).mono ?_; rintro e w1 ⟨rfl, hb1⟩; rw [hv])
    go_ret
    exact ⟨by rw [HL.out]; rfl, step hb0 hb1⟩
  · cases hgv : gv g s
    · have HL := Lib.hid (show fpB s gi rs g = false by simp [fpB, hgv])
      go_enter Try.func6, Try.ntmps6
      go_wp2_with (first | (go_at_call 19; refine (HV.out _ hb0).mono ?_; rintro e w1 ⟨rfl, hb1⟩; rw [hv]; have h01 := step hb0 hb1; obtain ⟨c0, c1, c2⟩ := hx0.below hs0 hb1) | (go_at_call 20; refine (HG.out _ h01).mono ?_; rintro e w2 ⟨rfl, hb2⟩; rw [hgv]))
      go_ret
      exact ⟨by rw [HL.out]; rfl, step h01 hb2⟩
    · obtain ⟨hgi, _, _⟩ := pv_gv hv
      obtain ⟨s2, s4⟩ := gv_size hgv
      obtain ⟨t, rfl⟩ := Int.eq_ofNat_of_zero_le (by omega : 0 ≤ s)
      have hs : t ∈ [2, 3, 4] := by
        have : t = 2 ∨ t = 3 ∨ t = 4 := by omega
        simpa using this
      have e1 := gv_len hgv
      have e2 := gv_len hgi
      rw [hg.1] at e1
      rw [hp.g.1] at e2
      obtain rfl : n = ng := by omega
      have HL := Lib.hid (show fpB t gi rs g = fitB t gi rs g by simp [fpB, hv, hgv])
      have HF := Lib.hid (fun w' (hb : Below w.heap.size w w') => fits_any t Ag n cg Bg gi Ar nr cr Br rs A c B g w' (hp.below hb) (hg.below (hb.mono hB)) (Nat.le_trans hB hb.size) hs hv hgv)
      clear e1 e2 hgi
      go_enter Try.func6, Try.ntmps6
      go_wp2_with (first | (go_at_call 19; refine (HV.out _ hb0).mono ?_; rintro e w1 ⟨rfl, hb1⟩; rw [hv]; have h01 := step hb0 hb1; have hx1 := hx0.below hs0 hb1; have hs1 := Nat.lt_of_lt_of_le hs0 hb1.size; obtain ⟨c0, c1, c2⟩ := id hx1) | (go_at_call 20; refine (HG.out _ h01).mono ?_; rintro e w2 ⟨rfl, hb2⟩; rw [hgv]; have h02 := step h01 hb2; obtain ⟨d0, d1, d2⟩ := hx1.below hs1 hb2) | (go_at_call 21; refine (HF.out _ h02).mono ?_; rintro e w3 ⟨rfl, hb3⟩))
      go_ret
      exact ⟨by rw [HL.out]; rfl, step h02 hb3⟩
theorem cnz_mem {g : List Int} {n : Nat} : memTo g 0 n = false ↔ cnz g n = n := by
  rw [cnz_full]
  constructor
  · intro h k hk e
    rw [memTo_hit hk e] at h; cases h
  · intro h
    induction n with
    | zero => rfl
    | succ n ih =>
      simp only [memTo, Bool.or_eq_false_iff, beq_eq_false_iff_ne]
      exact ⟨ih (fun k hk => h k (by omega)), h n (by omega)⟩
theorem ps_mem {s : Int} {gi g : List Int} {rs : List RuleM} : psB s gi rs g = (fpB s gi rs g && !memTo g 0 g.length) := by
  unfold psB
  cases hf : fpB s gi rs g
  · rfl
  · simp only [fpB, Bool.and_eq_true] at hf
    have hgv := hf.1.2
    rw [Bool.true_and, Bool.true_and]
    unfold gf
    rw [if_pos hgv]
    cases hm : memTo g 0 g.length
    · rw [cnz_mem.1 hm]; simp
    · have : cnz g g.length ≠ g.length := fun e => by rw [cnz_mem.2 e] at hm; cases hm
      simp; omega
set_option maxHeartbeats 1000000 in
theorem implPuzzleSolved (s : Int) (Ag : Option Addr) (ng cg Bg : Nat) (gi : List Int) (Ar : Option Addr) (nr cr Br : Nat) (rs : List RuleM) (A : Option Addr) (n c B : Nat) (g : List Int) (w : World) (hp : PGc w s Ag ng cg Bg gi Ar nr cr Br rs) (hg : Rd w B A n g) (hB : B ≤ w.heap.size) (hm : n ≤ 1099511627776) :
    Calls Try.prog 11 #[.agg #[.int .i64 s, .slice Ag ng cg, .slice Ar nr cr], .slice A n c] w fun e w' => e = .returned (.bool (psB s gi rs g)) ∧ Below w.heap.size w w' := by
  have hlen := Lib.hid hg.1
  have hx0 := pbox_new w s Ag ng cg Ar nr cr 26
  have hb0 : Below w.heap.size w (w.alloc (.cells #[.int .i64 s, .slice Ag ng cg, .slice Ar nr cr] 26)) := (Below.refl _ _).alloc (Nat.le_refl _) _
  obtain ⟨z0, z1, z2⟩ := id hx0
  have HF := Lib.hid (implPuzzleFits s Ag ng cg Bg gi Ar nr cr Br rs A n c B g _ (hp.below hb0) (hg.below (hb0.mono hB)) (Nat.le_trans hB hb0.size) hm)
  have HM := Lib.hid (fun w' (hb : Below w.heap.size w w') => contains_any A c n B g 0 w' (hg.below (hb.mono hB)) hm)
  cases hf : fpB s gi rs g
  · have HL := Lib.hid (show psB s gi rs g = false by simp [ps_mem, hf])
    go_enter Try.func11, Try.ntmps11
    go_wp2_with (go_at_call 6; refine HF.out.mono ?_; rintro e w1 ⟨rfl, hb1⟩; rw [hf])
    go_ret
    exact ⟨by rw [HL.out]; rfl, step hb0 hb1⟩
  · have HL := Lib.hid (show psB s gi rs g = !memTo g 0 n by rw [ps_mem, hf, hlen.out, Bool.true_and])
    go_enter Try.func11, Try.ntmps11
    go_wp2_with (first | (go_at_call 6; refine HF.out.mono ?_; rintro e w1 ⟨rfl, hb1⟩; rw [hf]; have h01 := step hb0 hb1) | (go_at_call 28; refine (HM.out _ h01).mono ?_; rintro e w2 ⟨rfl, rfl⟩))
    go_ret
    exact ⟨by rw [HL.out]; rfl, h01⟩
end Go.Proofs.Ytjdhfknoldginaa
set_option maxRecDepth 8000
namespace Go.Proofs.Ytjdhfknoldginaa
open Go.ChangeShapes Go.WideShapes Go.ChangeAt Go.RowKit
/-- a puzzle and a grid that were drawn. -/
def DrawnT (w : World) (e : Ending) (w' : World) : Prop := ∃ s A1 n c1 gi A2 nr c2 rs A k c m, e = .returned (.tuple #[.agg #[.int .i64 s, .slice A1 n c1, .slice A2 nr c2], .slice A k c]) ∧ 2 ≤ s ∧ s ≤ 4 ∧ Rd w' w'.heap.size A1 n gi ∧ n ≤ 16 ∧ OwR w' w.heap.size (.slice A2 nr c2) rs nr ∧ rs.length = nr ∧ nr ≤ 100 ∧ Ow w' w.heap.size A k c m ∧ k ≤ 16 ∧ Below w.heap.size w w'
set_option maxHeartbeats 4000000 in
theorem draw_DrawPuzzleFits (A : Option Addr) (n c : Nat) (bs : List Int) (w : World) (h : Code_ w A n c bs) : Calls Try.prog 5 #[.slice A n c] w (DrawnT w) := by
  have Hone := Lib.hid puz_one
  have Hi := Lib.hid puz_info
  have h1 := h.1.alloc_ (.cells #[.int .i64 0, .slice none 0 0, .slice none 0 0] 26)
  obtain ⟨w0, hW⟩ : ∃ w0, w0 = w.alloc (.cells #[.int .i64 0, .slice none 0 0, .slice none 0 0] 26) := ⟨_, rfl⟩
  rw [← hW] at h1
  have hRw : w.heap.size < w0.heap.size := by rw [hW]; simp
  have hb00 : Below w.heap.size w w0 := by rw [hW]; exact (Below.refl _ _).alloc (Nat.le_refl _) _
  have hR0 : w0.heap[w.heap.size]? = some (.cells #[.int .i64 0, .slice none 0 0, .slice none 0 0] 26) := by rw [hW]; exact heap_alloc_new w _
  have HW := Lib.hid hW
  clear hW
  go_enter Try.func5, Try.ntmps5
  go_wp2_with fail
  rw [← HW.out]
  refine (specOpen A c n bs w0 h1 h.2.1 h.2.2).mono ?_
  rintro e w1 ⟨rfl, hr, hb⟩
  have hR1 := (hb.block w.heap.size hRw).trans hR0
  have hG1 := hr.lt
  go_wp2_with fail
  refine (l20Try_any w0.heap.size w0.heap.size 0 w1 hr (Nat.le_refl _) (by omega)).mono ?_
  rintro e w2 ⟨s, A1, n1, c1, gi, A2, nr, c2, rs, A7, k7, c7, m7, rfl, s2, s4, hrd, hn16, hlo, hR, hl, hnr, ho, hk, hr2, hg⟩
  have h12 := hg.size
  have hR4 := (hg.block w.heap.size (Nat.lt_of_lt_of_le hRw hb.size) (fun e => by injection e with e; omega)).trans hR1
  have hb17 : Below w.heap.size w w2 := (hb00.trans (hb.mono hb00.size)).trans ⟨hg.os, hg.tape, hg.output, hg.size, fun j hj => hg.block j (Nat.lt_of_lt_of_le hj (Nat.le_trans hb00.size hb.size)) (fun e => by injection e with e; omega)⟩
  have hs01 := hb.size
  have hf : DrawnT w (.returned (.tuple #[.agg #[.int .i64 s, .slice A1 n1 c1, .slice A2 nr c2], .slice A7 k7 c7])) (w2.setRow w.heap.size #[.int .i64 s, .slice A1 n1 c1, .slice A2 nr c2]) := by
    have hgr : w2.grownBy (w2.setRow w.heap.size #[.int .i64 s, .slice A1 n1 c1, .slice A2 nr c2]) (some w.heap.size) := grown_row
    have hsz := hgr.size
    exact ⟨s, A1, n1, c1, gi, A2, nr, c2, rs, A7, k7, c7, m7, rfl, s2, s4, (rd_keepV hrd (Nat.le_refl _) hgr (fun b off e => by have := hlo b off e; omega)).more hsz, hn16, (hR.setX hR4).mono (by omega), hl, hnr, (ho.keptG hgr (by omega)).mono (by omega), hk, setRow_below5 hb17 (Nat.le_refl _)⟩
  clear hrd hR hlo hr hr2 hg ho
  go_wp2_with (refine wpList_store_row rfl 26 _ _ rfl w.heap.size #[.int .i64 s, .slice A1 n1 c1, .slice A2 nr c2] rfl rfl 26 #[.int .i64 0, .slice none 0 0, .slice none 0 0] hR4 (Hi.out _ _ _ _ _ _ _) rfl (Hone.out _ _ _ _ _ _ _) ?_)
  exact bodyPost_ret (v := .tuple #[.agg #[.int .i64 s, .slice A1 n1 c1, .slice A2 nr c2], .slice A7 k7 c7]) (results_ct (by rfl) _ _ w.heap.size 26 _ (0, 0) _ _ rfl rfl (setRow_heap _ _ _ _ _ _ hR4) Try.underlying26 rfl (Hi.out _ _ _ _ _ _ _)) rfl hf
set_option maxHeartbeats 4000000 in
theorem puzzleFits_walk (A : Option Addr) (c n : Nat) (bs : List Int) (w : World) (h : Code_ w A n c bs) :
    Calls Try.prog 3 #[.slice A n c] w fun e w' => e = .returned (.bool true) ∧ Below w.heap.size w w' := by
  by_cases hn : n ≤ 1048576
  · go_enter Try.func3, Try.ntmps3
    go_wp2_with fail
    refine (draw_DrawPuzzleFits _ _ _ _ _ h).mono ?_
    rintro e w1 ⟨s, A1, n1, c1, gi, A2, nr, c2, rs, Ag, k, cg, m, rfl, s2, s4, hrd, hn16, hR, hl, hnr, ho, hk16, hb1⟩
    have hx0 := pbox_new w1 s A1 n1 c1 A2 nr c2 26
    have hbA : Below w1.heap.size w1 (w1.alloc (.cells #[.int .i64 s, .slice A1 n1 c1, .slice A2 nr c2] 26)) := (Below.refl _ _).alloc (Nat.le_refl _) _
    have hpc0 : PGc w1 s A1 n1 c1 w1.heap.size gi A2 nr c2 w1.heap.size rs := ⟨hrd, Nat.le_refl _, by omega, hR.rdc hl, Nat.le_refl _, by omega⟩
    have hpcA := hpc0.below hbA
    have hmA := ho.rd.below hbA
    have hsA : w1.heap.size < (w1.alloc (.cells #[.int .i64 s, .slice A1 n1 c1, .slice A2 nr c2] 26)).heap.size := by simp
    obtain ⟨W, hW⟩ : ∃ W, w1.alloc (.cells #[.int .i64 s, .slice A1 n1 c1, .slice A2 nr c2] 26) = W := ⟨_, rfl⟩
    rw [hW] at hx0 hbA hpcA hsA hmA
    have hb0W : Below w.heap.size w W := step hb1 hbA
    have HX := Lib.hid (fun w' (hb : Below W.heap.size W w') => hx0.below (by omega : w1.heap.size < W.heap.size) hb)
    have HPc := Lib.hid (fun w' (hb : Below W.heap.size W w') => hpcA.below hb)
    have HG := Lib.hid (fun w' (hb : Below W.heap.size W w') => hmA.below (hb.mono (Nat.le_of_lt hsA)))
    have HGB := Lib.hid (fun w' (hb : Below W.heap.size W w') => (Nat.le_trans (Nat.le_of_lt hsA) hb.size : w1.heap.size ≤ w'.heap.size))
    have HB := Lib.hid (fun w' (hb : Below W.heap.size W w') => step hb0W hb)
    obtain ⟨bb, hbb⟩ : ∃ bb, fpB s gi rs m = bb := ⟨_, rfl⟩
    have hk40 : k ≤ 1099511627776 := by omega
    have HI1 := implPuzzleFits s A1 n1 c1 w1.heap.size gi A2 nr c2 w1.heap.size rs Ag k cg w1.heap.size m W (HPc.out _ (Below.refl _ _)) (HG.out _ (Below.refl _ _)) (HGB.out _ (Below.refl _ _)) hk40
    rw [hbb] at HI1
    have HI1 := Lib.hid HI1
    have HS1 := Lib.hid (fun w' (hb : Below W.heap.size W w') => by
      have := specPuzzleFits s A1 n1 c1 w1.heap.size gi A2 nr c2 w1.heap.size rs Ag k cg w1.heap.size m w' (HPc.out _ hb).rd (HG.out _ hb) (HGB.out _ hb) hk40
      rw [hbb] at this
      exact this)
    have hml := ho.rd.1
    have HW := Lib.hid hW
    have hbn : (bb != bb) = false := by simp
    obtain ⟨z0, z1, z2⟩ := id hx0
    cases bb
    · clear hW hpc0 hpcA hbA hx0 hR hrd ho hmA hbb
      go_wp2_with (first
        | (go_at_call 8; (with_reducible refine (alive_any _).mono ?_); rintro e w4 ⟨rfl, hb4⟩)
        | (go_at_call 7; refine (HS1.out _ hb2).mono ?_; rintro e w3 ⟨rfl, hb3⟩; have h23 := step hb2 hb3)
        | (go_at_call 6; rw [HW.out]; refine HI1.out.mono ?_; rintro e w2 ⟨rfl, hb2⟩; obtain ⟨y0, y1, y2⟩ := HX.out _ hb2))
      go_ret
      exact ⟨rfl, HB.out _ (step h23 hb4)⟩
    · have hfp := hbb
      obtain ⟨hpv, hgv, _⟩ := fp_parts.1 hfp
      have hgl := gv_len hgv
      have hsq : s = 2 ∨ s = 3 ∨ s = 4 := by omega
      have HI2 := Lib.hid (fun (j : Nat) w' (hb : Below W.heap.size W w') (A' : Option Addr) (c' B' : Nat) (hr : Rd w' B' A' k (m.set j 0)) (hB : B' ≤ w'.heap.size) => by
        have := implPuzzleFits s A1 n1 c1 w1.heap.size gi A2 nr c2 w1.heap.size rs A' k c' B' (m.set j 0) w' (HPc.out _ hb) hr hB hk40
        rw [fp_less hfp j] at this
        exact this)
      have HI3 := Lib.hid (fun w' (hb : Below W.heap.size W w') => by
        have := implPuzzleFits s A1 n1 c1 w1.heap.size gi none 0 0 w1.heap.size [] Ag k cg w1.heap.size m w' ⟨(HPc.out _ hb).g, (HPc.out _ hb).gB, (HPc.out _ hb).gm, ⟨rfl, fun h => absurd h (by omega)⟩, (HPc.out _ hb).rB, by omega⟩ (HG.out _ hb) (HGB.out _ hb) hk40
        rw [fp_nil hfp] at this
        exact this)
      have HQ := Lib.hid (fun w' (hb : Below W.heap.size W w') => by
        have := implSquareFits Ag cg k w1.heap.size m s w' (HG.out _ hb) (HGB.out _ hb) hk40
        rw [fp_sq hfp] at this
        exact this)
      rw [hml] at hgl
      clear hW hpc0 hpcA hbA hx0 hR hrd ho hmA hbb hfp hpv hgv hml
      rcases hsq with rfl | rfl | rfl
      · obtain rfl : k = 4 := by omega
        clear hgl
        go_wp2_with (first
          | (go_at_call 9; refine (HQ.out _ hb7).mono ?_; rintro e w8 ⟨rfl, hb8⟩)
          | (go_at_call 6; refine (HI3.out _ hb6).mono ?_; rintro e w7 ⟨rfl, hb7'⟩; have hb7 := step hb6 hb7'; obtain ⟨r0, r1, r2⟩ := HX.out _ hb7)
          | (go_at_call 6; refine (HI2.out 2 _ hb5 _ _ _ hrd5 (Nat.le_refl _)).mono ?_; rintro e w6 ⟨rfl, hb6'⟩; have hb6 := step hb5 hb6'; obtain ⟨q0, q1, q2⟩ := HX.out _ hb6)
          | (at_builtin; refine push_new rfl (.tmp 31) (.tmp 32) rfl w3.heap.size (some ⟨w3.heap.size, 0, none⟩) Ag 4 cg w1.heap.size m rfl rfl hmade hrm (by omega) (by simp) ?_; intro A4 c4 w4 ho4 hg4; have hb4 : Below w3.heap.size w3 w4 := hbm.grown hg4 (by simp) (fun k hk => hmade.own_lo k hk); obtain ⟨g4, hA4, hg4l, hg4w⟩ := ho4.form (by omega); subst hA4; obtain ⟨hc4, hf4⟩ := ho4.cell (show 2 < 4 by omega); have hb5 : Below W.heap.size W (w4.setCell ⟨g4, 2, none⟩ (.int .i64 0)) := Below.setCell (p := (⟨g4, 2, none⟩ : Addr)) (step h23 hb4) (Nat.le_trans h23.size hg4l) _; have hrd5 := (ho4.putN 2 0).rd; obtain ⟨p0, p1, p2⟩ := HX.out _ hb5)
          | (go_at_call 7; refine (HS1.out _ hb2).mono ?_; rintro e w3 ⟨rfl, hb3⟩; have h23 := step hb2 hb3; have hbm : Below w3.heap.size w3 (w3.alloc (.cells #[] 3)) := (Below.refl _ _).alloc (Nat.le_refl _) _; have hmade : Ow (w3.alloc (.cells #[] 3)) w3.heap.size (some ⟨w3.heap.size, 0, none⟩) 0 0 [] := Ow.made0 _ _ (Nat.le_refl _); have hrm := HG.out _ (step h23 hbm))
          | (go_at_call 6; rw [HW.out]; refine HI1.out.mono ?_; rintro e w2 ⟨rfl, hb2⟩; obtain ⟨y0, y1, y2⟩ := HX.out _ hb2))
        go_ret
        exact ⟨rfl, HB.out _ (step hb7 hb8)⟩
      · obtain rfl : k = 9 := by omega
        clear hgl
        go_wp2_with (first
          | (go_at_call 9; refine (HQ.out _ hb7).mono ?_; rintro e w8 ⟨rfl, hb8⟩)
          | (go_at_call 6; refine (HI3.out _ hb6).mono ?_; rintro e w7 ⟨rfl, hb7'⟩; have hb7 := step hb6 hb7'; obtain ⟨r0, r1, r2⟩ := HX.out _ hb7)
          | (go_at_call 6; refine (HI2.out 4 _ hb5 _ _ _ hrd5 (Nat.le_refl _)).mono ?_; rintro e w6 ⟨rfl, hb6'⟩; have hb6 := step hb5 hb6'; obtain ⟨q0, q1, q2⟩ := HX.out _ hb6)
          | (at_builtin; refine push_new rfl (.tmp 31) (.tmp 32) rfl w3.heap.size (some ⟨w3.heap.size, 0, none⟩) Ag 9 cg w1.heap.size m rfl rfl hmade hrm (by omega) (by simp) ?_; intro A4 c4 w4 ho4 hg4; have hb4 : Below w3.heap.size w3 w4 := hbm.grown hg4 (by simp) (fun k hk => hmade.own_lo k hk); obtain ⟨g4, hA4, hg4l, hg4w⟩ := ho4.form (by omega); subst hA4; obtain ⟨hc4, hf4⟩ := ho4.cell (show 4 < 9 by omega); have hb5 : Below W.heap.size W (w4.setCell ⟨g4, 4, none⟩ (.int .i64 0)) := Below.setCell (p := (⟨g4, 4, none⟩ : Addr)) (step h23 hb4) (Nat.le_trans h23.size hg4l) _; have hrd5 := (ho4.putN 4 0).rd; obtain ⟨p0, p1, p2⟩ := HX.out _ hb5)
          | (go_at_call 7; refine (HS1.out _ hb2).mono ?_; rintro e w3 ⟨rfl, hb3⟩; have h23 := step hb2 hb3; have hbm : Below w3.heap.size w3 (w3.alloc (.cells #[] 3)) := (Below.refl _ _).alloc (Nat.le_refl _) _; have hmade : Ow (w3.alloc (.cells #[] 3)) w3.heap.size (some ⟨w3.heap.size, 0, none⟩) 0 0 [] := Ow.made0 _ _ (Nat.le_refl _); have hrm := HG.out _ (step h23 hbm))
          | (go_at_call 6; rw [HW.out]; refine HI1.out.mono ?_; rintro e w2 ⟨rfl, hb2⟩; obtain ⟨y0, y1, y2⟩ := HX.out _ hb2))
        go_ret
        exact ⟨rfl, HB.out _ (step hb7 hb8)⟩
      · obtain rfl : k = 16 := by omega
        clear hgl
        go_wp2_with (first
          | (go_at_call 9; refine (HQ.out _ hb7).mono ?_; rintro e w8 ⟨rfl, hb8⟩)
          | (go_at_call 6; refine (HI3.out _ hb6).mono ?_; rintro e w7 ⟨rfl, hb7'⟩; have hb7 := step hb6 hb7'; obtain ⟨r0, r1, r2⟩ := HX.out _ hb7)
          | (go_at_call 6; refine (HI2.out 8 _ hb5 _ _ _ hrd5 (Nat.le_refl _)).mono ?_; rintro e w6 ⟨rfl, hb6'⟩; have hb6 := step hb5 hb6'; obtain ⟨q0, q1, q2⟩ := HX.out _ hb6)
          | (at_builtin; refine push_new rfl (.tmp 31) (.tmp 32) rfl w3.heap.size (some ⟨w3.heap.size, 0, none⟩) Ag 16 cg w1.heap.size m rfl rfl hmade hrm (by omega) (by simp) ?_; intro A4 c4 w4 ho4 hg4; have hb4 : Below w3.heap.size w3 w4 := hbm.grown hg4 (by simp) (fun k hk => hmade.own_lo k hk); obtain ⟨g4, hA4, hg4l, hg4w⟩ := ho4.form (by omega); subst hA4; obtain ⟨hc4, hf4⟩ := ho4.cell (show 8 < 16 by omega); have hb5 : Below W.heap.size W (w4.setCell ⟨g4, 8, none⟩ (.int .i64 0)) := Below.setCell (p := (⟨g4, 8, none⟩ : Addr)) (step h23 hb4) (Nat.le_trans h23.size hg4l) _; have hrd5 := (ho4.putN 8 0).rd; obtain ⟨p0, p1, p2⟩ := HX.out _ hb5)
          | (go_at_call 7; refine (HS1.out _ hb2).mono ?_; rintro e w3 ⟨rfl, hb3⟩; have h23 := step hb2 hb3; have hbm : Below w3.heap.size w3 (w3.alloc (.cells #[] 3)) := (Below.refl _ _).alloc (Nat.le_refl _) _; have hmade : Ow (w3.alloc (.cells #[] 3)) w3.heap.size (some ⟨w3.heap.size, 0, none⟩) 0 0 [] := Ow.made0 _ _ (Nat.le_refl _); have hrm := HG.out _ (step h23 hbm))
          | (go_at_call 6; rw [HW.out]; refine HI1.out.mono ?_; rintro e w2 ⟨rfl, hb2⟩; obtain ⟨y0, y1, y2⟩ := HX.out _ hb2))
        go_ret
        exact ⟨rfl, HB.out _ (step hb7 hb8)⟩
  · go_enter Try.func3, Try.ntmps3
    go_wp2
    go_ret
    exact ⟨rfl, Below.refl _ _⟩
end Go.Proofs.Ytjdhfknoldginaa
