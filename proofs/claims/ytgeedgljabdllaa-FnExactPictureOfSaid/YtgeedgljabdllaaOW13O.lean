import Derived.Test.YtgeedgljabdllaaOPxb
import Derived.Test.YtgeedgljabdllaaOPv
import Derived.Test.YtgeedgljabdllaaOPoi
set_option maxRecDepth 8000
namespace Go.Proofs.Ytgeedgljabdllaa
open Go.ChangeShapes Go.WideShapes Go.ChangeAt Go.RowKit
/-! picture puzzles that a call returns: compared, marked, found again. -/
/-- rows of numbers, of whatever size the numbers are. -/
structure Lnq (w : World) (B : Nat) (A : Option Addr) (n : Nat) (Ls : List (List Int)) : Prop where
  r : Rr Rd w B A n Ls
  m : n ≤ 1099511627776
  ms : ∀ k, k < n → (gtl Ls k).length ≤ 1099511627776
theorem Lnq.below {w w' : World} {B : Nat} {A : Option Addr} {n : Nat} {Ls : List (List Int)} (h : Lnq w B A n Ls) (hb : Below B w w') : Lnq w' B A n Ls :=
  ⟨h.r.map (Nat.le_refl _) (fun b i hlt => hb.cell (p := ⟨b, i, none⟩) hlt) fun _ _ _ hr => hr.below hb, h.m, h.ms⟩
structure PicQ (w : World) (B : Nat) (RA : Option Addr) (nr : Nat) (rc : List (List Int)) (CA : Option Addr) (nc : Nat) (cc : List (List Int)) : Prop where
  r : Lnq w B RA nr rc
  c : Lnq w B CA nc cc
theorem PicQ.below {w w' : World} {B : Nat} {RA : Option Addr} {nr : Nat} {rc : List (List Int)} {CA : Option Addr} {nc : Nat} {cc : List (List Int)} (h : PicQ w B RA nr rc CA nc cc) (hb : Below B w w') : PicQ w' B RA nr rc CA nc cc := ⟨h.r.below hb, h.c.below hb⟩
/-- two that read the same. -/
theorem eqIntSS_rq (A A' : Option Addr) (c c' m B B' : Nat) (Ls : List (List Int)) (w : World) (h : Lnq w B A m Ls) (h' : Lnq w B' A' m Ls) (hB : B ≤ w.heap.size) (hB' : B' ≤ w.heap.size) :
    Calls Try.prog 41 #[.slice A m c, .slice A' m c'] w fun e w' => e = .returned (.bool true) ∧ Below w.heap.size w w' := by
  have hm := h.m
  have H1 := Lib.hid (fun (w' : World) (hb : Below w.heap.size w w') => h.below (hb.mono hB))
  have H2 := Lib.hid (fun (w' : World) (hb : Below w.heap.size w w') => h'.below (hb.mono hB'))
  have Hms := Lib.hid h.ms
  clear h h'
  go_enter Try.func41, Try.ntmps41
  go_wp2
  go_loopw [5] (fun i wr => ∃ k : Nat, k ≤ m ∧ i = .int .i64 k ∧ Below w.heap.size w wr) (fun i _ => m - (intOf i).toNat)
  case atStart => exact ⟨0, Nat.zero_le _, rfl, Below.refl _ _⟩
  case round =>
    obtain ⟨k, hk, rfl, hb⟩ := hrel
    by_cases hlt : k < m
    · have hltI : (k : Int) < (m : Int) := by omega
      obtain ⟨b, off, A3, c3, rfl, hbB, hck, ho3⟩ := (H1.out _ hb).r.at_ hlt
      obtain ⟨b', off', A4, c4, rfl, hbB', hck', ho4⟩ := (H2.out _ hb).r.at_ hlt
      have h16 := Hms.out k hlt
      obtain ⟨L, hL⟩ : ∃ L, gtl Ls k = L := ⟨_, rfl⟩
      rw [hL] at hck ho3 hck' ho4 h16
      have hs := same_refl L
      obtain ⟨q, hq⟩ : ∃ q, L.length = q := ⟨_, rfl⟩
      rw [hq] at hck ho3 hck' ho4 h16
      clear hL hq
      have O3 := Lib.hid ho3
      have O4 := Lib.hid ho4
      clear ho3 ho4
      go_wp2_with fail
      go_region_with (go_at_call 75; refine (eqIntS_any _ _ _ _ _ _ _ _ _ _ _ (O3.out.below (by first | exact Below.refl _ _ | exact (Below.refl _ _).drew)) (O4.out.below (by first | exact Below.refl _ _ | exact (Below.refl _ _).drew)) (by omega)).mono ?_; rintro e w3 ⟨rfl, hb3⟩; rw [hs])
      all_goals
        have hb3' := of_drew_below hb3
        go_wp2
        go_roundw
        case rel => exact ⟨k + 1, by omega, by go_num, step hb hb3'⟩
        case measure => simp [intOf]; omega
    · obtain rfl : k = m := by omega
      go_wp2
      go_ret
      exact ⟨rfl, hb⟩
set_option maxHeartbeats 1000000 in
theorem eqPicture_rq (RA : Option Addr) (nr cr : Nat) (rc : List (List Int)) (CA : Option Addr) (nc c2 : Nat) (cc : List (List Int)) (B : Nat) (RA' : Option Addr) (cr' : Nat) (CA' : Option Addr) (c2' B' : Nat) (w : World) (hp : PicQ w B RA nr rc CA nc cc) (hB : B ≤ w.heap.size) (hp' : PicQ w B' RA' nr rc CA' nc cc) (hB' : B' ≤ w.heap.size) :
    Calls Try.prog 34 #[.agg #[.slice RA nr cr, .slice CA nc c2], .agg #[.slice RA' nr cr', .slice CA' nc c2']] w fun e w' => e = .returned (.bool true) ∧ Below w.heap.size w w' := by
  have hx := pcbox_new w RA nr cr CA nc c2 25
  have hs0 : w.heap.size < (w.alloc (.cells #[.slice RA nr cr, .slice CA nc c2] 25)).heap.size := by simp
  have hx2 := pcbox_new (w.alloc (.cells #[.slice RA nr cr, .slice CA nc c2] 25)) RA' nr cr' CA' nc c2' 25
  obtain ⟨U, hU⟩ : ∃ U, U = (w.alloc (.cells #[.slice RA nr cr, .slice CA nc c2] 25)).alloc (.cells #[.slice RA' nr cr', .slice CA' nc c2'] 25) := ⟨_, rfl⟩
  rw [World.size_alloc, ← hU] at hx2
  have hx1 : PcBox U w.heap.size RA nr cr CA nc c2 := by rw [hU]; exact hx.below hs0 ((Below.refl _ _).alloc (Nat.le_refl _) _)
  have hbU : Below w.heap.size w U := by rw [hU]; exact ((Below.refl _ _).alloc (Nat.le_refl _) _).alloc (by simp) _
  have hsU : U.heap.size = w.heap.size + 1 + 1 := by rw [hU]; simp
  have hs1 : w.heap.size < U.heap.size := by omega
  have hs2 : w.heap.size + 1 < U.heap.size := by omega
  obtain ⟨a0, a1⟩ := id hx1
  obtain ⟨b0, b1⟩ := id hx2
  have HR := Lib.hid (eqIntSS_rq RA RA' cr cr' nr B B' rc U (hp.r.below (hbU.mono hB)) (hp'.r.below (hbU.mono hB')) (Nat.le_trans hB hbU.size) (Nat.le_trans hB' hbU.size))
  have HC := Lib.hid (fun w' (hb : Below w.heap.size w w') => eqIntSS_rq CA CA' c2 c2' nc B B' cc w' (hp.c.below (hb.mono hB)) (hp'.c.below (hb.mono hB')) (Nat.le_trans hB hb.size) (Nat.le_trans hB' hb.size))
  have HU := Lib.hid hU
  have Hx1 := Lib.hid hx1
  have Hx2 := Lib.hid hx2
  clear hU hx hsU hp hp' hx1 hx2
  go_enter Try.func34, Try.ntmps34
  go_wp2_with fail
  rw [← HU.out]
  refine HR.out.mono ?_
  rintro e w2 ⟨rfl, hb2⟩
  have h02 := step hbU hb2
  obtain ⟨d0, d1⟩ := Hx1.out.below hs1 hb2
  obtain ⟨e0, e1⟩ := Hx2.out.below hs2 hb2
  clear a0 a1 b0 b1
  go_wp2_with fail
  refine (HC.out _ h02).mono ?_
  rintro e w3 ⟨rfl, hb3⟩
  have h03 := step h02 hb3
  go_wp2
  go_ret
  exact ⟨rfl, h03⟩
theorem cl_short {L : List Bool} (h : L.length ≤ 5) : (cl L).length ≤ 16 := by
  have h1 := cl_fits L
  rw [cl_sum] at h1
  omega
/-- the lengths of what PictureOf returns. -/
theorem pof_small (rows : List (List Bool)) : ((pofR rows).length ≤ 8 ∧ ∀ k, (gat (pofR rows) k).length ≤ 16) ∧ (pofC rows).length ≤ 8 ∧ ∀ k, (gat (pofC rows) k).length ≤ 16 := by
  unfold pofR pofC
  cases h : pofB rows
  · simp [gat]
  · simp only [if_true]
    unfold pofB at h
    simp only [Bool.and_eq_true] at h
    obtain ⟨⟨h1, h2⟩, h3⟩ := h
    have a1 := inr_t h1
    have a2 := inr_t h2
    unfold sameLen at h3
    simp only [decide_eq_true_eq] at h3
    refine ⟨⟨by simp; omega, fun k => ?_⟩, by simp; omega, fun k => ?_⟩
    · by_cases hk : k < rows.length
      · have e : gat (rows.map cl) k = cl (gtl rows k) := by simp [gat, gtl, List.getD_eq_getElem?_getD, hk]
        rw [e]
        exact cl_short (by rw [h3 k hk]; omega)
      · simp [gat, List.getD_eq_getElem?_getD, hk]
    · by_cases hk : k < (gtl rows 0).length
      · have e : gat ((List.range (gtl rows 0).length).map fun c => cl (clm rows c)) k = cl (clm rows k) := by simp [gat, List.getD_eq_getElem?_getD, hk]
        rw [e]
        exact cl_short (by simp [clm]; omega)
      · simp [gat, List.getD_eq_getElem?_getD, hk]
/-- what PictureOf returned, as it reads and as it is marked. -/
theorem OwnPic.mk_ {w : World} {lo c1 c2 : Nat} {RA CA : Option Addr} {rows : List (List Bool)} (h : OwnPic w lo RA c1 (pofR rows) CA c2 (pofC rows)) (hlo : lo ≤ w.heap.size) :
    ∃ d1 d2 mid, gsC d1 = pofR rows ∧ gsC d2 = pofC rows ∧ MkPic w lo mid RA (pofR rows).length c1 CA (pofC rows).length c2 d1 d2 ∧ PicQ w w.heap.size RA (pofR rows).length (pofR rows) CA (pofC rows).length (pofC rows) := by
  obtain ⟨d1, d2, mid, e1, e2, g1, u1, g2, hlm⟩ := h
  obtain ⟨⟨a1, a2⟩, a3, a4⟩ := pof_small rows
  have l1 : d1.length = (pofR rows).length := by rw [← e1, cnt_len]
  have l2 : d2.length = (pofC rows).length := by rw [← e2, cnt_len]
  have r1 := g1.rr l1
  have r2 := g2.rr l2
  rw [e1] at r1
  rw [e2] at r2
  have q : PicQ w w.heap.size RA (pofR rows).length (pofR rows) CA (pofC rows).length (pofC rows) := ⟨⟨r1, by omega, fun k _ => by have := a2 k; show (gat (pofR rows) k).length ≤ _; omega⟩, ⟨r2, by omega, fun k _ => by have := a4 k; show (gat (pofC rows) k).length ≤ _; omega⟩⟩
  by_cases hm : mid ≤ w.heap.size
  · exact ⟨d1, d2, mid, e1, e2, ⟨g1, u1, g2, l1, l2, hlm, hm, a1, a3⟩, q⟩
  · exact ⟨d1, d2, w.heap.size, e1, e2, ⟨g1, g1.up, g2.mono (by omega), l1, l2, hlo, Nat.le_refl _, a1, a3⟩, q⟩
end Go.Proofs.Ytgeedgljabdllaa
set_option maxRecDepth 8000
namespace Go.Proofs.Ytgeedgljabdllaa
open Go.ChangeShapes Go.WideShapes Go.ChangeAt Go.RowKit
theorem below_undrew13 {w w2 : World} (h : Below w.drew.heap.size w.drew w2) : Below w.heap.size w w2 := ⟨h.os, h.tape, h.output, h.size, h.block⟩
theorem gs_lns13 {w' : World} {lo m : Nat} {A : Option Addr} {d : List GV} {Ls : List (List Int)} {w2 : World} {B : Nat} {A2 : Option Addr} (hg : Gs w' lo (.slice A m m) d) (hl : d.length = m) (hc : gsC d = Ls) (h : Lns w2 B A2 m Ls) : Lns w' w'.heap.size A m Ls := by
  subst hc
  exact hg.lns hl h.m h.ms h.b
set_option maxHeartbeats 2000000 in
theorem exactPictureValid_walk (RA : Option Addr) (nr cr : Nat) (rc : List (List Int)) (CA : Option Addr) (nc c2 : Nat) (cc : List (List Int)) (w : World) (hp : PicX w w.heap.size RA nr rc CA nc cc) :
    Calls Try.prog 9 #[.agg #[.slice RA nr cr, .slice CA nc c2]] w fun e w' => e = .returned (.bool true) ∧ Below w.heap.size w w' := by
  have hx0 := pcbox_new w RA nr cr CA nc c2 45
  have hb0 : Below w.heap.size w (w.alloc (.cells #[.slice RA nr cr, .slice CA nc c2] 45)) := (Below.refl _ _).alloc (Nat.le_refl _) _
  have hs0 : w.heap.size < (w.alloc (.cells #[.slice RA nr cr, .slice CA nc c2] 45)).heap.size := by simp
  obtain ⟨a0, a1⟩ := id hx0
  have HX := Lib.hid (fun w' (hb : Below w.heap.size w w') => hp.below hb)
  have HSZ := Lib.hid (fun w' (hb : Below w.heap.size w w') => szPicture_any RA nr cr rc CA nc c2 cc w.heap.size 1048576 w' (hp.below hb) hb.size (by omega) (by omega))
  clear hp
  go_enter Try.func9, Try.ntmps9
  go_wp2_with fail
  refine (HSZ.out _ hb0).mono ?_
  rintro e w1 ⟨r, rfl, hb1, hr1⟩
  have h01 := step hb0 hb1
  have hx1 := hx0.below hs0 hb1
  have hs1 := Nat.lt_of_lt_of_le hs0 hb1.size
  rcases hr1 with rfl | ⟨r0, hpr⟩
  · go_wp2
    go_ret
    exact ⟨rfl, h01⟩
  · have hrneg : ¬ r < 0 := by omega
    have HP := Lib.hid (fun w' (hb : Below w.heap.size w w') => hpr w' w.heap.size (HX.out w' hb))
    have HTP := Lib.hid (fun w' (hb : Below w.heap.size w w') => toPicture_any RA nr cr rc CA nc c2 cc w.heap.size w' (HP.out _ hb) hb.size)
    obtain ⟨c0, c1⟩ := id hx1
    clear hpr a0 a1
    go_wp2_with fail
    refine (HTP.out _ h01).mono ?_
    rintro e w2 ⟨g1, g2, d1, d2, rfl, ho1, hl1, hc1, ⟨B2, ho2, -, -, -⟩, hl2, hc2, hb2⟩
    have h02 := step h01 hb2
    have hx2 := hx1.below hs1 hb2
    have hs2 := Nat.lt_of_lt_of_le hs1 hb2.size
    have hp2 : PicR w2 w2.heap.size (some ⟨g1, 0, none⟩) nr rc (some ⟨g2, 0, none⟩) nc cc := ⟨gs_lns13 ho1 hl1 hc1 (HP.out _ h02).r, gs_lns13 ho2 hl2 hc2 (HP.out _ h02).c⟩
    clear ho1 hl1 hc1 ho2 hl2 hc2 c0 c1
    go_wp2_with fail
    refine (specPictureValid _ _ _ _ _ _ _ _ _ _ hp2 (Nat.le_refl _)).mono ?_
    rintro e w3 ⟨rfl, hb3⟩
    have h03 := step h02 hb3
    have hx3 := hx2.below hs2 hb3
    have hs3 := Nat.lt_of_lt_of_le hs2 hb3.size
    obtain ⟨d0, d1⟩ := id hx3
    clear hp2
    go_wp2_with fail
    refine (HTP.out _ h03).mono ?_
    rintro e w4 ⟨g3, g4, d3, d4, rfl, ho3, hl3, hc3, ⟨B4, ho4, -, -, -⟩, hl4, hc4, hb4⟩
    have h04 := step h03 hb4
    have hx4 := hx3.below hs3 hb4
    have hs4 := Nat.lt_of_lt_of_le hs3 hb4.size
    have hp4 : PicR w4 w4.heap.size (some ⟨g3, 0, none⟩) nr rc (some ⟨g4, 0, none⟩) nc cc := ⟨gs_lns13 ho3 hl3 hc3 (HP.out _ h04).r, gs_lns13 ho4 hl4 hc4 (HP.out _ h04).c⟩
    have hy4 := pcbox_new w4 (some ⟨g3, 0, none⟩) nr nr (some ⟨g4, 0, none⟩) nc nc 25
    have hb5 : Below w4.heap.size w4 (w4.alloc (.cells #[.slice (some ⟨g3, 0, none⟩) nr nr, .slice (some ⟨g4, 0, none⟩) nc nc] 25)) := (Below.refl _ _).alloc (Nat.le_refl _) _
    have ht4 : w4.heap.size < (w4.alloc (.cells #[.slice (some ⟨g3, 0, none⟩) nr nr, .slice (some ⟨g4, 0, none⟩) nc nc] 25)).heap.size := by simp
    have h05 := step h04 hb5
    have hx5 := hx4.below hs4 hb5
    have hs5 := Nat.lt_of_lt_of_le hs4 hb5.size
    have hp5 := hp4.below hb5
    obtain ⟨e0, e1⟩ := id hy4
    have HI := Lib.hid (implPictureValid (some ⟨g3, 0, none⟩) nr nr rc (some ⟨g4, 0, none⟩) nc nc cc w4.heap.size _ hp5 hb5.size)
    clear ho3 hl3 hc3 ho4 hl4 hc4 d0 d1
    go_wp2_with fail
    refine HI.out.mono ?_
    rintro e w6 ⟨rfl, hb6⟩
    have h06 := step h05 hb6
    have hx6 := hx5.below hs5 hb6
    have hs6 := Nat.lt_of_lt_of_le hs5 hb6.size
    have hy6 := hy4.below ht4 hb6
    have hp6 : PicR w6 w4.heap.size (some ⟨g3, 0, none⟩) nr rc (some ⟨g4, 0, none⟩) nc cc := hp5.below (hb6.mono hb5.size)
    have h46 := Nat.le_trans hb5.size hb6.size
    obtain ⟨f0, f1⟩ := id hx6
    obtain ⟨y0, y1⟩ := id hy6
    have hbb : (pcB rc cc != pcB rc cc) = false := by simp
    clear e0 e1
    have hBA : Below w.heap.size w w6.drew := h06.drew
    have ht6 : w4.heap.size < w6.heap.size := Nat.lt_of_lt_of_le ht4 hb6.size
    have HP6 := Lib.hid hp6
    go_wp2
    go_region_with (first | (go_at_call 33; (with_reducible refine (HTP.out _ ?hd).mono ?_); (case hd => exact hBA); rintro e w7 ⟨g5, g6, d5, d6, rfl, ho5, hl5, hc5, ⟨B6, ho6, -, -, -⟩, hl6, hc6, hb7d⟩; have hb7 := below_undrew13 hb7d; have hy7 := hy6.below ht6 hb7; obtain ⟨q0, q1⟩ := id hy7; have h07 := step h06 hb7; have hp7 : PicR w7 w7.heap.size (some ⟨g5, 0, none⟩) nr rc (some ⟨g6, 0, none⟩) nc cc := ⟨gs_lns13 ho5 hl5 hc5 (HP.out _ h07).r, gs_lns13 ho6 hl6 hc6 (HP.out _ h07).c⟩; have hp6' := HP6.out.below (hb7.mono h46); have h47 : w4.heap.size ≤ w7.heap.size := Nat.le_trans h46 hb7.size; clear hb7d ho5 hl5 hc5 ho6 hl6 hc6) | (go_at_call 34; (with_reducible refine (eqPicture_rd _ nr _ rc _ nc _ cc _ _ _ _ _ _ _ hp6' h47 hp7 (Nat.le_refl _)).mono ?_); rintro e w8 ⟨rfl, hb8⟩))
    all_goals
      have h08 := step h07 hb8
      go_wp2
      go_ret
      exact ⟨rfl, h08⟩
end Go.Proofs.Ytgeedgljabdllaa
set_option maxRecDepth 8000
namespace Go.Proofs.Ytgeedgljabdllaa
open Go.ChangeShapes Go.WideShapes Go.ChangeAt Go.RowKit
theorem gsF_fns13 {w' : World} {lo m : Nat} {A : Option Addr} {d : List GVF} {Ls : List (List Bool)} {w2 : World} {B : Nat} {A2 : Option Addr} (hg : GsF w' lo (.slice A m m) d) (hl : d.length = m) (hc : gsCF d = Ls) (h : Fns w2 B A2 m Ls) : Fns w' w'.heap.size A m Ls := by
  subst hc
  exact hg.fns hl h.m h.ms
theorem MkPic.q {w : World} {lo mid nr c1 nc c2 : Nat} {RA CA : Option Addr} {d1 d2 : List GV} {rc cc : List (List Int)} {w2 : World} {B : Nat} {RA2 CA2 : Option Addr} (h : MkPic w lo mid RA nr c1 CA nc c2 d1 d2) (e1 : gsC d1 = rc) (e2 : gsC d2 = cc) (q : PicQ w2 B RA2 nr rc CA2 nc cc) : PicQ w w.heap.size RA nr rc CA nc cc := by
  subst e1 e2
  exact ⟨⟨h.r.rr h.l1, q.r.m, q.r.ms⟩, ⟨h.c.rr h.l2, q.c.m, q.c.ms⟩⟩
theorem PcBox.keep {w w' : World} {g : Nat} {RA : Option Addr} {nr cr : Nat} {CA : Option Addr} {nc c2 : Nat} (h : PcBox w g RA nr cr CA nc c2) (hb : w'.heap[g]? = w.heap[g]?) : PcBox w' g RA nr cr CA nc c2 :=
  ⟨(by simp only [World.cell?, hb] : w'.cell? ⟨g, 0, none⟩ = w.cell? ⟨g, 0, none⟩).trans h.1, (by simp only [World.cell?, hb] : w'.cell? ⟨g, 1, none⟩ = w.cell? ⟨g, 1, none⟩).trans h.2⟩
set_option maxHeartbeats 4000000 in
theorem exactPictureOf_walk (A : Option Addr) (c n : Nat) (rows : List (List Bool)) (w : World) (h : RrxF w w.heap.size A n rows) (hm : n ≤ 9223372036854775807) :
    Calls Try.prog 10 #[.slice A n c] w fun e w' => e = .returned (.bool true) ∧ Below w.heap.size w w' := by
  have HX := Lib.hid (fun w' (hb : Below w.heap.size w w') => RrxF.below h hb)
  have HSZ := Lib.hid (szBoolSS_any A c n w.heap.size rows 1048576 w h (Nat.le_refl _) hm (by omega) (by omega))
  clear h
  go_enter Try.func10, Try.ntmps10
  go_wp2_with fail
  refine HSZ.out.mono ?_
  rintro e w1 ⟨r, rfl, hb1, hr1⟩
  rcases hr1 with rfl | ⟨r0, r1, hn, hls⟩
  · go_wp2
    go_ret
    exact ⟨rfl, hb1⟩
  · have hrneg : ¬ r < 0 := by omega
    have hn20 : n ≤ 1048576 := by omega
    have HF := Lib.hid (fun w' (hb : Below w.heap.size w w') => RrxF.fns (HX.out w' hb) (by omega) (fun k hk => by have := hls k hk; omega))
    have HTB := Lib.hid (fun w' (hb : Below w.heap.size w w') => toBoolSS_any A c n w.heap.size rows w' (HF.out _ hb) hb.size)
    have Hls : Hid (∀ i, i < n → (gtl rows i).length ≤ 1048576) := Lib.hid fun i hi => by have := hls i hi; omega
    have hbb : (pofB rows != pofB rows) = false := by simp
    obtain ⟨ok, hok⟩ : ∃ ok, pofB rows = ok := ⟨_, rfl⟩
    obtain ⟨nr, hnr⟩ : ∃ nr, (pofR rows).length = nr := ⟨_, rfl⟩
    obtain ⟨nc, hnc⟩ : ∃ nc, (pofC rows).length = nc := ⟨_, rfl⟩
    have HR : Hid (∀ {w0 : World} {e : Ending} {w' : World}, RetPic w0 (pofR rows) (pofC rows) (pofB rows) e w' → ∃ RA c1 CA c2, e = .returned (.tuple #[.agg #[.slice RA nr c1, .slice CA nc c2], .bool ok]) ∧ (∃ d1 d2 mid, gsC d1 = pofR rows ∧ gsC d2 = pofC rows ∧ MkPic w' w0.heap.size mid RA nr c1 CA nc c2 d1 d2 ∧ PicQ w' w'.heap.size RA nr (pofR rows) CA nc (pofC rows)) ∧ Below w0.heap.size w0 w') := Lib.hid fun hh => by
      obtain ⟨RA, c1, CA, c2, rfl, hO, hb⟩ := hh
      obtain ⟨d1, d2, mid, x1, x2, x3, x4⟩ := hO.mk_ hb.size
      rw [hnr, hnc] at x3 x4
      exact ⟨RA, c1, CA, c2, by rw [hnr, hnc, hok], ⟨d1, d2, mid, x1, x2, x3, x4⟩, hb⟩
    rw [hok] at hbb
    have HSp := Lib.hid (fun (A' : Option Addr) (w' : World) (hf : Fns w' w'.heap.size A' n rows) => (specPictureOf A' n n w'.heap.size rows w' hf (Nat.le_refl _)).mono fun e w2 hh => HR.out hh)
    have HIm := Lib.hid (fun (A' : Option Addr) (w' : World) (hf : Fns w' w'.heap.size A' n rows) => (implPictureOf A' n n w'.heap.size rows w' hf (Nat.le_refl _)).mono fun e w2 hh => HR.out hh)
    obtain ⟨⟨-, p2⟩, -, p4⟩ := pof_small rows
    obtain ⟨f1, hf1⟩ : ∃ f : Nat → Nat, ∀ k, (gat (pofR rows) k).length = f k := ⟨_, fun _ => rfl⟩
    obtain ⟨f2, hf2⟩ : ∃ f : Nat → Nat, ∀ k, (gat (pofC rows) k).length = f k := ⟨_, fun _ => rfl⟩
    have Hf1 := Lib.hid hf1
    have Hf2 := Lib.hid hf2
    have Hg1 : Hid (∀ k, f1 k ≤ 16) := Lib.hid fun k => by rw [← hf1]; exact p2 k
    have Hg2 : Hid (∀ k, f2 k ≤ 16) := Lib.hid fun k => by rw [← hf2]; exact p4 k
    clear hls hf1 hf2 p2 p4 hnr hnc hok hn r1 HR
    go_wp2_with fail
    refine (HTB.out _ hb1).mono ?_
    rintro e w2 ⟨d2, rfl, hG2, hl2, hc2, hb2⟩
    have h02 := step hb1 hb2
    have HS := Lib.hid (HSp.out _ w2 (gsF_fns13 hG2 hl2 hc2 (HF.out _ h02)))
    clear hG2 hl2 hc2
    go_wp2_with fail
    refine HS.out.mono ?_
    rintro e w3 ⟨RA, c1, CA, c2, rfl, ⟨t1, t2, tm, -, -, -, hQ3⟩, hb3⟩
    have hb3a : Below w3.heap.size w3 (w3.alloc (.cells #[.slice RA nr c1, .slice CA nc c2] 25)) := (Below.refl _ _).alloc (Nat.le_refl _) _
    have hx3 := pcbox_new w3 RA nr c1 CA nc c2 25
    obtain ⟨V3, hV3⟩ : ∃ V3, w3.alloc (.cells #[.slice RA nr c1, .slice CA nc c2] 25) = V3 := ⟨_, rfl⟩
    have hs3 : w3.heap.size < V3.heap.size := by rw [← hV3]; simp
    rw [hV3] at hb3a hx3
    have h03 := step h02 (step hb3 hb3a)
    have HQ3 : Hid (∀ w', Below V3.heap.size V3 w' → PicQ w' w3.heap.size RA nr (pofR rows) CA nc (pofC rows)) := Lib.hid fun w' hb => (hQ3.below hb3a).below (hb.mono (Nat.le_of_lt hs3))
    have HX3 : Hid (∀ w', Below V3.heap.size V3 w' → PcBox w' w3.heap.size RA nr c1 CA nc c2) := Lib.hid fun w' hb => hx3.below hs3 hb
    have HV3 := Lib.hid hV3
    have HQ := Lib.hid hQ3
    clear hV3 hx3 hQ3 hb3a
    go_wp2_with fail
    rw [HV3.out]
    refine (HTB.out _ h03).mono ?_
    rintro e w4 ⟨d4, rfl, hG4, hl4, hc4, hb4⟩
    have h04 := step h03 hb4
    have HI := Lib.hid (HIm.out _ w4 (gsF_fns13 hG4 hl4 hc4 (HF.out _ h04)))
    have HG4 := Lib.hid hG4
    have Hl4 := Lib.hid hl4
    have Hc4 := Lib.hid hc4
    clear hG4 hl4 hc4
    go_wp2_with fail
    refine HI.out.mono ?_
    rintro e w5 ⟨RB, c3, CB, c4, rfl, ⟨b1, b2, mid, k1, k2, hM5, -⟩, hb5⟩
    have hb5a : Below w5.heap.size w5 (w5.alloc (.cells #[.slice RB nr c3, .slice CB nc c4] 25)) := (Below.refl _ _).alloc (Nat.le_refl _) _
    have hx5 := pcbox_new w5 RB nr c3 CB nc c4 25
    obtain ⟨V5, hV5⟩ : ∃ V5, w5.alloc (.cells #[.slice RB nr c3, .slice CB nc c4] 25) = V5 := ⟨_, rfl⟩
    have hs5 : w5.heap.size < V5.heap.size := by rw [← hV5]; simp
    rw [hV5] at hb5a hx5
    have h4V := step hb5 hb5a
    have h3V := step hb4 h4V
    have h05 := step h04 h4V
    have hM5' := hM5.below hb5a
    have HM5 := Lib.hid hM5'
    have HhiR := Lib.hid (fun x (hx : x ∈ b1) g hg => hM5.r.hi hx g hg)
    have HhiC := Lib.hid (fun x (hx : x ∈ b2) g hg => hM5.c.hi hx g hg)
    have Hx5 := Lib.hid hx5
    have K1 := Lib.hid k1
    have K2 := Lib.hid k2
    have hx3' := HX3.out _ h3V
    obtain ⟨m0, m1⟩ := id hx5
    obtain ⟨n0, n1⟩ := id hx3'
    have HV5 := Lib.hid hV5
    have HE8 := Lib.hid (eqPicture_rq RB nr c3 (pofR rows) CB nc c4 (pofC rows) V5.heap.size RA c1 CA c2 w3.heap.size V5 (hM5'.q k1 k2 HQ.out) (Nat.le_refl _) (HQ3.out _ h3V) (by have := h3V.size; omega))
    rw [← hV5] at m0 m1 n0 n1
    clear hV5 hx5 hx3' hM5 hM5' hb5a k1 k2
    go_wp2_with fail
    rw [HV5.out]
    refine HE8.out.mono ?_
    rintro e w6 ⟨rfl, hb6⟩
    have h06 := step h05 hb6
    have h46 := step h4V hb6
    have h36 := step h3V hb6
    clear m0 m1 n0 n1
    go_wp2_with fail
    refine (HTB.out _ h06).mono ?_
    rintro e w7 ⟨d7, rfl, hG7, hl7, hc7, hb7⟩
    have h07 := step h06 hb7
    have h47 := step h46 hb7
    have h37 := step h36 hb7
    have HE7 := Lib.hid (eqBoolSS_rd (some ⟨V3.heap.size, 0, none⟩) (some ⟨w6.heap.size, 0, none⟩) n n n w7.heap.size w7.heap.size rows w7 (gsF_fns13 (HG4.out.below h47) Hl4.out Hc4.out (HF.out _ h07)) (gsF_fns13 hG7 hl7 hc7 (HF.out _ h07)) (Nat.le_refl _) (Nat.le_refl _))
    clear hG7 hl7 hc7
    go_wp2_with fail
    refine HE7.out.mono ?_
    rintro e w8 ⟨rfl, hb8⟩
    have h08 := step h07 hb8
    have h48 := step h47 hb8
    have h38 := step h37 hb8
    have hV8 : Below V5.heap.size V5 w8 := step hb6 (step hb7 hb8)
    have HMB := Lib.hid (markBoolSS_any (some ⟨V3.heap.size, 0, none⟩) n n V3.heap.size d4 w8 (HG4.out.below h48) Hl4.out hn20 (fun k hk => by
      have e : gtl (gsCF d4) k = d4[k].2 := by simp [gtl, gsCF, List.getD_eq_getElem?_getD, hk]
      rw [← e, Hc4.out]
      exact Hls.out k (by rw [← Hl4.out]; exact hk)) (Nat.le_trans hb4.size h48.size))
    go_wp2_with fail
    refine HMB.out.mono ?_
    rintro e w9 ⟨r9, rfl, hr9, hbm, hko⟩
    have h39 : Below V3.heap.size V3 w9 := h38.trans hbm
    have h09 : Below w.heap.size w w9 := h08.trans (hbm.mono (Nat.le_trans h03.size (Nat.le_refl _)))
    have hr9n : ¬ r9 < 0 := by omega
    have hkeep : ∀ j, w4.heap.size ≤ j → j < w8.heap.size → w9.heap[j]? = w8.heap[j]? := fun j h1 h2 => hko j h2 fun x hx e => by
      have := HG4.out.hi hx j e
      omega
    have hs59 : w5.heap.size < w8.heap.size := Nat.lt_of_lt_of_le hs5 hV8.size
    have hM9 := (HM5.out.below hV8).keepB hbm.size hkeep
    have hx9 : PcBox w9 w5.heap.size RB nr c3 CB nc c4 := (Hx5.out.below hs5 hV8).keep (hkeep _ hb5.size hs59)
    have hx39 := HX3.out _ h39
    have HE9 := Lib.hid (eqPicture_rq RB nr c3 (pofR rows) CB nc c4 (pofC rows) w9.heap.size RA c1 CA c2 w3.heap.size w9 (hM9.q K1.out K2.out HQ.out) (Nat.le_refl _) (HQ3.out _ h39) (by have := h39.size; omega))
    obtain ⟨m0, m1⟩ := id hx9
    obtain ⟨n0, n1⟩ := id hx39
    have HM9 := Lib.hid hM9
    clear hkeep hko hM9
    go_wp2_with fail
    refine HE9.out.mono ?_
    rintro e wa ⟨rfl, hba⟩
    have h0a := step h09 hba
    have h3a := step h39 hba
    have hs5a : w5.heap.size < wa.heap.size := Nat.lt_of_lt_of_le hs59 (Nat.le_trans hbm.size hba.size)
    have hxa := hx9.below (Nat.lt_of_lt_of_le hs59 hbm.size) hba
    have HMP := Lib.hid (markPicture_any w4.heap.size mid RB nr c3 CB nc c4 f1 f2 b1 b2 wa (HM9.out.below hba) (fun k _ => by rw [K1.out]; exact Hf1.out k) (fun k _ => by rw [K2.out]; exact Hf2.out k) (fun k _ => Hg1.out k) (fun k _ => Hg2.out k))
    clear m0 m1 n0 n1
    obtain ⟨m0, m1⟩ := id hxa
    go_wp2_with fail
    refine HMP.out.mono ?_
    rintro e wb ⟨b1', b2', rfl, hMb, hq1, hq2, hbb2, hkb⟩
    obtain ⟨X, hX⟩ : ∃ X, 1 + preN f1 nr + preN f2 nc = X := ⟨_, rfl⟩
    have hxb : PcBox wb w5.heap.size RB nr c3 CB nc c4 := hxa.keep (hkb _ hs5a (fun x hx e => by have := HhiR.out x hx _ e; omega) (fun x hx e => by have := HhiC.out x hx _ e; omega))
    have h3b : Below V3.heap.size V3 wb := h3a.trans (hbb2.mono hb4.size)
    have h0b : Below w.heap.size w wb := h0a.trans (hbb2.mono (Nat.le_trans h03.size hb4.size))
    have hsb : wa.heap.size ≤ wb.heap.size := hbb2.size
    have HHd := Lib.hid (fun (w' : World) (hb : Below wb.heap.size wb w') => heldPicture_any w4.heap.size mid RB nr c3 CB nc c4 f1 f2 b1' b2' w' (hMb.below hb) hq1 hq2 (fun k _ => Hg1.out k) (fun k _ => Hg2.out k))
    rw [hX] at HHd ⊢
    have hX0 : ¬ ((X : Int) < 0) := by omega
    have hXX : ((X : Int) != (X : Int)) = false := by simp
    clear hX hkb hMb hq1 hq2 hbb2 m0 m1
    obtain ⟨m0, m1⟩ := id hxb
    go_wp2_with fail
    refine (HHd.out _ (Below.refl _ _)).mono ?_
    rintro e wc ⟨rfl, hbc⟩
    have h0c := step h0b hbc
    have h3c := step h3b hbc
    clear m0 m1
    go_wp2_with fail
    refine (HTB.out _ h0c).mono ?_
    rintro e wd ⟨dd, rfl, hGd, hld, hcd, hbd⟩
    have h0d := step h0c hbd
    have hbcd := step hbc hbd
    have HId := Lib.hid (HIm.out _ wd (gsF_fns13 hGd hld hcd (HF.out _ h0d)))
    clear hGd hld hcd
    go_wp2_with fail
    refine HId.out.mono ?_
    rintro e we ⟨RE, c5, CE, c6, rfl, ⟨q1, q2, qm, z1, z2, -, hQe⟩, hbe⟩
    have hbea : Below we.heap.size we (we.alloc (.cells #[.slice RE nr c5, .slice CE nc c6] 25)) := (Below.refl _ _).alloc (Nat.le_refl _) _
    have hxe := pcbox_new we RE nr c5 CE nc c6 25
    obtain ⟨Ve, hVe⟩ : ∃ Ve, we.alloc (.cells #[.slice RE nr c5, .slice CE nc c6] 25) = Ve := ⟨_, rfl⟩
    have hse : we.heap.size < Ve.heap.size := by rw [← hVe]; simp
    rw [hVe] at hbea hxe
    have hbE : Below wb.heap.size wb Ve := step hbcd (step hbe hbea)
    have h3e : Below V3.heap.size V3 Ve := step h3b hbE
    have h0e := step h0b hbE
    have HEe := Lib.hid (eqPicture_rq RE nr c5 (pofR rows) CE nc c6 (pofC rows) we.heap.size RA c1 CA c2 w3.heap.size Ve (hQe.below hbea) (Nat.le_of_lt hse) (HQ3.out _ h3e) (by have := h3e.size; omega))
    obtain ⟨m0, m1⟩ := id hxe
    obtain ⟨n0, n1⟩ := id (HX3.out _ h3e)
    rw [← hVe] at m0 m1 n0 n1
    have HVe := Lib.hid hVe
    clear hVe hxe hQe hbea
    go_wp2_with fail
    rw [HVe.out]
    refine HEe.out.mono ?_
    rintro e wf ⟨rfl, hbf⟩
    have hbF := step hbE hbf
    have h0f := step h0e hbf
    clear m0 m1 n0 n1
    obtain ⟨m0, m1⟩ := hxb.below (Nat.lt_of_lt_of_le hs5a hsb) hbF
    go_wp2_with fail
    refine (HHd.out _ hbF).mono ?_
    rintro e wg ⟨rfl, hbg⟩
    have h0g := step h0f hbg
    clear m0 m1
    go_wp2
    go_ret
    exact ⟨rfl, h0g⟩
end Go.Proofs.Ytgeedgljabdllaa
