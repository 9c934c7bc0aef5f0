import Derived.Test.YtoejpodchlepiaaPInC
import Derived.Test.YtoejpodchlepiaaPz
set_option maxRecDepth 8000
namespace Go.Proofs.Ytoejpodchlepiaa
open Go.ChangeShapes Go.WideShapes Go.ChangeAt Go.RowKit
theorem OwR.keptG {w w' : World} {lo G k : Nat} {v : Value} {rs : List RuleM} (h : OwR w lo v rs k) (hg : w.grownBy w' (some G)) (hG : G < lo) : OwR w' lo v rs k := by
  obtain ⟨vs, hown, hin⟩ := h
  refine ⟨vs, World.ownsRow.kept hown hg (by
    cases e : v.ownBlock
    · exact .inl rfl
    · refine .inr (fun e2 => ?_)
      have h1 := (World.ownsRow.lt hown _ e).1
      have h2 := Option.some.inj e2
      omega), fun i hi => ?_⟩
  obtain ⟨A', c', e0, e1, e2, e3, e4, e5⟩ := hin i hi
  exact ⟨A', c', e0, e1, e2, Ow.far e3 hg (fun g hgg e => by have h1 := e3.own_lo g hgg; have h2 := Option.some.inj e; omega), e4, e5⟩
theorem grown_setRow {w : World} {g : Nat} {cs : Array Value} : w.grownBy (w.setRow g cs) (some g) :=
  ⟨rfl, rfl, rfl, by simp, fun k hk hne => by unfold World.setRow; simp only [Array.getElem?_modify]; rw [if_neg (fun e => hne (by rw [e]))]⟩
set_option maxHeartbeats 1000000 in
theorem eqRuleS_any (A A2 : Option Addr) (c c2 n B B2 : Nat) (rs : List RuleM) (w : World) (h : RdRs w B A n rs) (h2 : RdRs w B2 A2 n rs) (hB : B ≤ w.heap.size) (hB2 : B2 ≤ w.heap.size) (hm : n ≤ 1099511627776) :
    Calls Try.prog 89 #[.slice A n c, .slice A2 n c2] w fun e w' => e = .returned (.bool true) ∧ Below w.heap.size w w' := by
  have HR := Lib.hid (fun (w' : World) (hb : Below w.heap.size w w') => h.below (hb.mono hB))
  have HR2 := Lib.hid (fun (w' : World) (hb : Below w.heap.size w w') => h2.below (hb.mono hB2))
  have hnn : ((n : Int) != (n : Int)) = false := by simp
  go_enter Try.func89, Try.ntmps89
  go_wp2
  go_loopw [5] (fun i wr => ∃ u : Nat, u ≤ n ∧ i = .int .i64 u ∧ Below w.heap.size w wr) (fun i _ => n - (intOf i).toNat)
  case atStart => exact ⟨0, Nat.zero_le _, rfl, Below.refl _ _⟩
  case round =>
    obtain ⟨u, hu, rfl, hb⟩ := hrel
    by_cases hlt : u < n
    · obtain ⟨b, off, rfl, hbB, hcc⟩ := (HR.out _ hb).2 (by omega)
      obtain ⟨b2, off2, rfl, hbB2, hcc2⟩ := (HR2.out _ hb).2 (by omega)
      obtain ⟨A', c', r0, r1, r2, r3, r4⟩ := hcc u hlt
      obtain ⟨A'', c'', t0, t1, t2, t3, t4⟩ := hcc2 u hlt
      obtain ⟨rk, hrk⟩ : ∃ x, x = (rat rs u).k := ⟨_, rfl⟩
      obtain ⟨rx, hrx⟩ : ∃ x, x = (rat rs u).xs := ⟨_, rfl⟩
      obtain ⟨rvv, hrv⟩ : ∃ x, x = (rat rs u).v := ⟨_, rfl⟩
      rw [← hrk] at r0 t0
      rw [← hrx] at r1 r3 r4 t1 t3
      rw [← hrv] at r2 t2
      have hbw : b < wr.heap.size := cell_lt r0
      have hbw2 : b2 < wr.heap.size := cell_lt t0
      have HC := Lib.hid (fun w' (hbb : Below wr.heap.size wr w') => eqRule_any A' A'' c' c'' rx.length rx.length B B2 rx rx rk rvv rk rvv w' (r3.below (hbb.mono (Nat.le_trans hB hb.size))) (t3.below (hbb.mono (Nat.le_trans hB2 hb.size))) (Nat.le_trans (Nat.le_trans hB hb.size) hbb.size) (Nat.le_trans (Nat.le_trans hB2 hb.size) hbb.size) r4 rfl rfl rfl)
      have HS : Hid (∀ w', Below wr.heap.size wr w' → w'.cell? ⟨b, off + u * 3, none⟩ = some (.int .i64 rk) ∧ w'.cell? ⟨b, off + u * 3 + 1, none⟩ = some (.slice A' rx.length c') ∧ w'.cell? ⟨b, off + u * 3 + 2, none⟩ = some (.int .i64 rvv) ∧ w'.cell? ⟨b2, off2 + u * 3, none⟩ = some (.int .i64 rk) ∧ w'.cell? ⟨b2, off2 + u * 3 + 1, none⟩ = some (.slice A'' rx.length c'') ∧ w'.cell? ⟨b2, off2 + u * 3 + 2, none⟩ = some (.int .i64 rvv)) :=
        Lib.hid (fun w' hb => ⟨(hb.cell (p := ⟨b, off + u * 3, none⟩) hbw).trans r0, (hb.cell (p := ⟨b, off + u * 3 + 1, none⟩) hbw).trans r1, (hb.cell (p := ⟨b, off + u * 3 + 2, none⟩) hbw).trans r2, (hb.cell (p := ⟨b2, off2 + u * 3, none⟩) hbw2).trans t0, (hb.cell (p := ⟨b2, off2 + u * 3 + 1, none⟩) hbw2).trans t1, (hb.cell (p := ⟨b2, off2 + u * 3 + 2, none⟩) hbw2).trans t2⟩)
      have hin : (u : Int) < (n : Int) := by omega
      have Hlt := Lib.hid hlt
      clear hrk hrx hrv hcc hcc2
      go_wp2
      go_region_held3 (fun w' => w'.cell? ⟨b, off + u * 3, none⟩ = some (.int .i64 rk) ∧ w'.cell? ⟨b, off + u * 3 + 1, none⟩ = some (.slice A' rx.length c') ∧ w'.cell? ⟨b, off + u * 3 + 2, none⟩ = some (.int .i64 rvv) ∧ w'.cell? ⟨b2, off2 + u * 3, none⟩ = some (.int .i64 rk) ∧ w'.cell? ⟨b2, off2 + u * 3 + 1, none⟩ = some (.slice A'' rx.length c'') ∧ w'.cell? ⟨b2, off2 + u * 3 + 2, none⟩ = some (.int .i64 rvv))
        (first | go_keep | exact HS.out _ hb5)
        ((go_simp; go_at_call 32; refine (HC.out _ (Below.refl _ _).drew).mono ?_; rintro e w5 ⟨rfl, hb4⟩; have hb5 : Below wr.heap.size wr w5 := ((Below.refl _ _).drew).trans hb4))
      go_wp2
      go_roundw
      case rel => exact ⟨u + 1, Hlt.out, by go_num, hb.trans (hb5.mono hb.size)⟩
      case measure => have := Hlt.out; simp [intOf]; omega
    · obtain rfl : u = n := by omega
      go_wp2
      go_ret
      exact ⟨rfl, hb⟩
set_option maxHeartbeats 1000000 in
theorem eqPuzzle_any (s : Int) (Ag Ag2 : Option Addr) (cg cg2 ng Bg Bg2 : Nat) (g : List Int) (Ar Ar2 : Option Addr) (cr cr2 nr B B2 : Nat) (rs : List RuleM) (w : World) (hg : Rd w Bg Ag ng g) (hBg : Bg ≤ w.heap.size) (hmg : ng ≤ 1099511627776) (hg2 : Rd w Bg2 Ag2 ng g) (hBg2 : Bg2 ≤ w.heap.size) (h : RdRs w B Ar nr rs) (h2 : RdRs w B2 Ar2 nr rs) (hB : B ≤ w.heap.size) (hB2 : B2 ≤ w.heap.size) (hm : nr ≤ 1099511627776) :
    Calls Try.prog 38 #[.agg #[.int .i64 s, .slice Ag ng cg, .slice Ar nr cr], .agg #[.int .i64 s, .slice Ag2 ng cg2, .slice Ar2 nr cr2]] w fun e w' => e = .returned (.bool true) ∧ Below w.heap.size w w' := by
  have hx := pbox_new w s Ag ng cg Ar nr cr 48
  have hb0 : Below w.heap.size w (w.alloc (.cells #[.int .i64 s, .slice Ag ng cg, .slice Ar nr cr] 48)) := (Below.refl _ _).alloc (Nat.le_refl _) _
  have hs0 : w.heap.size < (w.alloc (.cells #[.int .i64 s, .slice Ag ng cg, .slice Ar nr cr] 48)).heap.size := by simp
  have hx2 := pbox_new (w.alloc (.cells #[.int .i64 s, .slice Ag ng cg, .slice Ar nr cr] 48)) s Ag2 ng cg2 Ar2 nr cr2 48
  obtain ⟨U, hU⟩ : ∃ U, U = (w.alloc (.cells #[.int .i64 s, .slice Ag ng cg, .slice Ar nr cr] 48)).alloc (.cells #[.int .i64 s, .slice Ag2 ng cg2, .slice Ar2 nr cr2] 48) := ⟨_, rfl⟩
  rw [World.size_alloc, ← hU] at hx2
  have hx1 : PBox U w.heap.size s Ag ng cg Ar nr cr := by rw [hU]; exact hx.below hs0 ((Below.refl _ _).alloc (Nat.le_refl _) _)
  have hbU : Below w.heap.size w U := by rw [hU]; exact hb0.alloc hb0.size _
  have hsU : U.heap.size = w.heap.size + 1 + 1 := by rw [hU]; simp
  have hs1 : w.heap.size < U.heap.size := by omega
  have hs2 : w.heap.size + 1 < U.heap.size := by omega
  obtain ⟨a0, a1, a2⟩ := id hx1
  obtain ⟨b0, b1, b2⟩ := id hx2
  have hss : (s != s) = false := by simp
  have hsame := same_refl g
  have HI := Lib.hid (eqIntS_any Ag Ag2 cg cg2 ng ng Bg Bg2 g g U (hg.below (hbU.mono hBg)) (hg2.below (hbU.mono hBg2)) hmg)
  rw [hsame] at HI
  have HE := Lib.hid (fun w' (hb : Below w.heap.size w w') => eqRuleS_any Ar Ar2 cr cr2 nr B B2 rs w' (h.below (hb.mono hB)) (h2.below (hb.mono hB2)) (Nat.le_trans hB hb.size) (Nat.le_trans hB2 hb.size) hm)
  have HU := Lib.hid hU
  clear hU hx hsU
  go_enter Try.func38, Try.ntmps38
  go_wp2_with (first | (go_at_call 33; rw [← HU.out]; refine HI.out.mono ?_; rintro e w2 ⟨rfl, hb2⟩; have h02 := step hbU hb2; obtain ⟨d0, d1, d2⟩ := hx1.below hs1 hb2; obtain ⟨e0, e1, e2⟩ := hx2.below hs2 hb2) | (go_at_call 89; refine (HE.out _ h02).mono ?_; rintro e w3 ⟨rfl, hb3⟩))
  go_ret
  exact ⟨rfl, step h02 hb3⟩
set_option maxHeartbeats 1000000 in
theorem toPuzzle_any (s : Int) (Ag : Option Addr) (cg n Bg : Nat) (g : List Int) (Ar : Option Addr) (cr nr B : Nat) (rs : List RuleM) (w : World) (hg : Rd w Bg Ag n g) (hBg : Bg ≤ w.heap.size) (hmg : n ≤ 1099511627776) (h : RdRs w B Ar nr rs) (hB : B ≤ w.heap.size) (hm : nr ≤ 1048576) :
    Calls Try.prog 36 #[.agg #[.int .i64 s, .slice Ag n cg, .slice Ar nr cr]] w fun e w' => ∃ A1 g2, e = .returned (.agg #[.int .i64 s, .slice A1 n n, .slice (some ⟨g2, 0, none⟩) nr nr]) ∧ Ow w' w.heap.size A1 n n g ∧ OwR w' w.heap.size (.slice (some ⟨g2, 0, none⟩) nr nr) rs nr ∧ Below w.heap.size w w' := by
  have Hone := Lib.hid puz_one
  have Hi := Lib.hid puz_info
  have hx0 := pbox_new w s Ag n cg Ar nr cr 43
  have hb0 : Below w.heap.size w (w.alloc (.cells #[.int .i64 s, .slice Ag n cg, .slice Ar nr cr] 43)) := (Below.refl _ _).alloc (Nat.le_refl _) _
  have hs0 : w.heap.size < (w.alloc (.cells #[.int .i64 s, .slice Ag n cg, .slice Ar nr cr] 43)).heap.size := by simp
  obtain ⟨V, hV⟩ : ∃ V, V = ((w.alloc (.cells #[.int .i64 s, .slice Ag n cg, .slice Ar nr cr] 43)).alloc (.cells #[.int .i64 0, .slice none 0 0, .slice none 0 0] 48)).alloc (.cells #[.int .i64 s, .slice none 0 0, .slice none 0 0] 48) := ⟨_, rfl⟩
  have hbV : Below w.heap.size w V := by rw [hV]; exact (hb0.alloc hb0.size _).alloc (by simp; omega) _
  have hsV : V.heap.size = w.heap.size + 1 + 1 + 1 := by rw [hV]; simp
  have hv2 : V.heap[w.heap.size + 1 + 1]? = some (.cells #[.int .i64 s, .slice none 0 0, .slice none 0 0] 48) := by
    have := heap_alloc2_new (w.alloc (.cells #[.int .i64 s, .slice Ag n cg, .slice Ar nr cr] 43)) (.cells #[.int .i64 0, .slice none 0 0, .slice none 0 0] 48) (.cells #[.int .i64 s, .slice none 0 0, .slice none 0 0] 48)
    rw [World.size_alloc] at this
    rw [hV]
    exact this
  have hv1 : V.heap[w.heap.size + 1]? = some (.cells #[.int .i64 0, .slice none 0 0, .slice none 0 0] 48) := by
    have := heap_alloc2_old (w.alloc (.cells #[.int .i64 s, .slice Ag n cg, .slice Ar nr cr] 43)) (.cells #[.int .i64 0, .slice none 0 0, .slice none 0 0] 48) (.cells #[.int .i64 s, .slice none 0 0, .slice none 0 0] 48)
    rw [World.size_alloc] at this
    rw [hV]
    exact this
  have hx1 : PBox V w.heap.size s Ag n cg Ar nr cr := by
    rw [hV]
    exact hx0.below hs0 (((Below.refl _ _).alloc (Nat.le_refl _) _).alloc (by simp) _)
  obtain ⟨k0, k1, k2⟩ := id hx1
  have hwV : w.heap.size ≤ V.heap.size := by omega
  have hwV0 : w.heap.size < V.heap.size := by omega
  have hwV1 : w.heap.size + 1 < V.heap.size := by omega
  have hwV2 : w.heap.size + 1 + 1 < V.heap.size := by omega
  have hne02 : w.heap.size + 1 + 1 ≠ w.heap.size := by omega
  have hne12 : w.heap.size + 1 ≠ w.heap.size + 1 + 1 := by omega
  have hle2 : w.heap.size ≤ w.heap.size + 1 + 1 := by omega
  have HG := Lib.hid (toIntS_any Ag cg n Bg g V (hg.below (hbV.mono hBg)) (Nat.le_trans hBg hwV) hmg)
  have HRR := Lib.hid (fun w' (hb : Below w.heap.size w w') => toRuleS_any Ar cr nr B rs w' (h.below (hb.mono hB)) (Nat.le_trans hB hb.size) hm)
  have HV := Lib.hid hV
  have HsV := Lib.hid hsV
  have HbV := Lib.hid hbV
  clear hV hsV hbV hx0 hb0 hs0
  go_enter Try.func36, Try.ntmps36
  go_wp2_with fail
  rw [← HV.out]
  refine HG.out.mono ?_
  rintro e w1 ⟨rfl, ho1, hbw1⟩
  have f1 := (hbw1.block (w.heap.size + 1) hwV1).trans hv1
  have f2 := (hbw1.block (w.heap.size + 1 + 1) hwV2).trans hv2
  obtain ⟨j0, j1, j2⟩ := hx1.below hwV0 hbw1
  have m0 : w1.cell? ⟨w.heap.size + 1 + 1, 0, none⟩ = some (.int .i64 s) := cell_of_row _ _ 0 _ _ (0, 0) f2
  have m1 : w1.cell? ⟨w.heap.size + 1 + 1, 1, none⟩ = some (.slice none 0 0) := cell_of_row _ _ 1 _ _ (0, 0) f2
  have fz := frozen_of_row w1 (w.heap.size + 1 + 1) 1 _ _ f2
  obtain ⟨W2, hW2⟩ : ∃ W2, w1.setCell ⟨w.heap.size + 1 + 1, 1, none⟩ (.slice (some ⟨V.heap.size, 0, none⟩) n n) = W2 := ⟨_, rfl⟩
  have g1 : W2.heap[w.heap.size + 1]? = some (.cells #[.int .i64 0, .slice none 0 0, .slice none 0 0] 48) := by rw [← hW2]; exact (heap_setCell_other w1 ⟨w.heap.size + 1 + 1, 1, none⟩ (w.heap.size + 1) _ hne12).trans f1
  have g2 : W2.heap[w.heap.size + 1 + 1]? = some (.cells #[.int .i64 s, .slice (some ⟨V.heap.size, 0, none⟩) n n, .slice none 0 0] 48) := by rw [← hW2]; exact heap_setCell_same w1 (w.heap.size + 1 + 1) 1 _ _ (.slice (some ⟨V.heap.size, 0, none⟩) n n) f2
  have hb2 : Below w.heap.size w W2 := by rw [← hW2]; exact (HbV.out.trans (hbw1.mono hwV)).setCell (p := ⟨w.heap.size + 1 + 1, 1, none⟩) hle2 _
  have hj2 : W2.cell? ⟨w.heap.size, 2, none⟩ = some (.slice Ar nr cr) := by rw [← hW2]; exact (World.cell?_setCell_far w1 ⟨w.heap.size + 1 + 1, 1, none⟩ ⟨w.heap.size, 2, none⟩ _ hne02).trans j2
  have ho2 : Ow W2 V.heap.size (some ⟨V.heap.size, 0, none⟩) n n g := by rw [← hW2]; exact ho1.far (row := some (w.heap.size + 1 + 1)) grown_set (fun b hb e => by have := ho1.own_lo b hb; injection e with e; omega)
  have hs2 : w.heap.size + 1 + 1 < W2.heap.size := (Array.getElem?_eq_some_iff.1 g2).1
  have HR2 := Lib.hid (HRR.out W2 hb2)
  clear f1 f2 k0 k1 k2 hv1 hv2
  go_wp2_with fail
  (try rw [hW2])
  refine HR2.out.mono ?_
  rintro e w3 ⟨gr, rfl, ho3, hb3⟩
  have q1 := (hb3.block (w.heap.size + 1) (by omega)).trans g1
  have q2 := (hb3.block (w.heap.size + 1 + 1) hs2).trans g2
  have fz3 := frozen_of_row w3 (w.heap.size + 1 + 1) 2 _ _ q2
  have p2 : w3.cell? ⟨w.heap.size + 1 + 1, 2, none⟩ = some (.slice none 0 0) := cell_of_row _ _ 2 _ _ (0, 0) q2
  have r1 := (heap_setCell_other w3 ⟨w.heap.size + 1 + 1, 2, none⟩ (w.heap.size + 1) (.slice (some ⟨gr, 0, none⟩) nr nr) hne12).trans q1
  have r2 := heap_setCell_same w3 (w.heap.size + 1 + 1) 2 _ _ (.slice (some ⟨gr, 0, none⟩) nr nr) q2
  go_wp2_with (first
    | (refine wpList_load_row rfl 48 _ rfl (w.heap.size + 1 + 1) rfl 48 #[.int .i64 s, .slice (some ⟨V.heap.size, 0, none⟩) n n, .slice (some ⟨gr, 0, none⟩) nr nr] (0, 0) _ r2 Try.underlying48 rfl (Hi.out _ _ _ _ _ _ _) ?_)
    | (refine wpList_store_row rfl 48 _ _ rfl (w.heap.size + 1) #[.int .i64 s, .slice (some ⟨V.heap.size, 0, none⟩) n n, .slice (some ⟨gr, 0, none⟩) nr nr] rfl rfl 48 #[.int .i64 0, .slice none 0 0, .slice none 0 0] r1 (Hi.out _ _ _ _ _ _ _) rfl (Hone.out _ _ _ _ _ _ _) ?_))
  have hB3 : Below w.heap.size w w3 := step hb2 hb3
  have hBe : Below w.heap.size w ((w3.setCell ⟨w.heap.size + 1 + 1, 2, none⟩ (.slice (some ⟨gr, 0, none⟩) nr nr)).setRow (w.heap.size + 1) #[.int .i64 s, .slice (some ⟨V.heap.size, 0, none⟩) n n, .slice (some ⟨gr, 0, none⟩) nr nr]) := setRow_below5 (hB3.setCell (p := ⟨w.heap.size + 1 + 1, 2, none⟩) hle2 _) (by omega)
  have HsV' := HsV.out
  have ho2' := ho2.below hb3
  refine bodyPost_ret (v := .agg #[.int .i64 s, .slice (some ⟨V.heap.size, 0, none⟩) n n, .slice (some ⟨gr, 0, none⟩) nr nr]) (results_cell_row (by rfl) _ _ (w.heap.size + 1) 48 _ (0, 0) _ rfl (setRow_heap _ _ _ _ _ _ r1) Try.underlying48 rfl (Hi.out _ _ _ _ _ _ _)) rfl ⟨_, _, rfl, ?own, ?ownr, hBe⟩
  case own =>
    refine (((ho2'.far (row := some (w.heap.size + 1 + 1)) grown_set (fun b hb e => by have := ho2.own_lo b hb; injection e with e; omega)).row5 (fun b hb => ?_)).mono (by omega))
    have := ho2.own_lo b hb
    omega
  case ownr => exact ((ho3.keptG grown_set hs2).keptG grown_setRow (by omega)).mono (by omega)
end Go.Proofs.Ytoejpodchlepiaa
