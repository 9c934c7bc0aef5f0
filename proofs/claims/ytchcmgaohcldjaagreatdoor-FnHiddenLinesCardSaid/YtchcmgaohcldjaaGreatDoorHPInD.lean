import Derived.Test.YtchcmgaohcldjaaGreatDoorHI7
import Derived.Test.YtchcmgaohcldjaaGreatDoorHTb
import Derived.Test.YtchcmgaohcldjaaGreatDoorHMin
import Derived.Test.YtchcmgaohcldjaaGreatDoorHNr
import Derived.Test.YtchcmgaohcldjaaGreatDoorHM3
import Derived.BigRegionIn
import Derived.Test.YtchcmgaohcldjaaGreatDoorOwn
import Derived.Deep.MidRow
import Derived.Deep.RegionHeld3
import Derived.Test.YtchcmgaohcldjaaGreatDoorPz
set_option maxRecDepth 8000
namespace Go.Proofs.YtchcmgaohcldjaaGreatDoor
open Go.ChangeShapes Go.WideShapes Go.ChangeAt Go.RowKit
theorem npL_gU {m : List Int} {s : Nat} (hs : s ∈ [2, 3, 4]) (hm : mvd m s = true) : npL m s = gU m s (2 * s) := by
  unfold npL; rw [if_pos hm, Int.toNat_natCast, gU_is hs hm _ (Nat.le_refl _)]
theorem gU_sub {m : List Int} {s : Nat} (hs : s ∈ [2, 3, 4]) (hm : mvd m s = true) (u : Nat) (hu : u ≤ 2 * s) : Sub (gU m s u) m := by
  rw [gU_is hs hm u hu]; exact pU_sub hm u
theorem an_sub32 {x : Int} {y : Nat} (hx : 0 ≤ x ∧ x ≤ 30 ∧ x.tmod 2 = 0) (hy : y < 32) : 0 ≤ bits .andNot .i64 x y ∧ bits .andNot .i64 x y ≤ x ∧ (bits .andNot .i64 x y).tmod 2 = 0 := by
  obtain ⟨a, rfl⟩ := Int.eq_ofNat_of_zero_le hx.1; obtain ⟨q1, q2, q3⟩ := an_key a (by omega) y hy; exact ⟨q1, q2, q3 (by have := hx.2.2; rw [Int.tmod_eq_emod_of_nonneg (by omega)] at this; omega)⟩
theorem gL_sub {m o : List Int} {s u : Nat} {S : Int} {C : Nat → Nat} (hm : mvd m S = true) (h : Sub o m) (k : Nat) : Sub (gL m s u C o k) m := by
  induction k with
  | zero => exact h
  | succ k ih =>
    simp only [gL]
    exact ih.put fun hk => by
      obtain ⟨h1, h2⟩ := ih.at_ hm hk; obtain ⟨q1, q2, q3⟩ := an_sub32 h1 (tkF_lt C (lv m s u k) 32 (Nat.le_refl _)); exact ⟨q1, by omega, q3⟩
def npG (g q n cc bm om c : Nat) (C : Nat → Nat) (X : Int) (y tk : Nat) (z : Int) : Nat → Value → Prop
  | 0, v => v = .slice (some ⟨g, 0, none⟩) n cc
  | 1, v => v = .int .i64 q
  | 2, v => v = .pointer (some ⟨g, q, none⟩)
  | 3, v => v = .int .i64 X
  | 4, v => v = .agg (kcells C)
  | 5, v => v = .slice (some ⟨bm, om, none⟩) n c
  | 6, v => v = .int .i64 q
  | 7, v => v = .pointer (some ⟨bm, om + q, none⟩)
  | 8, v => v = .int .i64 y
  | 9, v => v = .int .i64 tk
  | 10, v => v = .int .i64 z
  | 11, v => v = .pointer (some ⟨g, q, none⟩)
  | _, _ => True
theorem kload (C : Nat → Nat) (g : Nat) (w : World) (h : KBox w g C) : (Instr.loadAt 94 (.pointer (some ⟨g, 0, none⟩))).run Tryz.prog w = .ok (.agg (kcells C)) w := by
  simp only [Instr.loadAt, Instr.sureAddr, Sem.run_bind, Sem.run_pure, Result.andThen_ok, run_loadVar_row w g 94 94 (kcells C) (0, 0) _ h Tryz.underlying94 rfl (kinfo C)]
theorem kput (w : World) (C : Nat → Nat) (W : World) (h : (w.alloc (.cells #[.int .i64 0, .int .i64 0, .int .i64 0, .int .i64 0, .int .i64 0, .int .i64 0, .int .i64 0, .int .i64 0, .int .i64 0, .int .i64 0, .int .i64 0, .int .i64 0, .int .i64 0, .int .i64 0, .int .i64 0, .int .i64 0, .int .i64 0, .int .i64 0, .int .i64 0, .int .i64 0, .int .i64 0, .int .i64 0, .int .i64 0, .int .i64 0, .int .i64 0, .int .i64 0, .int .i64 0, .int .i64 0, .int .i64 0, .int .i64 0, .int .i64 0, .int .i64 0] 94)).setRow w.heap.size (kcells C) = W) : KBox W w.heap.size C ∧ Below w.heap.size w W := by
  rw [← h]; exact ⟨setRow_heap _ _ _ _ _ _ (heap_alloc_new w (.cells (kcells fun _ => 0) 94)), setRow_below ((Below.refl _ _).alloc (Nat.le_refl _) _) (Nat.le_refl _)⟩
theorem kz_new (w : World) : (w.alloc (.cells #[.int .i64 0, .int .i64 0, .int .i64 0, .int .i64 0, .int .i64 0, .int .i64 0, .int .i64 0, .int .i64 0, .int .i64 0, .int .i64 0, .int .i64 0, .int .i64 0, .int .i64 0, .int .i64 0, .int .i64 0, .int .i64 0, .int .i64 0, .int .i64 0, .int .i64 0, .int .i64 0, .int .i64 0, .int .i64 0, .int .i64 0, .int .i64 0, .int .i64 0, .int .i64 0, .int .i64 0, .int .i64 0, .int .i64 0, .int .i64 0, .int .i64 0, .int .i64 0] 94)).heap[w.heap.size]? = some (.cells (kcells fun _ => 0) 94 (0, 0)) := heap_alloc_new w (.cells (kcells fun _ => 0) 94)
set_option maxHeartbeats 2000000 in
theorem implNarrowPairs (A : Option Addr) (c n B : Nat) (m : List Int) (size : Int) (w : World) (h : Rd w B A n m) (hm64 : B64 m) (hBm : B ≤ w.heap.size) (hm : n ≤ 1099511627776) (hsb : -9223372036854775808 ≤ size ∧ size ≤ 9223372036854775807) :
    Calls Tryz.prog 33 #[.slice A n c, .int .i64 size] w (RetSl w (npL m size)) := by
  have hlen := Lib.hid h.1; have HV := Lib.hid (implMasksValid A c n B m size w h hm64 hBm hm hsb); cases hv : mvd m size
  · have HL := Lib.hid (show npL m size = [] by simp [npL, hv])
    go_enter Tryz.func33, Tryz.ntmps33
    go_wp2_with (go_at_call 78; refine HV.out.mono ?_; rintro e w1 ⟨rfl, hb1⟩; rw [hv])
    go_ret
    rw [HL.out]; exact ⟨_, _, rfl, Ow.nil_ _ _, hb1⟩
  · obtain ⟨⟨s2, s4⟩, hsq, hn16, _⟩ := mvd_at hv; obtain ⟨s, rfl⟩ := Int.eq_ofNat_of_zero_le (by omega : 0 ≤ size)
    have hs : s ∈ [2, 3, 4] := by simp; omega
    have hn : n = s * s := by rw [← hlen.out]; exact len_of hs hv
    have hn0 : 0 < n := by
      simp at hs
      rcases hs with rfl | rfl | rfl <;> omega
    have Hs := Lib.hid hs; have Hn := Lib.hid hn; have Hv := Lib.hid hv
    have hs2' : 2 ≤ s := by omega
    have hs4' : s ≤ 4 := by omega
    have HCl := Lib.hid (fun w' (hb : Below w.heap.size w w') => clone_any A n c B m w' (h.below (hb.mono hBm)) (Nat.le_trans hBm hb.size) hn0 hm); have HF := Lib.hid (npL_gU hs hv); obtain ⟨T, hT⟩ : ∃ T, T = 2 * s := ⟨_, rfl⟩; rw [← hT] at HF; have HT := Lib.hid hT
    have hT8 : T ≤ 8 := by omega
    clear hs hn hT hsq hn16
    go_enter Tryz.func33, Tryz.ntmps33
    go_wp2_with (first
      | (go_at_call 78; refine HV.out.mono ?_; rintro e w1 ⟨rfl, hb1⟩; rw [Hv.out])
      | (go_at_call 77; refine (HCl.out _ hb1).mono ?_; rintro e w2 ⟨Ac, cc, rfl, ho2, hb2⟩; have hb12 := step hb1 hb2))
    have ho3 := ho2.mono hb1.size; obtain ⟨g, rfl, hgl, hgw⟩ := ho3.form hn0
    go_loopw [19] (fun i wr => ∃ u : Nat, u ≤ T ∧ i = .int .i64 u ∧ Ow wr w.heap.size (some ⟨g, 0, none⟩) n cc (gU m s u) ∧ Below w.heap.size w wr) (fun i _ => T - (intOf i).toNat)
    case atStart => exact ⟨0, Nat.zero_le _, rfl, ho3, hb12⟩
    case round =>
      clear ho2 ho3 hb12 hb1 hb2; obtain ⟨u, hu, rfl, ho, hb⟩ := hrel
      by_cases hlt : u < T
      · have hltI : (u : Int) < 2 * (s : Int) := (by have := HT.out; omega); have hu2 := Lib.hid (show u < 2 * s by have := HT.out; omega); have HLc := Lib.hid (lineCells_line Hs.out hu2.out (implLineCells s u wr ⟨by omega, by omega⟩)); have HPk := Lib.hid (fun w' (hb : Below w.heap.size w w') A3 c3 (ho : Ow w' w.heap.size A3 s c3 (lineTo s u s)) => implPick A c n B m A3 c3 s w'.heap.size (lineTo s u s) w' (h.below (hb.mono hBm)) ho.rd (Nat.le_trans hBm hb.size) (Nat.le_refl _) (by omega) (by rw [Hn.out]; exact lineTo_small Hs.out hu2.out)); have HCo := Lib.hid (fun w' A4 c4 (hr : Rd w' w'.heap.size A4 s (pks m (lineTo s u s) s)) => countsOf_any A4 c4 s w'.heap.size _ (lv m s u) w' hr (Nat.le_refl _) (by omega) (Lib.hid (pks_line Hv.out)))
        obtain ⟨C, hC⟩ : ∃ C : Nat → Nat, C = fun x => cN (lv m s u) x s := ⟨_, rfl⟩
        have hC4 := Lib.hid (show ∀ x, C x ≤ 4 by rw [hC]; intro x; exact Nat.le_trans (cN_le (lv m s u) x s) hs4'); have HG := Lib.hid (show gU m s (u + 1) = gL m s u C (gU m s u) s by rw [hC]; rfl); rw [← hC] at HCo; have Hi := Lib.hid (kinfo C); have Hone := Lib.hid (kone C); have Hz := Lib.hid (fun w' => kz_new w'); have Hpl := Lib.hid (show (pks m (lineTo s u s) s).length = s from mapTo_length _ _); have hat := Lib.hid (line_in7 Hs.out hu2.out); rw [← Hn.out] at hat; have Hsub := Lib.hid (fun k => gL_sub (s := s) (u := u) (C := C) Hv.out (gU_sub Hs.out Hv.out u (by have := hu2.out; omega)) k)
        clear hC
        go_wp2_with (first
          | (go_at_call 55; refine HLc.out.mono ?_; rintro e w3 ⟨A3, c3, rfl, ho3', hb3⟩; have hb13 := step hb hb3; have ho3 := ho3'.mono hb.size; have ho3g := ho3'.mono (show g + 1 ≤ wr.heap.size from ho.own_hi g rfl); clear ho3'; have hoA := ho.below hb3)
          | (go_at_call 91; refine (HPk.out _ hb13 _ _ ho3).mono ?_; rintro e w4 ⟨A4, c4, rfl, ho4, hb4⟩; rw [Hpl.out] at ho4 ⊢; have hb14 := step hb13 hb4; have hr4 := ho4.rd; have ho34 := ho3g.below hb4; have hoB := hoA.below hb4)
          | (go_at_call 90; refine (HCo.out _ _ _ hr4).mono ?_; rintro e w5 ⟨rfl, hb5⟩; have hb15 := step hb14 hb5; have ho35 := ho34.below hb5; have hoC := hoB.below hb5; have hw5 := hb15.size; have hgw5 := hoC.own_hi g rfl)
          | (refine wpList_store_row rfl 94 _ _ rfl w5.heap.size (kcells C) rfl rfl 94 (kcells fun _ => 0) (Hz.out w5) Hi.out rfl Hone.out ?_; generalize hW5 : World.setRow _ _ _ = W5; obtain ⟨hkb0, hbW⟩ := kput w5 C W5 hW5; clear hW5; obtain ⟨gk, hgk⟩ : ∃ gk, w5.heap.size = gk := ⟨_, rfl⟩; have hkb := Lib.hid hkb0; clear hkb0; have hb16 := step hb15 hbW; have ho36 := ho35.below hbW; have hoD := hoC.below hbW; rw [hgk] at hkb ⊢; rw [hgk] at hgw5))
        go_loopw [31] (fun i wr => ∃ k : Nat, k ≤ s ∧ i = .int .i64 k ∧ Ow wr w.heap.size (some ⟨g, 0, none⟩) n cc (gL m s u C (gU m s u) k) ∧ Ow wr (g + 1) A3 s c3 (lineTo s u s) ∧ Hid (KBox wr gk C) ∧ Below w.heap.size w wr) (fun i _ => s - (intOf i).toNat)
        case atStart => exact ⟨0, Nat.zero_le _, rfl, hoD, ho36, hkb, hb16⟩
        case round =>
          clear hoD ho36 hkb hb16; obtain ⟨k, hk, rfl, hoN, hoL, hkb, hbN⟩ := hrel
          by_cases hks : k < s
          · obtain ⟨q, hq, hqc, hqn⟩ := hat.out k hks; obtain ⟨g3, rfl, _, _⟩ := hoL.form (by omega); obtain ⟨hcl, _⟩ := hoL.cell hks; rw [lineTo_nth hks, hq] at hcl; obtain ⟨bm, offm, hA, hbmB, hcm⟩ := (h.below (hbN.mono hBm)).at_ hqn; subst hA; obtain ⟨hcn, hfn⟩ := hoN.cell hqn; have hvq := lv_int (S := (s : Int)) (u := (u : Int)) Hv.out k; rw [hqc] at hvq; rw [hvq] at hcm; have hv32 := lv_lt (S := (s : Int)) (u := (u : Int)) Hv.out k; have HTk := Lib.hid (fun w' => taken_any C (lv m s u k) w' hC4.out); obtain ⟨X, hX⟩ : ∃ X, nth (gL m s u C (gU m s u) k) q = X := ⟨_, rfl⟩; obtain ⟨y, hy⟩ : ∃ y, lv m s u k = y := ⟨_, rfl⟩
            obtain ⟨tk, htk⟩ : ∃ tk, tkF C y 32 = tk := ⟨_, rfl⟩; obtain ⟨z, hz⟩ : ∃ z, bits .andNot .i64 X (tk : Int) = z := ⟨_, rfl⟩; have HG1 := Lib.hid (show gL m s u C (gU m s u) (k + 1) = (gL m s u C (gU m s u) k).set q z by simp only [gL]; rw [hqc, hX, hy, htk, hz]); rw [hX] at hcn; rw [hy] at hcm hv32 HTk; rw [htk] at HTk; have Hz' := Lib.hid hz; have hgN := hoN.own_hi g rfl; have hgkN := hkb.out.lt; have hqI : (q : Int) < (n : Int) := (by omega); have hbmN : bm < wr.heap.size := Nat.lt_of_lt_of_le hbmB (Nat.le_trans hBm hbN.size); have HoN := Lib.hid hoN; have HoL := Lib.hid hoL; clear hX hy htk hz hoN hoL hvq
            go_wp2
            refine wp_region_dsS [35, 36, 37, 38, 39, 40, 41, 42, 43, 44, 45, 46] (fun j v _ => npG g q n cc bm offm c C X y tk z j v) (fun w1 w2 => Below w1.heap.size w1 w2) (fun _ _ _ => True) (fun _ _ => True) (fun _ => trivial) (below_drewN (Below.refl _ _) 1) (fun _ _ h h' => step h h') (by kernel_rfl) (by kernel_rfl) (by simp) (fun _ _ _ _ _ _ _ _ h => h) ?step ?last
            case step =>
              intro i o a w' K D hD hcl2 hi hoo hrel hfr hpre hC hK; have e0 : a.eval (.tmp 0) = .slice (some ⟨bm, offm, none⟩) n c := hfr 0 (by simp); have e5 : a.eval (.tmp 5) = .slice (some ⟨g, 0, none⟩) n cc := hfr 5 (by simp); have e8 : a.eval (.tmp 8) = .pointer (some ⟨gk, 0, none⟩) := hfr 8 (by simp); have e10 : a.eval (.tmp 10) = .int .i64 q := hfr 10 (by simp)
              have hkeep : ∀ (v : Value), npG g q n cc bm offm c C X y tk z i v → K (a.put o.dst v) w' := fun v hv => hK v w' (Below.refl _ _) trivial (fun j _ _ h => h) hv
              have hkw : KBox w' gk C := hkb.out.below hgkN hrel; have hcn' : w'.cell? ⟨g, q, none⟩ = some (.int .i64 X) := (hrel.cell (p := ⟨g, q, none⟩) hgN).trans hcn; have hcm' : w'.cell? ⟨bm, offm + q, none⟩ = some (.int .i64 y) := (hrel.cell (p := ⟨bm, offm + q, none⟩) hbmN).trans hcm; have hi12 : i < 12 := hi; have : i = 0 ∨ i = 1 ∨ i = 2 ∨ i = 3 ∨ i = 4 ∨ i = 5 ∨ i = 6 ∨ i = 7 ∨ i = 8 ∨ i = 9 ∨ i = 10 ∨ i = 11 := (by omega)
              rcases this with rfl | rfl | rfl | rfl | rfl | rfl | rfl | rfl | rfl | rfl | rfl | rfl
              all_goals
                simp only [List.getElem?_toArray, List.getElem?_cons_zero, List.getElem?_cons_succ, Option.some.injEq] at hoo; subst hoo
              · refine oper_val (v := .slice (some ⟨g, 0, none⟩) n cc) (w' := w') ?_ (hkeep _ rfl); unfold execOp; simp only [e5]
                go_simp
              · refine oper_val (v := .int .i64 q) (w' := w') ?_ (hkeep _ rfl); unfold execOp; simp only [e10]
                go_simp
              · have p0 : a.eval (.tmp 35) = .slice (some ⟨g, 0, none⟩) n cc := hpre ⟨0, .data⟩ (by simp) rfl; have p1 : a.eval (.tmp 36) = .int .i64 q := hpre ⟨1, .data⟩ (by simp) rfl; refine oper_val (v := .pointer (some ⟨g, q, none⟩)) (w' := w') ?_ (hkeep _ rfl); unfold execOp; simp only [p0, p1]
                go_simp
              · have p2 : a.eval (.tmp 37) = .pointer (some ⟨g, q, none⟩) := hpre ⟨2, .data⟩ (by simp) rfl; refine oper_val (v := .int .i64 X) (w' := w') ?_ (hkeep _ rfl); unfold execOp; simp only [p2]
                go_simp
              · refine oper_val (v := .agg (kcells C)) (w' := w') ?_ (hkeep _ rfl); unfold execOp; simp only [e8, kload C gk w' hkw, Sem.run_bind, Result.andThen_ok, Sem.run_pure]
              · refine oper_val (v := .slice (some ⟨bm, offm, none⟩) n c) (w' := w') ?_ (hkeep _ rfl); unfold execOp; simp only [e0]
                go_simp
              · refine oper_val (v := .int .i64 q) (w' := w') ?_ (hkeep _ rfl); unfold execOp; simp only [e10]
                go_simp
              · have p0 : a.eval (.tmp 40) = .slice (some ⟨bm, offm, none⟩) n c := hpre ⟨5, .data⟩ (by simp) rfl; have p1 : a.eval (.tmp 41) = .int .i64 q := hpre ⟨6, .data⟩ (by simp) rfl; refine oper_val (v := .pointer (some ⟨bm, offm + q, none⟩)) (w' := w') ?_ (hkeep _ rfl); unfold execOp; simp only [p0, p1]
                go_simp
              · have p2 : a.eval (.tmp 42) = .pointer (some ⟨bm, offm + q, none⟩) := hpre ⟨7, .data⟩ (by simp) rfl; refine oper_val (v := .int .i64 y) (w' := w') ?_ (hkeep _ rfl); unfold execOp; simp only [p2]
                go_simp
              · have p0 : a.eval (.tmp 39) = .agg (kcells C) := hpre ⟨4, .data⟩ (by simp) rfl; have p1 : a.eval (.tmp 43) = .int .i64 y := hpre ⟨8, .data⟩ (by simp) rfl; refine oper_call (f := 92) (args := #[.agg (kcells C), .int .i64 y]) ?_ (HTk.out w') ?_
                · unfold execOp
                  go_simp
                  exact ⟨by simpa [Act.eval] using p0, by simpa [Act.eval] using p1⟩
                · rintro e w8 ⟨rfl, hb8⟩; exact ⟨_, rfl, hK _ w8 hb8 trivial (fun j _ _ h => h) rfl⟩
              · have p0 : a.eval (.tmp 38) = .int .i64 X := hpre ⟨3, .data⟩ (by simp) rfl; have p1 : a.eval (.tmp 44) = .int .i64 tk := hpre ⟨9, .data⟩ (by simp) rfl; refine oper_val (v := .int .i64 z) (w' := w') ?_ (hkeep _ rfl); unfold execOp; simp only [p0, p1]
                go_simp
                exact Hz'.out
              · have p0 : a.eval (.tmp 35) = .slice (some ⟨g, 0, none⟩) n cc := hpre ⟨0, .data⟩ (by simp) rfl; have p1 : a.eval (.tmp 36) = .int .i64 q := hpre ⟨1, .data⟩ (by simp) rfl; refine oper_val (v := .pointer (some ⟨g, q, none⟩)) (w' := w') ?_ (hkeep _ rfl); unfold execOp; simp only [p0, p1]
                go_simp
            case last =>
              intro o a w5 hoo hrel hdef htm hfr hpre; simp only [List.length_cons, List.length_nil, Nat.reduceAdd, List.getElem?_toArray, List.getElem?_cons_zero, List.getElem?_cons_succ, Option.some.injEq] at hoo; subst hoo; have g0 : a.tmps.getD 35 undef = .slice (some ⟨g, 0, none⟩) n cc := hpre 0 (by simp); have g1 : a.tmps.getD 36 undef = .int .i64 q := hpre 1 (by simp); have g2 : a.tmps.getD 37 undef = .pointer (some ⟨g, q, none⟩) := hpre 2 (by simp); have g3 : a.tmps.getD 38 undef = .int .i64 X := hpre 3 (by simp); have g4 : a.tmps.getD 39 undef = .agg (kcells C) := hpre 4 (by simp); have g5 : a.tmps.getD 40 undef = .slice (some ⟨bm, offm, none⟩) n c := hpre 5 (by simp)
              have g6 : a.tmps.getD 41 undef = .int .i64 q := hpre 6 (by simp); have g7 : a.tmps.getD 42 undef = .pointer (some ⟨bm, offm + q, none⟩) := hpre 7 (by simp); have g8 : a.tmps.getD 43 undef = .int .i64 y := hpre 8 (by simp); have g9 : a.tmps.getD 44 undef = .int .i64 tk := hpre 9 (by simp); have g10 : a.tmps.getD 45 undef = .int .i64 z := hpre 10 (by simp); have g11 : a.tmps.getD 46 undef = .pointer (some ⟨g, q, none⟩) := hpre 11 (by simp); have h45 : a.eval (.tmp 45) = .int .i64 z := g10; have h46 : a.eval (.tmp 46) = .pointer (some ⟨g, q, none⟩) := g11; have ho5 := HoN.out.below hrel
              obtain ⟨hc5, hf5⟩ := ho5.cell hqn; have hop := Lib.hid (ho5.putN q z); have hb5 := Lib.hid (Below.setCell (p := (⟨g, q, none⟩ : Addr)) (hbN.trans (hrel.mono hbN.size)) hgl (.int .i64 z)); have hL5 := Lib.hid (HoL.out.below hrel); have hk5 := Lib.hid (hkb.out.below hgkN hrel); refine ⟨w5.setCell ⟨g, q, none⟩ (.int .i64 z), ?_, ?_⟩
              · unfold execOp; simp only [h45, h46]
                go_simp
              · have key := htm; simp only [List.foldl_cons, List.foldl_nil, g0, g1, g2, g3, g4, g5, g6, g7, g8, g9, g10, g11, List.setIfInBounds_toArray, List.set_cons_succ, List.set_cons_zero] at key; clear htm hfr hpre g0 g1 g2 g3 g4 g5 g6 g7 g8 g9 g10 g11 h45 h46; obtain ⟨tm, df⟩ := a
                dsimp only at key hdef
                subst key hdef; clear hc5 hf5 ho5
                go_wp2
                go_roundw
                case rel => exact ⟨k + 1, by omega, by go_num, by rw [HG1.out]; exact hop.out, hL5.out.far grown_set (fun b hb e => by have h1 := hL5.out.own_lo b hb; injection e with e; omega), Lib.hid (hk5.out.other (by omega)), hb5.out⟩
                case measure => simp [intOf]; omega
          · obtain rfl : k = s := by omega
            go_wp2
            go_roundw
            case rel => exact ⟨u + 1, by omega, by go_num, by rw [HG.out]; exact hoN, hbN⟩
            case measure => simp [intOf]; omega
      · obtain rfl : u = T := by omega
        have hgeI : ¬ (u : Int) < 2 * (s : Int) := (by have := HT.out; omega)
        go_wp2
        go_ret
        rw [HF.out]; exact retSl_mk ho hb
theorem b64_mvd {m : List Int} {s : Int} (h : mvd m s = true) : B64 m := fun k => by
  obtain ⟨a, b, _⟩ := mvd_nth h k; omega
theorem tabi : (Tryz.prog.info? 138).map (·.size) = some 21 := by kernel_rfl
theorem tcells_one (F : Nat → Nat) (A : Option Addr) (n c : Nat) : (tcells F A n c).all (·.oneCell') = true := by simp [tcells, Value.oneCell']
set_option maxHeartbeats 2000000 in
theorem narrowedByRules_any (s L Br : Nat) (At : Option Addr) (nt ct Bt : Nat) (rs : List RuleM) (A : Option Addr) (c nm B : Nat) (m : List Int) (w : World) (hTb : TbR w L Bt Br s rs At nt) (hBt : Bt ≤ w.heap.size) (hBr : Br ≤ Bt) (h : Rd w B A nm m) (hBm : B ≤ w.heap.size) (hs : s ∈ [2, 3, 4]) (hm : mvd m s = true) (hr : ∀ i, i < nt → rvR s (rat rs i) = true) (hnt : nt ≤ 20) :
    Calls Tryz.prog 128 #[.agg #[.int .i64 s, .slice At nt ct], .slice A nm c] w (RetSl w (nrTo s rs m nt)) := by
  have hlen := Lib.hid h.1; obtain ⟨⟨s2, s4⟩, hsq, hnm16, _⟩ := mvd_at hm; rw [h.1] at hsq hnm16
  have hnm0 : 0 < nm := by
    simp at hs
    rcases hs with rfl | rfl | rfl <;> omega
  obtain ⟨Wa, hWa⟩ : ∃ Wa, w.alloc (.cells #[.int .i64 s, .slice At nt ct] 84) = Wa := ⟨_, rfl⟩
  have hba : Below w.heap.size w Wa := by rw [← hWa]; exact (Below.refl _ _).alloc (Nat.le_refl _) _
  have hsa : Wa.heap.size = w.heap.size + 1 := by rw [← hWa]; simp
  have hra : Wa.heap[w.heap.size]? = some (.cells #[.int .i64 s, .slice At nt ct] 84) := by rw [← hWa]; exact heap_alloc_new w _
  have HCl := Lib.hid (clone_any A nm c B m Wa (h.below (hba.mono hBm)) (by omega) hnm0 (by omega)); have HS := Lib.hid (fun u (hu : u ≤ nt) => nrTo_sub (rs := rs) hm (fun i hi => hr i (by rw [← hTb.1]; exact hi)) u (by rw [hTb.1]; exact hu)); have HR := Lib.hid hr; have Hm := Lib.hid hm; have Hsq := Lib.hid hsq; have HTb := Lib.hid hTb; have hntl := hTb.1; have HBa := Lib.hid hba; clear hm hr hsq hTb hba
  go_enter Tryz.func128, Tryz.ntmps128
  go_wp2_with (go_at_call 77; refine HCl.out.mono ?_; rintro e w1 ⟨A1, c1, rfl, ho1, hb1⟩; have hr1 := (hb1.block w.heap.size (by omega)).trans hra; have hc1 := cell_of_row _ _ 1 _ _ (0, 0) hr1)
  obtain ⟨g, rfl, hgl, hgw⟩ := ho1.form hnm0; have HB1 := Lib.hid (step HBa.out hb1); have hb1s := hb1.size; clear hr1 hc1 hra hb1
  go_loopw [13] (fun i wr => ∃ u : Nat, u ≤ nt ∧ i = .int .i64 u ∧ Ow wr Wa.heap.size (some ⟨g, 0, none⟩) nm c1 (nrTo s rs m u) ∧ w1.grownBy wr (some g)) (fun i _ => nt - (intOf i).toNat)
  case atStart => exact ⟨0, Nat.zero_le _, rfl, ho1, World.grownBy.refl _ _⟩
  case round =>
    clear ho1; obtain ⟨u, hu, rfl, ho, hg⟩ := hrel
    by_cases hlt : u < nt
    · have hltI : (u : Int) < (nt : Int) := by omega
      have hbr : Below w.heap.size w wr := HB1.out.grown hg HB1.out.size (fun k e => by have := Option.some.inj e; omega); obtain ⟨b, rfl, _, hbB, hcc⟩ := (HTb.out.below (hbr.mono hBt) hBr).2 (by omega); obtain ⟨A', C', hrg, hrd⟩ := hcc u hlt; have hv0 := HR.out u hlt; obtain ⟨_, ⟨hn1, hn4⟩, _, hxin⟩ := rv_facts rfl hv0; have hmu := (HS.out u hu).mvd_ Hm.out; have HNx : Hid (nrTo s rs m (u + 1) = nrIn (rat rs u).xs (rmL (rat rs u).k (rat rs u).xs (rat rs u).v (nrTo s rs m u) s) (nrTo s rs m u) (rat rs u).xs.length) := Lib.hid rfl
      have hf := fun j (hj : j < (rat rs u).xs.length) => nm_rm hs hv0 hmu j hj
      have hF64 := rtF_lt s (rat rs u)
      have hms : ∀ i, i < nm → 0 ≤ nth (nrTo s rs m u) i ∧ nth (nrTo s rs m u) i < 32 := fun i _ => by obtain ⟨a, b, _⟩ := mvd_nth hmu i; omega
      obtain ⟨F, hF⟩ : ∃ F, F = rtF s (rat rs u) := ⟨_, rfl⟩; obtain ⟨f, hff⟩ : ∃ f, f = rmL (rat rs u).k (rat rs u).xs (rat rs u).v (nrTo s rs m u) s := ⟨_, rfl⟩; obtain ⟨xs, hxs⟩ : ∃ xs, xs = (rat rs u).xs := ⟨_, rfl⟩; rw [← hff] at HNx hf; rw [← hF] at hf hF64 hrg; rw [← hxs] at HNx hf hrd hrg hn1 hn4 hxin; obtain ⟨l, hl⟩ : ∃ l, l = xs.length := ⟨_, rfl⟩; rw [← hl] at HNx hf hrd hrg hn1 hn4 hxin; obtain ⟨o, hoo⟩ : ∃ o, o = nrTo s rs m u := ⟨_, rfl⟩; rw [← hoo] at HNx hf hms ho
      have hin : ∀ i, i < l → ∃ q : Nat, nth xs i = (q : Int) ∧ q < nm := fun i hi => by
        obtain ⟨y0, y1⟩ := hxin i hi; obtain ⟨q, hq⟩ := Int.eq_ofNat_of_zero_le y0; exact ⟨q, hq, by have := Hsq.out; omega⟩
      obtain ⟨W2, hW2⟩ : ∃ W2, (wr.alloc (.cells zeroTab 138)).setRow wr.heap.size (tcells F A' l C') = W2 := ⟨_, rfl⟩; have hr2 : W2.heap[wr.heap.size]? = some (.cells (tcells F A' l C') 138) := (by rw [← hW2]; exact setRow_heap (w := wr.alloc (.cells zeroTab 138)) wr.heap.size _ _ _ _ (heap_alloc_new wr _)); have hbW : Below wr.heap.size wr W2 := (by rw [← hW2]; exact ((Below.refl _ _).alloc (Nat.le_refl _) _).grown grown_sr0 (by simp) (fun k e => by have := Option.some.inj e; omega)); have hBt2 : Bt ≤ wr.heap.size := Nat.le_trans hBt hbr.size; have hgr := hg.size; have HNa := Lib.hid (narrow_any F A' C' l Br xs f g c1 nm Wa.heap.size o W2 (hrd.below (hbW.mono (Nat.le_trans hBr hBt2))) (by omega) (ho.below hbW) hn4 hF64 hin hms hf)
      have hg2 : w1.grownBy W2 (some g) := hg.trans (grown_of_below6 hbW); subst hW2; have HHr2 := Lib.hid hr2; have Hg2 := Lib.hid hg2; have HX : Hid (∀ w5, Ow w5 Wa.heap.size (some ⟨g, 0, none⟩) nm c1 (nrIn xs f o l) → Ow w5 Wa.heap.size (some ⟨g, 0, none⟩) nm c1 (nrTo s rs m (u + 1))) := Lib.hid (fun w5 h5 => by rw [HNx.out]; exact h5); have Hlt := Lib.hid hlt; have Hz := Lib.hid (heap_alloc_new wr (.cells zeroTab 138)); clear HNx hf hF64 hms hin hF hff hxs hl hoo hrd hv0 hmu hxin hbr hbW hr2 hg2 ho
      go_wp2_with (first
        | (refine wpList_load_mid rfl 138 _ rfl b (u * 21) rfl (tcells F A' l C').toList _ hrg Tryz.underlying138 rfl tabi ?_)
        | (refine wpList_store_row rfl 138 _ _ rfl wr.heap.size (tcells F A' l C') rfl rfl 138 zeroTab Hz.out tabi rfl (tcells_one F A' l C') ?_)
        | (refine wpList_load_row rfl 138 _ rfl wr.heap.size rfl 138 (tcells F A' l C') (0, 0) _ HHr2.out Tryz.underlying138 rfl tabi ?_)
        | (go_at_call 163; refine HNa.out.mono ?_; rintro e w5 ⟨rfl, ho5, hg5⟩))
      go_roundw
      case rel => exact ⟨u + 1, Hlt.out, by go_num, HX.out _ ho5, Hg2.out.trans hg5⟩
      case measure => have := Hlt.out; simp [intOf]; omega
    · obtain rfl : u = nt := by omega
      go_wp2
      go_ret
      exact retSl_mk (ho.mono (by omega)) (HB1.out.grown hg HB1.out.size (fun k e => by have := Option.some.inj e; omega))
set_option maxHeartbeats 1000000 in
theorem round_any (s L Br : Nat) (At : Option Addr) (nt ct Bt : Nat) (gi : List Int) (rs : List RuleM) (A : Option Addr) (c nm B : Nat) (m : List Int) (t : Int) (w : World) (hTb : t = 4 → TbR w L Bt Br s rs At nt) (hBt : Bt ≤ w.heap.size) (hBr : Br ≤ Bt) (h : Rd w B A nm m) (hBm : B ≤ w.heap.size) (hT : Tz w) (hs : s ∈ [2, 3, 4]) (hv : pvB s gi rs = true) (hm : mvd m s = true) (t1 : 1 ≤ t) (t4 : t ≤ 4) :
    Calls Tryz.prog 83 #[.agg #[.int .i64 s, .slice At nt ct], .slice A nm c, .int .i64 t] w (RetSl w (nbL s gi rs m t)) := by
  have hb64 := b64_mvd hm; obtain ⟨⟨s2, s4⟩, _, hnm16, _⟩ := mvd_at hm; rw [h.1] at hnm16; obtain ⟨Wa, hWa⟩ : ∃ Wa, w.alloc (.cells #[.int .i64 s, .slice At nt ct] 84) = Wa := ⟨_, rfl⟩
  have hba : Below w.heap.size w Wa := by rw [← hWa]; exact (Below.refl _ _).alloc (Nat.le_refl _) _
  have hra : Wa.heap[w.heap.size]? = some (.cells #[.int .i64 s, .slice At nt ct] 84) := by rw [← hWa]; exact heap_alloc_new w _
  have c0 := cell_of_row _ _ 0 _ _ (0, 0) hra; have hBa := Nat.le_trans hBm hba.size; have hRa := h.below (hba.mono hBm); have hTa := hT.below hT.lt hba
  have ht : t = 1 ∨ t = 2 ∨ t = 3 ∨ t = 4 := by omega
  have Hi := Lib.hid nar_info
  rcases ht with rfl | rfl | rfl | rfl
  · have HL := Lib.hid (show nbL s gi rs m 1 = nsL m s nm by unfold nbL; rw [hv, hm, Bool.true_and, if_pos rfl, if_pos rfl, h.1]); have HC := Lib.hid (implNarrowSingles A c nm B m s Wa hRa hb64 hTa hBa (by omega) (by omega)); clear hTb hm hv h hb64
    go_enter Tryz.func83, Tryz.ntmps83
    go_wp2_with (go_at_call 31; refine HC.out.mono ?_; rintro e w1 ⟨A1, c1, rfl, ho1, hb1⟩)
    go_ret
    rw [HL.out]; exact ⟨A1, c1, rfl, ho1.mono hba.size, step hba hb1⟩
  · have HL := Lib.hid (show nbL s gi rs m 2 = nhL m s by unfold nbL; rw [hv, hm, Bool.true_and, if_pos rfl, if_neg (by omega), if_pos rfl]); have HC := Lib.hid (implNarrowHidden A c nm B m s Wa hRa hb64 hBa (by omega) (by omega)); clear hTb hm hv h hb64
    go_enter Tryz.func83, Tryz.ntmps83
    go_wp2_with (go_at_call 32; refine HC.out.mono ?_; rintro e w1 ⟨A1, c1, rfl, ho1, hb1⟩)
    go_ret
    rw [HL.out]; exact ⟨A1, c1, rfl, ho1.mono hba.size, step hba hb1⟩
  · have HL := Lib.hid (show nbL s gi rs m 3 = npL m s by unfold nbL; rw [hv, hm, Bool.true_and, if_pos rfl, if_neg (by omega), if_neg (by omega), if_pos rfl]); have HC := Lib.hid (implNarrowPairs A c nm B m s Wa hRa hb64 hBa (by omega) (by omega)); clear hTb hm hv h hb64
    go_enter Tryz.func83, Tryz.ntmps83
    go_wp2_with (go_at_call 33; refine HC.out.mono ?_; rintro e w1 ⟨A1, c1, rfl, ho1, hb1⟩)
    go_ret
    rw [HL.out]; exact ⟨A1, c1, rfl, ho1.mono hba.size, step hba hb1⟩
  · have hTb := hTb rfl; have HL := Lib.hid (show nbL s gi rs m 4 = nrTo s rs m nt by unfold nbL nrL; rw [hv, hm, Bool.true_and, if_pos rfl, if_neg (by omega), if_neg (by omega), if_neg (by omega), if_pos rfl, if_pos rfl, hTb.1]); have hall := (pv_gv hv).2.2; have HC := Lib.hid (narrowedByRules_any s L Br At nt ct Bt rs A c nm B m Wa (hTb.below (hba.mono hBt) hBr) (Nat.le_trans hBt hba.size) hBr hRa hBa hs hm (fun i hi => hall i (by rw [hTb.1]; exact hi)) (by rw [← hTb.1]; exact (pv_gv hv).2.1)); clear hTb hm hv h hb64 hall
    go_enter Tryz.func83, Tryz.ntmps83
    go_wp2_with (first
      | (refine wpList_load_row rfl 84 _ rfl w.heap.size rfl 84 #[.int .i64 s, .slice At nt ct] (0, 0) _ hra Tryz.underlying84 rfl (Hi.out _ _) ?_)
      | (go_at_call 128; refine HC.out.mono ?_; rintro e w1 ⟨A1, c1, rfl, ho1, hb1⟩))
    go_ret
    rw [HL.out]; exact ⟨A1, c1, rfl, ho1.mono hba.size, step hba hb1⟩
def NextPost (w : World) (nm : Nat) : Option (List Int × Nat) → Ending → World → Prop
  | none, e, w' => e = .returned (.tuple #[.slice none 0 0, .int .i64 0]) ∧ Below w.heap.size w w'
  | some q, e, w' => (∃ b c, e = .returned (.tuple #[.slice (some ⟨b, 0, none⟩) nm c, .int .i64 (q.2 : Nat)]) ∧ w.heap.size ≤ b ∧ Ow w' w.heap.size (some ⟨b, 0, none⟩) nm c q.1) ∧ Below w.heap.size w w'
set_option maxHeartbeats 2000000 in
theorem next_any (s L Br : Nat) (At : Option Addr) (nt ct Bt : Nat) (gi : List Int) (rs : List RuleM) (A : Option Addr) (c nm B : Nat) (m : List Int) (most : Nat) (w : World) (hTb : 4 ≤ most → TbR w L Bt Br s rs At nt) (hBt : Bt ≤ w.heap.size) (hBr : Br ≤ Bt) (h : Rd w B A nm m) (hBm : B ≤ w.heap.size) (hT : Tz w) (hs : s ∈ [2, 3, 4]) (hv : pvB s gi rs = true) (hm : mvd m s = true) (h4 : most ≤ 4) :
    Calls Tryz.prog 135 #[.agg #[.int .i64 s, .slice At nt ct], .slice A nm c, .int .i64 most] w (NextPost w nm (ntF s gi rs m most 1)) := by
  obtain ⟨_, hsq, hnm16, _⟩ := mvd_at hm; rw [h.1] at hsq hnm16
  have hnm0 : 0 < nm := by
    simp at hs
    rcases hs with rfl | rfl | rfl <;> omega
  obtain ⟨Wa, hWa⟩ : ∃ Wa, w.alloc (.cells #[.int .i64 s, .slice At nt ct] 84) = Wa := ⟨_, rfl⟩
  have hba : Below w.heap.size w Wa := by rw [← hWa]; exact (Below.refl _ _).alloc (Nat.le_refl _) _
  have hra : Wa.heap[w.heap.size]? = some (.cells #[.int .i64 s, .slice At nt ct] 84) := by rw [← hWa]; exact heap_alloc_new w _
  have hsa : Wa.heap.size = w.heap.size + 1 := by rw [← hWa]; simp
  have Hi := Lib.hid nar_info; have HRo := Lib.hid (fun (t : Int) (w' : World) (hb : Below w.heap.size w w') (t1 : 1 ≤ t) (t4 : t ≤ most) => round_any s L Br At nt ct Bt gi rs A c nm B m t w' (fun e => (hTb (by omega)).below (hb.mono hBt) hBr) (Nat.le_trans hBt hb.size) hBr (h.below (hb.mono hBm)) (Nat.le_trans hBm hb.size) (hT.below hT.lt hb) hs hv hm t1 (by omega)); have HRd := Lib.hid (fun (w' : World) (hb : Below w.heap.size w w') => h.below (hb.mono hBm)); have HSb := Lib.hid (fun (t : Int) (t1 : 1 ≤ t) (t4 : t ≤ most) => (nb_sub (rs := rs) (gi := gi) hv hm t1 (show t ≤ 4 by omega)).1.trans h.1)
  have HBa := Lib.hid hba; have HRa := Lib.hid hra; clear hTb h hT hv hm hba hra hsq
  go_enter Tryz.func135, Tryz.ntmps135
  go_wp2
  go_loopw [8] (fun i wr => ∃ t : Nat, 1 ≤ t ∧ t ≤ most + 1 ∧ i = .int .i64 t ∧ (∀ v, 1 ≤ v → v < t → nbL s gi rs m v = m) ∧ Below Wa.heap.size Wa wr) (fun i _ => most + 1 - (intOf i).toNat)
  case atStart => exact ⟨1, by omega, by omega, rfl, fun v h1 h2 => absurd h2 (by omega), Below.refl _ _⟩
  case round =>
    obtain ⟨t, t1, t5, rfl, hno, hb⟩ := hrel; have hbw := HBa.out.trans (hb.mono (by omega))
    by_cases hlt : t ≤ most
    · have hltI : (t : Int) ≤ (most : Int) := by omega
      have hrr := (hb.block w.heap.size (by omega)).trans HRa.out; have HC := Lib.hid (HRo.out t wr hbw (by omega) hltI); have Hq := HSb.out t (by omega) hltI; obtain ⟨q, hq⟩ : ∃ q, q = nbL s gi rs m t := ⟨_, rfl⟩; rw [← hq] at HC Hq; have Hlq := Lib.hid Hq; have Hbw := Lib.hid hbw; have hb' := hb; clear Hq
      by_cases e : q = m
      · have hsm : same q m = true := (by rw [e]; exact same_refl m)
        have Hno := Lib.hid (show ∀ v, 1 ≤ v → v < t + 1 → nbL s gi rs m v = m from fun v h1 h2 => by
          by_cases ev : v = t
          · subst ev; rw [← hq]; exact e
          · exact hno v h1 (by omega))
        clear e hq hno hbw
        go_wp2_with (first
          | (refine wpList_load_row rfl 84 _ rfl w.heap.size rfl 84 #[.int .i64 s, .slice At nt ct] (0, 0) _ hrr Tryz.underlying84 rfl (Hi.out _ _) ?_)
          | (go_at_call 83; refine HC.out.mono ?_; rintro e w1 ⟨A1, c1, rfl, ho1, hb1⟩; have hb01 := step Hbw.out hb1; rw [Hlq.out] at ho1)
          | (rw [Hlq.out]; go_at_call 164; refine (equal_any _ _ _ _ _ _ _ _ _ _ _ ho1.rd (HRd.out _ hb01) (by omega)).mono ?_; rintro e w2 ⟨rfl, hb2⟩; rw [hsm]))
        go_roundw
        case rel => exact ⟨t + 1, by omega, by omega, by go_num, Hno.out, (hb'.trans (hb1.mono hb'.size)).trans (hb2.mono (Nat.le_trans hb'.size hb1.size))⟩
        case measure => simp [intOf]; omega
      · have hsm : same q m = false := (by simp [same, e]); have HN := Lib.hid (show ntF s gi rs m most 1 = some (q, t) from ntF_at hno (by omega) (by omega) hq e); clear e hq hno hbw
        go_wp2_with (first
          | (refine wpList_load_row rfl 84 _ rfl w.heap.size rfl 84 #[.int .i64 s, .slice At nt ct] (0, 0) _ hrr Tryz.underlying84 rfl (Hi.out _ _) ?_)
          | (go_at_call 83; refine HC.out.mono ?_; rintro e w1 ⟨A1, c1, rfl, ho1, hb1⟩; have hb01 := step Hbw.out hb1; rw [Hlq.out] at ho1)
          | (rw [Hlq.out]; go_at_call 164; refine (equal_any _ _ _ _ _ _ _ _ _ _ _ ho1.rd (HRd.out _ hb01) (by omega)).mono ?_; rintro e w2 ⟨rfl, hb2⟩; rw [hsm]))
        go_ret2
        rw [HN.out]; obtain ⟨b, rfl, hbl, hbs⟩ := ho1.form (by omega); have hsz := Hbw.out.size; exact ⟨⟨b, c1, rfl, by omega, (ho1.below hb2).mono hsz⟩, step hb01 hb2⟩
    · obtain rfl : t = most + 1 := by omega
      have HN := Lib.hid (show ntF s gi rs m most 1 = none from ntF_of (fun v h1 h2 => hno v h1 (by omega))); have hltI : ¬ ((most + 1 : Nat) : Int) ≤ (most : Int) := (by omega)
      go_wp2
      go_ret2
      rw [HN.out]; exact ⟨rfl, hbw⟩
def nvB (s : Int) (gi : List Int) (rs : List RuleM) (m : List Int) (t : Int) : Bool := inr t 1 4 && pvB s gi rs && mvd m s
theorem techniqueKnown_any (t : Int) (w : World) : Calls Tryz.prog 97 #[.int .i64 t] w fun e w' => e = .returned (.bool (inr t 1 4)) ∧ w = w' := by
  by_cases h1 : (1 : Int) ≤ t
  · by_cases h4 : t ≤ (4 : Int)
    · have hr := Lib.hid (show inr t 1 4 = true by unfold inr; simp; omega)
      go_enter Tryz.func97, Tryz.ntmps97
      go_wp2
      go_ret
      exact ⟨by rw [hr.out]; try simp, rfl⟩
    · have hr := Lib.hid (show inr t 1 4 = false by unfold inr; simp; omega)
      go_enter Tryz.func97, Tryz.ntmps97
      go_wp2
      go_ret
      exact ⟨by rw [hr.out]; try simp, rfl⟩
  · have hr := Lib.hid (show inr t 1 4 = false by unfold inr; simp; omega)
    go_enter Tryz.func97, Tryz.ntmps97
    go_wp2
    go_ret
    exact ⟨by rw [hr.out]; try simp, rfl⟩
set_option maxHeartbeats 1000000 in
theorem narrowingValid_any (s : Int) (Ag : Option Addr) (ng cg Bg : Nat) (gi : List Int) (Ar : Option Addr) (nr cr Br : Nat) (rs : List RuleM) (Am : Option Addr) (nm cm Bm : Nat) (m : List Int) (t : Int) (w : World) (hp : PGc w s Ag ng cg Bg gi Ar nr cr Br rs) (hm : Rd w Bm Am nm m) (hBm : Bm ≤ w.heap.size) (hm64 : B64 m) (hmm : nm ≤ 1099511627776) (hsb : -9223372036854775808 ≤ s ∧ s ≤ 9223372036854775807) :
    Calls Tryz.prog 81 #[.agg #[.int .i64 s, .slice Ag ng cg, .slice Ar nr cr], .slice Am nm cm, .int .i64 t] w fun e w' => e = .returned (.bool (nvB s gi rs m t)) ∧ Below w.heap.size w w' := by
  have hx0 := pbox_new w s Ag ng cg Ar nr cr 26; have hb0 : Below w.heap.size w (w.alloc (.cells #[.int .i64 s, .slice Ag ng cg, .slice Ar nr cr] 26)) := (Below.refl _ _).alloc (Nat.le_refl _) _
  have hs0 : w.heap.size < (w.alloc (.cells #[.int .i64 s, .slice Ag ng cg, .slice Ar nr cr] 26)).heap.size := by simp
  obtain ⟨z0, z1, z2⟩ := id hx0; have HV := Lib.hid (fun w' (hb : Below w.heap.size w w') => valid_any s Ag ng cg Bg gi Ar nr cr Br rs w' (hp.below hb)); have HM := Lib.hid (fun w' (hb : Below w.heap.size w w') => implMasksValid Am cm nm Bm m s w' (hm.below (hb.mono hBm)) hm64 (Nat.le_trans hBm hb.size) hmm hsb); cases hr : inr t 1 4
  · have HL := Lib.hid (show nvB s gi rs m t = false by simp [nvB, hr])
    go_enter Tryz.func81, Tryz.ntmps81
    go_wp2_with (go_at_call 97; refine (techniqueKnown_any t _).mono ?_; rintro e wq ⟨rfl, rfl⟩; rw [hr])
    go_ret
    exact ⟨by rw [HL.out]; try simp, hb0⟩
  · cases hv : pvB s gi rs
    · have HL := Lib.hid (show nvB s gi rs m t = false by simp [nvB, hv])
      go_enter Tryz.func81, Tryz.ntmps81
      go_wp2_with (first
        | (go_at_call 97; refine (techniqueKnown_any t _).mono ?_; rintro e wq ⟨rfl, rfl⟩; rw [hr])
        | (go_at_call 75; refine (HV.out _ hb0).mono ?_; rintro e w1 ⟨rfl, hb1⟩; rw [hv]; have h01 := step hb0 hb1))
      go_ret
      exact ⟨by rw [HL.out]; try simp, h01⟩
    · have HL := Lib.hid (show nvB s gi rs m t = mvd m s by simp [nvB, hv, hr])
      go_enter Tryz.func81, Tryz.ntmps81
      go_wp2_with (first
        | (go_at_call 97; refine (techniqueKnown_any t _).mono ?_; rintro e wq ⟨rfl, rfl⟩; rw [hr])
        | (go_at_call 75; refine (HV.out _ hb0).mono ?_; rintro e w1 ⟨rfl, hb1⟩; rw [hv]; have h01 := step hb0 hb1; obtain ⟨c0, c1, c2⟩ := hx0.below hs0 hb1)
        | (go_at_call 78; refine (HM.out _ h01).mono ?_; rintro e w2 ⟨rfl, hb2⟩; have h02 := step h01 hb2))
      go_ret
      exact ⟨by rw [HL.out]; try simp, h02⟩
theorem nv_ok {s : Int} {gi : List Int} {rs : List RuleM} {m : List Int} {t : Int} (h : nvB s gi rs m t = true) : (1 ≤ t ∧ t ≤ 4) ∧ pvB s gi rs = true ∧ mvd m s = true ∧ ∃ S : Nat, s = S ∧ S ∈ [2, 3, 4] := by
  unfold nvB at h; simp only [Bool.and_eq_true] at h; obtain ⟨⟨h1, h2⟩, h3⟩ := h; obtain ⟨⟨s2, s4⟩, _⟩ := mvd_at h3; obtain ⟨S, rfl⟩ := Int.eq_ofNat_of_zero_le (show 0 ≤ s by omega); refine ⟨inr_t h1, h2, h3, S, rfl, ?_⟩
  have : S = 2 ∨ S = 3 ∨ S = 4 := by omega
  simpa using this
structure Aside (D : Nat) (X Y : World) : Prop where
  os : Y.os = X.os
  tape : Y.tape = X.tape
  output : Y.output = X.output
  size : X.heap.size ≤ Y.heap.size
  block : ∀ k, k < X.heap.size → k ≠ D → k ≠ D + 1 → Y.heap[k]? = X.heap[k]?
theorem Aside.of_below {D : Nat} {X Y : World} (h : Below X.heap.size X Y) : Aside D X Y := ⟨h.os, h.tape, h.output, h.size, fun k hk _ _ => h.block k hk⟩
theorem Aside.of_put {D l : Nat} {X : World} (o : Obj) (h : l = D ∨ l = D + 1) : Aside D X (X.putObj l o) :=
  ⟨rfl, rfl, rfl, by simp, fun k _ h1 h2 => World.putObj_heap_other (by omega)⟩
theorem Aside.below {D : Nat} {X Y : World} (h : Aside D X Y) (hD : D ≤ X.heap.size) : Below D X Y := ⟨h.os, h.tape, h.output, h.size, fun k hk => h.block k (by omega) (by omega) (by omega)⟩
def SeqT (P : Program) (gf : Nat) (lb : Array Value) (Base : World → Prop) (rounds : List (Nat × List Int)) : Prop :=
  ∀ (l : Nat) (J : List (Nat × List Int) → World → Prop) (Jx : World → Prop) (W : World),
    (∀ pre X, J pre X → Base X) →
    (∀ pre X Y, J pre X → Below X.heap.size X Y → J pre Y) →
    (∀ X Y, Jx X → Below X.heap.size X Y → Jx Y) →
    (∀ pre t x X b n c, J pre X → (∃ tl, rounds = pre ++ (t, x) :: tl) → W.heap.size ≤ b → Ow X W.heap.size (some ⟨b, 0, none⟩) n c x →
      YieldAt Fence.wide 0 P l #[.int .i64 (t : Nat), .slice (some ⟨b, 0, none⟩) n c] X fun e Y => X.heap.size ≤ Y.heap.size ∧ Y.heap[b]? = X.heap[b]? ∧ ((e = .returned (.bool true) ∧ J (pre ++ [(t, x)]) Y) ∨ (e = .returned (.bool false) ∧ Jx Y))) →
    J [] W →
    Calls P gf (#[.func (.yield l) #[] #[]] ++ lb) W fun e Y => (∃ v, e = .returned v) ∧ (J rounds Y ∨ Jx Y)
def rndPost (D b : Nat) (I : List (Nat × List Int) → World → Prop) (Ix : Code → World → Prop) (xs : List (Nat × List Int)) (X : World) : Exit → Act → World → Prop
  | .normal, _, Y => (X.heap.size ≤ Y.heap.size ∧ ∀ k, k = b ∨ k = D ∨ k = D + 1 → Y.heap[k]? = X.heap[k]?) ∧ I xs Y
  | .ret, _, Y => (X.heap.size ≤ Y.heap.size ∧ ∀ k, k = b ∨ k = D ∨ k = D + 1 → Y.heap[k]? = X.heap[k]?) ∧ Ix .ret Y
  | .exit id, _, Y => (X.heap.size ≤ Y.heap.size ∧ ∀ k, k = b ∨ k = D ∨ k = D + 1 → Y.heap[k]? = X.heap[k]?) ∧ Ix (.exit id) Y
  | .goto t, _, Y => (X.heap.size ≤ Y.heap.size ∧ ∀ k, k = b ∨ k = D ∨ k = D + 1 → Y.heap[k]? = X.heap[k]?) ∧ Ix (.goto t) Y
  | .panic _, _, _ => False
  | .outgrown, _, _ => False
theorem range_rounds {P : Program} (m : Nat) {g : Operand} {ps : Array Tmp} {assign body : Code} {Q : Exit → Act → World → Prop} {a : Act} {w : World}
    {gf : Nat} {lb : Array Value} (hg : a.eval g = .func (.func gf) #[] lb) (eg : ∀ args w, (callFunc gf args).run P w = .ok (.enter gf args) w) (hps : ps.size = 2)
    {Base : World → Prop} {rounds : List (Nat × List Int)} (hseq : SeqT P gf lb Base rounds)
    (I : List (Nat × List Int) → World → Prop) (Ix : Code → World → Prop) (hIb : ∀ pre X, I pre X → Base X)
    (hI : ∀ pre X Y, I pre X → Aside w.heap.size X Y → I pre Y) (hIx : ∀ c X Y, Ix c X → Aside w.heap.size X Y → Ix c Y) (h0 : I [] w) (a₁ : Value → Value → Act)
    (hassign : ∀ (l : Nat) (u v : Value) (W : World) (K : Act → World → Prop), K (a₁ u v) W →
      assign.wpIn (Fence.wide.inRound l) m P (Exit.then K (fun _ _ _ => False)) { tmps := (ps.zip #[u, v]).foldl (fun t (p, v) => t.setIfInBounds p v) a.tmps, defers := [] } W)
    (hbody : ∀ (l : Nat) (pre : List (Nat × List Int)) (t : Nat) (x : List Int) (X : World) (b n c : Nat), I pre X → (∃ tl, rounds = pre ++ (t, x) :: tl) → w.heap.size + 2 ≤ b → w.heap.size + 2 ≤ X.heap.size → Ow X (w.heap.size + 2) (some ⟨b, 0, none⟩) n c x → (∃ o, X.heap[w.heap.size]? = some (.deferred o)) → (∃ o, X.heap[w.heap.size + 1]? = some (.loop o)) →
      body.wpIn (Fence.wide.inRound l) m P (rndPost w.heap.size b I Ix (pre ++ [(t, x)]) X) (a₁ (.int .i64 (t : Nat)) (.slice (some ⟨b, 0, none⟩) n c)) X)
    (hdone : ∀ (D : Nat) (W : World), w.heap.size ≤ D → I rounds W → W.heap[D]? = some (.deferred (some [])) → Q .normal { a with defers := { target := .collected D, args := #[] } :: a.defers } W)
    (hstop : ∀ (D : Nat) (c : Code) (W : World), w.heap.size ≤ D → Ix c W → W.heap[D]? = some (.deferred (some [])) → c.wpIn Fence.wide m P Q { a with defers := { target := .collected D, args := #[] } :: a.defers } W) :
    (Code.rangeFunc g ps assign body).wpIn Fence.wide m P Q a w := by
  refine wpIn_rangeFunc ?_; intro fn _
  obtain ⟨rec, hrec⟩ : ∃ rec : LoopState → Option Code → Loop, rec = fun st pe => { state := st, pending := pe, fn, tmps := a.tmps, params := ps, assign, body, defers := w.heap.size } := ⟨_, rfl⟩
  obtain ⟨W1, hW1⟩ : ∃ W1, (w.alloc (.deferred (some []))).alloc (.loop (rec .ready none)) = W1 := ⟨_, rfl⟩
  have hs1 : W1.heap.size = w.heap.size + 2 := by rw [← hW1]; simp
  have hL1 : W1.heap[w.heap.size + 1]? = some (.loop (rec .ready none)) := by
    rw [← hW1]; have := World.alloc_heap_new (w.alloc (.deferred (some []))) (.loop (rec .ready none)); rwa [World.size_alloc] at this
  have hK1 : W1.heap[w.heap.size]? = some (.deferred (some [])) := by
    rw [← hW1]; exact (Below.heap_alloc _ _ _ (by simp)).trans (World.alloc_heap_new w _)
  have hb1 : Below w.heap.size w W1 := by
    rw [← hW1]; exact ((Below.refl _ w).alloc (Nat.le_refl _) _).alloc (by simp) _
  refine ⟨w.heap.size + 1, [{ target := .collected w.heap.size, args := #[] }], W1, { target := .fn (.func gf) lb, args := #[.func (.yield (w.heap.size + 1)) #[] #[]] }, W1, gf,
    #[.func (.yield (w.heap.size + 1)) #[] #[]] ++ lb, W1, ?_, ?_, ?_, ?_, fun h => by simp [Fence.wide] at h, ?_⟩
  · rw [← hW1, hrec]; exact run_enterLoop_outer _ _ _ _ _
  · simp only [resolve, hg]
    simp [go_sem]
  · intro f' _; trivial
  · simp [invoke, go_sem, eg]
  · refine callsIn_wide.2 ((hseq (w.heap.size + 1)
      (fun pre W => I pre W ∧ W.heap[w.heap.size + 1]? = some (.loop (rec .ready none)) ∧ W.heap[w.heap.size]? = some (.deferred (some [])))
      (fun W => ∃ c, Ix c W ∧ W.heap[w.heap.size + 1]? = some (.loop (rec .done (some c))) ∧ W.heap[w.heap.size]? = some (.deferred (some [])))
      W1 (fun pre X h => hIb pre X h.1)
      (fun pre X Y hs hb => ⟨hI pre X Y hs.1 (Aside.of_below hb), (hb.block _ (Array.getElem?_eq_some_iff.1 hs.2.1).1).trans hs.2.1, (hb.block _ (Array.getElem?_eq_some_iff.1 hs.2.2).1).trans hs.2.2⟩)
      (fun X Y hs hb => by
        obtain ⟨c, h1, h2, h3⟩ := hs
        exact ⟨c, hIx c X Y h1 (Aside.of_below hb), (hb.block _ (Array.getElem?_eq_some_iff.1 h2).1).trans h2, (hb.block _ (Array.getElem?_eq_some_iff.1 h3).1).trans h3⟩)
      ?_ ⟨hI [] w W1 h0 ⟨hb1.os, hb1.tape, hb1.output, hb1.size, fun k hk _ _ => hb1.block k hk⟩, hL1, hK1⟩).mono ?_)
    · rintro pre t x X b n c ⟨hi, hl, hk⟩ hx hbw hown; have hlt : w.heap.size + 1 < X.heap.size := (Array.getElem?_eq_some_iff.1 hl).1; have hy := run_yield (P := P) (args := #[.int .i64 (t : Nat), .slice (some ⟨b, 0, none⟩) n c]) hl (by rw [hrec]; simp [hps]); rw [hrec] at hy; refine ⟨fn, _, assign, body, hy, roundIn_any (m := m) (roundIn_of_wpIn trivial (hassign _ (.int .i64 (t : Nat)) (.slice (some ⟨b, 0, none⟩) n c) X _ ⟨_, run_beginRound hl (by rw [hrec]), ?_⟩))⟩; obtain ⟨X2, hX2⟩ : ∃ X2, X.putObj (w.heap.size + 1) (.loop { rec .ready none with state := .busy }) = X2 := ⟨_, rfl⟩; have hl2 : X2.heap[w.heap.size + 1]? = some (.loop { rec .ready none with state := .busy }) := (by rw [← hX2]; exact World.putObj_heap_same hlt)
      have hk2 : X2.heap[w.heap.size]? = some (.deferred (some [])) := (by rw [← hX2]; exact (World.putObj_heap_other (by omega)).trans hk); have hA2 : Aside w.heap.size X X2 := (by rw [← hX2]; exact Aside.of_put _ (.inr rfl)); have hb2 : X2.heap[b]? = X.heap[b]? := (by rw [← hX2]; exact World.putObj_heap_other (by omega)); have hown2 : Ow X2 (w.heap.size + 2) (some ⟨b, 0, none⟩) n c x := (by rw [← hs1]; exact hown.same hb2); have hsz2 := hA2.size; rw [hX2]; refine wpIn_mono (hbody _ pre t x X2 b n c (hI _ _ _ hi hA2) hx (by omega) (by omega) hown2 ⟨_, hk2⟩ ⟨_, hl2⟩) ?_
      have fin : ∀ (jump : Option Code) (W3 : World), (X2.heap.size ≤ W3.heap.size ∧ ∀ k, k = b ∨ k = w.heap.size ∨ k = w.heap.size + 1 → W3.heap[k]? = X2.heap[k]?) →
          (Instr.endRound (w.heap.size + 1) jump).run P W3 = .ok (.bool jump.isNone) (W3.putObj (w.heap.size + 1) (.loop (rec (if jump.isNone then .ready else .done) jump))) ∧
          Aside w.heap.size W3 (W3.putObj (w.heap.size + 1) (.loop (rec (if jump.isNone then .ready else .done) jump))) ∧
          X.heap.size ≤ (W3.putObj (w.heap.size + 1) (.loop (rec (if jump.isNone then .ready else .done) jump))).heap.size ∧
          (W3.putObj (w.heap.size + 1) (.loop (rec (if jump.isNone then .ready else .done) jump))).heap[b]? = X.heap[b]? ∧
          (W3.putObj (w.heap.size + 1) (.loop (rec (if jump.isNone then .ready else .done) jump))).heap[w.heap.size + 1]? = some (.loop (rec (if jump.isNone then .ready else .done) jump)) ∧
          (W3.putObj (w.heap.size + 1) (.loop (rec (if jump.isNone then .ready else .done) jump))).heap[w.heap.size]? = some (.deferred (some [])) := fun jump W3 hk3 => by
        have hl3 := (hk3.2 (w.heap.size + 1) (by omega)).trans hl2; have hlt3 := (Array.getElem?_eq_some_iff.1 hl3).1; have := run_endRound (P := P) jump hl3; rw [hrec] at this ⊢; exact ⟨this, Aside.of_put _ (.inr rfl), by have := hk3.1; simp; omega, (World.putObj_heap_other (by omega)).trans ((hk3.2 b (.inl rfl)).trans hb2), World.putObj_heap_same hlt3, (World.putObj_heap_other (by omega)).trans ((hk3.2 _ (.inr (.inl rfl))).trans hk2)⟩
      rintro e a3 W3 hp
      cases e with
      | normal =>
        obtain ⟨hk3, hi3⟩ := hp; obtain ⟨hr, hb4, hm4, hm5, hl4, hk4⟩ := fin none W3 hk3; exact ⟨_, _, hr, hm4, hm5, .inl ⟨rfl, hI _ _ _ hi3 hb4, hl4, hk4⟩⟩
      | ret =>
        obtain ⟨hk3, hi3⟩ := hp; obtain ⟨hr, hb4, hm4, hm5, hl4, hk4⟩ := fin (some .ret) W3 hk3; exact ⟨_, _, hr, hm4, hm5, .inr ⟨rfl, .ret, hIx _ _ _ hi3 hb4, hl4, hk4⟩⟩
      | exit id =>
        obtain ⟨hk3, hi3⟩ := hp; obtain ⟨hr, hb4, hm4, hm5, hl4, hk4⟩ := fin (some (.exit id)) W3 hk3; exact ⟨_, _, hr, hm4, hm5, .inr ⟨rfl, .exit id, hIx _ _ _ hi3 hb4, hl4, hk4⟩⟩
      | goto t' =>
        obtain ⟨hk3, hi3⟩ := hp; obtain ⟨hr, hb4, hm4, hm5, hl4, hk4⟩ := fin (some (.goto t')) W3 hk3; exact ⟨_, _, hr, hm4, hm5, .inr ⟨rfl, .goto t', hIx _ _ _ hi3 hb4, hl4, hk4⟩⟩
      | panic ch => exact hp.elim
      | outgrown => exact hp.elim
    · rintro e W2 ⟨⟨v, rfl⟩, (⟨hi, hl, hk⟩ | ⟨c, hi, hl, hk⟩)⟩
      · exact ⟨none, _, by have := run_endLoop (P := P) hl (by rw [hrec]; simp); rw [hrec] at this; exact this, hdone _ _ (Nat.le_refl _) (hI _ _ _ hi (Aside.of_put _ (.inr rfl))) ((World.putObj_heap_other (by omega)).trans hk)⟩
      · exact ⟨some c, _, by have := run_endLoop (P := P) hl (by rw [hrec]; simp); rw [hrec] at this; exact this, hstop _ c _ (Nat.le_refl _) (hIx _ _ _ hi (Aside.of_put _ (.inr rfl))) ((World.putObj_heap_other (by omega)).trans hk)⟩
theorem range_rounds2 {P : Program} (m : Nat) {g : Operand} {p p' q : Nat} {assign body : Code} {Q : Exit → Act → World → Prop} {a : Act} {w : World}
    {gf : Nat} {lb : Array Value} (hg : a.eval g = .func (.func gf) #[] lb) (eg : ∀ args w, (callFunc gf args).run P w = .ok (.enter gf args) w)
    {Base : World → Prop} {rounds : List (Nat × List Int)} (hseq : SeqT P gf lb Base rounds)
    (I : List (Nat × List Int) → World → Prop) (Ix : Code → World → Prop) (hIb : ∀ pre X, I pre X → Base X)
    (hI : ∀ pre X Y, I pre X → Aside w.heap.size X Y → I pre Y) (hIx : ∀ c X Y, Ix c X → Aside w.heap.size X Y → Ix c Y) (h0 : I [] w)
    (hassign : ∀ (l : Nat) (u v : Value) (W : World) (K : Act → World → Prop), K { tmps := ((a.tmps.setIfInBounds p u).setIfInBounds p' v).setIfInBounds q v, defers := [] } W →
      assign.wpIn (Fence.wide.inRound l) m P (Exit.then K (fun _ _ _ => False)) { tmps := (a.tmps.setIfInBounds p u).setIfInBounds p' v, defers := [] } W)
    (hbody : ∀ (l : Nat) (pre : List (Nat × List Int)) (t : Nat) (x : List Int) (X : World) (b n c : Nat), I pre X → (∃ tl, rounds = pre ++ (t, x) :: tl) → w.heap.size + 2 ≤ b → w.heap.size + 2 ≤ X.heap.size → Ow X (w.heap.size + 2) (some ⟨b, 0, none⟩) n c x → (∃ o, X.heap[w.heap.size]? = some (.deferred o)) → (∃ o, X.heap[w.heap.size + 1]? = some (.loop o)) →
      body.wpIn (Fence.wide.inRound l) m P (rndPost w.heap.size b I Ix (pre ++ [(t, x)]) X) { tmps := ((a.tmps.setIfInBounds p (.int .i64 (t : Nat))).setIfInBounds p' (.slice (some ⟨b, 0, none⟩) n c)).setIfInBounds q (.slice (some ⟨b, 0, none⟩) n c), defers := [] } X)
    (hdone : ∀ (D : Nat) (W : World), w.heap.size ≤ D → I rounds W → W.heap[D]? = some (.deferred (some [])) → Q .normal { a with defers := { target := .collected D, args := #[] } :: a.defers } W)
    (hstop : ∀ (D : Nat) (c : Code) (W : World), w.heap.size ≤ D → Ix c W → W.heap[D]? = some (.deferred (some [])) → c.wpIn Fence.wide m P Q { a with defers := { target := .collected D, args := #[] } :: a.defers } W) :
    (Code.rangeFunc g #[p, p'] assign body).wpIn Fence.wide m P Q a w :=
  range_rounds m hg eg rfl hseq I Ix hIb hI hIx h0 (fun u v => { tmps := ((a.tmps.setIfInBounds p u).setIfInBounds p' v).setIfInBounds q v, defers := [] }) (fun l u v W K hK => by
    simpa using hassign l u v W K hK) hbody hdone hstop
def roF (s : Int) (gi : List Int) (rs : List RuleM) (most : Nat) : Nat → List Int → List (Nat × List Int)
  | 0, _ => []
  | f + 1, o => match ntF s gi rs o most 1 with
    | none => []
    | some q => (q.2, q.1) :: roF s gi rs most f q.1
def lastO (o : List Int) : List (Nat × List Int) → List Int
  | [] => o
  | x :: L => lastO x.2 L
theorem lastO_push (o : List Int) (L : List (Nat × List Int)) (x : Nat × List Int) : lastO o (L ++ [x]) = x.2 := by
  induction L generalizing o with
  | nil => rfl
  | cons y L ih => exact ih y.2
theorem naI_ro {s : Int} {gi : List Int} {rs : List RuleM} {most : Nat} : ∀ f o r, naI s gi rs most f o r = (lastO o (roF s gi rs most f o), r + (roF s gi rs most f o).length) := by
  intro f
  induction f with
  | zero => intro o r; rfl
  | succ f ih =>
    intro o r; simp only [naI, roF]
    cases ntF s gi rs o most 1 with
    | none => rfl
    | some q => simp only [ih, lastO, List.length_cons]; congr 1; omega
section
variable {s : Int} {gi : List Int} {rs : List RuleM} {most : Nat}
theorem roF_fuel (hv : pvB s gi rs = true) (h4 : most ≤ 4) : ∀ f f' o, mvd o s = true → sumTo o o.length < f → sumTo o o.length < f' → roF s gi rs most f o = roF s gi rs most f' o := by
  intro f
  induction f with
  | zero => intro f' o _ h _; omega
  | succ f ih =>
    intro f' o hm h1 h2
    match f', h2 with
    | 0, h2 => omega
    | f' + 1, h2 =>
      simp only [roF]
      cases e : ntF s gi rs o most 1 with
      | none => rfl
      | some q =>
        obtain ⟨_, q2, q3⟩ := ntF_sub hv h4 hm (q := q.1) (u := q.2) e; simp only [ih f' q.1 q2 (by omega) (by omega)]
theorem roF_len (hv : pvB s gi rs = true) (h4 : most ≤ 4) : ∀ f o, mvd o s = true → (roF s gi rs most f o).length ≤ sumTo o o.length := by
  intro f
  induction f with
  | zero => intro o _; exact Nat.zero_le _
  | succ f ih =>
    intro o hm; simp only [roF]
    cases e : ntF s gi rs o most 1 with
    | none => exact Nat.zero_le _
    | some q =>
      obtain ⟨_, q2, q3⟩ := ntF_sub hv h4 hm (q := q.1) (u := q.2) e; have := ih q.1 q2; simp only [List.length_cons]; omega
theorem roF_mem (P : List Int → Prop) (hv : pvB s gi rs = true) (h4 : most ≤ 4) (hP : ∀ o t, mvd o s = true → 1 ≤ t → t ≤ most → P o → P (nbL s gi rs o (t : Nat))) : ∀ f o, mvd o s = true → P o → ∀ x ∈ roF s gi rs most f o, 1 ≤ x.1 ∧ x.1 ≤ most ∧ P x.2 ∧ mvd x.2 s = true ∧ Sub x.2 o := by
  intro f
  induction f with
  | zero => intro o _ _ x hx; cases hx
  | succ f ih =>
    intro o hm h x hx; simp only [roF] at hx
    cases e : ntF s gi rs o most 1 with
    | none => rw [e] at hx; cases hx
    | some q =>
      rw [e] at hx; obtain ⟨h1, h2, h3, _, _⟩ := ntF_some (q := q.1) (u := q.2) e; obtain ⟨q1, q2, _⟩ := ntF_sub hv h4 hm (q := q.1) (u := q.2) e; have hPq : P q.1 := (by rw [h3]; exact hP o _ hm (by omega) (by omega) h)
      rcases List.mem_cons.1 hx with rfl | hx
      · exact ⟨by dsimp only; omega, by dsimp only; omega, hPq, q2, q1⟩
      · obtain ⟨a1, a2, a3, a4, a5⟩ := ih q.1 q2 hPq x hx; exact ⟨a1, a2, a3, a4, a5.trans q1⟩
def roE (s : Int) (gi : List Int) (rs : List RuleM) (most : Nat) (o : List Int) : List (Nat × List Int) := roF s gi rs most (sumTo o o.length + 1) o
theorem roE_none {o : List Int} (h : ntF s gi rs o most 1 = none) : roE s gi rs most o = [] := by simp only [roE, roF, h]
theorem roE_some {o q : List Int} {u : Nat} (hv : pvB s gi rs = true) (h4 : most ≤ 4) (hm : mvd o s = true) (h : ntF s gi rs o most 1 = some (q, u)) : roE s gi rs most o = (u, q) :: roE s gi rs most q := by
  obtain ⟨_, q2, q3⟩ := ntF_sub hv h4 hm h; unfold roE; rw [show roF s gi rs most (sumTo o o.length + 1) o = (u, q) :: roF s gi rs most (sumTo o o.length) q from by simp only [roF, h]]; rw [roF_fuel hv h4 (sumTo o o.length) (sumTo q q.length + 1) q q2 (by omega) (by omega)]
theorem roE_len {o : List Int} (hv : pvB s gi rs = true) (h4 : most ≤ 4) (hm : mvd o s = true) : (roE s gi rs most o).length ≤ 480 := Nat.le_trans (roF_len hv h4 _ _ hm) (sum_480 hm)
theorem naE_ro {o : List Int} {r : Nat} : naE s gi rs most o r = (lastO o (roE s gi rs most o), r + (roE s gi rs most o).length) := naI_ro _ _ _
theorem roE_mem {o : List Int} (hv : pvB s gi rs = true) (h4 : most ≤ 4) (hm : mvd o s = true) : ∀ x ∈ roE s gi rs most o, 1 ≤ x.1 ∧ x.1 ≤ most ∧ mvd x.2 s = true ∧ Sub x.2 o := fun x hx => by
  obtain ⟨a, b, _, c, d⟩ := roF_mem (fun _ => True) hv h4 (fun _ _ _ _ _ _ => trivial) _ _ hm trivial x hx; exact ⟨a, b, c, d⟩
theorem roE_split (hv : pvB s gi rs = true) (h4 : most ≤ 4) {L : List (Nat × List Int)} : ∀ (pre : List (Nat × List Int)) (o : List Int), mvd o s = true → roE s gi rs most o = pre ++ L → mvd (lastO o pre) s = true ∧ roE s gi rs most (lastO o pre) = L ∧ Sub (lastO o pre) o := by
  intro pre
  induction pre with
  | nil => intro o hm h; exact ⟨hm, h, Sub.of_mvd hm⟩
  | cons y pre ih =>
    intro o hm h
    cases e : ntF s gi rs o most 1 with
    | none => rw [roE_none e] at h; cases h
    | some q =>
      obtain ⟨q1, q2, _⟩ := ntF_sub hv h4 hm (q := q.1) (u := q.2) e; rw [roE_some hv h4 hm (q := q.1) (u := q.2) e] at h
      injection h with h1 h2
      subst h1; obtain ⟨a, b, c⟩ := ih q.1 q2 h2; exact ⟨a, b, c.trans q1⟩
theorem roE_at (hv : pvB s gi rs = true) (h4 : most ≤ 4) {pre tl : List (Nat × List Int)} {o x : List Int} {t : Nat} (hm : mvd o s = true) (h : roE s gi rs most o = pre ++ (t, x) :: tl) : mvd (lastO o pre) s = true ∧ ntF s gi rs (lastO o pre) most 1 = some (x, t) ∧ 1 ≤ t ∧ t ≤ most ∧ x = nbL s gi rs (lastO o pre) t ∧ x ≠ lastO o pre ∧ mvd x s = true ∧ Sub x (lastO o pre) ∧ roE s gi rs most x = tl := by
  obtain ⟨a, b, _⟩ := roE_split hv h4 pre o hm h
  cases e : ntF s gi rs (lastO o pre) most 1 with
  | none => rw [roE_none e] at b; cases b
  | some q =>
    obtain ⟨q1, q2, _⟩ := ntF_sub hv h4 a (q := q.1) (u := q.2) e; obtain ⟨h1, h2, h3, h5, _⟩ := ntF_some (q := q.1) (u := q.2) e; rw [roE_some hv h4 a (q := q.1) (u := q.2) e] at b
    injection b with b1 b2
    injection b1 with b1 b3
    subst b1 b3; exact ⟨a, rfl, h1, by omega, h3, h5, q2, q1, b2⟩
end
end Go.Proofs.YtchcmgaohcldjaaGreatDoor
namespace Go.Proofs.YtchcmgaohcldjaaGreatDoor
open Go.ChangeShapes Go.WideShapes Go.ChangeAt Go.RowKit Go.Shelf
attribute [local go_sem] Oper.semAt_some
structure RBase (NB MB SB s L Br : Nat) (At : Option Addr) (nt ct Bt : Nat) (rs : List RuleM) (Am : Option Addr) (nm cm Bm : Nat) (ms : List Int) (most : Nat) (X : World) : Prop where
  n : X.heap[NB]? = some (.cells #[.int .i64 s, .slice At nt ct] 84)
  m : X.cell? ⟨MB, 0, none⟩ = some (.slice Am nm cm)
  o : X.cell? ⟨SB, 0, none⟩ = some (.int .i64 most)
  t : 4 ≤ most → TbR X L Bt Br s rs At nt
  tB : Bt ≤ X.heap.size
  tr : Br ≤ Bt
  r : Rd X Bm Am nm ms
  rB : Bm ≤ X.heap.size
  z : Tz X
set_option maxHeartbeats 4000000 in
theorem rounds_seq (NB MB SB s L Br : Nat) (At : Option Addr) (nt ct Bt : Nat) (gi : List Int) (rs : List RuleM) (Am : Option Addr) (nm cm Bm : Nat) (m : List Int) (most : Nat) (hs : s ∈ [2, 3, 4]) (hv : pvB s gi rs = true) (hm : mvd m s = true) (h4 : most ≤ 4) (hml : m.length = nm) :
    SeqT Tryz.prog 134 #[.pointer (some ⟨NB, 0, none⟩), .pointer (some ⟨MB, 0, none⟩), .pointer (some ⟨SB, 0, none⟩)] (RBase NB MB SB s L Br At nt ct Bt rs Am nm cm Bm m most) (roE s gi rs most m) := by
  intro l J Jx W hJb hJs hJx hY h0; have HN := Lib.hid (fun (pre : List (Nat × List Int)) (X : World) (hJ : J pre X) (A : Option Addr) (c B : Nat) (o : List Int) (hr : Rd X B A nm o) (hB : B ≤ X.heap.size) (ho : mvd o s = true) => next_any s L Br At nt ct Bt gi rs A c nm B o most X (hJb _ _ hJ).t (hJb _ _ hJ).tB (hJb _ _ hJ).tr hr hB (hJb _ _ hJ).z hs hv ho h4); have HB := Lib.hid (fun (pre : List (Nat × List Int)) (X : World) (hJ : J pre X) => (⟨(hJb _ _ hJ).n, (hJb _ _ hJ).m, (hJb _ _ hJ).o⟩ : X.heap[NB]? = some (.cells #[.int .i64 s, .slice At nt ct] 84) ∧ X.cell? ⟨MB, 0, none⟩ = some (.slice Am nm cm) ∧ X.cell? ⟨SB, 0, none⟩ = some (.int .i64 most)))
  have HN0 := Lib.hid (HN.out [] W h0 Am cm Bm m (hJb _ _ h0).r (hJb _ _ h0).rB hm); have Hi := Lib.hid nar_info; have HJs := Lib.hid hJs; have HJx := Lib.hid hJx; have HY := Lib.hid hY; have HAt := Lib.hid (fun (pre tl : List (Nat × List Int)) (x : List Int) (t : Nat) (h : roE s gi rs most m = pre ++ (t, x) :: tl) => roE_at hv h4 hm h); have HSp := Lib.hid (fun (o : List Int) (q : List Int × Nat) (ho : mvd o s = true) (hq : ntF s gi rs o most 1 = some q) => roE_some hv h4 ho (q := q.1) (u := q.2) hq); have HSu := Lib.hid (fun (o : List Int) (q : List Int × Nat) (ho : mvd o s = true) (hq : ntF s gi rs o most 1 = some q) => (ntF_sub hv h4 ho (q := q.1) (u := q.2) hq))
  have HT1 := Lib.hid (fun (o : List Int) (q : List Int × Nat) (hq : ntF s gi rs o most 1 = some q) => (ntF_some (q := q.1) (u := q.2) hq).1); obtain ⟨b0, b1, b2⟩ := HB.out _ _ h0; have Hm := Lib.hid hm; have H0 := Lib.hid h0; have Hml := Lib.hid hml; clear hJb hJs hJx hY hv hm h0 hml
  show Calls Tryz.prog 134 #[.func (.yield l) #[] #[], .pointer (some ⟨NB, 0, none⟩), .pointer (some ⟨MB, 0, none⟩), .pointer (some ⟨SB, 0, none⟩)] W _
  refine (callsIn_wide (n := 9)).1 ?_; refine callsIn_of_wp Tryz.func134 rfl trivial ?_ rfl; simp only [Tryz.ntmps134, List.size_toArray, List.length_cons, List.length_nil, Nat.reduceAdd, Nat.reduceSub, Array.replicate_succ, Array.replicate_zero, List.push_toArray, List.append_toArray, List.nil_append, List.cons_append]
  let St : List Int → Value → Value → World → Prop := fun o lf te wr => match ntF s gi rs o most 1 with
    | none => lf = .slice none 0 0 ∧ te = .int .i64 0
    | some q => ∃ b c, lf = .slice (some ⟨b, 0, none⟩) nm c ∧ te = .int .i64 (q.2 : Nat) ∧ W.heap.size ≤ b ∧ Ow wr W.heap.size (some ⟨b, 0, none⟩) nm c q.1
  have HSt : Hid (∀ (o : List Int) (X wr : World) (e : Ending), W.heap.size ≤ X.heap.size → NextPost X nm (ntF s gi rs o most 1) e wr → ∃ lf te, e = .returned (.tuple #[lf, te]) ∧ St o lf te wr ∧ Below X.heap.size X wr) := Lib.hid (fun o X wr e hX h => by
    show ∃ lf te, e = .returned (.tuple #[lf, te]) ∧ (match ntF s gi rs o most 1 with
      | none => lf = .slice none 0 0 ∧ te = .int .i64 0
      | some q => ∃ b c, lf = .slice (some ⟨b, 0, none⟩) nm c ∧ te = .int .i64 (q.2 : Nat) ∧ W.heap.size ≤ b ∧ Ow wr W.heap.size (some ⟨b, 0, none⟩) nm c q.1) ∧ Below X.heap.size X wr
    cases hq : ntF s gi rs o most 1 with
    | none => rw [hq] at h; exact ⟨_, _, h.1, ⟨rfl, rfl⟩, h.2⟩
    | some q =>
      rw [hq] at h; obtain ⟨⟨b, c, rfl, hb, ho⟩, hbl⟩ := h
      exact ⟨_, _, rfl, ⟨b, c, rfl, rfl, by omega, ho.mono hX⟩, hbl⟩)
  gi_wp2_with (first
    | (refine wpListIn_load_row rfl 84 _ rfl NB rfl 84 #[.int .i64 s, .slice At nt ct] (0, 0) _ b0 Tryz.underlying84 rfl (Hi.out _ _) ?_)
    | ((try refine ⟨trivial, ?_⟩); gi_at_call 135; refine (callsIn_wide.2 HN0.out).mono ?_; rintro e w1 hp; obtain ⟨lf, te, rfl, hst, hb1⟩ := HSt.out _ _ _ _ (Nat.le_refl _) hp; clear hp))
  clear b0 b1 b2
  gi_loopw [5, 6] (fun lf te wr => ∃ pre o, Hid (J pre wr ∧ roE s gi rs most m = pre ++ roE s gi rs most o ∧ mvd o s = true ∧ W.heap.size ≤ wr.heap.size) ∧ St o lf te wr) (fun lf te wr => if intOf te = 0 then 0 else sumAt wr lf nm + 1)
  case atStart => exact ⟨[], m, Lib.hid ⟨HJs.out _ _ _ H0.out hb1, rfl, Hm.out, hb1.size⟩, hst⟩
  case round =>
    clear hst hb1; obtain ⟨pre, o, hh, hst⟩ := hrel
    cases hq : ntF s gi rs o most 1 with
    | none =>
      simp only [St, hq] at hst; obtain ⟨rfl, rfl⟩ := hst; have HD := Lib.hid (show roE s gi rs most m = pre by rw [hh.out.2.1, roE_none hq, List.append_nil]); clear hq
      gi_wp2
      refine ⟨fun _ h => (by cases h), ?_⟩
      gi_wp2
      go_end0
      exact ⟨⟨_, rfl⟩, .inl (by rw [HD.out]; exact hh.out.1)⟩
    | some q =>
      simp only [St, hq] at hst; obtain ⟨b, c, rfl, rfl, hbW, ho⟩ := hst; obtain ⟨q, t⟩ := q; have ht1 := HT1.out o (q, t) hq; have HE := Lib.hid (HSp.out o (q, t) hh.out.2.2.1 hq); have HU := Lib.hid (HSu.out o (q, t) hh.out.2.2.1 hq); have HD := Lib.hid (show ∃ tl, roE s gi rs most m = pre ++ (t, q) :: tl from ⟨_, by rw [hh.out.2.1, HE.out]⟩); obtain ⟨fn, tmps, assign, body, hyy, hR⟩ := HY.out pre t q wr b nm c hh.out.1 HD.out hbW ho; have htn : ((t : Int) != 0) = true := (by simp; omega); have hS0 := Lib.hid (sumAt_ow ho nm (Nat.le_refl _)); have htz : ¬ (t : Int) = 0 := (by omega); clear hq
      gi_wp2
      refine (roundIn_any hR).mono ?_; rintro e Y ⟨hYs, hYb, (⟨rfl, hj⟩ | ⟨rfl, hx⟩)⟩
      · have hoY : Ow Y W.heap.size (some ⟨b, 0, none⟩) nm c q := ho.same hYb; have HNq := Lib.hid (HN.out _ Y hj (some ⟨b, 0, none⟩) c Y.heap.size q hoY.rd (Nat.le_refl _) HU.out.2.1); have hWY := Nat.le_trans hh.out.2.2.2 hYs; have HJ2 := Lib.hid hj; have HR2 := Lib.hid (show roE s gi rs most m = (pre ++ [(t, q)]) ++ roE s gi rs most q by rw [hh.out.2.1, HE.out, List.append_assoc]; rfl); obtain ⟨b0, b1, b2⟩ := HB.out _ _ hj; clear hyy hR hj hYb
        gi_wp2_with (first
          | (refine wpListIn_load_row rfl 84 _ rfl NB rfl 84 #[.int .i64 s, .slice At nt ct] (0, 0) _ b0 Tryz.underlying84 rfl (Hi.out _ _) ?_)
          | ((try refine ⟨trivial, ?_⟩); gi_at_call 135; refine (callsIn_wide.2 HNq.out).mono ?_; rintro e w1 hp; obtain ⟨lf, te, rfl, hst, hb1⟩ := HSt.out _ _ _ _ hWY hp; clear hp))
        have hsz1 := hb1.size; have hqn := hoY.len
        have hmeas : (if intOf te = 0 then 0 else sumAt w1 lf nm + 1) < sumTo q nm + 1 := by
          cases hq2 : ntF s gi rs q most 1 with
          | none =>
            simp only [St, hq2] at hst; obtain ⟨rfl, rfl⟩ := hst
            simp [intOf]
          | some q2 =>
            simp only [St, hq2] at hst; obtain ⟨b2, c2, rfl, rfl, _, ho2⟩ := hst; have e1 := sumAt_ow ho2 nm (Nat.le_refl _); have e2 := (HSu.out q q2 HU.out.2.1 hq2).2.2; rw [ho2.len, hqn] at e2; rw [e1]
            split <;> omega
        have Hmeas := Lib.hid hmeas; clear hmeas
        gi_wp2
        refine ⟨⟨pre ++ [(t, q)], q, Lib.hid ⟨HJs.out _ _ _ HJ2.out hb1, HR2.out, HU.out.2.1, by omega⟩, hst⟩, ?_⟩; have e1 : intOf (Value.int IntKind.i64 (t : Nat)) = (t : Nat) := rfl; rw [e1, if_neg htz, hS0.out]; exact Hmeas.out
      · gi_wp2
        go_end0
        exact ⟨⟨_, rfl⟩, .inr hx⟩
theorem rounds_any (s : Nat) (At : Option Addr) (nt ct : Nat) (Am : Option Addr) (nm cm : Nat) (most : Nat) (w : World) :
    Calls Tryz.prog 93 #[.agg #[.int .i64 s, .slice At nt ct], .slice Am nm cm, .int .i64 most] w fun e w' => ∃ NB MB SB, e = .returned (.func (.func 134) #[] #[.pointer (some ⟨NB, 0, none⟩), .pointer (some ⟨MB, 0, none⟩), .pointer (some ⟨SB, 0, none⟩)]) ∧ w'.heap[NB]? = some (.cells #[.int .i64 s, .slice At nt ct] 84) ∧ w'.cell? ⟨MB, 0, none⟩ = some (.slice Am nm cm) ∧ w'.cell? ⟨SB, 0, none⟩ = some (.int .i64 most) ∧ w.heap.size ≤ NB ∧ w.heap.size ≤ MB ∧ w.heap.size ≤ SB ∧ Below w.heap.size w w' := by
  obtain ⟨Wa, hWa⟩ : ∃ Wa, w.alloc (.cells #[.int .i64 s, .slice At nt ct] 84) = Wa := ⟨_, rfl⟩
  have hba : Below w.heap.size w Wa := by rw [← hWa]; exact (Below.refl _ _).alloc (Nat.le_refl _) _
  have hsa : Wa.heap.size = w.heap.size + 1 := by rw [← hWa]; simp
  have hra : Wa.heap[w.heap.size]? = some (.cells #[.int .i64 s, .slice At nt ct] 84) := by rw [← hWa]; exact heap_alloc_new w _
  obtain ⟨Wb, hWb⟩ : ∃ Wb, Wa.alloc (.cells #[.slice Am nm cm] 23) = Wb := ⟨_, rfl⟩
  have hbb : Below Wa.heap.size Wa Wb := by rw [← hWb]; exact (Below.refl _ _).alloc (Nat.le_refl _) _
  have hsb : Wb.heap.size = w.heap.size + 1 + 1 := by rw [← hWb]; simp [hsa]
  have hrb : Wb.heap[w.heap.size + 1]? = some (.cells #[.slice Am nm cm] 23) := by rw [← hWb, ← hsa]; exact heap_alloc_new Wa _
  obtain ⟨Wc, hWc⟩ : ∃ Wc, Wb.alloc (.cells #[.int .i64 most] 3) = Wc := ⟨_, rfl⟩
  have hbc : Below Wb.heap.size Wb Wc := by rw [← hWc]; exact (Below.refl _ _).alloc (Nat.le_refl _) _
  have hrc : Wc.heap[w.heap.size + 1 + 1]? = some (.cells #[.int .i64 most] 3) := by rw [← hWc, ← hsb]; exact heap_alloc_new Wb _
  have HA := Lib.hid ((hbc.block w.heap.size (by omega)).trans ((hbb.block w.heap.size (by omega)).trans hra)); have HB := Lib.hid (cell_of_row _ _ 0 _ _ (0, 0) ((hbc.block (w.heap.size + 1) (by omega)).trans hrb)); have HC := Lib.hid (cell_of_row _ _ 0 _ _ (0, 0) hrc); have HD := Lib.hid ((hba.trans (hbb.mono (by omega))).trans (hbc.mono (by omega))); clear hba hra hbb hrb hbc hrc
  go_enter Tryz.func93, Tryz.ntmps93
  go_wp2
  go_ret
  exact ⟨w.heap.size, w.heap.size + 1, w.heap.size + 1 + 1, rfl, HA.out, HB.out, HC.out, by omega, by omega, by omega, HD.out⟩
attribute [local go_sem] Oper.semAt_some
theorem Ow.same_own8 {w w' : World} {lo n c : Nat} {A : Option Addr} {xs : List Int} (h : Ow w lo A n c xs) (hn : 0 < n) (hs : ∀ g, (Value.slice A n c).ownBlock = some g → w'.heap[g]? = w.heap[g]?) : Ow w' lo A n c xs := by
  obtain ⟨g, rfl, _, _⟩ := h.form hn; exact h.same (hs g rfl)
theorem none_of_deferred8 {W : World} {D i : Nat} {o : Option (List Deferred)} (h : W.heap[D]? = some (.deferred o)) : W.cell? ⟨D, i, none⟩ = none := by
  unfold World.cell?
  simp [h]
structure Two (X Y : World) (N1 N2 : Nat) (o1 o2 : Obj) : Prop where
  os : Y.os = X.os
  tape : Y.tape = X.tape
  output : Y.output = X.output
  size : Y.heap.size = X.heap.size
  b1 : Y.heap[N1]? = some o1
  b2 : Y.heap[N2]? = some o2
  other : ∀ k, k ≠ N1 → k ≠ N2 → Y.heap[k]? = X.heap[k]?
theorem Two.mk12 {X : World} {N1 N2 : Nat} {u1 u2 v1 v2 : Value} {t1 t2 : TypeId} (h1 : X.heap[N1]? = some (.cells #[u1] t1)) (h2 : X.heap[N2]? = some (.cells #[u2] t2)) (hne : N1 ≠ N2) : Two X ((X.setCell ⟨N1, 0, none⟩ v1).setCell ⟨N2, 0, none⟩ v2).drew N1 N2 (.cells #[v1] t1) (.cells #[v2] t2) :=
  ⟨rfl, rfl, rfl, by show ((X.setCell ⟨N1, 0, none⟩ v1).setCell ⟨N2, 0, none⟩ v2).heap.size = _; simp, (heap_setCell_other _ ⟨N2, 0, none⟩ N1 v2 (fun e => hne e)).trans (heap_setCell_same X N1 0 _ _ v1 h1), heap_setCell_same _ N2 0 _ _ v2 ((heap_setCell_other X ⟨N1, 0, none⟩ N2 v1 (fun e => hne e.symm)).trans h2), fun k k1 k2 => (heap_setCell_other _ ⟨N2, 0, none⟩ k v2 (fun e => k2 e)).trans (heap_setCell_other X ⟨N1, 0, none⟩ k v1 (fun e => k1 e))⟩
theorem Two.mk21 {X : World} {N1 N2 : Nat} {u1 u2 v1 v2 : Value} {t1 t2 : TypeId} (h1 : X.heap[N1]? = some (.cells #[u1] t1)) (h2 : X.heap[N2]? = some (.cells #[u2] t2)) (hne : N1 ≠ N2) : Two X ((X.setCell ⟨N2, 0, none⟩ v2).setCell ⟨N1, 0, none⟩ v1).drew N1 N2 (.cells #[v1] t1) (.cells #[v2] t2) :=
  have h := Two.mk12 (v1 := v2) (v2 := v1) h2 h1 hne.symm
  ⟨h.os, h.tape, h.output, h.size, h.b2, h.b1, fun k k1 k2 => h.other k k2 k1⟩
theorem Two.below {X Y : World} {N1 N2 B : Nat} {o1 o2 : Obj} (h : Two X Y N1 N2 o1 o2) (h1 : B ≤ N1) (h2 : B ≤ N2) : Below B X Y := ⟨h.os, h.tape, h.output, Nat.le_of_eq h.size.symm, fun k hk => h.other k (by omega) (by omega)⟩
theorem RBase.below {NB MB SB s L Br : Nat} {At : Option Addr} {nt ct Bt : Nat} {rs : List RuleM} {Am : Option Addr} {nm cm Bm : Nat} {ms : List Int} {most D : Nat} {X Y : World} (h : RBase NB MB SB s L Br At nt ct Bt rs Am nm cm Bm ms most X) (hb : Below D X Y) (hN : NB < D) (hM : MB < D) (hS : SB < D) (hBt : Bt ≤ D) (hBm : Bm ≤ D) (hz : 0 < D) : RBase NB MB SB s L Br At nt ct Bt rs Am nm cm Bm ms most Y :=
  ⟨(hb.block _ hN).trans h.n, (hb.cell (p := ⟨MB, 0, none⟩) hM).trans h.m, (hb.cell (p := ⟨SB, 0, none⟩) hS).trans h.o, fun e => (h.t e).below (hb.mono hBt) h.tr, Nat.le_trans h.tB hb.size, h.tr, h.r.below (hb.mono hBm), Nat.le_trans h.rB hb.size, h.z.below hz hb⟩
theorem RBase.keep {NB MB SB s L Br : Nat} {At : Option Addr} {nt ct Bt : Nat} {rs : List RuleM} {Am : Option Addr} {nm cm Bm : Nat} {ms : List Int} {most L0 : Nat} {X Y : World} (h : RBase NB MB SB s L Br At nt ct Bt rs Am nm cm Bm ms most X) (hk : ∀ k, L ≤ k → k < X.heap.size → Y.heap[k]? = X.heap[k]?) (hb : Below L0 X Y) (h0 : Br ≤ L0) (hBm : Bm ≤ L0) (hz : 0 < L0) (hN : L ≤ NB) (hM : L ≤ MB) (hS : L ≤ SB) : RBase NB MB SB s L Br At nt ct Bt rs Am nm cm Bm ms most Y :=
  ⟨(hk NB hN (Array.getElem?_eq_some_iff.1 h.n).1).trans h.n, (World.cell?_of_block (a := ⟨MB, 0, none⟩) (hk MB hM (cell_lt h.m))).trans h.m, (World.cell?_of_block (a := ⟨SB, 0, none⟩) (hk SB hS (cell_lt h.o))).trans h.o, fun e => (h.t e).keep (fun k h1 h2 => hk k h1 (Nat.lt_of_lt_of_le h2 h.tB)) (hb.mono h0), Nat.le_trans h.tB hb.size, h.tr, h.r.below (hb.mono hBm), Nat.le_trans h.rB hb.size, h.z.below hz hb⟩
theorem na_bad {s : Int} {gi : List Int} {rs : List RuleM} {m : List Int} {most : Int} (h : nvB s gi rs m most = false) : naL s gi rs m most = [] ∧ naR s gi rs m most = -1 := by
  have : (pvB s gi rs && mvd m s && inr most 1 4) = false := by
    unfold nvB at h; rw [Bool.and_comm, ← Bool.and_assoc]; exact h
  unfold naL naR; rw [this]; exact ⟨rfl, rfl⟩
theorem na_good {s : Int} {gi : List Int} {rs : List RuleM} {m : List Int} {most : Nat} (h : nvB s gi rs m (most : Nat) = true) : naL s gi rs m (most : Nat) = lastO m (roE s gi rs most m) ∧ naR s gi rs m (most : Nat) = ((roE s gi rs most m).length : Nat) := by
  have : (pvB s gi rs && mvd m s && inr (most : Nat) 1 4) = true := by
    unfold nvB at h; rw [Bool.and_comm, ← Bool.and_assoc]; exact h
  unfold naL naR; rw [if_pos this, if_pos this, Int.toNat_natCast, naE_ro]; exact ⟨rfl, by simp⟩
set_option maxHeartbeats 4000000 in
theorem implNarrowAll (s : Int) (Ag : Option Addr) (n cg Bg : Nat) (gi : List Int) (Ar : Option Addr) (nr cr Br : Nat) (rs : List RuleM) (A : Option Addr) (c nm B : Nat) (m : List Int) (most : Int) (w : World) (hp : PGc w s Ag n cg Bg gi Ar nr cr Br rs) (h : Rd w B A nm m) (hBm : B ≤ w.heap.size) (hm64 : B64 m) (hm : nm ≤ 1099511627776) (hT : Tz w) (hsb : -9223372036854775808 ≤ s ∧ s ≤ 9223372036854775807) :
    Calls Tryz.prog 35 #[.agg #[.int .i64 s, .slice Ag n cg, .slice Ar nr cr], .slice A nm c, .int .i64 most] w fun e w' => ∃ A' n' c', e = .returned (.tuple #[.slice A' n' c', .int .i64 (naR s gi rs m most)]) ∧ Ow w' w.heap.size A' n' c' (naL s gi rs m most) ∧ Below w.heap.size w w' := by
  have hx0 := pbox_new w s Ag n cg Ar nr cr 26; obtain ⟨Wa, hWa⟩ : ∃ Wa, w.alloc (.cells #[.int .i64 s, .slice Ag n cg, .slice Ar nr cr] 26) = Wa := ⟨_, rfl⟩; rw [hWa] at hx0
  have hba : Below w.heap.size w Wa := by rw [← hWa]; exact (Below.refl _ _).alloc (Nat.le_refl _) _
  have hsa : Wa.heap.size = w.heap.size + 1 := by rw [← hWa]; simp
  obtain ⟨z0, z1, z2⟩ := id hx0; have HV := Lib.hid (narrowingValid_any s Ag n cg Bg gi Ar nr cr Br rs A nm c B m most Wa (hp.below hba) (h.below (hba.mono hBm)) (Nat.le_trans hBm hba.size) hm64 hm hsb); have HX := Lib.hid (fun w' (hb : Below Wa.heap.size Wa w') => hx0.below (show w.heap.size < Wa.heap.size by omega) hb); have HBa := Lib.hid hba; refine (callsIn_wide (n := 9)).1 ?_; refine callsIn_of_wp_marks Tryz.func35 rfl trivial ?_ rfl; simp only [Tryz.ntmps35, List.size_toArray, List.length_cons, List.length_nil, Nat.reduceAdd, Nat.reduceSub, Array.replicate_succ, Array.replicate_zero, List.push_toArray, List.append_toArray, List.nil_append, List.cons_append]
  cases hv : nvB s gi rs m most
  · obtain ⟨e1, e2⟩ := na_bad hv; rw [e1, e2]; rw [hv] at HV
    gi_wp2_with ((try refine ⟨trivial, ?_⟩); gi_at_call 81; refine (callsIn_wide.2 HV.out).mono ?_; rintro e w1 ⟨rfl, hb1⟩)
    exact ⟨_, results_tmp2 rfl _ _ _, none, 0, 0, rfl, Ow.nil_ _ _, step HBa.out hb1⟩
  · obtain ⟨⟨t1, t4⟩, hpv, hmv, S, rfl, hS⟩ := nv_ok hv; obtain ⟨M, rfl⟩ := Int.eq_ofNat_of_zero_le (show 0 ≤ most by omega); obtain ⟨e1, e2⟩ := na_good hv; rw [e1, e2]; rw [hv] at HV; obtain ⟨_, hsq, hnm16, _⟩ := mvd_at hmv; rw [h.1] at hsq hnm16
    have hnm0 : 0 < nm := by
      simp at hS
      rcases hS with rfl | rfl | rfl <;> omega
    have HN := Lib.hid (fun (w' : World) (hb : Below w.heap.size w w') => narrower_any S Ag n cg Bg gi Ar nr cr Br rs M w' (hp.below hb) hpv hS (by omega)); have HM := Lib.hid (fun (w' : World) (hb : Below w.heap.size w w') => h.below (hb.mono hBm)); have HCl := Lib.hid (fun (w' : World) (hb : Below w.heap.size w w') => clone_any A nm c B m w' (h.below (hb.mono hBm)) (Nat.le_trans hBm hb.size) hnm0 hm); have HTz := Lib.hid (fun (w' : World) (hb : Below w.heap.size w w') => hT.below hT.lt hb); have Hml := Lib.hid h.1; have Hpv := Lib.hid hpv; have Hmv := Lib.hid hmv; have hp0 := hp.rB; have HTl := Lib.hid hT.lt
    have HLen := Lib.hid (roE_len (rs := rs) (gi := gi) hpv (show M ≤ 4 by omega) hmv); have HMem := Lib.hid (roE_mem (rs := rs) (gi := gi) hpv (show M ≤ 4 by omega) hmv); clear e1 e2 hv hpv hmv hsq h hp hT hx0 hba; have hBr0 := hp0
    gi_wp2_with (first
      | ((try refine ⟨trivial, ?_⟩); gi_at_call 81; refine (callsIn_wide.2 HV.out).mono ?_; rintro e w1 ⟨rfl, hb1⟩; obtain ⟨c0, c1, c2⟩ := HX.out _ hb1; have h01 := step HBa.out hb1)
      | ((try refine ⟨trivial, ?_⟩); gi_at_call 77; refine (callsIn_wide.2 (HCl.out _ h01)).mono ?_; rintro e w2 ⟨A1, c1', rfl, ho1, hb2⟩; have h02 := step h01 hb2; have ha4 : Below w2.heap.size w2 ((w2.alloc (.cells #[.slice A1 nm c1'] 23)).alloc (.cells #[.int .i64 0] 3)) := (((Below.refl _ _).alloc (Nat.le_refl _) _).alloc (by simp) _); have h04 := step h02 ha4; obtain ⟨d0, d1, d2⟩ := HX.out _ (step (step hb1 hb2) ha4))
      | ((try refine ⟨trivial, ?_⟩); gi_at_call 82; refine (callsIn_wide.2 (HN.out _ h04)).mono ?_; rintro e w5 ⟨A2, n2, c2', rfl, hN2, hb5⟩)
      | ((try refine ⟨trivial, ?_⟩); gi_at_call 93; refine (callsIn_wide.2 (rounds_any S A2 n2 c2' A nm c M w5)).mono ?_; rintro e w6 ⟨NB, MB, SB, rfl, hnb, hmb, hsb', hNl, hMl, hSl, hb6⟩))
    obtain ⟨w4, hw4⟩ : ∃ w4, (w2.alloc (.cells #[.slice A1 nm c1'] 23)).alloc (.cells #[.int .i64 0] 3) = w4 := ⟨_, rfl⟩
    have hs4 : w4.heap.size = w2.heap.size + 2 := by rw [← hw4]; simp
    have hr1 : w4.heap[w2.heap.size]? = some (.cells #[.slice A1 nm c1'] 23) := by
      rw [← hw4]; exact (Below.heap_alloc _ _ _ (by simp)).trans (heap_alloc_new w2 _)
    have hr2 : w4.heap[w2.heap.size + 1]? = some (.cells #[.int .i64 0] 3) := by
      rw [← hw4]; have := heap_alloc_new (w2.alloc (.cells #[.slice A1 nm c1'] 23)) (.cells #[.int .i64 0] 3); rwa [World.size_alloc] at this
    rw [hw4] at ha4 h04 hN2 hb5; have h45 := hb5.size; have h56 := hb6.size; have h24 := h02.size; have hb46 : Below w4.heap.size w4 w6 := step hb5 hb6; have h06 := step h04 hb46; have hr16 := (hb46.block _ (by omega)).trans hr1; have hr26 := (hb46.block _ (by omega)).trans hr2; have ho16 := ((ho1.mono h01.size).below ha4).below hb46; have hNBl := (Array.getElem?_eq_some_iff.1 hnb).1; have hMBl := cell_lt hmb; have hSBl := cell_lt hsb'; have HM6 := HM.out _ h06; have HT6 := HTz.out _ h06; have hTl := HT6.lt; have hTz0 := HTl.out
    have hNl8 : w4.heap.size ≤ NB := by omega
    have hMl8 : w4.heap.size ≤ MB := by omega
    have hSl8 : w4.heap.size ≤ SB := by omega
    have hN6 : 4 ≤ M → TbR w6 w4.heap.size w5.heap.size Br S rs A2 n2 := fun e => (hN2 e).below hb6 (by omega)
    have hgA : ∀ g, (Value.slice A1 nm c1').ownBlock = some g → g < w4.heap.size := fun g hg => by have := ho1.own_hi g hg; omega
    clear d0 d1 d2 c0 c1 c2 z0 z1 z2 HX HV HCl HN hr1 hr2 hw4 hN2
    refine range_rounds2 9 (q := 11) (by rfl) (enters_of Tryz.func134 (by kernel_rfl) rfl) (rounds_seq NB MB SB S w4.heap.size Br A2 n2 c2' w5.heap.size gi rs A nm c B m M hS Hpv.out Hmv.out (by omega) Hml.out)
      (fun pre X => RBase NB MB SB S w4.heap.size Br A2 n2 c2' w5.heap.size rs A nm c B m M X ∧ (∃ A' c', X.heap[w2.heap.size]? = some (.cells #[.slice A' nm c'] 23) ∧ Ow X w.heap.size A' nm c' (lastO m pre) ∧ ∀ g, (Value.slice A' nm c').ownBlock = some g → g ≠ w6.heap.size ∧ g ≠ w6.heap.size + 1) ∧ X.heap[w2.heap.size + 1]? = some (.cells #[.int .i64 (pre.length : Nat)] 3) ∧ Below w.heap.size w X ∧ w6.heap.size ≤ X.heap.size)
      (fun cc X => False)
      (fun pre X h => h.1)
      (fun pre X Y h hA => by
        obtain ⟨h1, ⟨A', c', h2, h3, h4⟩, h5, h6, h7⟩ := h; have hb := hA.below h7
        exact ⟨h1.below hb hNBl hMBl hSBl (by omega) (by omega) (by omega), ⟨A', c', (hb.block _ (by omega)).trans h2, h3.same_own8 hnm0 (fun g e => hA.block g (h3.own_hi g e) (h4 g e).1 (h4 g e).2), h4⟩, (hb.block _ (by omega)).trans h5, h6.trans (hb.mono (by omega)), Nat.le_trans h7 hA.size⟩)
      (fun cc X Y h hA => h)
      ⟨⟨hnb, hmb, hsb', hN6, by omega, by omega, HM6, by omega, HT6⟩, ⟨A1, c1', hr16, ho16, fun g hg => by have := hgA g hg; omega⟩, hr26, h06, Nat.le_refl _⟩ ?assign ?body ?done ?stop
    case assign =>
      intro l u v W K hK; simp only [List.setIfInBounds_toArray, List.set_cons_zero, List.set_cons_succ] at hK ⊢
      gi_wp2
      exact hK
    case body =>
      rintro l pre t x X b n' c' ⟨hbX, ⟨A', cc, hrX, hoX, hgX⟩, hqX, hBX, hDX⟩ ⟨tl, htl⟩ hbb hXs hrd hDo hLo
      have hxl : x.length = nm := by
        have := (HMem.out (t, x) (by rw [htl]; simp)).2.2.2.1; rw [this, Hml.out]
      obtain rfl : n' = nm := by rw [← hrd.len]; exact hxl
      have hpl : pre.length < 480 := by
        have := HLen.out; rw [htl, List.length_append, List.length_cons] at this; omega
      have hcr := cell_of_row _ _ 0 _ _ (0, 0) hrX; have hfr := frozen_of_row _ _ 0 _ _ hrX; have hcq := cell_of_row _ _ 0 _ _ (0, 0) hqX; have hfq := frozen_of_row _ _ 0 _ _ hqX
      have hwr : IntKind.i64.wrap ((pre.length : Int) + 1) = ((pre.length + 1 : Nat) : Int) := by
        have := HLen.out; rw [IntWalk.i64_in _ (by omega)]; simp
      have HPost := Lib.hid (fun (Y : World) (a' : Act) (hY : Two X Y w2.heap.size (w2.heap.size + 1) (.cells #[.slice (some ⟨b, 0, none⟩) n' c'] 23) (.cells #[.int .i64 (IntKind.i64.wrap ((pre.length : Int) + 1))] 3)) => show rndPost w6.heap.size b (fun pre X => RBase NB MB SB S w4.heap.size Br A2 n2 c2' w5.heap.size rs A n' c B m M X ∧ (∃ A' c', X.heap[w2.heap.size]? = some (.cells #[.slice A' n' c'] 23) ∧ Ow X w.heap.size A' n' c' (lastO m pre) ∧ ∀ g, (Value.slice A' n' c').ownBlock = some g → g ≠ w6.heap.size ∧ g ≠ w6.heap.size + 1) ∧ X.heap[w2.heap.size + 1]? = some (.cells #[.int .i64 (pre.length : Nat)] 3) ∧ Below w.heap.size w X ∧ w6.heap.size ≤ X.heap.size) (fun cc X => False) (pre ++ [(t, x)]) X Exit.normal a' Y from by
        refine ⟨⟨Nat.le_of_eq hY.size.symm, fun k hk => hY.other k (by omega) (by omega)⟩, hbX.keep (fun k k1 _ => hY.other k (by omega) (by omega)) (hY.below (B := w.heap.size) (by omega) (by omega)) hBr0 hBm hTz0 hNl8 hMl8 hSl8, ⟨some ⟨b, 0, none⟩, c', hY.b1, ?_, fun g hg => ?_⟩, ?_, hBX.trans (hY.below (by omega) (by omega)), by rw [hY.size]; exact hDX⟩
        · rw [lastO_push]; exact (hrd.mono (by omega)).same (hY.other b (by omega) (by omega))
        · have e : b = g := Option.some.inj hg; omega
        · rw [hY.b2, hwr, List.length_append]; rfl)
      simp only [List.setIfInBounds_toArray, List.set_cons_zero, List.set_cons_succ]; clear hwr hbX hBX hrd hgX hoX hDo hLo
      gi_wp2
      gi_region
      all_goals
        gi_wp2
        first
          | exact HPost.out _ _ (Two.mk12 hrX hqX (by omega))
          | exact HPost.out _ _ (Two.mk21 hrX hqX (by omega))
    case done =>
      rintro D W hD ⟨hbX, ⟨A', cc, hrX, hoX, hgX⟩, hqX, hBX, hDX⟩ hK; have hcr := cell_of_row _ _ 0 _ _ (0, 0) hrX; have hcq := cell_of_row _ _ 0 _ _ (0, 0) hqX
      have hgD : ∀ g, (Value.slice A' nm cc).ownBlock = some g → g ≠ D := fun g e e2 => by
        subst e2; obtain ⟨g', e3, _, _⟩ := hoX.form hnm0; subst e3; obtain ⟨h1, h2⟩ := hoX.cell hnm0
        injection e with e
        subst e; rw [none_of_deferred8 hK] at h1; cases h1
      have HO := Lib.hid hoX; have HBX := Lib.hid hBX; clear hbX hoX hBX
      gi_wp2
      gi_region
      all_goals
        gi_wp2
        have hK2 : W.drew.heap[D]? = some (.deferred (some [])) := hK; refine ⟨by simp, .inl ⟨_, _, rfl, run_takeDeferred hK2, ?_⟩⟩; refine ⟨_, results_tmp2 rfl _ _ _, ?_⟩; have hOd : Ow W.drew w.heap.size A' nm cc (lastO m (roE (S : Int) gi rs M m)) := World.ownsRow.drew HO.out; exact ⟨A', nm, cc, rfl, hOd.same_own8 hnm0 (fun g e => World.putObj_heap_other (fun e2 => hgD g e e2)), HBX.out.drew.trans (below_put _ (by omega) hK2)⟩
    case stop =>
      rintro D cc W hD h hK; exact h.elim
end Go.Proofs.YtchcmgaohcldjaaGreatDoor
namespace Go.Proofs.YtchcmgaohcldjaaGreatDoor
open Go.ChangeShapes Go.WideShapes Go.ChangeAt Go.RowKit
theorem grown_tr {a b c : World} {r : Option Nat} (h : a.grownBy b r) (k : b.grownBy c r) : a.grownBy c r := h.trans k
theorem setCells3 (w : World) (g o : Nat) (x y z : Value) : w.setCells g o [x, y, z] = ((w.setCell ⟨g, o, none⟩ x).setCell ⟨g, o + 1, none⟩ y).setCell ⟨g, o + 2, none⟩ z := rfl
theorem row_setCells3 {w : World} {g o : Nat} {cur : Array Value} {t : TypeId} (x y z : Value) (h : w.heap[g]? = some (.cells cur t (0, 0))) :
    (w.setCells g o [x, y, z]).heap[g]? = some (.cells (((cur.setIfInBounds o x).setIfInBounds (o + 1) y).setIfInBounds (o + 2) z) t (0, 0)) := by
  rw [setCells3]; exact heap_setCell_same _ g (o + 2) _ _ z (heap_setCell_same _ g (o + 1) _ _ y (heap_setCell_same w g o _ _ x h))
theorem grown_setCells3 {w : World} {g o : Nat} {x y z : Value} : w.grownBy (w.setCells g o [x, y, z]) (some g) := by
  rw [setCells3]; exact grown_tr (grown_tr grown_set grown_set) grown_set
def OwRp (w : World) (lo : Nat) (g n : Nat) (rs : List RuleM) (u : Nat) : Prop :=
  ∃ vs, w.ownsRow lo 73 3 (.slice (some ⟨g, 0, none⟩) n n) n vs ∧ ∀ i, i < u → ∃ A' c', vs[i * 3]? = some (.int .i64 (rat rs i).k) ∧ vs[i * 3 + 1]? = some (.slice A' (rat rs i).xs.length c') ∧ vs[i * 3 + 2]? = some (.int .i64 (rat rs i).v) ∧ Ow w lo A' (rat rs i).xs.length c' (rat rs i).xs ∧ (rat rs i).xs.length ≤ 1099511627776 ∧ ∀ b, (Value.slice A' (rat rs i).xs.length c').ownBlock = some b → (Value.slice (some ⟨g, 0, none⟩) n n).ownBlock ≠ some b
theorem OwRp.below {w w' : World} {lo g n : Nat} {rs : List RuleM} {k : Nat} (h : OwRp w lo g n rs k) (hb : Below w.heap.size w w') : OwRp w' lo g n rs k := by
  obtain ⟨vs, hown, hin⟩ := h
  refine ⟨vs, World.ownsRow.kept hown (row := none) ⟨hb.os, hb.tape, hb.output, hb.size, fun k hk _ => hb.block k hk⟩ (by
    cases e : (Value.slice (some ⟨g, 0, none⟩) n n).ownBlock
    · exact .inl rfl
    · exact .inr (by simp)), fun i hi => ?_⟩
  obtain ⟨A', c', e0, e1, e2, e3, e4, e5⟩ := hin i hi; exact ⟨A', c', e0, e1, e2, e3.below hb, e4, e5⟩
theorem OwRp.put {w w3 : World} {lo g n u c3 : Nat} {rs : List RuleM} {A3 : Option Addr} (h : OwRp w lo g n rs u) (hlo : lo ≤ w.heap.size) (hu : u < n) (hb : Below w.heap.size w w3)
    (ho3 : Ow w3 w.heap.size A3 (rat rs u).xs.length c3 (rat rs u).xs) (hm : (rat rs u).xs.length ≤ 1099511627776) :
    OwRp (w3.setCells g (u * 3) [.int .i64 (rat rs u).k, .slice A3 (rat rs u).xs.length c3, .int .i64 (rat rs u).v]) lo g n rs (u + 1) := by
  have hgw : g < w.heap.size := by
    obtain ⟨vs, hown, _⟩ := h; exact (World.ownsRow.lt hown g (by simp [Value.ownBlock])).2
  obtain ⟨vs, ⟨hvl, hcase⟩, hin⟩ := h.below hb
  rcases hcase with ⟨h1, _⟩ | ⟨g', cap, cur, hv, h2, h3, h4, h5, h6, h7⟩
  · cases h1
  · injection hv with e1 _ e2
    injection e1 with e1
    injection e1 with e1 _ _
    subst e1 e2
    have hvl3 : u * 3 + 2 < vs.length := by rw [hvl]; omega
    refine ⟨((vs.set (u * 3) (.int .i64 (rat rs u).k)).set (u * 3 + 1) (.slice A3 (rat rs u).xs.length c3)).set (u * 3 + 2) (.int .i64 (rat rs u).v), ⟨by simp [hvl], .inr ⟨g, n, _, rfl, h2, row_setCells3 _ _ _ h3, h4, h5, by simp [h6], ?_⟩⟩, fun i hi => ?_⟩
    · simp only [Array.toList_setIfInBounds, List.take_set, h7]
    · by_cases e : i = u
      · subst e; refine ⟨A3, c3, ?_, ?_, ?_, ?_, hm, fun b hbb e => ?_⟩
        · rw [List.getElem?_set_ne (by omega), List.getElem?_set_ne (by omega), List.getElem?_set_self (by omega)]
        · rw [List.getElem?_set_ne (by omega), List.getElem?_set_self (by simp; omega)]
        · rw [List.getElem?_set_self (by simp; omega)]
        · exact (Ow.far ho3 (row := some g) grown_setCells3 (fun b hbb e => by have := ho3.own_lo b hbb; injection e with e; omega)).mono hlo
        · have h8 := ho3.own_lo b hbb
          simp [Value.ownBlock] at e
          omega
      · obtain ⟨A', c', e0, e1, e2, e3, e4, e5⟩ := hin i (by omega); refine ⟨A', c', ?_, ?_, ?_, ?_, e4, e5⟩
        · rw [List.getElem?_set_ne (by omega), List.getElem?_set_ne (by omega), List.getElem?_set_ne (by omega)]; exact e0
        · rw [List.getElem?_set_ne (by omega), List.getElem?_set_ne (by omega), List.getElem?_set_ne (by omega)]; exact e1
        · rw [List.getElem?_set_ne (by omega), List.getElem?_set_ne (by omega), List.getElem?_set_ne (by omega)]; exact e2
        · exact Ow.far e3 (row := some g) grown_setCells3 (fun b hbb e => e5 b hbb (by have := Option.some.inj e; simp [Value.ownBlock, this]))
def RdRx (w : World) (B : Nat) (A : Option Addr) (n : Nat) (rs : List RuleM) : Prop :=
  rs.length = n ∧ (0 < n → ∃ b off, A = some ⟨b, off, none⟩ ∧ b < B ∧ ∀ i, i < n → ∃ A' c', w.cell? ⟨b, off + i * 3, none⟩ = some (.int .i64 (rat rs i).k) ∧ w.cell? ⟨b, off + i * 3 + 1, none⟩ = some (.slice A' (rat rs i).xs.length c') ∧ w.cell? ⟨b, off + i * 3 + 2, none⟩ = some (.int .i64 (rat rs i).v) ∧ Rd w B A' (rat rs i).xs.length (rat rs i).xs ∧ (rat rs i).xs.length ≤ 9223372036854775807)
theorem RdRx.below {w w' : World} {B : Nat} {A : Option Addr} {n : Nat} {rs : List RuleM} (h : RdRx w B A n rs) (hb : Below B w w') : RdRx w' B A n rs :=
  ⟨h.1, fun hn => by
    obtain ⟨b, off, e, hlt, hc⟩ := h.2 hn; refine ⟨b, off, e, hlt, fun i hi => ?_⟩; obtain ⟨A', c', h0, h1, h2, h3, h4⟩ := hc i hi
    exact ⟨A', c', (hb.cell (p := ⟨b, off + i * 3, none⟩) hlt).trans h0, (hb.cell (p := ⟨b, off + i * 3 + 1, none⟩) hlt).trans h1, (hb.cell (p := ⟨b, off + i * 3 + 2, none⟩) hlt).trans h2, h3.below hb, h4⟩⟩
theorem OwR.keptG {w w' : World} {lo G k : Nat} {v : Value} {rs : List RuleM} (h : OwR w lo v rs k) (hg : w.grownBy w' (some G)) (hG : G < lo) : OwR w' lo v rs k := by
  obtain ⟨vs, hown, hin⟩ := h
  refine ⟨vs, World.ownsRow.kept hown hg (by
    cases e : v.ownBlock
    · exact .inl rfl
    · refine .inr (fun e2 => ?_); have h1 := (World.ownsRow.lt hown _ e).1; have h2 := Option.some.inj e2
      omega), fun i hi => ?_⟩
  obtain ⟨A', c', e0, e1, e2, e3, e4, e5⟩ := hin i hi; exact ⟨A', c', e0, e1, e2, Ow.far e3 hg (fun g hgg e => by have h1 := e3.own_lo g hgg; have h2 := Option.some.inj e; omega), e4, e5⟩
end Go.Proofs.YtchcmgaohcldjaaGreatDoor
