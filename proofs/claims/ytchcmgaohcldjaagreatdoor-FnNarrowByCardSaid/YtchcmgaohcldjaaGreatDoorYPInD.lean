import Derived.Test.YtchcmgaohcldjaaGreatDoorYI7
import Derived.Test.YtchcmgaohcldjaaGreatDoorYTb
import Derived.Test.YtchcmgaohcldjaaGreatDoorYMin
import Derived.Test.YtchcmgaohcldjaaGreatDoorYNr
import Derived.Test.YtchcmgaohcldjaaGreatDoorYM3
import Derived.BigRegionIn
import Derived.Test.YtchcmgaohcldjaaGreatDoorOwn
import Derived.Deep.MidRow
import Derived.Deep.RegionHeld3
import Derived.Test.YtchcmgaohcldjaaGreatDoorPz
set_option maxRecDepth 8000
namespace Go.Proofs.YtchcmgaohcldjaaGreatDoor
open Go.ChangeShapes Go.WideShapes Go.ChangeAt Go.RowKit
theorem npL_gU {m : List Int} {s : Nat} (hs : s ∈ [2, 3, 4]) (hm : mvd m s = true) : npL m s = gU m s (2 * s) := by
  unfold npL
  rw [if_pos hm, Int.toNat_natCast, gU_is hs hm _ (Nat.le_refl _)]
theorem gU_sub {m : List Int} {s : Nat} (hs : s ∈ [2, 3, 4]) (hm : mvd m s = true) (u : Nat) (hu : u ≤ 2 * s) : Sub (gU m s u) m := by
  rw [gU_is hs hm u hu]; exact pU_sub hm u
theorem an_sub32 {x : Int} {y : Nat} (hx : 0 ≤ x ∧ x ≤ 30 ∧ x.tmod 2 = 0) (hy : y < 32) : 0 ≤ bits .andNot .i64 x y ∧ bits .andNot .i64 x y ≤ x ∧ (bits .andNot .i64 x y).tmod 2 = 0 := by
  obtain ⟨a, rfl⟩ := Int.eq_ofNat_of_zero_le hx.1
  obtain ⟨q1, q2, q3⟩ := an_key a (by omega) y hy
  exact ⟨q1, q2, q3 (by have := hx.2.2; rw [Int.tmod_eq_emod_of_nonneg (by omega)] at this; omega)⟩
theorem gL_sub {m o : List Int} {s u : Nat} {S : Int} {C : Nat → Nat} (hm : mvd m S = true) (h : Sub o m) (k : Nat) : Sub (gL m s u C o k) m := by
  induction k with
  | zero => exact h
  | succ k ih =>
    simp only [gL]
    exact ih.put fun hk => by
      obtain ⟨h1, h2⟩ := ih.at_ hm hk
      obtain ⟨q1, q2, q3⟩ := an_sub32 h1 (tkF_lt C (lv m s u k) 32 (Nat.le_refl _))
      exact ⟨q1, by omega, q3⟩
/-- what each operation of the store yields, in whatever order they go. -/
def npG (g q n cc bm om c : Nat) (C : Nat → Nat) (X : Int) (y tk : Nat) (z : Int) : Nat → Value → Prop
  | 0, v => v = .slice (some ⟨g, 0, none⟩) n cc
  | 1, v => v = .int .i64 q
  | 2, v => v = .pointer (some ⟨g, q, none⟩)
  | 3, v => v = .int .i64 X
  | 4, v => v = .agg (kcells C)
  | 5, v => v = .slice (some ⟨bm, om, none⟩) n c
  | 6, v => v = .int .i64 q
  | 7, v => v = .pointer (some ⟨bm, om + q, none⟩)
  | 8, v => v = .int .i64 y
  | 9, v => v = .int .i64 tk
  | 10, v => v = .int .i64 z
  | 11, v => v = .pointer (some ⟨g, q, none⟩)
  | _, _ => True
/-- the whole array that the counts are, read. -/
theorem kload (C : Nat → Nat) (g : Nat) (w : World) (h : KBox w g C) : (Instr.loadAt 94 (.pointer (some ⟨g, 0, none⟩))).run Tryz.prog w = .ok (.agg (kcells C)) w := by
  simp only [Instr.loadAt, Instr.sureAddr, Sem.run_bind, Sem.run_pure, Result.andThen_ok, run_loadVar_row w g 94 94 (kcells C) (0, 0) _ h Tryz.underlying94 rfl (kinfo C)]
theorem kput (w : World) (C : Nat → Nat) (W : World) (h : (w.alloc (.cells #[.int .i64 0, .int .i64 0, .int .i64 0, .int .i64 0, .int .i64 0, .int .i64 0, .int .i64 0, .int .i64 0, .int .i64 0, .int .i64 0, .int .i64 0, .int .i64 0, .int .i64 0, .int .i64 0, .int .i64 0, .int .i64 0, .int .i64 0, .int .i64 0, .int .i64 0, .int .i64 0, .int .i64 0, .int .i64 0, .int .i64 0, .int .i64 0, .int .i64 0, .int .i64 0, .int .i64 0, .int .i64 0, .int .i64 0, .int .i64 0, .int .i64 0, .int .i64 0] 94)).setRow w.heap.size (kcells C) = W) : KBox W w.heap.size C ∧ Below w.heap.size w W := by
  rw [← h]
  exact ⟨setRow_heap _ _ _ _ _ _ (heap_alloc_new w (.cells (kcells fun _ => 0) 94)), setRow_below ((Below.refl _ _).alloc (Nat.le_refl _) _) (Nat.le_refl _)⟩
theorem kz_new (w : World) : (w.alloc (.cells #[.int .i64 0, .int .i64 0, .int .i64 0, .int .i64 0, .int .i64 0, .int .i64 0, .int .i64 0, .int .i64 0, .int .i64 0, .int .i64 0, .int .i64 0, .int .i64 0, .int .i64 0, .int .i64 0, .int .i64 0, .int .i64 0, .int .i64 0, .int .i64 0, .int .i64 0, .int .i64 0, .int .i64 0, .int .i64 0, .int .i64 0, .int .i64 0, .int .i64 0, .int .i64 0, .int .i64 0, .int .i64 0, .int .i64 0, .int .i64 0, .int .i64 0, .int .i64 0] 94)).heap[w.heap.size]? = some (.cells (kcells fun _ => 0) 94 (0, 0)) := heap_alloc_new w (.cells (kcells fun _ => 0) 94)
set_option maxHeartbeats 2000000 in
theorem implNarrowPairs (A : Option Addr) (c n B : Nat) (m : List Int) (size : Int) (w : World) (h : Rd w B A n m) (hm64 : B64 m) (hBm : B ≤ w.heap.size) (hm : n ≤ 1099511627776) (hsb : -9223372036854775808 ≤ size ∧ size ≤ 9223372036854775807) :
    Calls Tryz.prog 33 #[.slice A n c, .int .i64 size] w (RetSl w (npL m size)) := by
  have hlen := Lib.hid h.1
  have HV := Lib.hid (implMasksValid A c n B m size w h hm64 hBm hm hsb)
  cases hv : mvd m size
  · have HL := Lib.hid (show npL m size = [] by simp [npL, hv])
    go_enter Tryz.func33, Tryz.ntmps33
    go_wp2_with (go_at_call 78; refine HV.out.mono ?_; rintro e w1 ⟨rfl, hb1⟩; rw [hv])
    go_ret
    rw [HL.out]
    exact ⟨_, _, rfl, Ow.nil_ _ _, hb1⟩
  · obtain ⟨⟨s2, s4⟩, hsq, hn16, _⟩ := mvd_at hv
    obtain ⟨s, rfl⟩ := Int.eq_ofNat_of_zero_le (by omega : 0 ≤ size)
    have hs : s ∈ [2, 3, 4] := by simp; omega
    have hn : n = s * s := by rw [← hlen.out]; exact len_of hs hv
    have hn0 : 0 < n := by
      simp at hs
      rcases hs with rfl | rfl | rfl <;> omega
    have Hs := Lib.hid hs
    have Hn := Lib.hid hn
    have Hv := Lib.hid hv
    have hs2' : 2 ≤ s := by omega
    have hs4' : s ≤ 4 := by omega
    have HCl := Lib.hid (fun w' (hb : Below w.heap.size w w') => clone_any A n c B m w' (h.below (hb.mono hBm)) (Nat.le_trans hBm hb.size) hn0 hm)
    have HF := Lib.hid (npL_gU hs hv)
    obtain ⟨T, hT⟩ : ∃ T, T = 2 * s := ⟨_, rfl⟩
    rw [← hT] at HF
    have HT := Lib.hid hT
    have hT8 : T ≤ 8 := by omega
    clear hs hn hT hsq hn16
    go_enter Tryz.func33, Tryz.ntmps33
    go_wp2_with (first
      | (go_at_call 78; refine HV.out.mono ?_; rintro e w1 ⟨rfl, hb1⟩; rw [Hv.out])
      | (go_at_call 77; refine (HCl.out _ hb1).mono ?_; rintro e w2 ⟨Ac, cc, rfl, ho2, hb2⟩; have hb12 := step hb1 hb2))
    have ho3 := ho2.mono hb1.size
    obtain ⟨g, rfl, hgl, hgw⟩ := ho3.form hn0
    go_loopw [19] (fun i wr => ∃ u : Nat, u ≤ T ∧ i = .int .i64 u ∧ Ow wr w.heap.size (some ⟨g, 0, none⟩) n cc (gU m s u) ∧ Below w.heap.size w wr) (fun i _ => T - (intOf i).toNat)
    case atStart => exact ⟨0, Nat.zero_le _, rfl, ho3, hb12⟩
    case round =>
      clear ho2 ho3 hb12 hb1 hb2
      obtain ⟨u, hu, rfl, ho, hb⟩ := hrel
      by_cases hlt : u < T
      · have hltI : (u : Int) < 2 * (s : Int) := by have := HT.out; omega
        have hu2 := Lib.hid (show u < 2 * s by have := HT.out; omega)
        have HLc := Lib.hid (lineCells_line Hs.out hu2.out (implLineCells s u wr ⟨by omega, by omega⟩))
        have HPk := Lib.hid (fun w' (hb : Below w.heap.size w w') A3 c3 (ho : Ow w' w.heap.size A3 s c3 (lineTo s u s)) => implPick A c n B m A3 c3 s w'.heap.size (lineTo s u s) w' (h.below (hb.mono hBm)) ho.rd (Nat.le_trans hBm hb.size) (Nat.le_refl _) (by omega) (by rw [Hn.out]; exact lineTo_small Hs.out hu2.out))
        have HCo := Lib.hid (fun w' A4 c4 (hr : Rd w' w'.heap.size A4 s (pks m (lineTo s u s) s)) => countsOf_any A4 c4 s w'.heap.size _ (lv m s u) w' hr (Nat.le_refl _) (by omega) (Lib.hid (pks_line Hv.out)))
        obtain ⟨C, hC⟩ : ∃ C : Nat → Nat, C = fun x => cN (lv m s u) x s := ⟨_, rfl⟩
        have hC4 := Lib.hid (show ∀ x, C x ≤ 4 by rw [hC]; intro x; exact Nat.le_trans (cN_le (lv m s u) x s) hs4')
        have HG := Lib.hid (show gU m s (u + 1) = gL m s u C (gU m s u) s by rw [hC]; rfl)
        rw [← hC] at HCo
        have Hi := Lib.hid (kinfo C)
        have Hone := Lib.hid (kone C)
        have Hz := Lib.hid (fun w' => kz_new w')
        have Hpl := Lib.hid (show (pks m (lineTo s u s) s).length = s from mapTo_length _ _)
        have hat := Lib.hid (line_in7 Hs.out hu2.out)
        rw [← Hn.out] at hat
        have Hsub := Lib.hid (fun k => gL_sub (s := s) (u := u) (C := C) Hv.out (gU_sub Hs.out Hv.out u (by have := hu2.out; omega)) k)
        clear hC
        go_wp2_with (first
          | (go_at_call 55; refine HLc.out.mono ?_; rintro e w3 ⟨A3, c3, rfl, ho3', hb3⟩; have hb13 := step hb hb3; have ho3 := ho3'.mono hb.size; have ho3g := ho3'.mono (show g + 1 ≤ wr.heap.size from ho.own_hi g rfl); clear ho3'; have hoA := ho.below hb3)
          | (go_at_call 91; refine (HPk.out _ hb13 _ _ ho3).mono ?_; rintro e w4 ⟨A4, c4, rfl, ho4, hb4⟩; rw [Hpl.out] at ho4 ⊢; have hb14 := step hb13 hb4; have hr4 := ho4.rd; have ho34 := ho3g.below hb4; have hoB := hoA.below hb4)
          | (go_at_call 90; refine (HCo.out _ _ _ hr4).mono ?_; rintro e w5 ⟨rfl, hb5⟩; have hb15 := step hb14 hb5; have ho35 := ho34.below hb5; have hoC := hoB.below hb5; have hw5 := hb15.size; have hgw5 := hoC.own_hi g rfl)
          | (refine wpList_store_row rfl 94 _ _ rfl w5.heap.size (kcells C) rfl rfl 94 (kcells fun _ => 0) (Hz.out w5) Hi.out rfl Hone.out ?_; generalize hW5 : World.setRow _ _ _ = W5; obtain ⟨hkb0, hbW⟩ := kput w5 C W5 hW5; clear hW5; obtain ⟨gk, hgk⟩ : ∃ gk, w5.heap.size = gk := ⟨_, rfl⟩; have hkb := Lib.hid hkb0; clear hkb0; have hb16 := step hb15 hbW; have ho36 := ho35.below hbW; have hoD := hoC.below hbW; rw [hgk] at hkb ⊢; rw [hgk] at hgw5))
        go_loopw [31] (fun i wr => ∃ k : Nat, k ≤ s ∧ i = .int .i64 k ∧ Ow wr w.heap.size (some ⟨g, 0, none⟩) n cc (gL m s u C (gU m s u) k) ∧ Ow wr (g + 1) A3 s c3 (lineTo s u s) ∧ Hid (KBox wr gk C) ∧ Below w.heap.size w wr) (fun i _ => s - (intOf i).toNat)
        case atStart => exact ⟨0, Nat.zero_le _, rfl, hoD, ho36, hkb, hb16⟩
        case round =>
          clear hoD ho36 hkb hb16
          obtain ⟨k, hk, rfl, hoN, hoL, hkb, hbN⟩ := hrel
          by_cases hks : k < s
          · obtain ⟨q, hq, hqc, hqn⟩ := hat.out k hks
            obtain ⟨g3, rfl, _, _⟩ := hoL.form (by omega)
            obtain ⟨hcl, _⟩ := hoL.cell hks
            rw [lineTo_nth hks, hq] at hcl
            obtain ⟨bm, offm, hA, hbmB, hcm⟩ := (h.below (hbN.mono hBm)).at_ hqn
            subst hA
            obtain ⟨hcn, hfn⟩ := hoN.cell hqn
            have hvq := lv_int (S := (s : Int)) (u := (u : Int)) Hv.out k
            rw [hqc] at hvq
            rw [hvq] at hcm
            have hv32 := lv_lt (S := (s : Int)) (u := (u : Int)) Hv.out k
            have HTk := Lib.hid (fun w' => taken_any C (lv m s u k) w' hC4.out)
            obtain ⟨X, hX⟩ : ∃ X, nth (gL m s u C (gU m s u) k) q = X := ⟨_, rfl⟩
            obtain ⟨y, hy⟩ : ∃ y, lv m s u k = y := ⟨_, rfl⟩
            obtain ⟨tk, htk⟩ : ∃ tk, tkF C y 32 = tk := ⟨_, rfl⟩
            obtain ⟨z, hz⟩ : ∃ z, bits .andNot .i64 X (tk : Int) = z := ⟨_, rfl⟩
            have HG1 := Lib.hid (show gL m s u C (gU m s u) (k + 1) = (gL m s u C (gU m s u) k).set q z by simp only [gL]; rw [hqc, hX, hy, htk, hz])
            rw [hX] at hcn
            rw [hy] at hcm hv32 HTk
            rw [htk] at HTk
            have Hz' := Lib.hid hz
            have hgN := hoN.own_hi g rfl
            have hgkN := hkb.out.lt
            have hqI : (q : Int) < (n : Int) := by omega
            have hbmN : bm < wr.heap.size := Nat.lt_of_lt_of_le hbmB (Nat.le_trans hBm hbN.size)
            have HoN := Lib.hid hoN
            have HoL := Lib.hid hoL
            clear hX hy htk hz hoN hoL hvq
            go_wp2
            refine wp_region_dsS [35, 36, 37, 38, 39, 40, 41, 42, 43, 44, 45, 46] (fun j v _ => npG g q n cc bm offm c C X y tk z j v) (fun w1 w2 => Below w1.heap.size w1 w2) (fun _ _ _ => True) (fun _ _ => True) (fun _ => trivial) (below_drewN (Below.refl _ _) 1) (fun _ _ h h' => step h h') (by kernel_rfl) (by kernel_rfl) (by simp) (fun _ _ _ _ _ _ _ _ h => h) ?step ?last
            case step =>
              intro i o a w' K D hD hcl2 hi hoo hrel hfr hpre hC hK
              have e0 : a.eval (.tmp 0) = .slice (some ⟨bm, offm, none⟩) n c := hfr 0 (by simp)
              have e5 : a.eval (.tmp 5) = .slice (some ⟨g, 0, none⟩) n cc := hfr 5 (by simp)
              have e8 : a.eval (.tmp 8) = .pointer (some ⟨gk, 0, none⟩) := hfr 8 (by simp)
              have e10 : a.eval (.tmp 10) = .int .i64 q := hfr 10 (by simp)
              have hkeep : ∀ (v : Value), npG g q n cc bm offm c C X y tk z i v → K (a.put o.dst v) w' := fun v hv => hK v w' (Below.refl _ _) trivial (fun j _ _ h => h) hv
              have hkw : KBox w' gk C := hkb.out.below hgkN hrel
              have hcn' : w'.cell? ⟨g, q, none⟩ = some (.int .i64 X) := (hrel.cell (p := ⟨g, q, none⟩) hgN).trans hcn
              have hcm' : w'.cell? ⟨bm, offm + q, none⟩ = some (.int .i64 y) := (hrel.cell (p := ⟨bm, offm + q, none⟩) hbmN).trans hcm
              have hi12 : i < 12 := hi
              have : i = 0 ∨ i = 1 ∨ i = 2 ∨ i = 3 ∨ i = 4 ∨ i = 5 ∨ i = 6 ∨ i = 7 ∨ i = 8 ∨ i = 9 ∨ i = 10 ∨ i = 11 := by omega
              rcases this with rfl | rfl | rfl | rfl | rfl | rfl | rfl | rfl | rfl | rfl | rfl | rfl
              all_goals
                simp only [List.getElem?_toArray, List.getElem?_cons_zero, List.getElem?_cons_succ, Option.some.injEq] at hoo
                subst hoo
              · refine oper_val (v := .slice (some ⟨g, 0, none⟩) n cc) (w' := w') ?_ (hkeep _ rfl)
                unfold execOp
                simp only [e5]
                go_simp
              · refine oper_val (v := .int .i64 q) (w' := w') ?_ (hkeep _ rfl)
                unfold execOp
                simp only [e10]
                go_simp
              · have p0 : a.eval (.tmp 35) = .slice (some ⟨g, 0, none⟩) n cc := hpre ⟨0, .data⟩ (by simp) rfl
                have p1 : a.eval (.tmp 36) = .int .i64 q := hpre ⟨1, .data⟩ (by simp) rfl
                refine oper_val (v := .pointer (some ⟨g, q, none⟩)) (w' := w') ?_ (hkeep _ rfl)
                unfold execOp
                simp only [p0, p1]
                go_simp
              · have p2 : a.eval (.tmp 37) = .pointer (some ⟨g, q, none⟩) := hpre ⟨2, .data⟩ (by simp) rfl
                refine oper_val (v := .int .i64 X) (w' := w') ?_ (hkeep _ rfl)
                unfold execOp
                simp only [p2]
                go_simp
              · refine oper_val (v := .agg (kcells C)) (w' := w') ?_ (hkeep _ rfl)
                unfold execOp
                simp only [e8, kload C gk w' hkw, Sem.run_bind, Result.andThen_ok, Sem.run_pure]
              · refine oper_val (v := .slice (some ⟨bm, offm, none⟩) n c) (w' := w') ?_ (hkeep _ rfl)
                unfold execOp
                simp only [e0]
                go_simp
              · refine oper_val (v := .int .i64 q) (w' := w') ?_ (hkeep _ rfl)
                unfold execOp
                simp only [e10]
                go_simp
              · have p0 : a.eval (.tmp 40) = .slice (some ⟨bm, offm, none⟩) n c := hpre ⟨5, .data⟩ (by simp) rfl
                have p1 : a.eval (.tmp 41) = .int .i64 q := hpre ⟨6, .data⟩ (by simp) rfl
                refine oper_val (v := .pointer (some ⟨bm, offm + q, none⟩)) (w' := w') ?_ (hkeep _ rfl)
                unfold execOp
                simp only [p0, p1]
                go_simp
              · have p2 : a.eval (.tmp 42) = .pointer (some ⟨bm, offm + q, none⟩) := hpre ⟨7, .data⟩ (by simp) rfl
                refine oper_val (v := .int .i64 y) (w' := w') ?_ (hkeep _ rfl)
                unfold execOp
                simp only [p2]
                go_simp
              · have p0 : a.eval (.tmp 39) = .agg (kcells C) := hpre ⟨4, .data⟩ (by simp) rfl
                have p1 : a.eval (.tmp 43) = .int .i64 y := hpre ⟨8, .data⟩ (by simp) rfl
                refine oper_call (f := 92) (args := #[.agg (kcells C), .int .i64 y]) ?_ (HTk.out w') ?_
                · unfold execOp
                  go_simp
                  exact ⟨by simpa [Act.eval] using p0, by simpa [Act.eval] using p1⟩
                · rintro e w8 ⟨rfl, hb8⟩
                  exact ⟨_, rfl, hK _ w8 hb8 trivial (fun j _ _ h => h) rfl⟩
              · have p0 : a.eval (.tmp 38) = .int .i64 X := hpre ⟨3, .data⟩ (by simp) rfl
                have p1 : a.eval (.tmp 44) = .int .i64 tk := hpre ⟨9, .data⟩ (by simp) rfl
                refine oper_val (v := .int .i64 z) (w' := w') ?_ (hkeep _ rfl)
                unfold execOp
                simp only [p0, p1]
                go_simp
                exact Hz'.out
              · have p0 : a.eval (.tmp 35) = .slice (some ⟨g, 0, none⟩) n cc := hpre ⟨0, .data⟩ (by simp) rfl
                have p1 : a.eval (.tmp 36) = .int .i64 q := hpre ⟨1, .data⟩ (by simp) rfl
                refine oper_val (v := .pointer (some ⟨g, q, none⟩)) (w' := w') ?_ (hkeep _ rfl)
                unfold execOp
                simp only [p0, p1]
                go_simp
            case last =>
              intro o a w5 hoo hrel hdef htm hfr hpre
              simp only [List.length_cons, List.length_nil, Nat.reduceAdd, List.getElem?_toArray, List.getElem?_cons_zero, List.getElem?_cons_succ, Option.some.injEq] at hoo
              subst hoo
              have g0 : a.tmps.getD 35 undef = .slice (some ⟨g, 0, none⟩) n cc := hpre 0 (by simp)
              have g1 : a.tmps.getD 36 undef = .int .i64 q := hpre 1 (by simp)
              have g2 : a.tmps.getD 37 undef = .pointer (some ⟨g, q, none⟩) := hpre 2 (by simp)
              have g3 : a.tmps.getD 38 undef = .int .i64 X := hpre 3 (by simp)
              have g4 : a.tmps.getD 39 undef = .agg (kcells C) := hpre 4 (by simp)
              have g5 : a.tmps.getD 40 undef = .slice (some ⟨bm, offm, none⟩) n c := hpre 5 (by simp)
              have g6 : a.tmps.getD 41 undef = .int .i64 q := hpre 6 (by simp)
              have g7 : a.tmps.getD 42 undef = .pointer (some ⟨bm, offm + q, none⟩) := hpre 7 (by simp)
              have g8 : a.tmps.getD 43 undef = .int .i64 y := hpre 8 (by simp)
              have g9 : a.tmps.getD 44 undef = .int .i64 tk := hpre 9 (by simp)
              have g10 : a.tmps.getD 45 undef = .int .i64 z := hpre 10 (by simp)
              have g11 : a.tmps.getD 46 undef = .pointer (some ⟨g, q, none⟩) := hpre 11 (by simp)
              have h45 : a.eval (.tmp 45) = .int .i64 z := g10
              have h46 : a.eval (.tmp 46) = .pointer (some ⟨g, q, none⟩) := g11
              have ho5 := HoN.out.below hrel
              obtain ⟨hc5, hf5⟩ := ho5.cell hqn
              have hop := Lib.hid (ho5.putN q z)
              have hb5 := Lib.hid (Below.setCell (p := (⟨g, q, none⟩ : Addr)) (hbN.trans (hrel.mono hbN.size)) hgl (.int .i64 z))
              have hL5 := Lib.hid (HoL.out.below hrel)
              have hk5 := Lib.hid (hkb.out.below hgkN hrel)
              refine ⟨w5.setCell ⟨g, q, none⟩ (.int .i64 z), ?_, ?_⟩
              · unfold execOp
                simp only [h45, h46]
                go_simp
              · have key := htm
                simp only [List.foldl_cons, List.foldl_nil, g0, g1, g2, g3, g4, g5, g6, g7, g8, g9, g10, g11, List.setIfInBounds_toArray, List.set_cons_succ, List.set_cons_zero] at key
                clear htm hfr hpre g0 g1 g2 g3 g4 g5 g6 g7 g8 g9 g10 g11 h45 h46
                obtain ⟨tm, df⟩ := a
                dsimp only at key hdef
                subst key hdef
                clear hc5 hf5 ho5
                go_wp2
                go_roundw
                case rel => exact ⟨k + 1, by omega, by go_num, by rw [HG1.out]; exact hop.out, hL5.out.far grown_set (fun b hb e => by have h1 := hL5.out.own_lo b hb; injection e with e; omega), Lib.hid (hk5.out.other (by omega)), hb5.out⟩
                case measure => simp [intOf]; omega
          · obtain rfl : k = s := by omega
            go_wp2
            go_roundw
            case rel => exact ⟨u + 1, by omega, by go_num, by rw [HG.out]; exact hoN, hbN⟩
            case measure => simp [intOf]; omega
      · obtain rfl : u = T := by omega
        have hgeI : ¬ (u : Int) < 2 * (s : Int) := by have := HT.out; omega
        go_wp2
        go_ret
        rw [HF.out]
        exact retSl_mk ho hb
set_option maxRecDepth 8000
/-! A round of one technique; the first technique that changes something. -/
theorem b64_mvd {m : List Int} {s : Int} (h : mvd m s = true) : B64 m := fun k => by
  obtain ⟨a, b, _⟩ := mvd_nth h k
  omega
theorem tabi : (Tryz.prog.info? 138).map (·.size) = some 21 := by kernel_rfl
theorem tcells_one (F : Nat → Nat) (A : Option Addr) (n c : Nat) : (tcells F A n c).all (·.oneCell') = true := by simp [tcells, Value.oneCell']
set_option maxHeartbeats 2000000 in
theorem narrowedByRules_any (s L Br : Nat) (At : Option Addr) (nt ct Bt : Nat) (rs : List RuleM) (A : Option Addr) (c nm B : Nat) (m : List Int) (w : World) (hTb : TbR w L Bt Br s rs At nt) (hBt : Bt ≤ w.heap.size) (hBr : Br ≤ Bt) (h : Rd w B A nm m) (hBm : B ≤ w.heap.size) (hs : s ∈ [2, 3, 4]) (hm : mvd m s = true) (hr : ∀ i, i < nt → rvR s (rat rs i) = true) (hnt : nt ≤ 20) :
    Calls Tryz.prog 128 #[.agg #[.int .i64 s, .slice At nt ct], .slice A nm c] w (RetSl w (nrTo s rs m nt)) := by
  have hlen := Lib.hid h.1
  obtain ⟨⟨s2, s4⟩, hsq, hnm16, _⟩ := mvd_at hm
  rw [h.1] at hsq hnm16
  have hnm0 : 0 < nm := by
    simp at hs
    rcases hs with rfl | rfl | rfl <;> omega
  obtain ⟨Wa, hWa⟩ : ∃ Wa, w.alloc (.cells #[.int .i64 s, .slice At nt ct] 84) = Wa := ⟨_, rfl⟩
  have hba : Below w.heap.size w Wa := by rw [← hWa]; exact (Below.refl _ _).alloc (Nat.le_refl _) _
  have hsa : Wa.heap.size = w.heap.size + 1 := by rw [← hWa]; simp
  have hra : Wa.heap[w.heap.size]? = some (.cells #[.int .i64 s, .slice At nt ct] 84) := by rw [← hWa]; exact heap_alloc_new w _
  have HCl := Lib.hid (clone_any A nm c B m Wa (h.below (hba.mono hBm)) (by omega) hnm0 (by omega))
  have HS := Lib.hid (fun u (hu : u ≤ nt) => nrTo_sub (rs := rs) hm (fun i hi => hr i (by rw [← hTb.1]; exact hi)) u (by rw [hTb.1]; exact hu))
  have HR := Lib.hid hr
  have Hm := Lib.hid hm
  have Hsq := Lib.hid hsq
  have HTb := Lib.hid hTb
  have hntl := hTb.1
  have HBa := Lib.hid hba
  clear hm hr hsq hTb hba
  go_enter Tryz.func128, Tryz.ntmps128
  go_wp2_with (go_at_call 77; refine HCl.out.mono ?_; rintro e w1 ⟨A1, c1, rfl, ho1, hb1⟩; have hr1 := (hb1.block w.heap.size (by omega)).trans hra; have hc1 := cell_of_row _ _ 1 _ _ (0, 0) hr1)
  obtain ⟨g, rfl, hgl, hgw⟩ := ho1.form hnm0
  have HB1 := Lib.hid (step HBa.out hb1)
  have hb1s := hb1.size
  clear hr1 hc1 hra hb1
  go_loopw [13] (fun i wr => ∃ u : Nat, u ≤ nt ∧ i = .int .i64 u ∧ Ow wr Wa.heap.size (some ⟨g, 0, none⟩) nm c1 (nrTo s rs m u) ∧ w1.grownBy wr (some g)) (fun i _ => nt - (intOf i).toNat)
  case atStart => exact ⟨0, Nat.zero_le _, rfl, ho1, World.grownBy.refl _ _⟩
  case round =>
    clear ho1
    obtain ⟨u, hu, rfl, ho, hg⟩ := hrel
    by_cases hlt : u < nt
    · have hltI : (u : Int) < (nt : Int) := by omega
      have hbr : Below w.heap.size w wr := HB1.out.grown hg HB1.out.size (fun k e => by have := Option.some.inj e; omega)
      obtain ⟨b, rfl, _, hbB, hcc⟩ := (HTb.out.below (hbr.mono hBt) hBr).2 (by omega)
      obtain ⟨A', C', hrg, hrd⟩ := hcc u hlt
      have hv0 := HR.out u hlt
      obtain ⟨_, ⟨hn1, hn4⟩, _, hxin⟩ := rv_facts rfl hv0
      have hmu := (HS.out u hu).mvd_ Hm.out
      have HNx : Hid (nrTo s rs m (u + 1) = nrIn (rat rs u).xs (rmL (rat rs u).k (rat rs u).xs (rat rs u).v (nrTo s rs m u) s) (nrTo s rs m u) (rat rs u).xs.length) := Lib.hid rfl
      have hf := fun j (hj : j < (rat rs u).xs.length) => nm_rm hs hv0 hmu j hj
      have hF64 := rtF_lt s (rat rs u)
      have hms : ∀ i, i < nm → 0 ≤ nth (nrTo s rs m u) i ∧ nth (nrTo s rs m u) i < 32 := fun i _ => by obtain ⟨a, b, _⟩ := mvd_nth hmu i; omega
      obtain ⟨F, hF⟩ : ∃ F, F = rtF s (rat rs u) := ⟨_, rfl⟩
      obtain ⟨f, hff⟩ : ∃ f, f = rmL (rat rs u).k (rat rs u).xs (rat rs u).v (nrTo s rs m u) s := ⟨_, rfl⟩
      obtain ⟨xs, hxs⟩ : ∃ xs, xs = (rat rs u).xs := ⟨_, rfl⟩
      rw [← hff] at HNx hf
      rw [← hF] at hf hF64 hrg
      rw [← hxs] at HNx hf hrd hrg hn1 hn4 hxin
      obtain ⟨l, hl⟩ : ∃ l, l = xs.length := ⟨_, rfl⟩
      rw [← hl] at HNx hf hrd hrg hn1 hn4 hxin
      obtain ⟨o, hoo⟩ : ∃ o, o = nrTo s rs m u := ⟨_, rfl⟩
      rw [← hoo] at HNx hf hms ho
      have hin : ∀ i, i < l → ∃ q : Nat, nth xs i = (q : Int) ∧ q < nm := fun i hi => by
        obtain ⟨y0, y1⟩ := hxin i hi
        obtain ⟨q, hq⟩ := Int.eq_ofNat_of_zero_le y0
        exact ⟨q, hq, by have := Hsq.out; omega⟩
      obtain ⟨W2, hW2⟩ : ∃ W2, (wr.alloc (.cells zeroTab 138)).setRow wr.heap.size (tcells F A' l C') = W2 := ⟨_, rfl⟩
      have hr2 : W2.heap[wr.heap.size]? = some (.cells (tcells F A' l C') 138) := by rw [← hW2]; exact setRow_heap (w := wr.alloc (.cells zeroTab 138)) wr.heap.size _ _ _ _ (heap_alloc_new wr _)
      have hbW : Below wr.heap.size wr W2 := by rw [← hW2]; exact ((Below.refl _ _).alloc (Nat.le_refl _) _).grown grown_sr0 (by simp) (fun k e => by have := Option.some.inj e; omega)
      have hBt2 : Bt ≤ wr.heap.size := Nat.le_trans hBt hbr.size
      have hgr := hg.size
      have HNa := Lib.hid (narrow_any F A' C' l Br xs f g c1 nm Wa.heap.size o W2 (hrd.below (hbW.mono (Nat.le_trans hBr hBt2))) (by omega) (ho.below hbW) hn4 hF64 hin hms hf)
      have hg2 : w1.grownBy W2 (some g) := hg.trans (grown_of_below6 hbW)
      subst hW2
      have HHr2 := Lib.hid hr2
      have Hg2 := Lib.hid hg2
      have HX : Hid (∀ w5, Ow w5 Wa.heap.size (some ⟨g, 0, none⟩) nm c1 (nrIn xs f o l) → Ow w5 Wa.heap.size (some ⟨g, 0, none⟩) nm c1 (nrTo s rs m (u + 1))) := Lib.hid (fun w5 h5 => by rw [HNx.out]; exact h5)
      have Hlt := Lib.hid hlt
      have Hz := Lib.hid (heap_alloc_new wr (.cells zeroTab 138))
      clear HNx hf hF64 hms hin hF hff hxs hl hoo hrd hv0 hmu hxin hbr hbW hr2 hg2 ho
      go_wp2_with (first
        | (refine wpList_load_mid rfl 138 _ rfl b (u * 21) rfl (tcells F A' l C').toList _ hrg Tryz.underlying138 rfl tabi ?_)
        | (refine wpList_store_row rfl 138 _ _ rfl wr.heap.size (tcells F A' l C') rfl rfl 138 zeroTab Hz.out tabi rfl (tcells_one F A' l C') ?_)
        | (refine wpList_load_row rfl 138 _ rfl wr.heap.size rfl 138 (tcells F A' l C') (0, 0) _ HHr2.out Tryz.underlying138 rfl tabi ?_)
        | (go_at_call 163; refine HNa.out.mono ?_; rintro e w5 ⟨rfl, ho5, hg5⟩))
      go_roundw
      case rel => exact ⟨u + 1, Hlt.out, by go_num, HX.out _ ho5, Hg2.out.trans hg5⟩
      case measure => have := Hlt.out; simp [intOf]; omega
    · obtain rfl : u = nt := by omega
      go_wp2
      go_ret
      exact retSl_mk (ho.mono (by omega)) (HB1.out.grown hg HB1.out.size (fun k e => by have := Option.some.inj e; omega))
set_option maxHeartbeats 1000000 in
theorem round_any (s L Br : Nat) (At : Option Addr) (nt ct Bt : Nat) (gi : List Int) (rs : List RuleM) (A : Option Addr) (c nm B : Nat) (m : List Int) (t : Int) (w : World) (hTb : t = 4 → TbR w L Bt Br s rs At nt) (hBt : Bt ≤ w.heap.size) (hBr : Br ≤ Bt) (h : Rd w B A nm m) (hBm : B ≤ w.heap.size) (hT : Tz w) (hs : s ∈ [2, 3, 4]) (hv : pvB s gi rs = true) (hm : mvd m s = true) (t1 : 1 ≤ t) (t4 : t ≤ 4) :
    Calls Tryz.prog 83 #[.agg #[.int .i64 s, .slice At nt ct], .slice A nm c, .int .i64 t] w (RetSl w (nbL s gi rs m t)) := by
  have hb64 := b64_mvd hm
  obtain ⟨⟨s2, s4⟩, _, hnm16, _⟩ := mvd_at hm
  rw [h.1] at hnm16
  obtain ⟨Wa, hWa⟩ : ∃ Wa, w.alloc (.cells #[.int .i64 s, .slice At nt ct] 84) = Wa := ⟨_, rfl⟩
  have hba : Below w.heap.size w Wa := by rw [← hWa]; exact (Below.refl _ _).alloc (Nat.le_refl _) _
  have hra : Wa.heap[w.heap.size]? = some (.cells #[.int .i64 s, .slice At nt ct] 84) := by rw [← hWa]; exact heap_alloc_new w _
  have c0 := cell_of_row _ _ 0 _ _ (0, 0) hra
  have hBa := Nat.le_trans hBm hba.size
  have hRa := h.below (hba.mono hBm)
  have hTa := hT.below hT.lt hba
  have ht : t = 1 ∨ t = 2 ∨ t = 3 ∨ t = 4 := by omega
  have Hi := Lib.hid nar_info
  rcases ht with rfl | rfl | rfl | rfl
  · have HL := Lib.hid (show nbL s gi rs m 1 = nsL m s nm by unfold nbL; rw [hv, hm, Bool.true_and, if_pos rfl, if_pos rfl, h.1])
    have HC := Lib.hid (implNarrowSingles A c nm B m s Wa hRa hb64 hTa hBa (by omega) (by omega))
    clear hTb hm hv h hb64
    go_enter Tryz.func83, Tryz.ntmps83
    go_wp2_with (go_at_call 31; refine HC.out.mono ?_; rintro e w1 ⟨A1, c1, rfl, ho1, hb1⟩)
    go_ret
    rw [HL.out]
    exact ⟨A1, c1, rfl, ho1.mono hba.size, step hba hb1⟩
  · have HL := Lib.hid (show nbL s gi rs m 2 = nhL m s by unfold nbL; rw [hv, hm, Bool.true_and, if_pos rfl, if_neg (by omega), if_pos rfl])
    have HC := Lib.hid (implNarrowHidden A c nm B m s Wa hRa hb64 hBa (by omega) (by omega))
    clear hTb hm hv h hb64
    go_enter Tryz.func83, Tryz.ntmps83
    go_wp2_with (go_at_call 32; refine HC.out.mono ?_; rintro e w1 ⟨A1, c1, rfl, ho1, hb1⟩)
    go_ret
    rw [HL.out]
    exact ⟨A1, c1, rfl, ho1.mono hba.size, step hba hb1⟩
  · have HL := Lib.hid (show nbL s gi rs m 3 = npL m s by unfold nbL; rw [hv, hm, Bool.true_and, if_pos rfl, if_neg (by omega), if_neg (by omega), if_pos rfl])
    have HC := Lib.hid (implNarrowPairs A c nm B m s Wa hRa hb64 hBa (by omega) (by omega))
    clear hTb hm hv h hb64
    go_enter Tryz.func83, Tryz.ntmps83
    go_wp2_with (go_at_call 33; refine HC.out.mono ?_; rintro e w1 ⟨A1, c1, rfl, ho1, hb1⟩)
    go_ret
    rw [HL.out]
    exact ⟨A1, c1, rfl, ho1.mono hba.size, step hba hb1⟩
  · have hTb := hTb rfl
    have HL := Lib.hid (show nbL s gi rs m 4 = nrTo s rs m nt by unfold nbL nrL; rw [hv, hm, Bool.true_and, if_pos rfl, if_neg (by omega), if_neg (by omega), if_neg (by omega), if_pos rfl, if_pos rfl, hTb.1])
    have hall := (pv_gv hv).2.2
    have HC := Lib.hid (narrowedByRules_any s L Br At nt ct Bt rs A c nm B m Wa (hTb.below (hba.mono hBt) hBr) (Nat.le_trans hBt hba.size) hBr hRa hBa hs hm (fun i hi => hall i (by rw [hTb.1]; exact hi)) (by rw [← hTb.1]; exact (pv_gv hv).2.1))
    clear hTb hm hv h hb64 hall
    go_enter Tryz.func83, Tryz.ntmps83
    go_wp2_with (first
      | (refine wpList_load_row rfl 84 _ rfl w.heap.size rfl 84 #[.int .i64 s, .slice At nt ct] (0, 0) _ hra Tryz.underlying84 rfl (Hi.out _ _) ?_)
      | (go_at_call 128; refine HC.out.mono ?_; rintro e w1 ⟨A1, c1, rfl, ho1, hb1⟩))
    go_ret
    rw [HL.out]
    exact ⟨A1, c1, rfl, ho1.mono hba.size, step hba hb1⟩
/-- what 'next' hands back: the first technique that changes something, its masks; or nothing. -/
def NextPost (w : World) (nm : Nat) : Option (List Int × Nat) → Ending → World → Prop
  | none, e, w' => e = .returned (.tuple #[.slice none 0 0, .int .i64 0]) ∧ Below w.heap.size w w'
  | some q, e, w' => (∃ b c, e = .returned (.tuple #[.slice (some ⟨b, 0, none⟩) nm c, .int .i64 (q.2 : Nat)]) ∧ w.heap.size ≤ b ∧ Ow w' w.heap.size (some ⟨b, 0, none⟩) nm c q.1) ∧ Below w.heap.size w w'
set_option maxRecDepth 8000
/-- whether a puzzle, masks and a technique are those of a round. -/
def nvB (s : Int) (gi : List Int) (rs : List RuleM) (m : List Int) (t : Int) : Bool := inr t 1 4 && pvB s gi rs && mvd m s
theorem techniqueKnown_any (t : Int) (w : World) : Calls Tryz.prog 97 #[.int .i64 t] w fun e w' => e = .returned (.bool (inr t 1 4)) ∧ w = w' := by
  by_cases h1 : (1 : Int) ≤ t
  · by_cases h4 : t ≤ (4 : Int)
    · have hr := Lib.hid (show inr t 1 4 = true by unfold inr; simp; omega)
      go_enter Tryz.func97, Tryz.ntmps97
      go_wp2
      go_ret
      exact ⟨by rw [hr.out]; try simp, rfl⟩
    · have hr := Lib.hid (show inr t 1 4 = false by unfold inr; simp; omega)
      go_enter Tryz.func97, Tryz.ntmps97
      go_wp2
      go_ret
      exact ⟨by rw [hr.out]; try simp, rfl⟩
  · have hr := Lib.hid (show inr t 1 4 = false by unfold inr; simp; omega)
    go_enter Tryz.func97, Tryz.ntmps97
    go_wp2
    go_ret
    exact ⟨by rw [hr.out]; try simp, rfl⟩
set_option maxHeartbeats 1000000 in
theorem narrowingValid_any (s : Int) (Ag : Option Addr) (ng cg Bg : Nat) (gi : List Int) (Ar : Option Addr) (nr cr Br : Nat) (rs : List RuleM) (Am : Option Addr) (nm cm Bm : Nat) (m : List Int) (t : Int) (w : World) (hp : PGc w s Ag ng cg Bg gi Ar nr cr Br rs) (hm : Rd w Bm Am nm m) (hBm : Bm ≤ w.heap.size) (hm64 : B64 m) (hmm : nm ≤ 1099511627776) (hsb : -9223372036854775808 ≤ s ∧ s ≤ 9223372036854775807) :
    Calls Tryz.prog 81 #[.agg #[.int .i64 s, .slice Ag ng cg, .slice Ar nr cr], .slice Am nm cm, .int .i64 t] w fun e w' => e = .returned (.bool (nvB s gi rs m t)) ∧ Below w.heap.size w w' := by
  have hx0 := pbox_new w s Ag ng cg Ar nr cr 26
  have hb0 : Below w.heap.size w (w.alloc (.cells #[.int .i64 s, .slice Ag ng cg, .slice Ar nr cr] 26)) := (Below.refl _ _).alloc (Nat.le_refl _) _
  have hs0 : w.heap.size < (w.alloc (.cells #[.int .i64 s, .slice Ag ng cg, .slice Ar nr cr] 26)).heap.size := by simp
  obtain ⟨z0, z1, z2⟩ := id hx0
  have HV := Lib.hid (fun w' (hb : Below w.heap.size w w') => valid_any s Ag ng cg Bg gi Ar nr cr Br rs w' (hp.below hb))
  have HM := Lib.hid (fun w' (hb : Below w.heap.size w w') => implMasksValid Am cm nm Bm m s w' (hm.below (hb.mono hBm)) hm64 (Nat.le_trans hBm hb.size) hmm hsb)
  cases hr : inr t 1 4
  · have HL := Lib.hid (show nvB s gi rs m t = false by simp [nvB, hr])
    go_enter Tryz.func81, Tryz.ntmps81
    go_wp2_with (go_at_call 97; refine (techniqueKnown_any t _).mono ?_; rintro e wq ⟨rfl, rfl⟩; rw [hr])
    go_ret
    exact ⟨by rw [HL.out]; try simp, hb0⟩
  · cases hv : pvB s gi rs
    · have HL := Lib.hid (show nvB s gi rs m t = false by simp [nvB, hv])
      go_enter Tryz.func81, Tryz.ntmps81
      go_wp2_with (first
        | (go_at_call 97; refine (techniqueKnown_any t _).mono ?_; rintro e wq ⟨rfl, rfl⟩; rw [hr])
        | (go_at_call 75; refine (HV.out _ hb0).mono ?_; rintro e w1 ⟨rfl, hb1⟩; rw [hv]; have h01 := step hb0 hb1))
      go_ret
      exact ⟨by rw [HL.out]; try simp, h01⟩
    · have HL := Lib.hid (show nvB s gi rs m t = mvd m s by simp [nvB, hv, hr])
      go_enter Tryz.func81, Tryz.ntmps81
      go_wp2_with (first
        | (go_at_call 97; refine (techniqueKnown_any t _).mono ?_; rintro e wq ⟨rfl, rfl⟩; rw [hr])
        | (go_at_call 75; refine (HV.out _ hb0).mono ?_; rintro e w1 ⟨rfl, hb1⟩; rw [hv]; have h01 := step hb0 hb1; obtain ⟨c0, c1, c2⟩ := hx0.below hs0 hb1)
        | (go_at_call 78; refine (HM.out _ h01).mono ?_; rintro e w2 ⟨rfl, hb2⟩; have h02 := step h01 hb2))
      go_ret
      exact ⟨by rw [HL.out]; try simp, h02⟩
set_option maxRecDepth 8000
theorem nb_bad {s : Int} {gi : List Int} {rs : List RuleM} {m : List Int} {t : Int} (h : nvB s gi rs m t = false) : nbL s gi rs m t = [] := by
  unfold nbL
  by_cases hb : (pvB s gi rs && mvd m s) = true
  · rw [if_pos hb]
    simp only [Bool.and_eq_true] at hb
    unfold nvB at h
    rw [hb.1, hb.2, Bool.and_true, Bool.and_true] at h
    have := inr_f h
    rw [if_neg (by omega), if_neg (by omega), if_neg (by omega), if_neg (by omega)]
  · rw [if_neg hb]
theorem nv_ok {s : Int} {gi : List Int} {rs : List RuleM} {m : List Int} {t : Int} (h : nvB s gi rs m t = true) : (1 ≤ t ∧ t ≤ 4) ∧ pvB s gi rs = true ∧ mvd m s = true ∧ ∃ S : Nat, s = S ∧ S ∈ [2, 3, 4] := by
  unfold nvB at h
  simp only [Bool.and_eq_true] at h
  obtain ⟨⟨h1, h2⟩, h3⟩ := h
  obtain ⟨⟨s2, s4⟩, _⟩ := mvd_at h3
  obtain ⟨S, rfl⟩ := Int.eq_ofNat_of_zero_le (show 0 ≤ s by omega)
  refine ⟨inr_t h1, h2, h3, S, rfl, ?_⟩
  have : S = 2 ∨ S = 3 ∨ S = 4 := by omega
  simpa using this
set_option maxHeartbeats 1000000 in
theorem implNarrowBy (s : Int) (Ag : Option Addr) (n cg Bg : Nat) (gi : List Int) (Ar : Option Addr) (nr cr Br : Nat) (rs : List RuleM) (A : Option Addr) (c nm B : Nat) (m : List Int) (t : Int) (w : World) (hp : PGc w s Ag n cg Bg gi Ar nr cr Br rs) (h : Rd w B A nm m) (hBm : B ≤ w.heap.size) (hm64 : B64 m) (hm : nm ≤ 1099511627776) (hT : Tz w) (hsb : -9223372036854775808 ≤ s ∧ s ≤ 9223372036854775807) :
    Calls Tryz.prog 29 #[.agg #[.int .i64 s, .slice Ag n cg, .slice Ar nr cr], .slice A nm c, .int .i64 t] w (RetSl w (nbL s gi rs m t)) := by
  have hx0 := pbox_new w s Ag n cg Ar nr cr 26
  obtain ⟨Wa, hWa⟩ : ∃ Wa, w.alloc (.cells #[.int .i64 s, .slice Ag n cg, .slice Ar nr cr] 26) = Wa := ⟨_, rfl⟩
  rw [hWa] at hx0
  have hba : Below w.heap.size w Wa := by rw [← hWa]; exact (Below.refl _ _).alloc (Nat.le_refl _) _
  have hsa : Wa.heap.size = w.heap.size + 1 := by rw [← hWa]; simp
  obtain ⟨z0, z1, z2⟩ := id hx0
  have HV := Lib.hid (narrowingValid_any s Ag n cg Bg gi Ar nr cr Br rs A nm c B m t Wa (hp.below hba) (h.below (hba.mono hBm)) (Nat.le_trans hBm hba.size) hm64 hm hsb)
  cases hv : nvB s gi rs m t
  · have HL := Lib.hid (nb_bad hv)
    rw [hv] at HV
    go_enter Tryz.func29, Tryz.ntmps29
    go_wp2_with (go_at_call 81; refine HV.out.mono ?_; rintro e w1 ⟨rfl, hb1⟩)
    go_ret
    rw [HL.out]
    exact ⟨none, 0, rfl, Ow.nil_ _ _, step hba hb1⟩
  · obtain ⟨⟨t1, t4⟩, hpv, hmv, S, rfl, hS⟩ := nv_ok hv
    obtain ⟨T, rfl⟩ := Int.eq_ofNat_of_zero_le (show 0 ≤ t by omega)
    rw [hv] at HV
    have HN := Lib.hid (fun (w' : World) (hb : Below w.heap.size w w') => narrower_any S Ag n cg Bg gi Ar nr cr Br rs T w' (hp.below hb) hpv hS (by omega))
    have HR := Lib.hid (fun (w' : World) (hb : Below w.heap.size w w') (A2 : Option Addr) (n2 c2 L2 B2 : Nat) (hN : NrOk w' L2 B2 Br S rs T A2 n2) (hB2 : B2 ≤ w'.heap.size) (hBr2 : Br ≤ B2) => round_any S L2 Br A2 n2 c2 B2 gi rs A c nm B m T w' (fun e => hN (by omega)) hB2 hBr2 (h.below (hb.mono hBm)) (Nat.le_trans hBm hb.size) (hT.below hT.lt hb) hS hpv hmv t1 t4)
    have HX := Lib.hid (fun w' (hb : Below Wa.heap.size Wa w') => hx0.below (show w.heap.size < Wa.heap.size by omega) hb)
    have HBa := Lib.hid hba
    have hBr0 := hp.rB
    clear hv hpv hmv hba hx0 h hp hT
    go_enter Tryz.func29, Tryz.ntmps29
    go_wp2_with (first
      | (go_at_call 81; refine HV.out.mono ?_; rintro e w1 ⟨rfl, hb1⟩; obtain ⟨c0, c1, c2⟩ := HX.out _ hb1; have h01 := step HBa.out hb1)
      | (go_at_call 82; refine (HN.out _ h01).mono ?_; rintro e w2 ⟨A2, n2, c2', rfl, hN2, hb2⟩; have h02 := step h01 hb2)
      | (go_at_call 83; refine (HR.out _ h02 A2 n2 c2' _ _ hN2 (Nat.le_refl _) (Nat.le_trans hBr0 h02.size)).mono ?_; rintro e w3 ⟨A3, c3, rfl, ho3, hb3⟩))
    go_ret
    exact ⟨A3, c3, rfl, ho3.mono h02.size, step h02 hb3⟩
theorem implNarrowRules (s : Int) (Ag : Option Addr) (n cg Bg : Nat) (gi : List Int) (Ar : Option Addr) (nr cr Br : Nat) (rs : List RuleM) (A : Option Addr) (c nm B : Nat) (m : List Int) (w : World) (hp : PGc w s Ag n cg Bg gi Ar nr cr Br rs) (h : Rd w B A nm m) (hBm : B ≤ w.heap.size) (hm64 : B64 m) (hm : nm ≤ 1099511627776) (hT : Tz w) (hsb : -9223372036854775808 ≤ s ∧ s ≤ 9223372036854775807) :
    Calls Tryz.prog 19 #[.agg #[.int .i64 s, .slice Ag n cg, .slice Ar nr cr], .slice A nm c] w (RetSl w (nrL s gi rs m)) := by
  have hx0 := pbox_new w s Ag n cg Ar nr cr 26
  obtain ⟨Wa, hWa⟩ : ∃ Wa, w.alloc (.cells #[.int .i64 s, .slice Ag n cg, .slice Ar nr cr] 26) = Wa := ⟨_, rfl⟩
  rw [hWa] at hx0
  have hba : Below w.heap.size w Wa := by rw [← hWa]; exact (Below.refl _ _).alloc (Nat.le_refl _) _
  obtain ⟨z0, z1, z2⟩ := id hx0
  have HC := Lib.hid (implNarrowBy s Ag n cg Bg gi Ar nr cr Br rs A c nm B m 4 Wa (hp.below hba) (h.below (hba.mono hBm)) (Nat.le_trans hBm hba.size) hm64 hm (hT.below hT.lt hba) hsb)
  have HL := Lib.hid (show nbL s gi rs m 4 = nrL s gi rs m by
    unfold nbL nrL
    split
    · rw [if_neg (by omega), if_neg (by omega), if_neg (by omega), if_pos rfl]
    · rfl)
  go_enter Tryz.func19, Tryz.ntmps19
  go_wp2_with (go_at_call 29; refine HC.out.mono ?_; rintro e w1 ⟨A1, c1, rfl, ho1, hb1⟩)
  go_ret
  rw [HL.out] at ho1 ⊢
  exact ⟨A1, c1, rfl, ho1.mono hba.size, step hba hb1⟩
set_option maxRecDepth 8000
/-! A range over a function that yields a number and a slice of ints of its own, anew in every round: between two rounds the iterator changes nothing that lies there; a round leaves the slice as it was. -/
/-- everything but the two blocks D, D + 1 lies as it lay. -/
structure Aside (D : Nat) (X Y : World) : Prop where
  os : Y.os = X.os
  tape : Y.tape = X.tape
  output : Y.output = X.output
  size : X.heap.size ≤ Y.heap.size
  block : ∀ k, k < X.heap.size → k ≠ D → k ≠ D + 1 → Y.heap[k]? = X.heap[k]?
theorem Aside.of_below {D : Nat} {X Y : World} (h : Below X.heap.size X Y) : Aside D X Y := ⟨h.os, h.tape, h.output, h.size, fun k hk _ _ => h.block k hk⟩
theorem Aside.of_put {D l : Nat} {X : World} (o : Obj) (h : l = D ∨ l = D + 1) : Aside D X (X.putObj l o) :=
  ⟨rfl, rfl, rfl, by simp, fun k _ h1 h2 => World.putObj_heap_other (by omega)⟩
theorem Aside.below {D : Nat} {X Y : World} (h : Aside D X Y) (hD : D ≤ X.heap.size) : Below D X Y := ⟨h.os, h.tape, h.output, h.size, fun k hk => h.block k (by omega) (by omega) (by omega)⟩
/-- What an iterator of rounds promises: the caller gets 'rounds', in order, until it says no. -/
def SeqT (P : Program) (gf : Nat) (lb : Array Value) (Base : World → Prop) (rounds : List (Nat × List Int)) : Prop :=
  ∀ (l : Nat) (J : List (Nat × List Int) → World → Prop) (Jx : World → Prop) (W : World),
    (∀ pre X, J pre X → Base X) →
    (∀ pre X Y, J pre X → Below X.heap.size X Y → J pre Y) →
    (∀ X Y, Jx X → Below X.heap.size X Y → Jx Y) →
    (∀ pre t x X b n c, J pre X → (∃ tl, rounds = pre ++ (t, x) :: tl) → W.heap.size ≤ b → Ow X W.heap.size (some ⟨b, 0, none⟩) n c x →
      YieldAt Fence.wide 0 P l #[.int .i64 (t : Nat), .slice (some ⟨b, 0, none⟩) n c] X fun e Y => X.heap.size ≤ Y.heap.size ∧ Y.heap[b]? = X.heap[b]? ∧ ((e = .returned (.bool true) ∧ J (pre ++ [(t, x)]) Y) ∨ (e = .returned (.bool false) ∧ Jx Y))) →
    J [] W →
    Calls P gf (#[.func (.yield l) #[] #[]] ++ lb) W fun e Y => (∃ v, e = .returned v) ∧ (J rounds Y ∨ Jx Y)
/-- How the body of a round may be left: the slice and the loop's two blocks as they were. -/
def rndPost (D b : Nat) (I : List (Nat × List Int) → World → Prop) (Ix : Code → World → Prop) (xs : List (Nat × List Int)) (X : World) : Exit → Act → World → Prop
  | .normal, _, Y => (X.heap.size ≤ Y.heap.size ∧ ∀ k, k = b ∨ k = D ∨ k = D + 1 → Y.heap[k]? = X.heap[k]?) ∧ I xs Y
  | .ret, _, Y => (X.heap.size ≤ Y.heap.size ∧ ∀ k, k = b ∨ k = D ∨ k = D + 1 → Y.heap[k]? = X.heap[k]?) ∧ Ix .ret Y
  | .exit id, _, Y => (X.heap.size ≤ Y.heap.size ∧ ∀ k, k = b ∨ k = D ∨ k = D + 1 → Y.heap[k]? = X.heap[k]?) ∧ Ix (.exit id) Y
  | .goto t, _, Y => (X.heap.size ≤ Y.heap.size ∧ ∀ k, k = b ∨ k = D ∨ k = D + 1 → Y.heap[k]? = X.heap[k]?) ∧ Ix (.goto t) Y
  | .panic _, _, _ => False
  | .outgrown, _, _ => False
theorem range_rounds {P : Program} (m : Nat) {g : Operand} {ps : Array Tmp} {assign body : Code} {Q : Exit → Act → World → Prop} {a : Act} {w : World}
    {gf : Nat} {lb : Array Value} (hg : a.eval g = .func (.func gf) #[] lb) (eg : ∀ args w, (callFunc gf args).run P w = .ok (.enter gf args) w) (hps : ps.size = 2)
    {Base : World → Prop} {rounds : List (Nat × List Int)} (hseq : SeqT P gf lb Base rounds)
    (I : List (Nat × List Int) → World → Prop) (Ix : Code → World → Prop) (hIb : ∀ pre X, I pre X → Base X)
    (hI : ∀ pre X Y, I pre X → Aside w.heap.size X Y → I pre Y) (hIx : ∀ c X Y, Ix c X → Aside w.heap.size X Y → Ix c Y) (h0 : I [] w) (a₁ : Value → Value → Act)
    (hassign : ∀ (l : Nat) (u v : Value) (W : World) (K : Act → World → Prop), K (a₁ u v) W →
      assign.wpIn (Fence.wide.inRound l) m P (Exit.then K (fun _ _ _ => False)) { tmps := (ps.zip #[u, v]).foldl (fun t (p, v) => t.setIfInBounds p v) a.tmps, defers := [] } W)
    (hbody : ∀ (l : Nat) (pre : List (Nat × List Int)) (t : Nat) (x : List Int) (X : World) (b n c : Nat), I pre X → (∃ tl, rounds = pre ++ (t, x) :: tl) → w.heap.size + 2 ≤ b → w.heap.size + 2 ≤ X.heap.size → Ow X (w.heap.size + 2) (some ⟨b, 0, none⟩) n c x → (∃ o, X.heap[w.heap.size]? = some (.deferred o)) → (∃ o, X.heap[w.heap.size + 1]? = some (.loop o)) →
      body.wpIn (Fence.wide.inRound l) m P (rndPost w.heap.size b I Ix (pre ++ [(t, x)]) X) (a₁ (.int .i64 (t : Nat)) (.slice (some ⟨b, 0, none⟩) n c)) X)
    (hdone : ∀ (D : Nat) (W : World), w.heap.size ≤ D → I rounds W → W.heap[D]? = some (.deferred (some [])) → Q .normal { a with defers := { target := .collected D, args := #[] } :: a.defers } W)
    (hstop : ∀ (D : Nat) (c : Code) (W : World), w.heap.size ≤ D → Ix c W → W.heap[D]? = some (.deferred (some [])) → c.wpIn Fence.wide m P Q { a with defers := { target := .collected D, args := #[] } :: a.defers } W) :
    (Code.rangeFunc g ps assign body).wpIn Fence.wide m P Q a w := by
  refine wpIn_rangeFunc ?_
  intro fn _
  obtain ⟨rec, hrec⟩ : ∃ rec : LoopState → Option Code → Loop, rec = fun st pe => { state := st, pending := pe, fn, tmps := a.tmps, params := ps, assign, body, defers := w.heap.size } := ⟨_, rfl⟩
  obtain ⟨W1, hW1⟩ : ∃ W1, (w.alloc (.deferred (some []))).alloc (.loop (rec .ready none)) = W1 := ⟨_, rfl⟩
  have hs1 : W1.heap.size = w.heap.size + 2 := by rw [← hW1]; simp
  have hL1 : W1.heap[w.heap.size + 1]? = some (.loop (rec .ready none)) := by
    rw [← hW1]; have := World.alloc_heap_new (w.alloc (.deferred (some []))) (.loop (rec .ready none)); rwa [World.size_alloc] at this
  have hK1 : W1.heap[w.heap.size]? = some (.deferred (some [])) := by
    rw [← hW1]; exact (Below.heap_alloc _ _ _ (by simp)).trans (World.alloc_heap_new w _)
  have hb1 : Below w.heap.size w W1 := by
    rw [← hW1]; exact ((Below.refl _ w).alloc (Nat.le_refl _) _).alloc (by simp) _
  refine ⟨w.heap.size + 1, [{ target := .collected w.heap.size, args := #[] }], W1, { target := .fn (.func gf) lb, args := #[.func (.yield (w.heap.size + 1)) #[] #[]] }, W1, gf,
    #[.func (.yield (w.heap.size + 1)) #[] #[]] ++ lb, W1, ?_, ?_, ?_, ?_, fun h => by simp [Fence.wide] at h, ?_⟩
  · rw [← hW1, hrec]; exact run_enterLoop_outer _ _ _ _ _
  · simp only [resolve, hg]
    simp [go_sem]
  · intro f' _; trivial
  · simp [invoke, go_sem, eg]
  · refine callsIn_wide.2 ((hseq (w.heap.size + 1)
      (fun pre W => I pre W ∧ W.heap[w.heap.size + 1]? = some (.loop (rec .ready none)) ∧ W.heap[w.heap.size]? = some (.deferred (some [])))
      (fun W => ∃ c, Ix c W ∧ W.heap[w.heap.size + 1]? = some (.loop (rec .done (some c))) ∧ W.heap[w.heap.size]? = some (.deferred (some [])))
      W1 (fun pre X h => hIb pre X h.1)
      (fun pre X Y hs hb => ⟨hI pre X Y hs.1 (Aside.of_below hb), (hb.block _ (Array.getElem?_eq_some_iff.1 hs.2.1).1).trans hs.2.1, (hb.block _ (Array.getElem?_eq_some_iff.1 hs.2.2).1).trans hs.2.2⟩)
      (fun X Y hs hb => by
        obtain ⟨c, h1, h2, h3⟩ := hs
        exact ⟨c, hIx c X Y h1 (Aside.of_below hb), (hb.block _ (Array.getElem?_eq_some_iff.1 h2).1).trans h2, (hb.block _ (Array.getElem?_eq_some_iff.1 h3).1).trans h3⟩)
      ?_ ⟨hI [] w W1 h0 ⟨hb1.os, hb1.tape, hb1.output, hb1.size, fun k hk _ _ => hb1.block k hk⟩, hL1, hK1⟩).mono ?_)
    · rintro pre t x X b n c ⟨hi, hl, hk⟩ hx hbw hown
      have hlt : w.heap.size + 1 < X.heap.size := (Array.getElem?_eq_some_iff.1 hl).1
      have hy := run_yield (P := P) (args := #[.int .i64 (t : Nat), .slice (some ⟨b, 0, none⟩) n c]) hl (by rw [hrec]; simp [hps])
      rw [hrec] at hy
      refine ⟨fn, _, assign, body, hy, roundIn_any (m := m) (roundIn_of_wpIn trivial (hassign _ (.int .i64 (t : Nat)) (.slice (some ⟨b, 0, none⟩) n c) X _ ⟨_, run_beginRound hl (by rw [hrec]), ?_⟩))⟩
      obtain ⟨X2, hX2⟩ : ∃ X2, X.putObj (w.heap.size + 1) (.loop { rec .ready none with state := .busy }) = X2 := ⟨_, rfl⟩
      have hl2 : X2.heap[w.heap.size + 1]? = some (.loop { rec .ready none with state := .busy }) := by rw [← hX2]; exact World.putObj_heap_same hlt
      have hk2 : X2.heap[w.heap.size]? = some (.deferred (some [])) := by rw [← hX2]; exact (World.putObj_heap_other (by omega)).trans hk
      have hA2 : Aside w.heap.size X X2 := by rw [← hX2]; exact Aside.of_put _ (.inr rfl)
      have hb2 : X2.heap[b]? = X.heap[b]? := by rw [← hX2]; exact World.putObj_heap_other (by omega)
      have hown2 : Ow X2 (w.heap.size + 2) (some ⟨b, 0, none⟩) n c x := by rw [← hs1]; exact hown.same hb2
      have hsz2 := hA2.size
      rw [hX2]
      refine wpIn_mono (hbody _ pre t x X2 b n c (hI _ _ _ hi hA2) hx (by omega) (by omega) hown2 ⟨_, hk2⟩ ⟨_, hl2⟩) ?_
      have fin : ∀ (jump : Option Code) (W3 : World), (X2.heap.size ≤ W3.heap.size ∧ ∀ k, k = b ∨ k = w.heap.size ∨ k = w.heap.size + 1 → W3.heap[k]? = X2.heap[k]?) →
          (Instr.endRound (w.heap.size + 1) jump).run P W3 = .ok (.bool jump.isNone) (W3.putObj (w.heap.size + 1) (.loop (rec (if jump.isNone then .ready else .done) jump))) ∧
          Aside w.heap.size W3 (W3.putObj (w.heap.size + 1) (.loop (rec (if jump.isNone then .ready else .done) jump))) ∧
          X.heap.size ≤ (W3.putObj (w.heap.size + 1) (.loop (rec (if jump.isNone then .ready else .done) jump))).heap.size ∧
          (W3.putObj (w.heap.size + 1) (.loop (rec (if jump.isNone then .ready else .done) jump))).heap[b]? = X.heap[b]? ∧
          (W3.putObj (w.heap.size + 1) (.loop (rec (if jump.isNone then .ready else .done) jump))).heap[w.heap.size + 1]? = some (.loop (rec (if jump.isNone then .ready else .done) jump)) ∧
          (W3.putObj (w.heap.size + 1) (.loop (rec (if jump.isNone then .ready else .done) jump))).heap[w.heap.size]? = some (.deferred (some [])) := fun jump W3 hk3 => by
        have hl3 := (hk3.2 (w.heap.size + 1) (by omega)).trans hl2
        have hlt3 := (Array.getElem?_eq_some_iff.1 hl3).1
        have := run_endRound (P := P) jump hl3
        rw [hrec] at this ⊢
        exact ⟨this, Aside.of_put _ (.inr rfl), by have := hk3.1; simp; omega, (World.putObj_heap_other (by omega)).trans ((hk3.2 b (.inl rfl)).trans hb2), World.putObj_heap_same hlt3, (World.putObj_heap_other (by omega)).trans ((hk3.2 _ (.inr (.inl rfl))).trans hk2)⟩
      rintro e a3 W3 hp
      cases e with
      | normal =>
        obtain ⟨hk3, hi3⟩ := hp
        obtain ⟨hr, hb4, hm4, hm5, hl4, hk4⟩ := fin none W3 hk3
        exact ⟨_, _, hr, hm4, hm5, .inl ⟨rfl, hI _ _ _ hi3 hb4, hl4, hk4⟩⟩
      | ret =>
        obtain ⟨hk3, hi3⟩ := hp
        obtain ⟨hr, hb4, hm4, hm5, hl4, hk4⟩ := fin (some .ret) W3 hk3
        exact ⟨_, _, hr, hm4, hm5, .inr ⟨rfl, .ret, hIx _ _ _ hi3 hb4, hl4, hk4⟩⟩
      | exit id =>
        obtain ⟨hk3, hi3⟩ := hp
        obtain ⟨hr, hb4, hm4, hm5, hl4, hk4⟩ := fin (some (.exit id)) W3 hk3
        exact ⟨_, _, hr, hm4, hm5, .inr ⟨rfl, .exit id, hIx _ _ _ hi3 hb4, hl4, hk4⟩⟩
      | goto t' =>
        obtain ⟨hk3, hi3⟩ := hp
        obtain ⟨hr, hb4, hm4, hm5, hl4, hk4⟩ := fin (some (.goto t')) W3 hk3
        exact ⟨_, _, hr, hm4, hm5, .inr ⟨rfl, .goto t', hIx _ _ _ hi3 hb4, hl4, hk4⟩⟩
      | panic ch => exact hp.elim
      | outgrown => exact hp.elim
    · rintro e W2 ⟨⟨v, rfl⟩, (⟨hi, hl, hk⟩ | ⟨c, hi, hl, hk⟩)⟩
      · exact ⟨none, _, by have := run_endLoop (P := P) hl (by rw [hrec]; simp); rw [hrec] at this; exact this, hdone _ _ (Nat.le_refl _) (hI _ _ _ hi (Aside.of_put _ (.inr rfl))) ((World.putObj_heap_other (by omega)).trans hk)⟩
      · exact ⟨some c, _, by have := run_endLoop (P := P) hl (by rw [hrec]; simp); rw [hrec] at this; exact this, hstop _ c _ (Nat.le_refl _) (hIx _ _ _ hi (Aside.of_put _ (.inr rfl))) ((World.putObj_heap_other (by omega)).trans hk)⟩
/-- range_rounds where the statement's assignment copies what came from slot p' into slot q. -/
theorem range_rounds2 {P : Program} (m : Nat) {g : Operand} {p p' q : Nat} {assign body : Code} {Q : Exit → Act → World → Prop} {a : Act} {w : World}
    {gf : Nat} {lb : Array Value} (hg : a.eval g = .func (.func gf) #[] lb) (eg : ∀ args w, (callFunc gf args).run P w = .ok (.enter gf args) w)
    {Base : World → Prop} {rounds : List (Nat × List Int)} (hseq : SeqT P gf lb Base rounds)
    (I : List (Nat × List Int) → World → Prop) (Ix : Code → World → Prop) (hIb : ∀ pre X, I pre X → Base X)
    (hI : ∀ pre X Y, I pre X → Aside w.heap.size X Y → I pre Y) (hIx : ∀ c X Y, Ix c X → Aside w.heap.size X Y → Ix c Y) (h0 : I [] w)
    (hassign : ∀ (l : Nat) (u v : Value) (W : World) (K : Act → World → Prop), K { tmps := ((a.tmps.setIfInBounds p u).setIfInBounds p' v).setIfInBounds q v, defers := [] } W →
      assign.wpIn (Fence.wide.inRound l) m P (Exit.then K (fun _ _ _ => False)) { tmps := (a.tmps.setIfInBounds p u).setIfInBounds p' v, defers := [] } W)
    (hbody : ∀ (l : Nat) (pre : List (Nat × List Int)) (t : Nat) (x : List Int) (X : World) (b n c : Nat), I pre X → (∃ tl, rounds = pre ++ (t, x) :: tl) → w.heap.size + 2 ≤ b → w.heap.size + 2 ≤ X.heap.size → Ow X (w.heap.size + 2) (some ⟨b, 0, none⟩) n c x → (∃ o, X.heap[w.heap.size]? = some (.deferred o)) → (∃ o, X.heap[w.heap.size + 1]? = some (.loop o)) →
      body.wpIn (Fence.wide.inRound l) m P (rndPost w.heap.size b I Ix (pre ++ [(t, x)]) X) { tmps := ((a.tmps.setIfInBounds p (.int .i64 (t : Nat))).setIfInBounds p' (.slice (some ⟨b, 0, none⟩) n c)).setIfInBounds q (.slice (some ⟨b, 0, none⟩) n c), defers := [] } X)
    (hdone : ∀ (D : Nat) (W : World), w.heap.size ≤ D → I rounds W → W.heap[D]? = some (.deferred (some [])) → Q .normal { a with defers := { target := .collected D, args := #[] } :: a.defers } W)
    (hstop : ∀ (D : Nat) (c : Code) (W : World), w.heap.size ≤ D → Ix c W → W.heap[D]? = some (.deferred (some [])) → c.wpIn Fence.wide m P Q { a with defers := { target := .collected D, args := #[] } :: a.defers } W) :
    (Code.rangeFunc g #[p, p'] assign body).wpIn Fence.wide m P Q a w :=
  range_rounds m hg eg rfl hseq I Ix hIb hI hIx h0 (fun u v => { tmps := ((a.tmps.setIfInBounds p u).setIfInBounds p' v).setIfInBounds q v, defers := [] }) (fun l u v W K hK => by
    simpa using hassign l u v W K hK) hbody hdone hstop
set_option maxRecDepth 8000
/-! The rounds of NarrowAll, one by one: each one's technique, and the masks after it. -/
def roF (s : Int) (gi : List Int) (rs : List RuleM) (most : Nat) : Nat → List Int → List (Nat × List Int)
  | 0, _ => []
  | f + 1, o => match ntF s gi rs o most 1 with
    | none => []
    | some q => (q.2, q.1) :: roF s gi rs most f q.1
/-- the masks behind rounds. -/
def lastO (o : List Int) : List (Nat × List Int) → List Int
  | [] => o
  | x :: L => lastO x.2 L
section
variable {s : Int} {gi : List Int} {rs : List RuleM} {most : Nat}
theorem roF_fuel (hv : pvB s gi rs = true) (h4 : most ≤ 4) : ∀ f f' o, mvd o s = true → sumTo o o.length < f → sumTo o o.length < f' → roF s gi rs most f o = roF s gi rs most f' o := by
  intro f
  induction f with
  | zero => intro f' o _ h _; omega
  | succ f ih =>
    intro f' o hm h1 h2
    match f', h2 with
    | 0, h2 => omega
    | f' + 1, h2 =>
      simp only [roF]
      cases e : ntF s gi rs o most 1 with
      | none => rfl
      | some q =>
        obtain ⟨_, q2, q3⟩ := ntF_sub hv h4 hm (q := q.1) (u := q.2) e
        simp only [ih f' q.1 q2 (by omega) (by omega)]
/-- what holds of masks and goes on from each technique holds of the masks of all rounds. -/
theorem roF_mem (P : List Int → Prop) (hv : pvB s gi rs = true) (h4 : most ≤ 4) (hP : ∀ o t, mvd o s = true → 1 ≤ t → t ≤ most → P o → P (nbL s gi rs o (t : Nat))) : ∀ f o, mvd o s = true → P o → ∀ x ∈ roF s gi rs most f o, 1 ≤ x.1 ∧ x.1 ≤ most ∧ P x.2 ∧ mvd x.2 s = true ∧ Sub x.2 o := by
  intro f
  induction f with
  | zero => intro o _ _ x hx; cases hx
  | succ f ih =>
    intro o hm h x hx
    simp only [roF] at hx
    cases e : ntF s gi rs o most 1 with
    | none => rw [e] at hx; cases hx
    | some q =>
      rw [e] at hx
      obtain ⟨h1, h2, h3, _, _⟩ := ntF_some (q := q.1) (u := q.2) e
      obtain ⟨q1, q2, _⟩ := ntF_sub hv h4 hm (q := q.1) (u := q.2) e
      have hPq : P q.1 := by rw [h3]; exact hP o _ hm (by omega) (by omega) h
      rcases List.mem_cons.1 hx with rfl | hx
      · exact ⟨by dsimp only; omega, by dsimp only; omega, hPq, q2, q1⟩
      · obtain ⟨a1, a2, a3, a4, a5⟩ := ih q.1 q2 hPq x hx
        exact ⟨a1, a2, a3, a4, a5.trans q1⟩
def roE (s : Int) (gi : List Int) (rs : List RuleM) (most : Nat) (o : List Int) : List (Nat × List Int) := roF s gi rs most (sumTo o o.length + 1) o
theorem roE_none {o : List Int} (h : ntF s gi rs o most 1 = none) : roE s gi rs most o = [] := by simp only [roE, roF, h]
theorem roE_some {o q : List Int} {u : Nat} (hv : pvB s gi rs = true) (h4 : most ≤ 4) (hm : mvd o s = true) (h : ntF s gi rs o most 1 = some (q, u)) : roE s gi rs most o = (u, q) :: roE s gi rs most q := by
  obtain ⟨_, q2, q3⟩ := ntF_sub hv h4 hm h
  unfold roE
  rw [show roF s gi rs most (sumTo o o.length + 1) o = (u, q) :: roF s gi rs most (sumTo o o.length) q from by simp only [roF, h]]
  rw [roF_fuel hv h4 (sumTo o o.length) (sumTo q q.length + 1) q q2 (by omega) (by omega)]
/-- between two rounds: what is left of them are the rounds from the masks that there are then. -/
theorem roE_split (hv : pvB s gi rs = true) (h4 : most ≤ 4) {L : List (Nat × List Int)} : ∀ (pre : List (Nat × List Int)) (o : List Int), mvd o s = true → roE s gi rs most o = pre ++ L → mvd (lastO o pre) s = true ∧ roE s gi rs most (lastO o pre) = L ∧ Sub (lastO o pre) o := by
  intro pre
  induction pre with
  | nil => intro o hm h; exact ⟨hm, h, Sub.of_mvd hm⟩
  | cons y pre ih =>
    intro o hm h
    cases e : ntF s gi rs o most 1 with
    | none => rw [roE_none e] at h; cases h
    | some q =>
      obtain ⟨q1, q2, _⟩ := ntF_sub hv h4 hm (q := q.1) (u := q.2) e
      rw [roE_some hv h4 hm (q := q.1) (u := q.2) e] at h
      injection h with h1 h2
      subst h1
      obtain ⟨a, b, c⟩ := ih q.1 q2 h2
      exact ⟨a, b, c.trans q1⟩
/-- a round, told by itself. -/
theorem roE_at (hv : pvB s gi rs = true) (h4 : most ≤ 4) {pre tl : List (Nat × List Int)} {o x : List Int} {t : Nat} (hm : mvd o s = true) (h : roE s gi rs most o = pre ++ (t, x) :: tl) : mvd (lastO o pre) s = true ∧ ntF s gi rs (lastO o pre) most 1 = some (x, t) ∧ 1 ≤ t ∧ t ≤ most ∧ x = nbL s gi rs (lastO o pre) t ∧ x ≠ lastO o pre ∧ mvd x s = true ∧ Sub x (lastO o pre) ∧ roE s gi rs most x = tl := by
  obtain ⟨a, b, _⟩ := roE_split hv h4 pre o hm h
  cases e : ntF s gi rs (lastO o pre) most 1 with
  | none => rw [roE_none e] at b; cases b
  | some q =>
    obtain ⟨q1, q2, _⟩ := ntF_sub hv h4 a (q := q.1) (u := q.2) e
    obtain ⟨h1, h2, h3, h5, _⟩ := ntF_some (q := q.1) (u := q.2) e
    rw [roE_some hv h4 a (q := q.1) (u := q.2) e] at b
    injection b with b1 b2
    injection b1 with b1 b3
    subst b1 b3
    exact ⟨a, rfl, h1, by omega, h3, h5, q2, q1, b2⟩
theorem ntF_more {o q : List Int} {u d d' : Nat} (h : ntF s gi rs o d 1 = some (q, u)) (hd : d ≤ d') : ntF s gi rs o d' 1 = some (q, u) := by
  obtain ⟨h1, h2, h3, h4, h5⟩ := ntF_some h
  exact ntF_at h5 h1 (by omega) h3 h4
/-- with more techniques the rounds begin with those of fewer. -/
theorem roE_more (hv : pvB s gi rs = true) {g : Nat} (hg : g ≤ most) (h4 : most ≤ 4) : ∀ (f : Nat) (o : List Int), mvd o s = true → sumTo o o.length < f → ∃ L, roE s gi rs most o = roE s gi rs g o ++ L := by
  intro f
  induction f with
  | zero => intro o _ h; omega
  | succ f ih =>
    intro o hm hf
    cases e : ntF s gi rs o g 1 with
    | none => exact ⟨_, by rw [roE_none e, List.nil_append]⟩
    | some q =>
      have e' := ntF_more (q := q.1) (u := q.2) e hg
      obtain ⟨_, q2, q3⟩ := ntF_sub hv h4 hm e'
      obtain ⟨L, hL⟩ := ih q.1 q2 (by omega)
      exact ⟨L, by rw [roE_some hv h4 hm e', roE_some hv (by omega) hm (q := q.1) (u := q.2) e, hL, List.cons_append]⟩
end
end Go.Proofs.YtchcmgaohcldjaaGreatDoor
set_option maxRecDepth 8000
namespace Go.Proofs.YtchcmgaohcldjaaGreatDoor
open Go.ChangeShapes Go.WideShapes Go.ChangeAt Go.RowKit Go.Shelf
attribute [local go_sem] Oper.semAt_some
/-! The rounds of all techniques, as an iterator; NarrowAll. -/
/-- what the iterator reads: its three captured variables, the tables and the masks. -/
structure RBase (NB MB SB s L Br : Nat) (At : Option Addr) (nt ct Bt : Nat) (rs : List RuleM) (Am : Option Addr) (nm cm Bm : Nat) (ms : List Int) (most : Nat) (X : World) : Prop where
  n : X.heap[NB]? = some (.cells #[.int .i64 s, .slice At nt ct] 84)
  m : X.cell? ⟨MB, 0, none⟩ = some (.slice Am nm cm)
  o : X.cell? ⟨SB, 0, none⟩ = some (.int .i64 most)
  t : 4 ≤ most → TbR X L Bt Br s rs At nt
  tB : Bt ≤ X.heap.size
  tr : Br ≤ Bt
  r : Rd X Bm Am nm ms
  rB : Bm ≤ X.heap.size
  z : Tz X
set_option maxRecDepth 8000
attribute [local go_sem] Oper.semAt_some
/-! NarrowAll, by its rounds. -/
/-- two blocks of one cell have been written, nothing else. -/
structure Two (X Y : World) (N1 N2 : Nat) (o1 o2 : Obj) : Prop where
  os : Y.os = X.os
  tape : Y.tape = X.tape
  output : Y.output = X.output
  size : Y.heap.size = X.heap.size
  b1 : Y.heap[N1]? = some o1
  b2 : Y.heap[N2]? = some o2
  other : ∀ k, k ≠ N1 → k ≠ N2 → Y.heap[k]? = X.heap[k]?
theorem Two.below {X Y : World} {N1 N2 B : Nat} {o1 o2 : Obj} (h : Two X Y N1 N2 o1 o2) (h1 : B ≤ N1) (h2 : B ≤ N2) : Below B X Y := ⟨h.os, h.tape, h.output, Nat.le_of_eq h.size.symm, fun k hk => h.other k (by omega) (by omega)⟩
theorem RBase.below {NB MB SB s L Br : Nat} {At : Option Addr} {nt ct Bt : Nat} {rs : List RuleM} {Am : Option Addr} {nm cm Bm : Nat} {ms : List Int} {most D : Nat} {X Y : World} (h : RBase NB MB SB s L Br At nt ct Bt rs Am nm cm Bm ms most X) (hb : Below D X Y) (hN : NB < D) (hM : MB < D) (hS : SB < D) (hBt : Bt ≤ D) (hBm : Bm ≤ D) (hz : 0 < D) : RBase NB MB SB s L Br At nt ct Bt rs Am nm cm Bm ms most Y :=
  ⟨(hb.block _ hN).trans h.n, (hb.cell (p := ⟨MB, 0, none⟩) hM).trans h.m, (hb.cell (p := ⟨SB, 0, none⟩) hS).trans h.o, fun e => (h.t e).below (hb.mono hBt) h.tr, Nat.le_trans h.tB hb.size, h.tr, h.r.below (hb.mono hBm), Nat.le_trans h.rB hb.size, h.z.below hz hb⟩
theorem RBase.keep {NB MB SB s L Br : Nat} {At : Option Addr} {nt ct Bt : Nat} {rs : List RuleM} {Am : Option Addr} {nm cm Bm : Nat} {ms : List Int} {most L0 : Nat} {X Y : World} (h : RBase NB MB SB s L Br At nt ct Bt rs Am nm cm Bm ms most X) (hk : ∀ k, L ≤ k → k < X.heap.size → Y.heap[k]? = X.heap[k]?) (hb : Below L0 X Y) (h0 : Br ≤ L0) (hBm : Bm ≤ L0) (hz : 0 < L0) (hN : L ≤ NB) (hM : L ≤ MB) (hS : L ≤ SB) : RBase NB MB SB s L Br At nt ct Bt rs Am nm cm Bm ms most Y :=
  ⟨(hk NB hN (Array.getElem?_eq_some_iff.1 h.n).1).trans h.n, (World.cell?_of_block (a := ⟨MB, 0, none⟩) (hk MB hM (cell_lt h.m))).trans h.m, (World.cell?_of_block (a := ⟨SB, 0, none⟩) (hk SB hS (cell_lt h.o))).trans h.o, fun e => (h.t e).keep (fun k h1 h2 => hk k h1 (Nat.lt_of_lt_of_le h2 h.tB)) (hb.mono h0), Nat.le_trans h.tB hb.size, h.tr, h.r.below (hb.mono hBm), Nat.le_trans h.rB hb.size, h.z.below hz hb⟩
end Go.Proofs.YtchcmgaohcldjaaGreatDoor
set_option maxRecDepth 8000
set_option maxRecDepth 8000
namespace Go.Proofs.YtchcmgaohcldjaaGreatDoor
open Go.ChangeShapes Go.WideShapes Go.ChangeAt Go.RowKit
theorem grown_tr {a b c : World} {r : Option Nat} (h : a.grownBy b r) (k : b.grownBy c r) : a.grownBy c r := h.trans k
theorem setCells3 (w : World) (g o : Nat) (x y z : Value) : w.setCells g o [x, y, z] = ((w.setCell ⟨g, o, none⟩ x).setCell ⟨g, o + 1, none⟩ y).setCell ⟨g, o + 2, none⟩ z := rfl
theorem row_setCells3 {w : World} {g o : Nat} {cur : Array Value} {t : TypeId} (x y z : Value) (h : w.heap[g]? = some (.cells cur t (0, 0))) :
    (w.setCells g o [x, y, z]).heap[g]? = some (.cells (((cur.setIfInBounds o x).setIfInBounds (o + 1) y).setIfInBounds (o + 2) z) t (0, 0)) := by
  rw [setCells3]
  exact heap_setCell_same _ g (o + 2) _ _ z (heap_setCell_same _ g (o + 1) _ _ y (heap_setCell_same w g o _ _ x h))
theorem grown_setCells3 {w : World} {g o : Nat} {x y z : Value} : w.grownBy (w.setCells g o [x, y, z]) (some g) := by
  rw [setCells3]
  exact grown_tr (grown_tr grown_set grown_set) grown_set
/-- n rules' cells in a slice of the call's own, the first u of them filled. -/
def OwRp (w : World) (lo : Nat) (g n : Nat) (rs : List RuleM) (u : Nat) : Prop :=
  ∃ vs, w.ownsRow lo 73 3 (.slice (some ⟨g, 0, none⟩) n n) n vs ∧ ∀ i, i < u → ∃ A' c', vs[i * 3]? = some (.int .i64 (rat rs i).k) ∧ vs[i * 3 + 1]? = some (.slice A' (rat rs i).xs.length c') ∧ vs[i * 3 + 2]? = some (.int .i64 (rat rs i).v) ∧ Ow w lo A' (rat rs i).xs.length c' (rat rs i).xs ∧ (rat rs i).xs.length ≤ 1099511627776 ∧ ∀ b, (Value.slice A' (rat rs i).xs.length c').ownBlock = some b → (Value.slice (some ⟨g, 0, none⟩) n n).ownBlock ≠ some b
theorem OwRp.below {w w' : World} {lo g n : Nat} {rs : List RuleM} {k : Nat} (h : OwRp w lo g n rs k) (hb : Below w.heap.size w w') : OwRp w' lo g n rs k := by
  obtain ⟨vs, hown, hin⟩ := h
  refine ⟨vs, World.ownsRow.kept hown (row := none) ⟨hb.os, hb.tape, hb.output, hb.size, fun k hk _ => hb.block k hk⟩ (by
    cases e : (Value.slice (some ⟨g, 0, none⟩) n n).ownBlock
    · exact .inl rfl
    · exact .inr (by simp)), fun i hi => ?_⟩
  obtain ⟨A', c', e0, e1, e2, e3, e4, e5⟩ := hin i hi
  exact ⟨A', c', e0, e1, e2, e3.below hb, e4, e5⟩
theorem OwRp.full {w : World} {lo g n : Nat} {rs : List RuleM} (h : OwRp w lo g n rs n) : OwR w lo (.slice (some ⟨g, 0, none⟩) n n) rs n := h
theorem OwRp.there {w : World} {lo g n : Nat} {rs : List RuleM} {k u : Nat} (h : OwRp w lo g n rs k) (hu : u < n) : w.there g (u * 3) 3 := by
  obtain ⟨vs, ⟨hvl, hcase⟩, _⟩ := h
  rcases hcase with ⟨h1, _⟩ | ⟨g', cap, cur, hv, h2, h3, h4, h5, h6, h7⟩
  · cases h1
  · injection hv with e1 _ e2
    injection e1 with e1
    injection e1 with e1 _ _
    subst e1
    intro j hj
    have hlt : u * 3 + j < cur.size := by rw [h6]; have := Nat.mul_le_mul_right 3 (show u + 1 ≤ cap by omega); omega
    refine ⟨?_, frozen_of_row w g (u * 3 + j) cur _ h3⟩
    rw [cell_of_row w g (u * 3 + j) cur _ (0, 0) h3]
    simp [hlt]
theorem OwRp.put {w w3 : World} {lo g n u c3 : Nat} {rs : List RuleM} {A3 : Option Addr} (h : OwRp w lo g n rs u) (hlo : lo ≤ w.heap.size) (hu : u < n) (hb : Below w.heap.size w w3)
    (ho3 : Ow w3 w.heap.size A3 (rat rs u).xs.length c3 (rat rs u).xs) (hm : (rat rs u).xs.length ≤ 1099511627776) :
    OwRp (w3.setCells g (u * 3) [.int .i64 (rat rs u).k, .slice A3 (rat rs u).xs.length c3, .int .i64 (rat rs u).v]) lo g n rs (u + 1) := by
  have hgw : g < w.heap.size := by
    obtain ⟨vs, hown, _⟩ := h
    exact (World.ownsRow.lt hown g (by simp [Value.ownBlock])).2
  obtain ⟨vs, ⟨hvl, hcase⟩, hin⟩ := h.below hb
  rcases hcase with ⟨h1, _⟩ | ⟨g', cap, cur, hv, h2, h3, h4, h5, h6, h7⟩
  · cases h1
  · injection hv with e1 _ e2
    injection e1 with e1
    injection e1 with e1 _ _
    subst e1 e2
    have hvl3 : u * 3 + 2 < vs.length := by rw [hvl]; omega
    refine ⟨((vs.set (u * 3) (.int .i64 (rat rs u).k)).set (u * 3 + 1) (.slice A3 (rat rs u).xs.length c3)).set (u * 3 + 2) (.int .i64 (rat rs u).v), ⟨by simp [hvl], .inr ⟨g, n, _, rfl, h2, row_setCells3 _ _ _ h3, h4, h5, by simp [h6], ?_⟩⟩, fun i hi => ?_⟩
    · simp only [Array.toList_setIfInBounds, List.take_set, h7]
    · by_cases e : i = u
      · subst e
        refine ⟨A3, c3, ?_, ?_, ?_, ?_, hm, fun b hbb e => ?_⟩
        · rw [List.getElem?_set_ne (by omega), List.getElem?_set_ne (by omega), List.getElem?_set_self (by omega)]
        · rw [List.getElem?_set_ne (by omega), List.getElem?_set_self (by simp; omega)]
        · rw [List.getElem?_set_self (by simp; omega)]
        · exact (Ow.far ho3 (row := some g) grown_setCells3 (fun b hbb e => by have := ho3.own_lo b hbb; injection e with e; omega)).mono hlo
        · have h8 := ho3.own_lo b hbb
          simp [Value.ownBlock] at e
          omega
      · obtain ⟨A', c', e0, e1, e2, e3, e4, e5⟩ := hin i (by omega)
        refine ⟨A', c', ?_, ?_, ?_, ?_, e4, e5⟩
        · rw [List.getElem?_set_ne (by omega), List.getElem?_set_ne (by omega), List.getElem?_set_ne (by omega)]; exact e0
        · rw [List.getElem?_set_ne (by omega), List.getElem?_set_ne (by omega), List.getElem?_set_ne (by omega)]; exact e1
        · rw [List.getElem?_set_ne (by omega), List.getElem?_set_ne (by omega), List.getElem?_set_ne (by omega)]; exact e2
        · exact Ow.far e3 (row := some g) grown_setCells3 (fun b hbb e => e5 b hbb (by have := Option.some.inj e; simp [Value.ownBlock, this]))
/-- a slice of rules, their cells as many as a slice can have. -/
def RdRx (w : World) (B : Nat) (A : Option Addr) (n : Nat) (rs : List RuleM) : Prop :=
  rs.length = n ∧ (0 < n → ∃ b off, A = some ⟨b, off, none⟩ ∧ b < B ∧ ∀ i, i < n → ∃ A' c', w.cell? ⟨b, off + i * 3, none⟩ = some (.int .i64 (rat rs i).k) ∧ w.cell? ⟨b, off + i * 3 + 1, none⟩ = some (.slice A' (rat rs i).xs.length c') ∧ w.cell? ⟨b, off + i * 3 + 2, none⟩ = some (.int .i64 (rat rs i).v) ∧ Rd w B A' (rat rs i).xs.length (rat rs i).xs ∧ (rat rs i).xs.length ≤ 9223372036854775807)
theorem RdRx.below {w w' : World} {B : Nat} {A : Option Addr} {n : Nat} {rs : List RuleM} (h : RdRx w B A n rs) (hb : Below B w w') : RdRx w' B A n rs :=
  ⟨h.1, fun hn => by
    obtain ⟨b, off, e, hlt, hc⟩ := h.2 hn
    refine ⟨b, off, e, hlt, fun i hi => ?_⟩
    obtain ⟨A', c', h0, h1, h2, h3, h4⟩ := hc i hi
    exact ⟨A', c', (hb.cell (p := ⟨b, off + i * 3, none⟩) hlt).trans h0, (hb.cell (p := ⟨b, off + i * 3 + 1, none⟩) hlt).trans h1, (hb.cell (p := ⟨b, off + i * 3 + 2, none⟩) hlt).trans h2, h3.below hb, h4⟩⟩
theorem RdRx.small {w : World} {B : Nat} {A : Option Addr} {n : Nat} {rs : List RuleM} (h : RdRx w B A n rs) (hs : ∀ i, i < n → (rat rs i).xs.length ≤ 1099511627776) : RdRs w B A n rs :=
  ⟨h.1, fun hn => by
    obtain ⟨b, off, e, hlt, hc⟩ := h.2 hn
    refine ⟨b, off, e, hlt, fun i hi => ?_⟩
    obtain ⟨A', c', h0, h1, h2, h3, _⟩ := hc i hi
    exact ⟨A', c', h0, h1, h2, h3, hs i hi⟩⟩
set_option maxRecDepth 8000
/-! Puzzles that come in, and their copies. -/
set_option maxRecDepth 8000
set_option maxRecDepth 8000
theorem OwR.keptG {w w' : World} {lo G k : Nat} {v : Value} {rs : List RuleM} (h : OwR w lo v rs k) (hg : w.grownBy w' (some G)) (hG : G < lo) : OwR w' lo v rs k := by
  obtain ⟨vs, hown, hin⟩ := h
  refine ⟨vs, World.ownsRow.kept hown hg (by
    cases e : v.ownBlock
    · exact .inl rfl
    · refine .inr (fun e2 => ?_)
      have h1 := (World.ownsRow.lt hown _ e).1
      have h2 := Option.some.inj e2
      omega), fun i hi => ?_⟩
  obtain ⟨A', c', e0, e1, e2, e3, e4, e5⟩ := hin i hi
  exact ⟨A', c', e0, e1, e2, Ow.far e3 hg (fun g hgg e => by have h1 := e3.own_lo g hgg; have h2 := Option.some.inj e; omega), e4, e5⟩
end Go.Proofs.YtchcmgaohcldjaaGreatDoor
