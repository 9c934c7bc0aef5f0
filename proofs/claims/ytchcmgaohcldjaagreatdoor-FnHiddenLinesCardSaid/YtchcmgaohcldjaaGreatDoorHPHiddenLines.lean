/-
  What is proved: FnHiddenLines returns true for every input, and each argument reads afterwards as it read before. Conditions: none beside the row's own.
-/
import Derived.Test.YtchcmgaohcldjaaGreatDoorHI6C
import Derived.Test.YtchcmgaohcldjaaGreatDoorHI7
import Derived.Test.YtchcmgaohcldjaaGreatDoorOrd
import Derived.Test.YtchcmgaohcldjaaGreatDoorTie
import Derived.Test.YtchcmgaohcldjaaGreatDoorCards
import Derived.LaidMore
import Derived.LaidLaws
import Derived.Stop.LaidErr
import Derived.Stop.Joined
import Derived.Lib.LaidTab
import Derived.SevenTiedAt
import Derived.OpenShut
import Derived.ShutString
import Derived.ChangeOld
import Derived.Lib.SmallJoins
set_option maxRecDepth 8000
namespace Go.Proofs.YtchcmgaohcldjaaGreatDoor
open Go.ChangeShapes Go.WideShapes Go.ChangeAt Go.RowKit
theorem sfB_pv {s : Int} {n : Nat} {gi : List Int} {rs : List RuleM} (h : sfB s n gi rs = true) : pvB s gi rs = true := by
  cases hv : pvB s gi rs with
  | true => rfl
  | false => unfold sfB at h; rw [allS_none hv] at h; cases h
set_option maxHeartbeats 8000000 in
theorem hiddenLines_walk (A : Option Addr) (c n : Nat) (bs : List Int) (w : World) (h : Code_ w A n c bs) (hT : Tz w) :
    Calls Tryz.prog 11 #[.slice A n c] w fun e w' => e = .returned (.bool true) ∧ Below w.heap.size w w' := by
  by_cases hn : n ≤ 1048576
  · go_enter Tryz.func11, Tryz.ntmps11
    go_wp2_with fail
    refine (draw_DrawStartMasks _ _ _ _ _ h).mono ?_; rintro e w1 ⟨s, A1, n1, c1, gi, A2, nr, c2, rs, rfl, s2, s4, hrd, hn16, hR, hl, hnr, hb1⟩; have hx0 := pbox_new w1 s A1 n1 c1 A2 nr c2 26; have hbA : Below w1.heap.size w1 (w1.alloc (.cells #[.int .i64 s, .slice A1 n1 c1, .slice A2 nr c2] 26)) := (Below.refl _ _).alloc (Nat.le_refl _) _; have hpc0 : PGc w1 s A1 n1 c1 w1.heap.size gi A2 nr c2 w1.heap.size rs := ⟨hrd, Nat.le_refl _, by omega, hR.rdc hl, Nat.le_refl _, by omega⟩; have hpcA := hpc0.below hbA
    have hsA : w1.heap.size < (w1.alloc (.cells #[.int .i64 s, .slice A1 n1 c1, .slice A2 nr c2] 26)).heap.size := by simp
    obtain ⟨W, hW⟩ : ∃ W, w1.alloc (.cells #[.int .i64 s, .slice A1 n1 c1, .slice A2 nr c2] 26) = W := ⟨_, rfl⟩; rw [hW] at hx0 hbA hpcA hsA; have hb0W : Below w.heap.size w W := step hb1 hbA
    have hsb : -9223372036854775808 ≤ s ∧ s ≤ 9223372036854775807 := by omega
    have HX := Lib.hid (fun w' (hb : Below W.heap.size W w') => hx0.below (by omega : w1.heap.size < W.heap.size) hb); have HB := Lib.hid (fun w' (hb : Below W.heap.size W w') => step hb0W hb); obtain ⟨X, hX⟩ : ∃ X, X = startL s gi rs n1 := ⟨_, rfl⟩; have hgl := hrd.1
    have hX16 : X.length ≤ 16 := by
      rw [hX]; unfold startL
      split
      · rw [mapTo_length]; exact hn16
      · simp
    have HI0 := implStartMasks _ _ _ _ _ _ _ _ _ _ _ _ hpcA; rw [← hX] at HI0; have HI0 := Lib.hid HI0
    have HS := Lib.hid (fun w' (hb : Below W.heap.size W w') => by
      have := specStartMasks _ _ _ _ _ _ _ _ _ _ _ _ (hpcA.below hb).rd; rw [← hX] at this
      exact this)
    obtain ⟨FL, hFL⟩ : ∃ FL, FL = sfL s n1 gi rs := ⟨_, rfl⟩; obtain ⟨bb, hbb⟩ : ∃ bb, bb = sfB s n1 gi rs := ⟨_, rfl⟩
    have HSF := Lib.hid (fun w' (hb : Below W.heap.size W w') => by
      have := implSolveFirst _ _ _ _ _ _ _ _ _ _ _ _ (hpcA.below hb) (hT.below hT.lt (step hb0W hb)); rw [← hFL, ← hbb] at this
      exact this)
    have HI := Lib.hid (fun (A9 : Option Addr) (c9 n9 B9 : Nat) (o : List Int) (w' : World) (hb : Below W.heap.size W w') (hr : Rd w' B9 A9 n9 o) (hB : B9 ≤ w'.heap.size) (h64 : B64 o) (h9 : n9 ≤ 1099511627776) => implNarrowAll _ _ _ _ _ _ _ _ _ _ _ A9 c9 n9 B9 o 2 w' (hpcA.below hb) hr hB h64 h9 (hT.below hT.lt (step hb0W hb)) hsb); have HW := Lib.hid hW; obtain ⟨z0, z1, z2⟩ := id hx0
    have hX17 : X.length ≤ 1099511627776 := by omega
    have hsame : same X X = true := by simp [same]
    clear hW hpc0 hpcA hbA hx0 hR hrd; cases bb
    · clear hbb hFL hX
      go_wp2_with (first
        | (go_at_call 41; rw [HW.out]; refine HI0.out.mono ?_; rintro e w2 ⟨Ax, cx, rfl, hox, hb2⟩; obtain ⟨y0, y1, y2⟩ := HX.out _ hb2)
        | (go_at_call 54; refine (HS.out _ hb2).mono ?_; rintro e w3 ⟨Ay, cy, rfl, hoy, hb3⟩; have h23 := step hb2 hb3; have hox3 := hox.rd.below hb3)
        | (go_at_call 20; refine (sameInts_any _ _ _ _ _ _ _ _ X X _ hox3 hoy.rd hX17).mono ?_; rintro e w4 ⟨rfl, hb4⟩; rw [hsame]; have h24 := step h23 hb4; obtain ⟨v0, v1, v2⟩ := HX.out _ h24)
        | (go_at_call 25; refine (HSF.out _ h24).mono ?_; rintro e w5 ⟨A5, m5, c5, rfl, hm5, ho5, hb5⟩; have h25 := step h24 hb5)
        | (go_at_call 24; (with_reducible refine (alive_any _).mono ?_); rintro e w6 ⟨rfl, hb6⟩))
      go_ret
      exact ⟨rfl, HB.out _ (step h25 hb6)⟩
    · have hv := sfB_pv hbb.symm; obtain ⟨t, rfl, hs, hnn, _, hok⟩ := pv_grid hv hgl; have hnn2 : n1 = t * t := (by simp at hs; rcases hs with rfl | rfl | rfl <;> omega); obtain ⟨hXl, hXv⟩ := start_mvdM (rs := rs) hgl hv; have hps := sf_psM hgl hv hnn2 hbb.symm; have hsh := start_have hs hgl hps; rw [← hX] at hXl hXv hsh; rw [← hFL] at hps hsh; have hX64 := b64_mvd hXv; obtain ⟨hwi, hYv, hYl⟩ := na_wi (r := 0) (most := 2) (rs := rs) (gi := gi) hv (by omega) hXv; have hYh := na_keeps (r := 0) (most := 2) (by omega) hXv hps hsh
      have eY : naL t gi rs X 2 = (naE t gi rs 2 X 0).1 := by
        unfold naL; rw [if_pos (by simp [hv, hXv, inr])]; rfl
      rw [← eY] at hYv hYl hYh
      have hol := fun u (hu : u < 2 * t) => orLn_all (u := u) hs hYv (ps_rules hps).2.2.1 hYh hu
      have holt := fun u (i : Nat) => orLn_lt (u := u) hYv i
      have hYn := fun k => mvd_nth hYv k
      obtain ⟨Y, hY⟩ : ∃ Y, Y = naL t gi rs X 2 := ⟨_, rfl⟩; rw [← hY] at hol holt hYl hYn; have HY := Lib.hid hY; have HLn := Lib.hid (fun (w' : World) (u : Nat) (hu : u < 2 * t) => lineCells_line hs hu (implLineCells t u w' ⟨by omega, by simp at hs; omega⟩)); have HIn := Lib.hid (fun (u : Nat) (hu : u < 2 * t) => line_in7 hs hu); have HYn := Lib.hid hYn; have Hol := Lib.hid hol; have Holt := Lib.hid holt; have hYt : Y.length = t * t := (by omega); clear hY eY hXl hYl hYv hYh hsh hps hwi hXv hok hnn hnn2 hbb hFL hX hol holt hYn hv
      go_wp2_with (first
        | (go_at_call 41; rw [HW.out]; refine HI0.out.mono ?_; rintro e w2 ⟨Ax, cx, rfl, hox, hb2⟩; obtain ⟨y0, y1, y2⟩ := HX.out _ hb2)
        | (go_at_call 54; refine (HS.out _ hb2).mono ?_; rintro e w3 ⟨Ay, cy, rfl, hoy, hb3⟩; have h23 := step hb2 hb3; have hox3 := hox.rd.below hb3; have hB3 := hb3.size)
        | (go_at_call 20; refine (sameInts_any _ _ _ _ _ _ _ _ X X _ hox3 hoy.rd hX17).mono ?_; rintro e w4 ⟨rfl, hb4⟩; rw [hsame]; have h24 := step h23 hb4; obtain ⟨v0, v1, v2⟩ := HX.out _ h24; have hox4 := hox3.below (hb4.mono hB3))
        | (go_at_call 25; refine (HSF.out _ h24).mono ?_; rintro e w5 ⟨A5, m5, c5, rfl, hm5, ho5, hb5⟩; have h25 := step h24 hb5; obtain ⟨u0, u1, u2⟩ := HX.out _ h25; have hox5 := hox4.below (hb5.mono (Nat.le_trans hB3 hb4.size)))
        | (go_at_call 35; refine (HI.out Ax cx X.length w2.heap.size X _ h25 hox5 (Nat.le_trans hB3 (Nat.le_trans hb4.size hb5.size)) hX64 (by omega)).mono ?_; rw [← HY.out]; rintro e w6 ⟨A6, n6, c6, rfl, ho6, hb6⟩; obtain rfl := ho6.len; have h26 := step h25 hb6))
      have H26 := Lib.hid h26; have HYr := Lib.hid (fun w' (hb : Below w6.heap.size w6 w') => ho6.rd.below hb); clear hox hoy hox3 hox4 hox5 ho5 ho6 hm5 z0 z1 z2 y0 y1 y2 v0 v1 v2 u0 u1 u2 hb2 hb3 hb4 hb5 hb6 h23 h24 h25 h26 hsame hB3; have ht4 : t = 2 ∨ t = 3 ∨ t = 4 := (by simpa using hs)
      rcases ht4 with rfl | rfl | rfl
      · simp only [Int.cast_ofNat_Int, Nat.reduceMul]
        go_loopw [9] (fun i wr => ∃ u : Nat, u ≤ 4 ∧ i = .int .i64 u ∧ Below w6.heap.size w6 wr) (fun i _ => 4 - (intOf i).toNat)
        case atStart => exact ⟨0, by omega, rfl, Below.refl _ _⟩
        case round =>
          obtain ⟨u, hu, rfl, hb⟩ := hrel; have hx' : PBox wr w1.heap.size 2 A1 n1 c1 A2 nr c2 := HX.out _ (step H26.out hb); obtain ⟨x0, x1, x2⟩ := id hx'
          by_cases hlt : u < 4
          · have hltI : (u : Int) < 4 := (by omega); have HL := HLn.out wr u hlt; have Hio := Lib.hid (HIn.out u hlt); have HO := Lib.hid (Hol.out u hlt); have HOt := Lib.hid (fun i => Holt.out u i); have HO0 := Lib.hid (show orLn Y (2 : Nat) (u : Nat) 0 = 0 from rfl); have HOs := Lib.hid (fun (i : Nat) => show orLn Y (2 : Nat) (u : Nat) (i + 1) = orLn Y (2 : Nat) (u : Nat) i ||| (nth Y (lineAt (2 : Nat) (u : Nat) i).toNat).toNat from rfl)
            obtain ⟨f, hf⟩ : ∃ f : Nat → Nat, f = fun i => orLn Y (2 : Nat) (u : Nat) i := ⟨_, rfl⟩
            have HF0 := Lib.hid (show f 0 = 0 by rw [hf]; exact HO0.out); have HFs := Lib.hid (fun (i q z : Nat) (e : lineAt (2 : Nat) (u : Nat) i = (q : Int)) (e2 : nth Y q = (z : Int)) => show f (i + 1) = f i ||| z by rw [hf]; show orLn Y (2 : Nat) (u : Nat) (i + 1) = _; rw [HOs.out i, e, Int.toNat_natCast, e2, Int.toNat_natCast]); have HFl := Lib.hid (fun (i : Nat) => show f i < 32 by rw [hf]; exact HOt.out i); have HFe := Lib.hid (show f 2 = 6 by rw [hf]; exact HO.out); have Hlt := Lib.hid hlt; have Hb := Lib.hid hb; clear hf hx' hb hlt
            go_wp2_with (go_at_call 55; refine HL.mono ?_; rintro e w7 ⟨A7, c7, rfl, ho7, hb7⟩)
            have HCr := Lib.hid (fun w' (hbx : Below w7.heap.size w7 w') => ho7.rd.below hbx); have H67 := Lib.hid (step Hb.out hb7); clear ho7 hb7 x0 x1 x2
            go_loopw [11, 12] (fun a i wr => ∃ k : Nat, k ≤ 2 ∧ i = .int .i64 k ∧ a = .int .i64 (f k) ∧ Below w7.heap.size w7 wr) (fun _ i _ => 2 - (intOf i).toNat)
            case atStart => exact ⟨0, by omega, rfl, by rw [HF0.out]; rfl, Below.refl _ _⟩
            case round =>
              obtain ⟨k, hk, rfl, rfl, hbk⟩ := hrel
              by_cases hkt : k < 2
              · have hktI : (k : Int) < 2 := (by omega); obtain ⟨b7, o7, rfl, _, hc7⟩ := (HCr.out _ hbk).at_ hkt; rw [lineTo_nth hkt] at hc7; obtain ⟨q, hq, _, hq2⟩ := Hio.out k hkt; have HFq := HFs.out k q; rw [hq] at hc7; have hqn : q < Y.length := (by omega); have hqI : (q : Int) < (Y.length : Int) := (by omega); obtain ⟨b8, o8, rfl, _, hc8⟩ := (HYr.out _ (step H67.out hbk)).at_ hqn; obtain ⟨y0, y1, _⟩ := HYn.out q; obtain ⟨z, hz⟩ := Int.eq_ofNat_of_zero_le y0; have hfk := HFq z hq hz; rw [hz] at hc8 y1; have hor := i64_or_nat (f k) z (by have := HFl.out k; omega) (by omega); rw [← hfk] at hor
                obtain ⟨f1, hf1⟩ : ∃ f1, f1 = f (k + 1) := ⟨_, rfl⟩; rw [← hf1] at hor; have Hf1 := Lib.hid hf1; have hq0 : ¬ (q : Int) < 0 := (by omega); have hqge : ¬ (Y.length : Int) ≤ (q : Int) := (by omega); clear hf1 hfk hz hq HFq y0 y1
                go_wp2
                go_roundw
                case rel => exact ⟨k + 1, by omega, by go_num, by first | (rw [← Hf1.out]; done) | (rw [← Hf1.out]; exact congrArg _ hor), hbk⟩
                case measure => simp [intOf]; omega
              · obtain rfl : k = 2 := by omega
                rw [HFe.out]; have hx9 : PBox wr w1.heap.size 2 A1 n1 c1 A2 nr c2 := HX.out _ (step H26.out (step H67.out hbk)); obtain ⟨x0, x1, x2⟩ := id hx9
                go_wp2
                go_roundw
                case rel => exact ⟨u + 1, Hlt.out, by go_num, step H67.out hbk⟩
                case measure => have := Hlt.out; simp [intOf]; omega
          · obtain rfl : u = 4 := by omega
            go_wp2
            go_ret
            exact ⟨rfl, HB.out _ (step H26.out hb)⟩
      · simp only [Int.cast_ofNat_Int, Nat.reduceMul]
        go_loopw [9] (fun i wr => ∃ u : Nat, u ≤ 6 ∧ i = .int .i64 u ∧ Below w6.heap.size w6 wr) (fun i _ => 6 - (intOf i).toNat)
        case atStart => exact ⟨0, by omega, rfl, Below.refl _ _⟩
        case round =>
          obtain ⟨u, hu, rfl, hb⟩ := hrel; have hx' : PBox wr w1.heap.size 3 A1 n1 c1 A2 nr c2 := HX.out _ (step H26.out hb); obtain ⟨x0, x1, x2⟩ := id hx'
          by_cases hlt : u < 6
          · have hltI : (u : Int) < 6 := (by omega); have HL := HLn.out wr u hlt; have Hio := Lib.hid (HIn.out u hlt); have HO := Lib.hid (Hol.out u hlt); have HOt := Lib.hid (fun i => Holt.out u i); have HO0 := Lib.hid (show orLn Y (3 : Nat) (u : Nat) 0 = 0 from rfl); have HOs := Lib.hid (fun (i : Nat) => show orLn Y (3 : Nat) (u : Nat) (i + 1) = orLn Y (3 : Nat) (u : Nat) i ||| (nth Y (lineAt (3 : Nat) (u : Nat) i).toNat).toNat from rfl)
            obtain ⟨f, hf⟩ : ∃ f : Nat → Nat, f = fun i => orLn Y (3 : Nat) (u : Nat) i := ⟨_, rfl⟩
            have HF0 := Lib.hid (show f 0 = 0 by rw [hf]; exact HO0.out); have HFs := Lib.hid (fun (i q z : Nat) (e : lineAt (3 : Nat) (u : Nat) i = (q : Int)) (e2 : nth Y q = (z : Int)) => show f (i + 1) = f i ||| z by rw [hf]; show orLn Y (3 : Nat) (u : Nat) (i + 1) = _; rw [HOs.out i, e, Int.toNat_natCast, e2, Int.toNat_natCast]); have HFl := Lib.hid (fun (i : Nat) => show f i < 32 by rw [hf]; exact HOt.out i); have HFe := Lib.hid (show f 3 = 14 by rw [hf]; exact HO.out); have Hlt := Lib.hid hlt; have Hb := Lib.hid hb; clear hf hx' hb hlt
            go_wp2_with (go_at_call 55; refine HL.mono ?_; rintro e w7 ⟨A7, c7, rfl, ho7, hb7⟩)
            have HCr := Lib.hid (fun w' (hbx : Below w7.heap.size w7 w') => ho7.rd.below hbx); have H67 := Lib.hid (step Hb.out hb7); clear ho7 hb7 x0 x1 x2
            go_loopw [11, 12] (fun a i wr => ∃ k : Nat, k ≤ 3 ∧ i = .int .i64 k ∧ a = .int .i64 (f k) ∧ Below w7.heap.size w7 wr) (fun _ i _ => 3 - (intOf i).toNat)
            case atStart => exact ⟨0, by omega, rfl, by rw [HF0.out]; rfl, Below.refl _ _⟩
            case round =>
              obtain ⟨k, hk, rfl, rfl, hbk⟩ := hrel
              by_cases hkt : k < 3
              · have hktI : (k : Int) < 3 := (by omega); obtain ⟨b7, o7, rfl, _, hc7⟩ := (HCr.out _ hbk).at_ hkt; rw [lineTo_nth hkt] at hc7; obtain ⟨q, hq, _, hq2⟩ := Hio.out k hkt; have HFq := HFs.out k q; rw [hq] at hc7; have hqn : q < Y.length := (by omega); have hqI : (q : Int) < (Y.length : Int) := (by omega); obtain ⟨b8, o8, rfl, _, hc8⟩ := (HYr.out _ (step H67.out hbk)).at_ hqn; obtain ⟨y0, y1, _⟩ := HYn.out q; obtain ⟨z, hz⟩ := Int.eq_ofNat_of_zero_le y0; have hfk := HFq z hq hz; rw [hz] at hc8 y1; have hor := i64_or_nat (f k) z (by have := HFl.out k; omega) (by omega); rw [← hfk] at hor
                obtain ⟨f1, hf1⟩ : ∃ f1, f1 = f (k + 1) := ⟨_, rfl⟩; rw [← hf1] at hor; have Hf1 := Lib.hid hf1; have hq0 : ¬ (q : Int) < 0 := (by omega); have hqge : ¬ (Y.length : Int) ≤ (q : Int) := (by omega); clear hf1 hfk hz hq HFq y0 y1
                go_wp2
                go_roundw
                case rel => exact ⟨k + 1, by omega, by go_num, by first | (rw [← Hf1.out]; done) | (rw [← Hf1.out]; exact congrArg _ hor), hbk⟩
                case measure => simp [intOf]; omega
              · obtain rfl : k = 3 := by omega
                rw [HFe.out]; have hx9 : PBox wr w1.heap.size 3 A1 n1 c1 A2 nr c2 := HX.out _ (step H26.out (step H67.out hbk)); obtain ⟨x0, x1, x2⟩ := id hx9
                go_wp2
                go_roundw
                case rel => exact ⟨u + 1, Hlt.out, by go_num, step H67.out hbk⟩
                case measure => have := Hlt.out; simp [intOf]; omega
          · obtain rfl : u = 6 := by omega
            go_wp2
            go_ret
            exact ⟨rfl, HB.out _ (step H26.out hb)⟩
      · simp only [Int.cast_ofNat_Int, Nat.reduceMul]
        go_loopw [9] (fun i wr => ∃ u : Nat, u ≤ 8 ∧ i = .int .i64 u ∧ Below w6.heap.size w6 wr) (fun i _ => 8 - (intOf i).toNat)
        case atStart => exact ⟨0, by omega, rfl, Below.refl _ _⟩
        case round =>
          obtain ⟨u, hu, rfl, hb⟩ := hrel; have hx' : PBox wr w1.heap.size 4 A1 n1 c1 A2 nr c2 := HX.out _ (step H26.out hb); obtain ⟨x0, x1, x2⟩ := id hx'
          by_cases hlt : u < 8
          · have hltI : (u : Int) < 8 := (by omega); have HL := HLn.out wr u hlt; have Hio := Lib.hid (HIn.out u hlt); have HO := Lib.hid (Hol.out u hlt); have HOt := Lib.hid (fun i => Holt.out u i); have HO0 := Lib.hid (show orLn Y (4 : Nat) (u : Nat) 0 = 0 from rfl); have HOs := Lib.hid (fun (i : Nat) => show orLn Y (4 : Nat) (u : Nat) (i + 1) = orLn Y (4 : Nat) (u : Nat) i ||| (nth Y (lineAt (4 : Nat) (u : Nat) i).toNat).toNat from rfl)
            obtain ⟨f, hf⟩ : ∃ f : Nat → Nat, f = fun i => orLn Y (4 : Nat) (u : Nat) i := ⟨_, rfl⟩
            have HF0 := Lib.hid (show f 0 = 0 by rw [hf]; exact HO0.out); have HFs := Lib.hid (fun (i q z : Nat) (e : lineAt (4 : Nat) (u : Nat) i = (q : Int)) (e2 : nth Y q = (z : Int)) => show f (i + 1) = f i ||| z by rw [hf]; show orLn Y (4 : Nat) (u : Nat) (i + 1) = _; rw [HOs.out i, e, Int.toNat_natCast, e2, Int.toNat_natCast]); have HFl := Lib.hid (fun (i : Nat) => show f i < 32 by rw [hf]; exact HOt.out i); have HFe := Lib.hid (show f 4 = 30 by rw [hf]; exact HO.out); have Hlt := Lib.hid hlt; have Hb := Lib.hid hb; clear hf hx' hb hlt
            go_wp2_with (go_at_call 55; refine HL.mono ?_; rintro e w7 ⟨A7, c7, rfl, ho7, hb7⟩)
            have HCr := Lib.hid (fun w' (hbx : Below w7.heap.size w7 w') => ho7.rd.below hbx); have H67 := Lib.hid (step Hb.out hb7); clear ho7 hb7 x0 x1 x2
            go_loopw [11, 12] (fun a i wr => ∃ k : Nat, k ≤ 4 ∧ i = .int .i64 k ∧ a = .int .i64 (f k) ∧ Below w7.heap.size w7 wr) (fun _ i _ => 4 - (intOf i).toNat)
            case atStart => exact ⟨0, by omega, rfl, by rw [HF0.out]; rfl, Below.refl _ _⟩
            case round =>
              obtain ⟨k, hk, rfl, rfl, hbk⟩ := hrel
              by_cases hkt : k < 4
              · have hktI : (k : Int) < 4 := (by omega); obtain ⟨b7, o7, rfl, _, hc7⟩ := (HCr.out _ hbk).at_ hkt; rw [lineTo_nth hkt] at hc7; obtain ⟨q, hq, _, hq2⟩ := Hio.out k hkt; have HFq := HFs.out k q; rw [hq] at hc7; have hqn : q < Y.length := (by omega); have hqI : (q : Int) < (Y.length : Int) := (by omega); obtain ⟨b8, o8, rfl, _, hc8⟩ := (HYr.out _ (step H67.out hbk)).at_ hqn; obtain ⟨y0, y1, _⟩ := HYn.out q; obtain ⟨z, hz⟩ := Int.eq_ofNat_of_zero_le y0; have hfk := HFq z hq hz; rw [hz] at hc8 y1; have hor := i64_or_nat (f k) z (by have := HFl.out k; omega) (by omega); rw [← hfk] at hor
                obtain ⟨f1, hf1⟩ : ∃ f1, f1 = f (k + 1) := ⟨_, rfl⟩; rw [← hf1] at hor; have Hf1 := Lib.hid hf1; have hq0 : ¬ (q : Int) < 0 := (by omega); have hqge : ¬ (Y.length : Int) ≤ (q : Int) := (by omega); clear hf1 hfk hz hq HFq y0 y1
                go_wp2
                go_roundw
                case rel => exact ⟨k + 1, by omega, by go_num, by first | (rw [← Hf1.out]; done) | (rw [← Hf1.out]; exact congrArg _ hor), hbk⟩
                case measure => simp [intOf]; omega
              · obtain rfl : k = 4 := by omega
                rw [HFe.out]; have hx9 : PBox wr w1.heap.size 4 A1 n1 c1 A2 nr c2 := HX.out _ (step H26.out (step H67.out hbk)); obtain ⟨x0, x1, x2⟩ := id hx9
                go_wp2
                go_roundw
                case rel => exact ⟨u + 1, Hlt.out, by go_num, step H67.out hbk⟩
                case measure => have := Hlt.out; simp [intOf]; omega
          · obtain rfl : u = 8 := by omega
            go_wp2
            go_ret
            exact ⟨rfl, HB.out _ (step H26.out hb)⟩
  · go_enter Tryz.func11, Tryz.ntmps11
    go_wp2
    go_ret
    exact ⟨rfl, Below.refl _ _⟩
end Go.Proofs.YtchcmgaohcldjaaGreatDoor
namespace Go.Proofs.YtchcmgaohcldjaaGreatDoor.fnHiddenLines
open Go.ChangeShapes Go.WideShapes Go.ChangeAt Go.RowKit
set_option linter.unusedVariables false
theorem own : ownKnob Tryz.prog.godebug = none := by kernel_rfl
abbrev laid : List (String × DataW Unit) := [("math/bits.deBruijn32tab", Rows.laid_math_bits_deBruijn32tab), ("math/bits.deBruijn64tab", Rows.laid_math_bits_deBruijn64tab)]
theorem door_met (os : Os) (args : Array Value) : laidMetH Tryz.prog laid ((World.doorLaid Tryz.prog 19 os).forCall (fun _ _ => 0) ⟨#[], args, []⟩).memory :=
  laidMetH_of_parts3 (fuel := 8) (laidMet_of_run' 8 (by kernel_rfl) (by kernel_rfl)) (by kernel_rfl) (by kernel_rfl)
def tzTab : List Int := [0, 1, 56, 2, 57, 49, 28, 3, 61, 58, 42, 50, 38, 29, 17, 4, 62, 47, 59, 36, 45, 43, 51, 22, 53, 39, 33, 30, 24, 18, 12, 5, 63, 55, 48, 27, 60, 41, 37, 16, 46, 35, 44, 21, 52, 32, 23, 11, 54, 26, 40, 15, 34, 20, 31, 10, 25, 14, 19, 9, 13, 8, 7, 6]
theorem tz_of_laid {W : World} (hL : laidMetH Tryz.prog laid W) : Tz W := by
  rw [MakeChecks.laidMetH_plain _ _ _ (by kernel_rfl)] at hL
  have h2 : laidMet Tryz.prog [("math/bits.deBruijn64tab", Lib.tabData .u8 tzTab)] W := laidMet.tail hL
  have gN : Tryz.prog.globalNamed "math/bits.deBruijn64tab" = some 0 := by kernel_rfl
  have hT := Lib.tabIs_of_head gN (t := 180) (e := 5) (n := 64) (by kernel_rfl) (by kernel_rfl) (by kernel_rfl) (by kernel_rfl) (by kernel_rfl) h2
  intro p hp
  match p, hp with
  | 0, _ => exact hT.cell gN 0 (by decide)
  | 1, _ => exact hT.cell gN 1 (by decide)
  | 2, _ => exact hT.cell gN 3 (by decide)
  | 3, _ => exact hT.cell gN 7 (by decide)
  | 4, _ => exact hT.cell gN 15 (by decide)
  | 5, _ => exact hT.cell gN 31 (by decide)
  | 6, _ => exact hT.cell gN 63 (by decide)
  | 7, _ => exact hT.cell gN 62 (by decide)
  | 8, _ => exact hT.cell gN 61 (by decide)
  | 9, _ => exact hT.cell gN 59 (by decide)
  | 10, _ => exact hT.cell gN 55 (by decide)
  | 11, _ => exact hT.cell gN 47 (by decide)
  | 12, _ => exact hT.cell gN 30 (by decide)
  | 13, _ => exact hT.cell gN 60 (by decide)
  | 14, _ => exact hT.cell gN 57 (by decide)
  | 15, _ => exact hT.cell gN 51 (by decide)
  | n + 16, h => omega
theorem laidOut : laidOutB Tryz.prog = true := by kernel_rfl
set_option maxRecDepth 100000 in
theorem lifted (os : Os) (started : os.Started) (H : Type) (enc : TypeId × Value → H) :
    ReturnsInHanded {} Tryz.checked os 11 .any (fun w args => (Rows.fnHiddenLinesSpec.pre enc Tryz.prog Tryz.f11 [] false w args ∧ laidMetH Tryz.prog laid w) ∧ sizedMet enc Tryz.prog Tryz.f11 (OpenSpec.ofChange Rows.fnHiddenLinesSpec) false w args) (Rows.fnHiddenLinesSpec.post enc Tryz.prog Tryz.f11 false true false false) := by
  refine returnsInHanded_of_change_and (C := Tryz.checked) (X := fun w _ => laidMetH Tryz.prog laid w) (fun _ _ _ hh h => h.of_heap hh) own started (by kernel_rfl) Tryz.func11
    (ChangeSpec.witness_shaped (enc := enc) (C := Tryz.checked) (os := os) (X := fun w _ => laidMetH Tryz.prog laid w) false (World.doorLaid Tryz.prog 19 os) #[.slice none 0 0] 8 rfl (World.shaped_of_RefB (by kernel_rfl) (by kernel_rfl)) (by kernel_rfl) (by kernel_rfl) (by kernel_rfl) (door_met os _)) ?_
  intro W base args ds gs before hval0 hW _ _ hL _
  have hval : ∀ (j : Nat) t v, Tryz.f11.params[j]? = some t → args[j]? = some v → Value.okWide Tryz.prog W .any base t v := hval0
  have hW' := hW
  obtain ⟨p, q, hA0, hV, rfl, hfz, hnd⟩ := hW
  have hA : DataW.TrodAll enc Tryz.prog W 0 (fun _ => true) true Tryz.f11.params.toList args.toList ds p := hA0
  rw [Tryz.params11] at hA hval
  obtain ⟨v0, vs0, d0, ds0, p0, q0, hargs, rfl, rfl, h0, r0⟩ := trodAll_cons hA
  obtain ⟨rfl, rfl, rfl⟩ := trodAll_nil r0
  obtain rfl : args = #[v0] := by cases args; simp_all
  obtain ⟨rfl, rfl⟩ := trodVars_none hV
  obtain ⟨a0, len0, cap0, rfl⟩ := okWide_slice Tryz.underlying22 (hval 0 22 v0 rfl rfl)
  have k0 := h0
  have lt0 : ∀ x ∈ p0, x.block < W.heap.size := by obtain ⟨m, hm⟩ := k0; exact DataW.trod_lt m _ _ _ hm
  obtain ⟨z0, w0⟩ : ∃ zs, IsRow .u8 W a0 len0 cap0 zs := by
    obtain ⟨fuel, hf⟩ := h0
    rcases open_ints Tryz.underlying22 Tryz.underlying5 (by kernel_rfl) hf with ⟨hcs, _⟩ | ⟨x, l, c, zs, hcs, _, hl, hm, hz, _, hcell, hwz⟩
    · simp [Value.cells] at hcs
      obtain ⟨rfl, rfl, rfl⟩ := hcs
      exact ⟨[], .inl ⟨rfl, rfl, rfl, rfl⟩⟩
    · simp [Value.cells] at hcs
      obtain ⟨rfl, rfl, rfl⟩ := hcs
      exact ⟨zs, .inr ⟨_, rfl, hl, hm, by simpa using hz, hcell, hwz⟩⟩
  clear hA0 hval0
  refine (hiddenLines_walk a0 cap0 len0 _ W (code_of_row w0) (tz_of_laid hL)).mono fun e W' ⟨he, bel⟩ => ?_
  subst he
  exact ⟨_, rfl, _, _, _, [], _, [], hW', trodAll_mk1 (shut_bool Tryz.underlying4 _), (trodAll_cons_mk (Below.trod laidOut (by kernel_rfl) (of_decide_eq_true (by kernel_rfl)) k0 bel lt0) trodAll_mk0), rfl, bel.frame _, fun h => by cases h⟩
set_option maxHeartbeats 2000000 in
theorem facts : joinedFacts Tryz.pinned.checked.prog 11 Tryz.f11 Rows.fnHiddenLinesSpec Rows.fnHiddenLinesRow = true := by
  unfold joinedFacts
  repeat' (with_reducible refine and_mk ?_ ?_)
  all_goals (first | with_reducible exact may_enter | (rw [make_is]; try kernel_rfl) | (rw [lifts_final]; try kernel_rfl) | (as_aux_lemma => kernel_rfl))
theorem over : Rows.fnHiddenLinesRow.holds Tryz.pinned (OpenSpec.ofChange Rows.fnHiddenLinesSpec) :=
  OpenClaim.holds_of_wide 11 Tryz.f11 rfl rfl rfl rfl rfl rfl rfl ⟨rfl, rfl, rfl, rfl, rfl⟩ rfl rfl rfl rfl rfl (by as_aux_lemma => kernel_rfl) Tryz.func11 facts
    (by as_aux_lemma => exact of_decide_eq_true (by kernel_rfl)) (by as_aux_lemma => (unfold Func.isWrapper; first | (rw [if_pos (by decide +kernel)]; kernel_rfl) | (rw [if_neg (by decide +kernel)]; exact ⟨rfl, rfl⟩)))
    (fun os started H enc _ => lifted os started H enc)
theorem goes_a : Tryz.prog.funcNamed "loop.example/gridpuzzles/laws.FnHiddenLines" = some 11 := by kernel_rfl
theorem goes_b : ((Tryz.prog.closure 11).any fun g => (Tryz.prog.funcs[g]?).any Func.goes) = false := by kernel_rfl
theorem goes_c : Tryz.prog.funcs.any Func.goes = false := by kernel_rfl
theorem goes_gen {P : Program} {c : OpenClaim} {F : FuncId} {s : String} (hf : c.func = s) (hs : c.start = .entering) (h1 : P.funcNamed s = some F) (h2 : ((P.closure F).any fun g => (P.funcs[g]?).any Func.goes) = false) (h3 : P.funcs.any Func.goes = false) : false = c.goesBy P := by
  unfold OpenClaim.goesBy Program.goesAt Program.goesFrom
  rw [hf, hs, h1]
  simp only [Option.any_some, Program.goes, h2, h3, Bool.and_false, Bool.or_false]
theorem goes_no : false = Rows.fnHiddenLinesRow.goesBy Tryz.pinned.checked.prog := goes_gen (P := Tryz.prog) rfl rfl goes_a goes_b goes_c
set_option maxHeartbeats 8000000 in
theorem proved : Rows.FnHiddenLinesCardSaid :=
  Claim7.holds_tied_plain_at .later [] [.data, .data] true (true, "060df8d366827a38ebe19578cbb297c78448e21f3e773aae27ad27f4f38c2d32") false
    over (fun _ h => by cases h) (by as_aux_lemma => kernel_rfl) (fun _ h => by cases h) fnHiddenLines_row_tie rfl ⟨rfl, rfl⟩ (by as_aux_lemma => kernel_rfl) rfl
    (fun f fn hf hfn => by
      obtain rfl : f = 11 := Option.some.inj ((show Tryz.prog.funcNamed "loop.example/gridpuzzles/laws.FnHiddenLines" = some 11 by as_aux_lemma => kernel_rfl).symm.trans hf) |>.symm
      obtain rfl : fn = Tryz.f11 := (Option.some.inj (Tryz.func11.symm.trans hfn)).symm
      exact ⟨by as_aux_lemma => kernel_rfl, fun j t ht => by
        rw [Tryz.params11] at ht
        have hm : t ∈ [22] := by simpa using Array.mem_of_getElem? ht
        have hall : ([22].all fun u => !Tryz.prog.wantsStandIn u) = true := by as_aux_lemma => kernel_rfl
        exact (show Tryz.prog.wantsStandIn t = false by simpa using List.all_eq_true.1 hall t hm)⟩)
    goes_no
end Go.Proofs.YtchcmgaohcldjaaGreatDoor.fnHiddenLines
