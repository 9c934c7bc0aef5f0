import Derived.Test.YtoejpodchlepiaaYI5G
import Derived.Test.YtoejpodchlepiaaYOpn
import Derived.Test.YtoejpodchlepiaaYW4E
import Derived.Deep.RegionWith
set_option maxRecDepth 8000
namespace Go.Proofs.Ytoejpodchlepiaa
open Go.ChangeShapes Go.WideShapes Go.ChangeAt Go.RowKit

set_option maxHeartbeats 2000000 in
theorem exactPuzzleFits_walk (s : Int) (Ag : Option Addr) (cg ng : Nat) (gi : List Int) (Ar : Option Addr) (cr nr : Nat) (rs : List RuleM) (A : Option Addr) (c n : Nat) (g : List Int) (w : World) (hgi : Rd w w.heap.size Ag ng gi) (hgm : ng ≤ 9223372036854775807) (hr : RdRx w w.heap.size Ar nr rs) (hrm : nr ≤ 9223372036854775807) (hg : Rd w w.heap.size A n g) :
    Calls Try.prog 6 #[.agg #[.int .i64 s, .slice Ag ng cg, .slice Ar nr cr], .slice A n c] w fun e w' => e = .returned (.bool true) ∧ Below w.heap.size w w' := by
  have hx0 := pbox_new w s Ag ng cg Ar nr cr 43
  have hb0 : Below w.heap.size w (w.alloc (.cells #[.int .i64 s, .slice Ag ng cg, .slice Ar nr cr] 43)) := (Below.refl _ _).alloc (Nat.le_refl _) _
  have hs0 : w.heap.size < (w.alloc (.cells #[.int .i64 s, .slice Ag ng cg, .slice Ar nr cr] 43)).heap.size := by simp
  obtain ⟨a0, a1, a2⟩ := id hx0
  have hrl := Lib.hid hr.1
  have HSZ := Lib.hid (fun w' (hb : Below w.heap.size w w') => szPuzzle_any s Ag cg ng Ar cr nr w.heap.size rs 1048576 w' hgm (hr.below hb) hb.size hrm (by omega) (by omega))
  by_cases hn : n ≤ 1048576
  · have hm : n ≤ 1099511627776 := by omega
    go_enter Try.func6, Try.ntmps6
    go_wp2_with fail
    refine (HSZ.out _ hb0).mono ?_
    rintro e w1 ⟨r, rfl, hb1, hr1⟩
    have h01 := step hb0 hb1
    have hx1 := hx0.below hs0 hb1
    have hs1 := Nat.lt_of_lt_of_le hs0 hb1.size
    rcases hr1 with rfl | ⟨r0, hl1, hl2, hl3⟩
    · go_wp2
      go_ret
      exact ⟨rfl, h01⟩
    · have hrneg : ¬ r < 0 := by omega
      have hmg : ng ≤ 1099511627776 := by omega
      have hmr : nr ≤ 1099511627776 := by omega
      have hnr : nr ≤ 1048576 := by omega
      have HRS := Lib.hid (fun w' (hb : Below w.heap.size w w') => (hr.below hb).small (fun i hi => by have := hl3 i hi; omega))
      have HGI := Lib.hid (fun w' (hb : Below w.heap.size w w') => hgi.below hb)
      have HTP := Lib.hid (fun w' (hb : Below w.heap.size w w') => toPuzzle_any s Ag cg ng w.heap.size gi Ar cr nr w.heap.size rs w' (HGI.out _ hb) hb.size hmg (HRS.out _ hb) hb.size hnr)
      obtain ⟨c0, c1, c2⟩ := id hx1
      clear hl1 hl2 hl3
      go_wp2_with fail
      refine (HTP.out _ h01).mono ?_
      rintro e w2 ⟨A2, g2, rfl, ho2, hor2, hb2⟩
      have h02 := step h01 hb2
      have hx2 := hx1.below hs1 hb2
      have hs2 := Nat.lt_of_lt_of_le hs1 hb2.size
      have hp2 : PGs w2 s A2 ng ng w2.heap.size gi (some ⟨g2, 0, none⟩) nr nr w2.heap.size rs := ⟨ho2.rd, Nat.le_refl _, hmg, hor2.rd hrl.out, Nat.le_refl _, hmr⟩
      go_wp2_with fail
      refine (toIntS_any _ _ _ _ _ _ (hg.below h02) h02.size hm).mono ?_
      rintro e w2a ⟨rfl, ho2a, hb2a⟩
      have h02a := step h02 hb2a
      have hx2a := hx2.below hs2 hb2a
      have hs2a := Nat.lt_of_lt_of_le hs2 hb2a.size
      have hp2a := hp2.below hb2a
      go_wp2_with fail
      refine (specPuzzleFits _ _ _ _ _ _ _ _ _ _ _ _ _ _ _ _ _ hp2a ho2a.rd (Nat.le_refl _) hm).mono ?_
      rintro e w3 ⟨rfl, hb3⟩
      have h03 := step h02a hb3
      have hx3 := hx2a.below hs2a hb3
      have hs3 := Nat.lt_of_lt_of_le hs2a hb3.size
      obtain ⟨d0, d1, d2⟩ := id hx3
      go_wp2_with fail
      refine (HTP.out _ h03).mono ?_
      rintro e w4 ⟨A4, g4, rfl, ho4, hor4, hb4⟩
      have h04 := step h03 hb4
      have hx4 := hx3.below hs3 hb4
      have hs4 := Nat.lt_of_lt_of_le hs3 hb4.size
      have hy4 := pbox_new w4 s A4 ng ng (some ⟨g4, 0, none⟩) nr nr 48
      have hb5 : Below w4.heap.size w4 (w4.alloc (.cells #[.int .i64 s, .slice A4 ng ng, .slice (some ⟨g4, 0, none⟩) nr nr] 48)) := (Below.refl _ _).alloc (Nat.le_refl _) _
      have ht4 : w4.heap.size < (w4.alloc (.cells #[.int .i64 s, .slice A4 ng ng, .slice (some ⟨g4, 0, none⟩) nr nr] 48)).heap.size := by simp
      have hpc4 : PGc w4 s A4 ng ng w4.heap.size gi (some ⟨g4, 0, none⟩) nr nr w4.heap.size rs := ⟨ho4.rd, Nat.le_refl _, hmg, hor4.rdc hrl.out, Nat.le_refl _, hmr⟩
      have h05 := step h04 hb5
      have hx5 := hx4.below hs4 hb5
      have hs5 := Nat.lt_of_lt_of_le hs4 hb5.size
      have hp5 := hpc4.below hb5
      obtain ⟨e0, e1, e2⟩ := id hy4
      go_wp2_with fail
      refine (toIntS_any _ _ _ _ _ _ (hg.below h05) h05.size hm).mono ?_
      rintro e w5 ⟨rfl, ho6, hb6⟩
      rw [World.size_alloc] at ho6
      have h06 := step h05 hb6
      have hx6 := hx5.below hs5 hb6
      have hs6 := Nat.lt_of_lt_of_le hs5 hb6.size
      have hy6 := hy4.below ht4 hb6
      have ht6 := Nat.lt_of_lt_of_le ht4 hb6.size
      have hp6 := hp5.below hb6
      clear e0 e1 e2
      obtain ⟨e0, e1, e2⟩ := id hy6
      go_wp2_with fail
      refine (implPuzzleFits _ _ _ _ _ _ _ _ _ _ _ _ _ _ _ _ _ hp6 ho6.rd (Nat.le_refl _) hm).mono ?_
      rintro e w6 ⟨rfl, hb7⟩
      have h07 := step h06 hb7
      have hx7 := hx6.below hs6 hb7
      have hs7 := Nat.lt_of_lt_of_le hs6 hb7.size
      have hy7 := hy6.below ht6 hb7
      have ht7 := Nat.lt_of_lt_of_le ht6 hb7.size
      have hp7 := hp6.below hb7
      have hne : (fpB s gi rs g != fpB s gi rs g) = false := by simp
      obtain ⟨f0, f1, f2⟩ := id hx7
      obtain ⟨g0, g1, g2'⟩ := id hy7
      have ho7 := ho6.below hb7
      have hsame := same_refl g
      have hBA : Below w.heap.size w w6.drew := h07.drew
      have hp7r := hp7.rd
      go_wp2
      go_region_with (first | (go_at_call 36; (with_reducible refine (HTP.out _ ?hd).mono ?_); (case hd => exact hBA); rintro e w7 ⟨A7, g7, rfl, ho8, hor8, hb8d⟩; have hb8 := below_undrew hb8d; clear hb8d; have hy8 := hy7.below ht7 hb8; obtain ⟨q0, q1, q2⟩ := id hy8; have hp8 := hp7r.below hb8; have hgr8 := ho8.rd; have hrr8 := hor8.rd hrl.out; have h08 := step h07 hb8) | (go_at_call 38; (with_reducible refine (eqPuzzle_any s A4 A7 ng ng ng _ _ gi (some ⟨g4, 0, none⟩) (some ⟨g7, 0, none⟩) nr nr nr _ _ rs _ hp8.g hp8.gB hmg hgr8 ?hB hp8.r hrr8 hp8.rB ?hB2 hmr).mono ?_); (case hB => exact Nat.le_refl _); (case hB2 => exact Nat.le_refl _); rintro e w8 ⟨rfl, hb9⟩))
      all_goals
        have h09 := step h08 hb9
        have ho9 := (ho7.below hb8).below hb9
        go_wp2_with fail
        refine (toIntS_any _ _ _ _ _ _ (hg.below h09) h09.size hm).mono ?_
        rintro e w9 ⟨rfl, ho10, hb10⟩
        have h10 := step h09 hb10
        go_wp2_with fail
        refine (eqIntS_any _ _ _ _ _ _ _ _ _ _ _ (ho9.below hb10).rd ho10.rd hm).mono ?_
        rintro e w10 ⟨rfl, hb11⟩
        rw [hsame]
        go_wp2
        go_ret
        exact ⟨rfl, step h10 hb11⟩
  · go_enter Try.func6, Try.ntmps6
    go_wp2
    go_ret
    exact ⟨rfl, hb0⟩
set_option maxHeartbeats 2000000 in
theorem exactPuzzleSolved_walk (s : Int) (Ag : Option Addr) (cg ng : Nat) (gi : List Int) (Ar : Option Addr) (cr nr : Nat) (rs : List RuleM) (A : Option Addr) (c n : Nat) (g : List Int) (w : World) (hgi : Rd w w.heap.size Ag ng gi) (hgm : ng ≤ 9223372036854775807) (hr : RdRx w w.heap.size Ar nr rs) (hrm : nr ≤ 9223372036854775807) (hg : Rd w w.heap.size A n g) :
    Calls Try.prog 7 #[.agg #[.int .i64 s, .slice Ag ng cg, .slice Ar nr cr], .slice A n c] w fun e w' => e = .returned (.bool true) ∧ Below w.heap.size w w' := by
  have hx0 := pbox_new w s Ag ng cg Ar nr cr 43
  have hb0 : Below w.heap.size w (w.alloc (.cells #[.int .i64 s, .slice Ag ng cg, .slice Ar nr cr] 43)) := (Below.refl _ _).alloc (Nat.le_refl _) _
  have hs0 : w.heap.size < (w.alloc (.cells #[.int .i64 s, .slice Ag ng cg, .slice Ar nr cr] 43)).heap.size := by simp
  obtain ⟨a0, a1, a2⟩ := id hx0
  have hrl := Lib.hid hr.1
  have HSZ := Lib.hid (fun w' (hb : Below w.heap.size w w') => szPuzzle_any s Ag cg ng Ar cr nr w.heap.size rs 1048576 w' hgm (hr.below hb) hb.size hrm (by omega) (by omega))
  by_cases hn : n ≤ 1048576
  · have hm : n ≤ 1099511627776 := by omega
    go_enter Try.func7, Try.ntmps7
    go_wp2_with fail
    refine (HSZ.out _ hb0).mono ?_
    rintro e w1 ⟨r, rfl, hb1, hr1⟩
    have h01 := step hb0 hb1
    have hx1 := hx0.below hs0 hb1
    have hs1 := Nat.lt_of_lt_of_le hs0 hb1.size
    rcases hr1 with rfl | ⟨r0, hl1, hl2, hl3⟩
    · go_wp2
      go_ret
      exact ⟨rfl, h01⟩
    · have hrneg : ¬ r < 0 := by omega
      have hmg : ng ≤ 1099511627776 := by omega
      have hmr : nr ≤ 1099511627776 := by omega
      have hnr : nr ≤ 1048576 := by omega
      have HRS := Lib.hid (fun w' (hb : Below w.heap.size w w') => (hr.below hb).small (fun i hi => by have := hl3 i hi; omega))
      have HGI := Lib.hid (fun w' (hb : Below w.heap.size w w') => hgi.below hb)
      have HTP := Lib.hid (fun w' (hb : Below w.heap.size w w') => toPuzzle_any s Ag cg ng w.heap.size gi Ar cr nr w.heap.size rs w' (HGI.out _ hb) hb.size hmg (HRS.out _ hb) hb.size hnr)
      obtain ⟨c0, c1, c2⟩ := id hx1
      clear hl1 hl2 hl3
      go_wp2_with fail
      refine (HTP.out _ h01).mono ?_
      rintro e w2 ⟨A2, g2, rfl, ho2, hor2, hb2⟩
      have h02 := step h01 hb2
      have hx2 := hx1.below hs1 hb2
      have hs2 := Nat.lt_of_lt_of_le hs1 hb2.size
      have hp2 : PGs w2 s A2 ng ng w2.heap.size gi (some ⟨g2, 0, none⟩) nr nr w2.heap.size rs := ⟨ho2.rd, Nat.le_refl _, hmg, hor2.rd hrl.out, Nat.le_refl _, hmr⟩
      go_wp2_with fail
      refine (toIntS_any _ _ _ _ _ _ (hg.below h02) h02.size hm).mono ?_
      rintro e w2a ⟨rfl, ho2a, hb2a⟩
      have h02a := step h02 hb2a
      have hx2a := hx2.below hs2 hb2a
      have hs2a := Nat.lt_of_lt_of_le hs2 hb2a.size
      have hp2a := hp2.below hb2a
      go_wp2_with fail
      refine (specPuzzleSolved _ _ _ _ _ _ _ _ _ _ _ _ _ _ _ _ _ hp2a ho2a.rd (Nat.le_refl _) hm).mono ?_
      rintro e w3 ⟨rfl, hb3⟩
      have h03 := step h02a hb3
      have hx3 := hx2a.below hs2a hb3
      have hs3 := Nat.lt_of_lt_of_le hs2a hb3.size
      obtain ⟨d0, d1, d2⟩ := id hx3
      go_wp2_with fail
      refine (HTP.out _ h03).mono ?_
      rintro e w4 ⟨A4, g4, rfl, ho4, hor4, hb4⟩
      have h04 := step h03 hb4
      have hx4 := hx3.below hs3 hb4
      have hs4 := Nat.lt_of_lt_of_le hs3 hb4.size
      have hy4 := pbox_new w4 s A4 ng ng (some ⟨g4, 0, none⟩) nr nr 48
      have hb5 : Below w4.heap.size w4 (w4.alloc (.cells #[.int .i64 s, .slice A4 ng ng, .slice (some ⟨g4, 0, none⟩) nr nr] 48)) := (Below.refl _ _).alloc (Nat.le_refl _) _
      have ht4 : w4.heap.size < (w4.alloc (.cells #[.int .i64 s, .slice A4 ng ng, .slice (some ⟨g4, 0, none⟩) nr nr] 48)).heap.size := by simp
      have hpc4 : PGc w4 s A4 ng ng w4.heap.size gi (some ⟨g4, 0, none⟩) nr nr w4.heap.size rs := ⟨ho4.rd, Nat.le_refl _, hmg, hor4.rdc hrl.out, Nat.le_refl _, hmr⟩
      have h05 := step h04 hb5
      have hx5 := hx4.below hs4 hb5
      have hs5 := Nat.lt_of_lt_of_le hs4 hb5.size
      have hp5 := hpc4.below hb5
      obtain ⟨e0, e1, e2⟩ := id hy4
      go_wp2_with fail
      refine (toIntS_any _ _ _ _ _ _ (hg.below h05) h05.size hm).mono ?_
      rintro e w5 ⟨rfl, ho6, hb6⟩
      rw [World.size_alloc] at ho6
      have h06 := step h05 hb6
      have hx6 := hx5.below hs5 hb6
      have hs6 := Nat.lt_of_lt_of_le hs5 hb6.size
      have hy6 := hy4.below ht4 hb6
      have ht6 := Nat.lt_of_lt_of_le ht4 hb6.size
      have hp6 := hp5.below hb6
      clear e0 e1 e2
      obtain ⟨e0, e1, e2⟩ := id hy6
      go_wp2_with fail
      refine (implPuzzleSolved _ _ _ _ _ _ _ _ _ _ _ _ _ _ _ _ _ hp6 ho6.rd (Nat.le_refl _) hm).mono ?_
      rintro e w6 ⟨rfl, hb7⟩
      have h07 := step h06 hb7
      have hx7 := hx6.below hs6 hb7
      have hs7 := Nat.lt_of_lt_of_le hs6 hb7.size
      have hy7 := hy6.below ht6 hb7
      have ht7 := Nat.lt_of_lt_of_le ht6 hb7.size
      have hp7 := hp6.below hb7
      have hne : (psB s gi rs g != psB s gi rs g) = false := by simp
      obtain ⟨f0, f1, f2⟩ := id hx7
      obtain ⟨g0, g1, g2'⟩ := id hy7
      have ho7 := ho6.below hb7
      have hsame := same_refl g
      have hBA : Below w.heap.size w w6.drew := h07.drew
      have hp7r := hp7.rd
      go_wp2
      go_region_with (first | (go_at_call 36; (with_reducible refine (HTP.out _ ?hd).mono ?_); (case hd => exact hBA); rintro e w7 ⟨A7, g7, rfl, ho8, hor8, hb8d⟩; have hb8 := below_undrew hb8d; clear hb8d; have hy8 := hy7.below ht7 hb8; obtain ⟨q0, q1, q2⟩ := id hy8; have hp8 := hp7r.below hb8; have hgr8 := ho8.rd; have hrr8 := hor8.rd hrl.out; have h08 := step h07 hb8) | (go_at_call 38; (with_reducible refine (eqPuzzle_any s A4 A7 ng ng ng _ _ gi (some ⟨g4, 0, none⟩) (some ⟨g7, 0, none⟩) nr nr nr _ _ rs _ hp8.g hp8.gB hmg hgr8 ?hB hp8.r hrr8 hp8.rB ?hB2 hmr).mono ?_); (case hB => exact Nat.le_refl _); (case hB2 => exact Nat.le_refl _); rintro e w8 ⟨rfl, hb9⟩))
      all_goals
        have h09 := step h08 hb9
        have ho9 := (ho7.below hb8).below hb9
        go_wp2_with fail
        refine (toIntS_any _ _ _ _ _ _ (hg.below h09) h09.size hm).mono ?_
        rintro e w9 ⟨rfl, ho10, hb10⟩
        have h10 := step h09 hb10
        go_wp2_with fail
        refine (eqIntS_any _ _ _ _ _ _ _ _ _ _ _ (ho9.below hb10).rd ho10.rd hm).mono ?_
        rintro e w10 ⟨rfl, hb11⟩
        rw [hsame]
        go_wp2
        go_ret
        exact ⟨rfl, step h10 hb11⟩
  · go_enter Try.func7, Try.ntmps7
    go_wp2
    go_ret
    exact ⟨rfl, hb0⟩
end Go.Proofs.Ytoejpodchlepiaa
