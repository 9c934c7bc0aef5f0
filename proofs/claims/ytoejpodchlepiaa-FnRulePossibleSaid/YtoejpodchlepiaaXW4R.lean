import Derived.Test.YtoejpodchlepiaaLD
import Derived.Test.YtoejpodchlepiaaR4Q
import Derived.Test.YtoejpodchlepiaaXI4P
import Derived.Test.YtoejpodchlepiaaXRp
import Derived.Test.YtoejpodchlepiaaOwn
import Derived.Test.YtoejpodchlepiaaW4E
import Derived.Deep.RegionWith
import Derived.Deep.RegionHeld3
import Derived.RegionTactic
set_option maxRecDepth 8000
namespace Go.Proofs.Ytoejpodchlepiaa
open Go.ChangeShapes Go.WideShapes Go.ChangeAt Go.RowKit
theorem rp_no {k v s : Int} {xs g : List Int} (h : (rv k xs v s && gv g s) = false) : rpB k xs v g s = false := by unfold rpB; rw [h]; rfl
set_option maxHeartbeats 1500000 in
theorem rulePossible_walk (A : Option Addr) (c n : Nat) (bs : List Int) (w : World) (h : Code_ w A n c bs) :
    Calls Try.prog 4 #[.slice A n c] w fun e w' => e = .returned (.bool true) ∧ Below w.heap.size w w' := by
  by_cases hn : n ≤ 1048576
  · go_enter Try.func4, Try.ntmps4
    go_wp2_with fail
    refine (drawRulePossible _ _ _ _ _ h).mono ?_
    rintro e w1 ⟨k, A1, n1, c1, v, xs, Ag, ng, cg, g, s, rfl, ho, hn5, hog, hng, h2, h4, hb1⟩
    have hx1 := rbox_new w1 k A1 n1 c1 v 25
    have hbA : Below w1.heap.size w1 (w1.alloc (.cells #[.int .i64 k, .slice A1 n1 c1, .int .i64 v] 25)) := (Below.refl _ _).alloc (Nat.le_refl _) _
    have hsA : w1.heap.size < (w1.alloc (.cells #[.int .i64 k, .slice A1 n1 c1, .int .i64 v] 25)).heap.size := by simp
    have h01 := step hb1 hbA
    have hr1 := ho.rd.below hbA
    have hg1 := hog.rd.below hbA
    have hcap := ho.le_cap
    have hB1 := hbA.size
    have hm1 : n1 ≤ 1099511627776 := by omega
    have hm2 : ng ≤ 1099511627776 := by omega
    have hs64 : -9223372036854775808 ≤ s ∧ s ≤ 9223372036854775807 := by omega
    have Hs64 := Lib.hid hs64
    clear hs64
    obtain ⟨a0, a1, a2⟩ := id hx1
    go_wp2_with fail
    refine (implRulePossible _ _ _ _ _ _ _ _ _ _ _ _ _ _ hr1 hB1 hm1 hcap hg1 hB1 hm2 Hs64.out).mono ?_
    rintro e w2 ⟨rfl, hb2⟩
    have h02 := step h01 hb2
    have hx2 := hx1.below hsA hb2
    have hs2 := Nat.lt_of_lt_of_le hsA hb2.size
    have hr2 := hr1.below (hb2.mono hB1)
    have hg2 := hg1.below (hb2.mono hB1)
    have hB2 := Nat.le_trans hB1 hb2.size
    obtain ⟨b0, b1, b2⟩ := id hx2
    go_wp2_with fail
    refine (specRulePossible _ _ _ _ _ _ _ _ _ _ _ _ _ _ hr2 hB2 hm1 hg2 hB2 hm2 Hs64.out).mono ?_
    rintro e w3 ⟨rfl, hb3⟩
    have h03 := step h02 hb3
    have hx3 := hx2.below hs2 hb3
    have hs3 := Nat.lt_of_lt_of_le hs2 hb3.size
    have hr3 := hr2.below (hb3.mono hB2)
    have hg3 := hg2.below (hb3.mono hB2)
    have hB3 := Nat.le_trans hB2 hb3.size
    obtain ⟨d0, d1, d2⟩ := id hx3
    have hne : (rpB k xs v g s != rpB k xs v g s) = false := by simp
    cases hv : rv k xs v s
    · have hp := rp_no (k := k) (v := v) (s := s) (xs := xs) (g := g) (by rw [hv]; rfl)
      rw [hp] at hne ⊢
      go_wp2_with (first | (go_at_call 22; (with_reducible refine (specRuleValid _ _ _ _ _ _ _ _ _ hr3 hB3 hm1).mono ?_); rintro e w4 ⟨rfl, hb4⟩; rw [hv]; have h04 := step h03 hb4) | (go_at_call 24; (with_reducible refine (alive_any _).mono ?_); rintro e w6 ⟨rfl, hb6⟩))
      go_ret
      exact ⟨rfl, step h04 hb6⟩
    · cases hgv : gv g s
      · have hp := rp_no (k := k) (v := v) (s := s) (xs := xs) (g := g) (by rw [hv, hgv]; rfl)
        rw [hp] at hne ⊢
        go_wp2_with (first | (go_at_call 22; (with_reducible refine (specRuleValid _ _ _ _ _ _ _ _ _ hr3 hB3 hm1).mono ?_); rintro e w4 ⟨rfl, hb4⟩; rw [hv]; have h04 := step h03 hb4; have hg4 := hg3.below (hb4.mono hB3)) | (go_at_call 23; (with_reducible refine (specGridValid _ _ _ _ _ _ _ hg4 hm2).mono ?_); rintro e w5 ⟨rfl, rfl⟩; rw [hgv]) | (go_at_call 24; (with_reducible refine (alive_any _).mono ?_); rintro e w6 ⟨rfl, hb6⟩))
        go_ret
        exact ⟨rfl, step h04 hb6⟩
      · obtain ⟨_, ⟨hn1, _⟩, _, hcs⟩ := rv_facts ho.len hv
        obtain ⟨g1, hA1, _, _⟩ := ho.form (by omega)
        subst hA1
        obtain ⟨x0, x1⟩ := hcs 0 (by omega)
        have hgl := gv_len hgv
        rw [hog.len] at hgl
        obtain ⟨z, hz⟩ := Int.eq_ofNat_of_zero_le x0
        have hzn : z < ng := by omega
        have Hz := Lib.hid hz
        have Hzn := Lib.hid hzn
        have hznI : (z : Int) < (ng : Int) := by omega
        obtain ⟨gg, hAg, _, hglt⟩ := hog.form (by omega)
        subst hAg
        clear hcs x0 x1 hgl
        go_wp2_with (first | (go_at_call 22; (with_reducible refine (specRuleValid _ _ _ _ _ _ _ _ _ hr3 hB3 hm1).mono ?_); rintro e w4 ⟨rfl, hb4⟩; rw [hv]; have h04 := step h03 hb4; have hg4 := hg3.below (hb4.mono hB3); have hx4 := hx3.below hs3 hb4; have hr4 := hr3.below (hb4.mono hB3); have hs4 := Nat.lt_of_lt_of_le hs3 hb4.size; have hB4 := Nat.le_trans hB3 hb4.size; have hbM := (Below.refl w4.heap.size w4).alloc (Nat.le_refl _) (.cells #[] 3); have HG4 := Lib.hid (hg4.below (hbM.mono hB4))) | (go_at_call 23; (with_reducible refine (specGridValid _ _ _ _ _ _ _ hg4 hm2).mono ?_); rintro e w5 ⟨rfl, rfl⟩; rw [hgv]) | (at_builtin; refine push_new rfl (.tmp 42) (.tmp 43) rfl w4.heap.size (some ⟨w4.heap.size, 0, none⟩) (some ⟨gg, 0, none⟩) ng cg _ g rfl rfl (Ow.made0 _ _ (Nat.le_refl _)) HG4.out hm2 hbM.size ?_; intro A5 c5 w5 ho5 hg5; have hb5 := hbM.grown hg5 hbM.size (fun j hj => Nat.le_of_eq (Option.some.inj hj)); obtain ⟨g5, hA5, _, _⟩ := ho5.form (by omega); subst hA5; obtain ⟨hold, hfr⟩ := ho5.cell Hzn.out; have hx5 := hx4.below hs4 hb5; obtain ⟨q0, q1, q2⟩ := id hx5; have hr5 := hr4.below (hb5.mono hB4); obtain ⟨gx, ox, hgx, _, hxc⟩ := hr5.at_ (show 0 < n1 by omega); cases hgx; rw [Hz.out, Nat.zero_add] at hxc))
        obtain ⟨W6, hW6⟩ : ∃ W6, w5.setCell ⟨g5, z, none⟩ (.int .i64 0) = W6 := ⟨_, rfl⟩
        have hb6 : Below w4.heap.size w4 W6 := by rw [← hW6]; exact hb5.setCell (p := ⟨g5, z, none⟩) (ho5.own_lo g5 (by simp [Value.ownBlock])) _
        have ho6 : Ow W6 w4.heap.size (some ⟨g5, 0, none⟩) ng c5 (g.set z 0) := by rw [← hW6]; exact Ow.put ho5 z 0
        have h06 := step h04 hb6
        have hx6 := hx4.below hs4 hb6
        have hs6 := Nat.lt_of_lt_of_le hs4 hb6.size
        have hr6 := hr4.below (hb6.mono hB4)
        have hB6 := Nat.le_trans hB4 hb6.size
        obtain ⟨f0, f1, f2⟩ := id hx6
        rw [hW6]
        clear hold hfr hxc ho5 hg5 q0 q1 q2 hx5 hr5 hW6 hb5
        cases hp : rpB k xs v g s
        · refine wp_region_any (by kernel_rfl) ?_
          change wpAny _ _ _ _ _ _ _ (World.drew _)
          refine wpAny_take (i := 0) (v := .bool false) rfl (by kernel_rfl) (by kernel_rfl) (by kernel_rfl) (fun _ _ _ h => h) (Or.inl ⟨by kernel_rfl, fun w => by go_simp⟩) ?_
          refine wpAny_take (i := 1) (v := .bool true) rfl (by kernel_rfl) (by kernel_rfl) (by kernel_rfl) (fun _ _ _ h => h) (Or.inl ⟨by kernel_rfl, fun w => by go_simp⟩) ?_
          refine wpAny_take (i := 2) (v := .bool true) rfl (by kernel_rfl) (by kernel_rfl) (by kernel_rfl) (fun _ _ _ h => h) (Or.inl ⟨by kernel_rfl, fun w => by go_simp⟩) ?_
          refine wpAny_take (i := 3) (v := undef) rfl (by kernel_rfl) (by kernel_rfl) (by kernel_rfl) (fun _ _ _ h => h) (Or.inr ⟨by kernel_rfl, rfl⟩) ?_
          refine wpAny_take (i := 4) (v := undef) rfl (by kernel_rfl) (by kernel_rfl) (by kernel_rfl) (fun _ _ _ h => h) (Or.inr ⟨by kernel_rfl, rfl⟩) ?_
          refine wpAny_take (i := 5) (v := undef) rfl (by kernel_rfl) (by kernel_rfl) (by kernel_rfl) (fun _ _ _ h => h) (Or.inr ⟨by kernel_rfl, rfl⟩) ?_
          refine wpAny_take (i := 6) (v := undef) rfl (by kernel_rfl) (by kernel_rfl) (by kernel_rfl) (fun _ _ _ h => h) (Or.inr ⟨by kernel_rfl, rfl⟩) ?_
          refine wpAny_take (i := 7) (v := undef) rfl (by kernel_rfl) (by kernel_rfl) (by kernel_rfl) (fun _ _ _ h => h) (Or.inr ⟨by kernel_rfl, rfl⟩) ?_
          refine wpAny_take (i := 8) (v := undef) rfl (by kernel_rfl) (by kernel_rfl) (by kernel_rfl) (fun _ _ _ h => h) (Or.inr ⟨by kernel_rfl, rfl⟩) ?_
          refine wpAny_take (i := 9) (v := undef) rfl (by kernel_rfl) (by kernel_rfl) (by kernel_rfl) (fun _ _ _ h => h) (Or.inr ⟨by kernel_rfl, rfl⟩) ?_
          refine wpAny_take (i := 10) (v := undef) rfl (by kernel_rfl) (by kernel_rfl) (by kernel_rfl) (fun _ _ _ h => h) (Or.inr ⟨by kernel_rfl, rfl⟩) ?_
          refine wpAny_take (i := 11) (v := undef) rfl (by kernel_rfl) (by kernel_rfl) (by kernel_rfl) (fun _ _ _ h => h) (Or.inr ⟨by kernel_rfl, rfl⟩) ?_
          refine wpAny_take (i := 12) (v := undef) rfl (by kernel_rfl) (by kernel_rfl) (by kernel_rfl) (fun _ _ _ h => h) (Or.inr ⟨by kernel_rfl, rfl⟩) ?_
          refine wpAny_take (i := 13) (v := undef) rfl (by kernel_rfl) (by kernel_rfl) (by kernel_rfl) (fun _ _ _ h => h) (Or.inr ⟨by kernel_rfl, rfl⟩) ?_
          refine wpAny_take (i := 14) (v := undef) rfl (by kernel_rfl) (by kernel_rfl) (by kernel_rfl) (fun _ _ _ h => h) (Or.inr ⟨by kernel_rfl, rfl⟩) ?_
          refine wpAny_take (i := 15) (v := .bool true) rfl (by kernel_rfl) (by kernel_rfl) (by kernel_rfl) (fun _ _ _ h => h) (Or.inl ⟨by kernel_rfl, fun w => by go_simp⟩) ?_
          refine wpAny_take (i := 16) (v := .bool true) rfl (by kernel_rfl) (by kernel_rfl) (by kernel_rfl) (fun _ _ _ h => h) (Or.inl ⟨by kernel_rfl, fun w => by go_simp⟩) ?_
          refine wpAny_done (by kernel_rfl) ?_ _
          go_wp2
          go_ret
          exact ⟨by kernel_rfl, h06.drew⟩
        · obtain ⟨hl1, hl2⟩ := rp_less hv hgv hp z
          rw [hog.len] at hl2
          have HL1 := Lib.hid hl1
          have HL2 := Lib.hid hl2
          have HS : Hid (∀ w', Below W6.heap.size W6 w' → w'.cell? ⟨w1.heap.size, 0, none⟩ = some (.int .i64 k) ∧ w'.cell? ⟨w1.heap.size, 1, none⟩ = some (.slice (some ⟨g1, 0, none⟩) n1 c1) ∧ w'.cell? ⟨w1.heap.size, 2, none⟩ = some (.int .i64 v)) := Lib.hid (fun w' hb => hx6.below hs6 hb)
          have HC1 := Lib.hid (fun w' (hb : Below W6.heap.size W6 w') => implRulePossible (some ⟨g1, 0, none⟩) c1 n1 _ xs k v s (some ⟨g5, 0, none⟩) c5 ng _ (g.set z 0) w' (hr6.below (hb.mono hB6)) (Nat.le_trans hB6 hb.size) hm1 hcap (ho6.rd.below hb) hb.size hm2 Hs64.out)
          have HC2 := Lib.hid (fun w' (hb : Below W6.heap.size W6 w') => implRulePossible (some ⟨g1, 0, none⟩) c1 n1 _ xs k v s (some ⟨w'.heap.size, 0, none⟩) ng ng _ (zeros ng) (w'.alloc (.cells (zeroArr ng) 3)) ((hr6.below (hb.mono hB6)).below ((Below.refl _ _).alloc (Nat.le_trans hB6 hb.size) _)) (Nat.le_trans (Nat.le_trans hB6 hb.size) (by simp)) hm1 hcap (zeroArr_ow (by omega) w' (Nat.le_refl _)).rd (Nat.le_refl _) hm2 Hs64.out)
          have hmk : ∀ w', (Instr.makeSlice 23 (.int .i64 (ng : Int)) (.int .i64 (ng : Int))).run Try.prog w' = .ok (.slice (some ⟨w'.heap.size, 0, none⟩) ng ng) (w'.alloc (.cells (zeroArr ng) 3)) := fun w' => make_ints (by omega) w'
          clear hl1 hl2 hp
          have hd6 : Below W6.heap.size W6 W6.drew := (Below.refl _ _).drew
          go_region_with (first | (go_at_call 25; (with_reducible refine (HC1.out _ ?hd).mono ?_); (case hd => exact hd6); (rw [HL1.out]); rintro e w7 ⟨rfl, hb7'⟩; have hb7 := step hd6 hb7'; obtain ⟨p0, p1, p2⟩ := HS.out _ hb7; have hs7 := Nat.lt_of_lt_of_le hs6 hb7.size) | (go_at_call 25; (with_reducible refine (HC2.out _ ?hd).mono ?_); (case hd => exact hb7); (rw [HL2.out]); rintro e w8 ⟨rfl, hb8'⟩; have hb8 := (hb7.alloc hb7.size _).trans (hb8'.mono (by rw [World.size_alloc]; exact Nat.le_succ_of_le hb7.size))))
          all_goals
            go_wp2
            go_ret
            exact ⟨rfl, step h06 hb8⟩
  · go_enter Try.func4, Try.ntmps4
    go_wp2
    go_ret
    exact ⟨rfl, Below.refl _ _⟩
end Go.Proofs.Ytoejpodchlepiaa
