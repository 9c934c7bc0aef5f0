import Derived.Test.YtoejpodchlepiaaLD
import Derived.Test.YtoejpodchlepiaaR4Q
import Derived.Test.YtoejpodchlepiaaXI4P
import Derived.Test.YtoejpodchlepiaaXRr
import Derived.Test.YtoejpodchlepiaaOwn
import Derived.Test.YtoejpodchlepiaaW4E
import Derived.Deep.RegionWith
import Derived.Deep.RegionHeld3
import Derived.RegionTactic
set_option maxRecDepth 8000
namespace Go.Proofs.Ytoejpodchlepiaa
open Go.ChangeShapes Go.WideShapes Go.ChangeAt Go.RowKit
theorem rh_no {k v s : Int} {xs g : List Int} (h : (rv k xs v s && gv g s) = false) : rhB k xs v g s = false := by unfold rhB; rw [h]; rfl
theorem drop_rev {xs : List Int} {n q : Nat} (hl : xs.length = n) (h : q < n) : (xs.drop (q + 1)).reverse ++ [nth xs q] = (xs.drop q).reverse := by
  rw [List.drop_eq_getElem_cons (by omega : q < xs.length), List.reverse_cons]
  congr 2
  simp [nth, List.getD_eq_getElem?_getD, hl, h]
set_option maxHeartbeats 2000000 in
theorem ruleHolds_walk (A : Option Addr) (c n : Nat) (bs : List Int) (w : World) (h : Code_ w A n c bs) :
    Calls Try.prog 3 #[.slice A n c] w fun e w' => e = .returned (.bool true) ∧ Below w.heap.size w w' := by
  by_cases hn : n ≤ 1048576
  · go_enter Try.func3, Try.ntmps3
    go_wp2_with fail
    refine (drawRuleHolds _ _ _ _ _ h).mono ?_
    rintro e w1 ⟨k, A1, n1, c1, v, xs, Ag, ng, cg, g, s, rfl, ho, hn5, hog, hng, h2, h4, hb1⟩
    have hx1 := rbox_new w1 k A1 n1 c1 v 25
    have hbA : Below w1.heap.size w1 (w1.alloc (.cells #[.int .i64 k, .slice A1 n1 c1, .int .i64 v] 25)) := (Below.refl _ _).alloc (Nat.le_refl _) _
    have hsA : w1.heap.size < (w1.alloc (.cells #[.int .i64 k, .slice A1 n1 c1, .int .i64 v] 25)).heap.size := by simp
    have h01 := step hb1 hbA
    have hr1 := ho.rd.below hbA
    have hg1 := hog.rd.below hbA
    have hcap := ho.le_cap
    have hB1 := hbA.size
    have hm1 : n1 ≤ 1099511627776 := by omega
    have hm2 : ng ≤ 1099511627776 := by omega
    have hs64 : -9223372036854775808 ≤ s ∧ s ≤ 9223372036854775807 := by omega
    have Hs64 := Lib.hid hs64
    clear hs64
    obtain ⟨a0, a1, a2⟩ := id hx1
    go_wp2_with fail
    refine (implRuleHolds _ _ _ _ _ _ _ _ _ _ _ _ _ _ hr1 hB1 hm1 hcap hg1 hB1 hm2 Hs64.out).mono ?_
    rintro e w2 ⟨rfl, hb2⟩
    have h02 := step h01 hb2
    have hx2 := hx1.below hsA hb2
    have hs2 := Nat.lt_of_lt_of_le hsA hb2.size
    have hr2 := hr1.below (hb2.mono hB1)
    have hg2 := hg1.below (hb2.mono hB1)
    have hB2 := Nat.le_trans hB1 hb2.size
    obtain ⟨b0, b1, b2⟩ := id hx2
    go_wp2_with fail
    refine (specRuleHolds _ _ _ _ _ _ _ _ _ _ _ _ _ _ hr2 hB2 hm1 hg2 hB2 hm2 Hs64.out).mono ?_
    rintro e w3 ⟨rfl, hb3⟩
    have h03 := step h02 hb3
    have hx3 := hx2.below hs2 hb3
    have hs3 := Nat.lt_of_lt_of_le hs2 hb3.size
    have hr3 := hr2.below (hb3.mono hB2)
    have hg3 := hg2.below (hb3.mono hB2)
    have hB3 := Nat.le_trans hB2 hb3.size
    obtain ⟨d0, d1, d2⟩ := id hx3
    have hne : (rhB k xs v g s != rhB k xs v g s) = false := by simp
    cases hv : rv k xs v s
    · have hp := rh_no (k := k) (v := v) (s := s) (xs := xs) (g := g) (by rw [hv]; rfl)
      rw [hp] at hne ⊢
      go_wp2_with (first | (go_at_call 22; (with_reducible refine (specRuleValid _ _ _ _ _ _ _ _ _ hr3 hB3 hm1).mono ?_); rintro e w4 ⟨rfl, hb4⟩; rw [hv]; have h04 := step h03 hb4) | (go_at_call 24; (with_reducible refine (alive_any _).mono ?_); rintro e w6 ⟨rfl, hb6⟩))
      go_ret
      exact ⟨rfl, step h04 hb6⟩
    · cases hgv : gv g s
      · have hp := rh_no (k := k) (v := v) (s := s) (xs := xs) (g := g) (by rw [hv, hgv]; rfl)
        rw [hp] at hne ⊢
        go_wp2_with (first | (go_at_call 22; (with_reducible refine (specRuleValid _ _ _ _ _ _ _ _ _ hr3 hB3 hm1).mono ?_); rintro e w4 ⟨rfl, hb4⟩; rw [hv]; have h04 := step h03 hb4; have hg4 := hg3.below (hb4.mono hB3)) | (go_at_call 23; (with_reducible refine (specGridValid _ _ _ _ _ _ _ hg4 hm2).mono ?_); rintro e w5 ⟨rfl, rfl⟩; rw [hgv]) | (go_at_call 24; (with_reducible refine (alive_any _).mono ?_); rintro e w6 ⟨rfl, hb6⟩))
        go_ret
        exact ⟨rfl, step h04 hb6⟩
      · obtain ⟨_, ⟨hn1, hn4⟩, _, _⟩ := rv_facts ho.len hv
        obtain ⟨hrev, hrev4⟩ := rh_rev hv hgv
        have hvr := rv_rev hv
        have himp : rhB k xs v g s = true → rpB k xs v g s = true := rh_rp
        have hfull : cnz g g.length = g.length → rhB k xs v g s = rpB k xs v g s := rh_full hv hgv
        have hgf : gf g s = (cnz g ng : Int) := by unfold gf; rw [if_pos hgv, hog.len]
        have hlen := ho.len
        rw [hog.len] at hfull
        have Hrev := Lib.hid hrev
        have Hrev4 := Lib.hid hrev4
        have Himp := Lib.hid himp
        have Hfull := Lib.hid hfull
        have Hgf := Lib.hid hgf
        have Hlen := Lib.hid hlen
        have e1 : wrap64 ((n1 : Int) - 1) = (n1 : Int) - 1 := IntWalk.wrap64_in _ ⟨by omega, by omega⟩
        clear hrev hrev4 himp hfull hgf hvr hlen
        go_wp2_with (first | (go_at_call 22; (with_reducible refine (specRuleValid _ _ _ _ _ _ _ _ _ hr3 hB3 hm1).mono ?_); rintro e w4 ⟨rfl, hb4⟩; rw [hv]; have h04 := step h03 hb4; have hg4 := hg3.below (hb4.mono hB3); have hx4 := hx3.below hs3 hb4; have hr4 := hr3.below (hb4.mono hB3); have hs4 := Nat.lt_of_lt_of_le hs3 hb4.size; have hB4 := Nat.le_trans hB3 hb4.size; have hbM := (Below.refl w4.heap.size w4).alloc (Nat.le_refl _) (.cells #[] 3); obtain ⟨m0, m1, m2⟩ := hx4.below hs4 hbM) | (go_at_call 23; (with_reducible refine (specGridValid _ _ _ _ _ _ _ hg4 hm2).mono ?_); rintro e w5 ⟨rfl, rfl⟩; rw [hgv]))
        go_loopw [7, 8] (fun tv kv wr => ∃ (q m : Nat) (i : Int) (A' : Option Addr) (c' : Nat), m + q = n1 ∧ i + 1 = q ∧ kv = .int .i64 i ∧ tv = .slice A' m c' ∧ Ow wr w4.heap.size A' m c' (xs.drop q).reverse ∧ Below w4.heap.size w4 wr) (fun _ kv _ => (intOf kv + 1).toNat)
        case atStart => exact ⟨n1, 0, (n1 : Int) - 1, _, _, by omega, by omega, rfl, rfl, by rw [List.drop_eq_nil_of_le (by rw [Hlen.out]; omega)]; exact Ow.made0 _ _ (Nat.le_refl _), hbM⟩
        case round =>
          obtain ⟨q, m, i, A', c', hmq, hiq, rfl, rfl, hot, hbt⟩ := hrel
          have hxr := hx4.below hs4 hbt
          have hsr := Nat.lt_of_lt_of_le hs4 hbt.size
          have hrr := hr4.below (hbt.mono hB4)
          obtain ⟨p0, p1, p2⟩ := id hxr
          by_cases hq0 : q = 0
          · subst hq0
            obtain rfl : i = -1 := by omega
            obtain rfl : m = n1 := by omega
            rw [List.drop_zero] at hot
            have HRH := Lib.hid (implRuleHolds A' c' m _ xs.reverse k v s Ag cg ng _ g wr hot.rd (Nat.le_refl _) hm1 hot.le_cap (hg4.below (hbt.mono hB4)) (Nat.le_trans hB4 hbt.size) hm2 Hs64.out)
            have HRP := Lib.hid (fun w' (hb : Below wr.heap.size wr w') => implRulePossible A1 c1 m _ xs k v s Ag cg ng _ g w' (hrr.below (hb.mono (Nat.le_trans hB4 hbt.size))) (Nat.le_trans (Nat.le_trans hB4 hbt.size) hb.size) hm1 hcap (hg4.below ((hbt.trans (hb.mono hbt.size)).mono hB4)) (Nat.le_trans (Nat.le_trans hB4 hbt.size) hb.size) hm2 Hs64.out)
            have HGF := Lib.hid (fun w' (hb : Below wr.heap.size wr w') => implGridFilled Ag cg ng _ g s w' (hg4.below ((hbt.trans (hb.mono hbt.size)).mono hB4)) (Nat.le_trans (Nat.le_trans hB4 hbt.size) hb.size) hm2)
            rw [Hgf.out] at HGF
            have h0r := step h04 hbt
            obtain ⟨z, hz⟩ : ∃ z, cnz g ng = z := ⟨_, rfl⟩
            have Hfull2 := Lib.hid (show z = ng → rhB k xs v g s = rpB k xs v g s from fun e => Hfull.out (by rw [hz]; exact e))
            have Hzle := Lib.hid (show z ≤ ng by rw [← hz]; exact cnz_le _ _)
            rw [hz] at HGF
            clear hz hg4 hot hrr hx4 hr4 hbt
            by_cases hk : k = 4
            · subst hk
              have H4 := Lib.hid (Hrev4.out rfl)
              clear Hrev Hrev4
              cases h1 : rhB 4 xs v g s <;> cases h2 : rhB 4 xs.reverse v g s <;> cases h3 : rpB 4 xs v g s
              all_goals
                by_cases hzf : z = ng
                · have hl : ¬ ((z : Int) < (ng : Int)) := by omega
                  have c1' := Hfull2.out hzf
                  have c2' := Himp.out
                  have c3' := H4.out
                  simp only [h1, h2, h3] at c1' c2' c3' HRH HRP
                  first
                  | (exfalso; simp at c1' c2' c3'; done)
                  | (clear c1' c2' c3' Hfull2 Himp H4
                     go_wp2_with (first | (go_at_call 20; refine HRH.out.mono ?_; rintro e wa ⟨rfl, hba⟩; have hxa := hxr.below hsr hba; obtain ⟨p0', p1', p2'⟩ := id hxa; have hsa := Nat.lt_of_lt_of_le hsr hba.size) | (go_at_call 25; refine (HRP.out _ hba).mono ?_; rintro e wb ⟨rfl, hbb'⟩; have hbb := step hba hbb'; obtain ⟨q0', q1', q2'⟩ := hxa.below hsa hbb'; have hsb := Nat.lt_of_lt_of_le hsa hbb'.size; have hxb := hxa.below hsa hbb') | (go_at_call 26; refine (HGF.out _ hbb).mono ?_; rintro e wc ⟨rfl, hbc'⟩; have hbc := step hbb hbc'; obtain ⟨r0', r1', r2'⟩ := hxb.below hsb hbc'))
                     go_ret
                     exact ⟨rfl, step h0r hbc⟩)
                · have hl : (z : Int) < (ng : Int) := by have := Hzle.out; omega
                  have c2' := Himp.out
                  have c3' := H4.out
                  simp only [h1, h2, h3] at c2' c3' HRH HRP
                  first
                  | (exfalso; simp at c2' c3'; done)
                  | (clear c2' c3' Hfull2 Himp H4
                     go_wp2_with (first | (go_at_call 20; refine HRH.out.mono ?_; rintro e wa ⟨rfl, hba⟩; have hxa := hxr.below hsr hba; obtain ⟨p0', p1', p2'⟩ := id hxa; have hsa := Nat.lt_of_lt_of_le hsr hba.size) | (go_at_call 25; refine (HRP.out _ hba).mono ?_; rintro e wb ⟨rfl, hbb'⟩; have hbb := step hba hbb'; obtain ⟨q0', q1', q2'⟩ := hxa.below hsa hbb'; have hsb := Nat.lt_of_lt_of_le hsa hbb'.size; have hxb := hxa.below hsa hbb') | (go_at_call 26; refine (HGF.out _ hbb).mono ?_; rintro e wc ⟨rfl, hbc'⟩; have hbc := step hbb hbc'; obtain ⟨r0', r1', r2'⟩ := hxb.below hsb hbc'))
                     go_ret
                     exact ⟨rfl, step h0r hbc⟩)
            · have hk1 : (k == 4) = false := by simp [hk]
              have hk2 : (k != 4) = true := by simp [hk]
              have H4 := Lib.hid (Hrev.out hk)
              clear Hrev Hrev4 hk
              cases h1 : rhB k xs v g s <;> cases h2 : rhB k xs.reverse v g s <;> cases h3 : rpB k xs v g s
              all_goals
                by_cases hzf : z = ng
                · have hl : ¬ ((z : Int) < (ng : Int)) := by omega
                  have c1' := Hfull2.out hzf
                  have c2' := Himp.out
                  have c3' := H4.out
                  simp only [h1, h2, h3] at c1' c2' c3' HRH HRP
                  first
                  | (exfalso; simp at c1' c2' c3'; done)
                  | (clear c1' c2' c3' Hfull2 Himp H4
                     go_wp2_with (first | (go_at_call 20; refine HRH.out.mono ?_; rintro e wa ⟨rfl, hba⟩; have hxa := hxr.below hsr hba; obtain ⟨p0', p1', p2'⟩ := id hxa; have hsa := Nat.lt_of_lt_of_le hsr hba.size) | (go_at_call 25; refine (HRP.out _ hba).mono ?_; rintro e wb ⟨rfl, hbb'⟩; have hbb := step hba hbb'; obtain ⟨q0', q1', q2'⟩ := hxa.below hsa hbb'; have hsb := Nat.lt_of_lt_of_le hsa hbb'.size; have hxb := hxa.below hsa hbb') | (go_at_call 26; refine (HGF.out _ hbb).mono ?_; rintro e wc ⟨rfl, hbc'⟩; have hbc := step hbb hbc'; obtain ⟨r0', r1', r2'⟩ := hxb.below hsb hbc'))
                     go_ret
                     exact ⟨rfl, step h0r hbc⟩)
                · have hl : (z : Int) < (ng : Int) := by have := Hzle.out; omega
                  have c2' := Himp.out
                  have c3' := H4.out
                  simp only [h1, h2, h3] at c2' c3' HRH HRP
                  first
                  | (exfalso; simp at c2' c3'; done)
                  | (clear c2' c3' Hfull2 Himp H4
                     go_wp2_with (first | (go_at_call 20; refine HRH.out.mono ?_; rintro e wa ⟨rfl, hba⟩; have hxa := hxr.below hsr hba; obtain ⟨p0', p1', p2'⟩ := id hxa; have hsa := Nat.lt_of_lt_of_le hsr hba.size) | (go_at_call 25; refine (HRP.out _ hba).mono ?_; rintro e wb ⟨rfl, hbb'⟩; have hbb := step hba hbb'; obtain ⟨q0', q1', q2'⟩ := hxa.below hsa hbb'; have hsb := Nat.lt_of_lt_of_le hsa hbb'.size; have hxb := hxa.below hsa hbb') | (go_at_call 26; refine (HGF.out _ hbb).mono ?_; rintro e wc ⟨rfl, hbc'⟩; have hbc := step hbb hbc'; obtain ⟨r0', r1', r2'⟩ := hxb.below hsb hbc'))
                     go_ret
                     exact ⟨rfl, step h0r hbc⟩)
          · obtain ⟨j, rfl⟩ : ∃ j, q = j + 1 := ⟨q - 1, by omega⟩
            obtain rfl : i = (j : Int) := by omega
            have hj : j < n1 := by omega
            have hjI : (j : Int) < (n1 : Int) := by omega
            have hj0 : (0 : Int) ≤ (j : Int) := by omega
            have ej : wrap64 ((j : Int) - 1) = (j : Int) - 1 := IntWalk.wrap64_in _ ⟨by omega, by omega⟩
            obtain ⟨gx, ox, hgx, _, hxc⟩ := hrr.at_ hj
            subst hgx
            have Hd := Lib.hid (drop_rev Hlen.out hj)
            have hm3 : m ≤ 1099511627776 := by omega
            have hlo := hbt.size
            go_wp2_with (at_builtin; refine push_int rfl (.tmp 54) (.tmp 60) rfl w4.heap.size _ m c' _ (nth xs j) rfl rfl hot hm3 hlo ?_; intro A6 c6 w6 ho6 hg6)
            exact ⟨⟨j, m + 1, (j : Int) - 1, A6, c6, by omega, by omega, rfl, rfl, by rw [← Hd.out]; exact ho6, push_below hbt hot (Nat.le_refl _) hlo hg6⟩, by simp [intOf]⟩
  · go_enter Try.func3, Try.ntmps3
    go_wp2
    go_ret
    exact ⟨rfl, Below.refl _ _⟩
end Go.Proofs.Ytoejpodchlepiaa
