import Derived.Test.YtbfjkepelfmeeaaLE
set_option maxRecDepth 8000
namespace Go.Proofs.Ytbfjkepelfmeeaa
open Go.ChangeShapes Go.WideShapes Go.ChangeAt Go.RowKit

theorem rv_dup {k v s : Int} {xs : List Int} {n : Nat} (hl : xs.length = n) (hn : 1 ≤ n) : rv k (xs ++ [nth xs 0]) v s = false := by
  refine rv_cell (n := n + 1) (i := n) (by rw [List.length_append, hl]; rfl) (by omega) ?_
  unfold cellOk
  rw [fresh_mem]
  have h0 : memTo (xs ++ [nth xs 0]) (nth (xs ++ [nth xs 0]) n) n = true := memTo_hit (k := 0) (by omega) (by rw [nth_push hl, nth_push hl, if_pos (by omega), if_neg (by omega), if_pos rfl])
  rw [h0, Bool.not_true, Bool.and_false]
theorem rv_six {v s : Int} {xs : List Int} : rv 6 xs v s = false := by
  have : kindOk 6 v xs.length s = false := by unfold kindOk; simp
  unfold rv
  rw [this, Bool.and_false]
set_option maxHeartbeats 8000000 in
theorem ruleValid_walk (A : Option Addr) (c n : Nat) (bs : List Int) (w : World) (h : Code_ w A n c bs) :
    Calls Try.prog 4 #[.slice A n c] w fun e w' => e = .returned (.bool true) ∧ Below w.heap.size w w' := by
  by_cases hn : n ≤ 1048576
  · go_enter Try.func4, Try.ntmps4
    go_wp2_with fail
    refine (drawRuleValid _ _ _ _ _ h).mono ?_
    rintro e w1 ⟨k, A1, n1, c1, v, xs, s, rfl, ho, hn5, hs1, hs5, hb1⟩
    have hx1 := rbox_new w1 k A1 n1 c1 v 30
    have hbA : Below w1.heap.size w1 (w1.alloc (.cells #[.int .i64 k, .slice A1 n1 c1, .int .i64 v] 30)) := (Below.refl _ _).alloc (Nat.le_refl _) _
    have hsA : w1.heap.size < (w1.alloc (.cells #[.int .i64 k, .slice A1 n1 c1, .int .i64 v] 30)).heap.size := by simp
    have h01 := step hb1 hbA
    have hr1 := ho.rd.below hbA
    have hcap := ho.le_cap
    have hB1 := hbA.size
    have hm1 : n1 ≤ 1099511627776 := by omega
    obtain ⟨a0, a1, a2⟩ := id hx1
    go_wp2_with fail
    refine (implRuleValid _ _ _ _ _ _ _ _ _ hr1 hB1 hm1 hcap).mono ?_
    rintro e w2 ⟨rfl, hb2⟩
    have h02 := step h01 hb2
    have hx2 := hx1.below hsA hb2
    have hs2 := Nat.lt_of_lt_of_le hsA hb2.size
    have hr2 := hr1.below (hb2.mono hB1)
    have hB2 := Nat.le_trans hB1 hb2.size
    obtain ⟨b0, b1, b2⟩ := id hx2
    go_wp2_with fail
    refine (specRuleValid _ _ _ _ _ _ _ _ _ hr2 hB2 hm1).mono ?_
    rintro e w3 ⟨rfl, hb3⟩
    have h03 := step h02 hb3
    have hx3 := hx2.below hs2 hb3
    have hs3 := Nat.lt_of_lt_of_le hs2 hb3.size
    have hr3 := hr2.below (hb3.mono hB2)
    have hB3 := Nat.le_trans hB2 hb3.size
    obtain ⟨d0, d1, d2⟩ := id hx3
    have hne : (rv k xs v s != rv k xs v s) = false := by simp
    cases hv : rv k xs v s
    · rw [hv] at hne
      go_wp2_with (go_at_call 20; (with_reducible refine (alive_any _).mono ?_); rintro e w6 ⟨rfl, hb6⟩)
      go_ret
      exact ⟨rfl, step h03 hb6⟩
    · rw [hv] at hne
      obtain ⟨_, ⟨hn1, _⟩, _, _⟩ := rv_facts ho.len hv
      obtain ⟨g1, hA1, _, _⟩ := ho.form (by omega)
      subst hA1
      have hn0 : ((n1 : Int) == 0) = false := by simp only [beq_eq_false_iff_ne]; omega
      have Hdup := Lib.hid (rv_dup (k := k) (v := v) (s := s) ho.len hn1)
      have Hsix := Lib.hid (rv_six (v := v) (s := s) (xs := xs))
      obtain ⟨gg, oo, hgg, hgB, hce⟩ := hr3.at_ (show 0 < n1 by omega)
      cases hgg
      rw [Nat.add_zero] at hce
      have hgB3 := Nat.lt_of_lt_of_le hgB hB3
      have HS : Hid (∀ w', Below w3.heap.size w3 w' → w'.cell? ⟨w1.heap.size, 0, none⟩ = some (.int .i64 k) ∧ w'.cell? ⟨w1.heap.size, 1, none⟩ = some (.slice (some ⟨g1, 0, none⟩) n1 c1) ∧ w'.cell? ⟨w1.heap.size, 2, none⟩ = some (.int .i64 v) ∧ w'.cell? ⟨g1, 0, none⟩ = some (.int .i64 (nth xs 0))) :=
        Lib.hid (fun w' hb => ⟨(hb.cell (p := ⟨w1.heap.size, 0, none⟩) hs3).trans d0, (hb.cell (p := ⟨w1.heap.size, 1, none⟩) hs3).trans d1, (hb.cell (p := ⟨w1.heap.size, 2, none⟩) hs3).trans d2, (hb.cell (p := ⟨g1, 0, none⟩) hgB3).trans hce⟩)
      have HRD : Hid (∀ w', Below w3.heap.size w3 w' → Rd w' w1.heap.size (some ⟨g1, 0, none⟩) n1 xs) := Lib.hid (fun w' hb => hr3.below (hb.mono hB3))
      have hl1 : 0 < n1 := by omega
      have hl1I : (0 : Int) < (n1 : Int) := by omega
      have hm2 : n1 + 1 ≤ 1099511627776 := by omega
      have hB3' : w1.heap.size ≤ w3.drew.heap.size := hB3
      clear d0 d1 d2 b0 b1 b2 a0 a1 a2 hce
      have e0 := HS.out w3 (Below.refl _ _)
      obtain ⟨d0, d1, d2, d3⟩ := e0
      go_wp2_with fail
      go_region_held3 (fun w' => w'.cell? ⟨w1.heap.size, 0, none⟩ = some (.int .i64 k) ∧ w'.cell? ⟨w1.heap.size, 1, none⟩ = some (.slice (some ⟨g1, 0, none⟩) n1 c1) ∧ w'.cell? ⟨w1.heap.size, 2, none⟩ = some (.int .i64 v) ∧ w'.cell? ⟨g1, 0, none⟩ = some (.int .i64 (nth xs 0)))
        (first | go_keep | exact HS.out _ hbC | exact HS.out _ hbD | exact HS.out _ hbQ | exact HS.out _ hbR | exact HS.out _ (hbC.alloc hbC.size _) | exact HS.out _ (below_d1 _ _) | exact HS.out _ (below_d2 _ _ _))
        ((first | (refine step_push_new (by rfl) _ _ (by rfl) w3.heap.size (some ⟨w3.heap.size, 0, none⟩) _ n1 c1 w1.heap.size xs (by rfl) (by rfl) (Ow.made0 _ _ (Nat.le_refl _)) (HRD.out _ (below_d1 _ _)) hm1 (below_d1 _ _).size ?_; intro A3 c3 w13 ho13 hg13 hl13; have hbC : Below w3.heap.size w3 w13 := below_push (below_d1 _ _) (Ow.made0 _ _ (Nat.le_refl _)) (Nat.le_refl _) (below_d1 _ _).size hg13) | (refine step_push_new (by rfl) _ _ (by rfl) w3.heap.size (some ⟨w3.heap.size, 0, none⟩) _ n1 c1 w1.heap.size xs (by rfl) (by rfl) (World.ownsRow.alloc (Ow.made0 _ _ (Nat.le_refl _)) _) (HRD.out _ (below_d2 _ _ _)) hm1 (below_d2 _ _ _).size ?_; intro A3 c3 w13 ho13 hg13 hl13; have hbC : Below w3.heap.size w3 w13 := below_push (below_d2 _ _ _) (World.ownsRow.alloc (Ow.made0 _ _ (Nat.le_refl _)) _) (Nat.le_refl _) (below_d2 _ _ _).size hg13) | (refine step_push_new (by rfl) _ _ (by rfl) w3.heap.size (some ⟨w3.heap.size + 1, 0, none⟩) _ n1 c1 w1.heap.size xs (by rfl) (by rfl) (made0_1 _ _) (HRD.out _ (below_d2 _ _ _)) hm1 (below_d2 _ _ _).size ?_; intro A3 c3 w13 ho13 hg13 hl13; have hbC : Below w3.heap.size w3 w13 := below_push (below_d2 _ _ _) (made0_1 _ _) (Nat.le_refl _) (below_d2 _ _ _).size hg13) | (refine step_push_all (by rfl) _ _ (by rfl) w3.heap.size A3 n1 c3 xs (some ⟨w3.heap.size + 1, 0, none⟩) 1 1 _ [nth xs 0] (by rfl) (by rfl) ho13 (rdV_ii (w := w3.drew) hg13) (.inl (by omega)) hm1 (by omega) hbC.size ?_; intro A4 c4 w14 ho14 hg14 hl14; have hbD : Below w3.heap.size w3 w14 := below_push hbC ho13 (Nat.le_refl _) hbC.size hg14) | (refine step_push_all (by rfl) _ _ (by rfl) w3.heap.size A3 n1 c3 xs (some ⟨w3.heap.size, 0, none⟩) 1 1 _ [nth xs 0] (by rfl) (by rfl) ho13 (rdV_iii (w := w3.drew) hg13) (.inl (by omega)) hm1 (by omega) hbC.size ?_; intro A4 c4 w14 ho14 hg14 hl14; have hbD : Below w3.heap.size w3 w14 := below_push hbC ho13 (Nat.le_refl _) hbC.size hg14) | (refine step_push_all (by rfl) _ _ (by rfl) w3.heap.size A3 n1 c3 xs (some ⟨w13.heap.size, 0, none⟩) 1 1 _ [nth xs 0] (by rfl) (by rfl) (World.ownsRow.alloc ho13 _) (rdV_new _ _) (.inl (by omega)) hm1 (by omega) (hbC.alloc hbC.size _).size ?_; intro A4 c4 w14 ho14 hg14 hl14; have hbD : Below w3.heap.size w3 w14 := below_push (hbC.alloc hbC.size _) (World.ownsRow.alloc ho13 _) (Nat.le_refl _) (hbC.alloc hbC.size _).size hg14) | (go_simp; go_at_call 22; (with_reducible refine (implRuleValid A4 c4 (n1 + 1) w14.heap.size (xs ++ [nth xs 0]) k v s _ ho14.rd (Nat.le_refl _) hm2 ho14.le_cap).mono ?_); rintro e w15 ⟨rfl, hb15⟩; rw [Hdup.out]; have hbQ := step hbD hb15) | (go_simp; go_at_call 22; (with_reducible refine (implRuleValid (some ⟨g1, 0, none⟩) c1 n1 w1.heap.size xs 6 v s _ (HRD.out _ hbQ) (Nat.le_trans hB3 hbQ.size) hm1 hcap).mono ?_); rintro e w16 ⟨rfl, hb16⟩; rw [Hsix.out]; have hbR := step hbQ hb16)))
      all_goals
        go_wp2
        go_ret
        exact ⟨rfl, step h03 hbR⟩
  · go_enter Try.func4, Try.ntmps4
    go_wp2
    go_ret
    exact ⟨rfl, Below.refl _ _⟩
end Go.Proofs.Ytbfjkepelfmeeaa
