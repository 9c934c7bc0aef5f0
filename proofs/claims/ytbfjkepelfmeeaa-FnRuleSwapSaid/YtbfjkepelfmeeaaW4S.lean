import Derived.Test.YtbfjkepelfmeeaaLD
import Derived.Test.YtbfjkepelfmeeaaR4Q
import Derived.Test.YtbfjkepelfmeeaaC1SI
import Derived.Test.YtbfjkepelfmeeaaW4E
import Derived.Deep.RegionWith
import Derived.RegionTactic
set_option maxRecDepth 8000
namespace Go.Proofs.Ytbfjkepelfmeeaa
open Go.ChangeShapes Go.WideShapes Go.ChangeAt Go.RowKit

theorem swapV_zero (x : Int) : (swapV 1 2 x == 0) = (x == 0) := by
  unfold swapV
  split
  · rename_i h; subst h; rfl
  · split
    · rename_i h1 h; subst h; rfl
    · rfl
theorem swapV_inj (x y : Int) : (swapV 1 2 x != swapV 1 2 y) = (x != y) := by
  have key : swapV 1 2 x = swapV 1 2 y ↔ x = y := by
    unfold swapV
    constructor
    · intro h
      split at h <;> split at h <;> (try split at h) <;> (try split at h) <;> omega
    · rintro rfl; rfl
  by_cases h : x = y
  · subst h; simp
  · have h' : ¬ swapV 1 2 x = swapV 1 2 y := fun e => h (key.1 e)
    rw [bne_iff_ne.2 h', bne_iff_ne.2 h]
theorem swap_gv {g : List Int} {s : Int} (h2 : 2 ≤ s) (hg : gv g s = true) : swapL g s 1 2 = mapTo (swapG g 1 2) g.length ∧ gv (mapTo (swapG g 1 2) g.length) s = true := by
  obtain ⟨_, h4⟩ := gv_size hg
  have hl := gv_len hg
  have hok : swapOk g s 1 2 = true := by
    unfold swapOk
    rw [hg]
    simp [inr]
    omega
  refine ⟨by unfold swapL; rw [if_pos hok], ?_⟩
  have h1 : inr s 2 4 = true := by simp [inr]; omega
  have h3 : (mapTo (swapG g 1 2) g.length).all (fun x => inr x 0 s) = true := by
    refine okTo_all (n := g.length) (fun j hj => ?_) (mapTo_length _ _)
    rw [mapTo_nth hj]
    obtain ⟨a, b⟩ := gv_nth hg hj
    have : 0 ≤ swapG g 1 2 j ∧ swapG g 1 2 j ≤ s := by
      unfold swapG swapV
      split
      · omega
      · split <;> omega
    simp [inr, this]
  simp [gv, h1, h3, mapTo_length, hl]
theorem rhB_swap {xs g : List Int} {v s : Int} (h2 : 2 ≤ s) : rhB 1 xs v (swapL g s 1 2) s = rhB 1 xs v g s := by
  cases hg : gv g s
  · have hL : swapL g s 1 2 = [] := by unfold swapL swapOk; rw [hg]; rfl
    have hn : gv [] s = false := by
      cases h : gv [] s
      · rfl
      · have := gv_len h
        obtain ⟨a, b⟩ := gv_size h
        have := (sq_bd a b).1
        simp at *
        omega
    unfold rhB
    rw [hL, hg, hn, Bool.and_false]
    simp
  · obtain ⟨hL, hg'⟩ := swap_gv h2 hg
    rw [hL]
    cases hv : rv 1 xs v s
    · unfold rhB
      rw [hv]; rfl
    · obtain ⟨_, _, _, hx⟩ := rv_facts rfl hv
      have hgl := gv_len hg
      have hp : ∀ k, k < xs.length → nth (pks (mapTo (swapG g 1 2) g.length) xs xs.length) k = swapV 1 2 (nth (pks g xs xs.length) k) := fun k hk => by
        obtain ⟨a, b⟩ := hx k hk
        rw [pks_nth hk, pks_nth hk, mapTo_nth (by omega)]
        rfl
      have hm : ∀ n, n ≤ xs.length → memTo (pks (mapTo (swapG g 1 2) g.length) xs xs.length) 0 n = memTo (pks g xs xs.length) 0 n := by
        intro n
        induction n with
        | zero => intro _; rfl
        | succ n ih =>
          intro hn
          simp only [memTo]
          rw [ih (by omega), hp n (by omega), swapV_zero]
      have hnew : ∀ k q, k < xs.length → q ≤ k → newTo (pks (mapTo (swapG g 1 2) g.length) xs xs.length) k q = newTo (pks g xs xs.length) k q := by
        intro k q hk
        induction q with
        | zero => intro _; rfl
        | succ q ih =>
          intro hq
          simp only [newTo]
          rw [ih (by omega), hp q (by omega), hp k hk, swapV_inj]
      have hd : ∀ n, n ≤ xs.length → diffTo (pks (mapTo (swapG g 1 2) g.length) xs xs.length) n = diffTo (pks g xs xs.length) n := by
        intro n
        induction n with
        | zero => intro _; rfl
        | succ n ih =>
          intro hn
          simp only [diffTo]
          rw [ih (by omega), hnew n n (by omega) (Nat.le_refl _)]
      unfold rhB
      rw [hg, hg', hm _ (Nat.le_refl _)]
      congr 1
      show diffTo _ (pks _ xs xs.length).length = diffTo _ (pks _ xs xs.length).length
      rw [pks_length, pks_length]
      exact hd _ (Nat.le_refl _)
theorem swapL_len16 (g : List Int) (s a b : Int) : (swapL g s a b).length ≤ g.length := by unfold swapL; split <;> simp [mapTo_length]
set_option maxHeartbeats 4000000 in
theorem ruleSwap_walk (A : Option Addr) (c n : Nat) (bs : List Int) (w : World) (h : Code_ w A n c bs) :
    Calls Try.prog 11 #[.slice A n c] w fun e w' => e = .returned (.bool true) ∧ Below w.heap.size w w' := by
  by_cases hn : n ≤ 1048576
  · go_enter Try.func11, Try.ntmps11
    go_wp2_with fail
    refine (drawRuleHolds _ _ _ _ _ h).mono ?_
    rintro e w1 ⟨k, A1, n1, c1, v, xs, Ag, ng, cg, g, s, rfl, ho, hn5, hog, hng, h2, h4, hb1⟩
    have hx1 := rbox_new w1 k A1 n1 c1 v 30
    have hbA : Below w1.heap.size w1 (w1.alloc (.cells #[.int .i64 k, .slice A1 n1 c1, .int .i64 v] 30)) := (Below.refl _ _).alloc (Nat.le_refl _) _
    have hsA : w1.heap.size < (w1.alloc (.cells #[.int .i64 k, .slice A1 n1 c1, .int .i64 v] 30)).heap.size := by simp
    have h01 := step hb1 hbA
    have hr1 := ho.rd.below hbA
    have hg1 := hog.rd.below hbA
    have hcap := ho.le_cap
    have hB1 := hbA.size
    have hm1 : n1 ≤ 1099511627776 := by omega
    have hm2 : ng ≤ 1099511627776 := by omega
    have hs64 : -9223372036854775808 ≤ s ∧ s ≤ 9223372036854775807 := by omega
    have Hs64 := Lib.hid hs64
    clear hs64
    obtain ⟨a0, a1, a2⟩ := id hx1
    go_wp2_with fail
    refine (implRuleHolds _ _ _ _ _ _ _ _ _ _ _ _ _ _ hr1 hB1 hm1 hcap hg1 hB1 hm2 Hs64.out).mono ?_
    rintro e w2 ⟨rfl, hb2⟩
    have h02 := step h01 hb2
    have hx2 := hx1.below hsA hb2
    have hs2 := Nat.lt_of_lt_of_le hsA hb2.size
    have hr2 := hr1.below (hb2.mono hB1)
    have hg2 := hg1.below (hb2.mono hB1)
    have hB2 := Nat.le_trans hB1 hb2.size
    obtain ⟨b0, b1, b2⟩ := id hx2
    go_wp2_with fail
    refine (specRuleHolds _ _ _ _ _ _ _ _ _ _ _ _ _ _ hr2 hB2 hm1 hg2 hB2 hm2 Hs64.out).mono ?_
    rintro e w3 ⟨rfl, hb3⟩
    have h03 := step h02 hb3
    have hx3 := hx2.below hs2 hb3
    have hs3 := Nat.lt_of_lt_of_le hs2 hb3.size
    have hr3 := hr2.below (hb3.mono hB2)
    have hg3 := hg2.below (hb3.mono hB2)
    have hB3 := Nat.le_trans hB2 hb3.size
    obtain ⟨d0, d1, d2⟩ := id hx3
    have hne : (rhB k xs v g s != rhB k xs v g s) = false := by simp
    have heq : (rhB k xs v g s == rhB k xs v g s) = true := by simp
    by_cases hk : k = 1
    · subst hk
      have hq := rhB_swap (xs := xs) (g := g) (v := v) h2
      have Hq := Lib.hid hq
      have hLl := swapL_len16 g s 1 2
      have hgl := hg3.1
      have hLm : (swapL g s 1 2).length ≤ 1099511627776 := by omega
      clear hq hLl hgl
      have hg3d : Rd w3.drew w1.heap.size Ag ng g := hg3.below (Below.refl _ _).drew
      have hB3d : w1.heap.size ≤ w3.drew.heap.size := hB3
      go_wp2
      go_region_with (first | (go_at_call 47; (with_reducible refine (implGridSwap Ag cg ng w1.heap.size g s 1 2 _ ?hd ?hB hm2).mono ?_); (case hd => exact hg3d); (case hB => exact hB3d); rintro e w4 ⟨A4, c4, rfl, ho4, hb4d⟩; have hb4 := below_undrew hb4d; clear hb4d; have hx4 := hx3.below hs3 hb4; obtain ⟨f0, f1, f2⟩ := id hx4; have hr4 := hr3.below (hb4.mono hB3); have hB4 := Nat.le_trans hB3 hb4.size; have h04 := step h03 hb4; have hrg4 := ho4.rd) | (go_at_call 25; (with_reducible refine (implRuleHolds A1 c1 n1 w1.heap.size xs 1 v s A4 c4 (swapL g s 1 2).length w4.heap.size (swapL g s 1 2) _ ?hr ?hB hm1 hcap ?hg ?hB2 hLm Hs64.out).mono ?_); (case hr => exact hr4); (case hB => exact hB4); (case hg => exact hrg4); (case hB2 => exact Nat.le_refl _); rintro e w5 ⟨rfl, hb5⟩; rw [Hq.out]; have h05 := step h04 hb5) | (go_at_call 20; (with_reducible refine (alive_any _).mono ?_); rintro e w6 ⟨rfl, hb6⟩))
      all_goals
        go_wp2
        go_ret
        exact ⟨rfl, step h05 hb6⟩
    · have hk1 : (k != 1) = true := by simp [hk]
      clear hk
      go_wp2
      refine wp_region_any (by kernel_rfl) ?_
      change wpAny _ _ _ _ _ _ _ (World.drew _)
      refine wpAny_take (i := 0) (v := .pointer (some ⟨w1.heap.size, 0, none⟩)) rfl (by kernel_rfl) (by kernel_rfl) (by kernel_rfl) (fun _ _ _ h => h) (Or.inl ⟨by kernel_rfl, fun w => by go_simp⟩) ?_
      refine wpAny_ready (rs := [1]) (by kernel_rfl) (by simp) ?_
      refine AllReady.cons rfl (fun K hK => ?_) AllReady.nil
      go_simp
      refine hK _ _ ?_
      clear hK K
      refine wpAny_take (i := 2) (v := .bool true) rfl (by kernel_rfl) (by kernel_rfl) (by kernel_rfl) (fun _ _ _ h => h) (Or.inl ⟨by kernel_rfl, fun w => by go_simp <;> simp [hk1]⟩) ?_
      refine wpAny_take (i := 3) (v := .bool true) rfl (by kernel_rfl) (by kernel_rfl) (by kernel_rfl) (fun _ _ _ h => h) (Or.inl ⟨by kernel_rfl, fun w => by go_simp⟩) ?_
      refine wpAny_take (i := 4) (v := undef) rfl (by kernel_rfl) (by kernel_rfl) (by kernel_rfl) (fun _ _ _ h => h) (Or.inr ⟨by kernel_rfl, rfl⟩) ?_
      refine wpAny_take (i := 5) (v := undef) rfl (by kernel_rfl) (by kernel_rfl) (by kernel_rfl) (fun _ _ _ h => h) (Or.inr ⟨by kernel_rfl, rfl⟩) ?_
      refine wpAny_take (i := 6) (v := undef) rfl (by kernel_rfl) (by kernel_rfl) (by kernel_rfl) (fun _ _ _ h => h) (Or.inr ⟨by kernel_rfl, rfl⟩) ?_
      refine wpAny_take (i := 7) (v := undef) rfl (by kernel_rfl) (by kernel_rfl) (by kernel_rfl) (fun _ _ _ h => h) (Or.inr ⟨by kernel_rfl, rfl⟩) ?_
      refine wpAny_take (i := 8) (v := undef) rfl (by kernel_rfl) (by kernel_rfl) (by kernel_rfl) (fun _ _ _ h => h) (Or.inr ⟨by kernel_rfl, rfl⟩) ?_
      refine wpAny_take (i := 9) (v := undef) rfl (by kernel_rfl) (by kernel_rfl) (by kernel_rfl) (fun _ _ _ h => h) (Or.inr ⟨by kernel_rfl, rfl⟩) ?_
      refine wpAny_take (i := 10) (v := undef) rfl (by kernel_rfl) (by kernel_rfl) (by kernel_rfl) (fun _ _ _ h => h) (Or.inr ⟨by kernel_rfl, rfl⟩) ?_
      refine wpAny_take (i := 11) (v := undef) rfl (by kernel_rfl) (by kernel_rfl) (by kernel_rfl) (fun _ _ _ h => h) (Or.inr ⟨by kernel_rfl, rfl⟩) ?_
      refine wpAny_take (i := 12) (v := .bool true) rfl (by kernel_rfl) (by kernel_rfl) (by kernel_rfl) (fun _ _ _ h => h) (Or.inl ⟨by kernel_rfl, fun w => by go_simp⟩) ?_
      refine wpAny_take (i := 13) (v := .bool true) rfl (by kernel_rfl) (by kernel_rfl) (by kernel_rfl) (fun _ _ _ h => h) (Or.inl ⟨by kernel_rfl, fun w => by go_simp⟩) ?_
      refine wpAny_ready (rs := [14]) (by kernel_rfl) (by simp) ?_
      refine AllReady.cons rfl (fun K hK => ?_) AllReady.nil
      go_simp
      go_at_call 20
      refine (alive_any _).mono ?_
      rintro e w6 ⟨rfl, hb6d⟩
      have hb6 := below_undrew hb6d
      refine hK _ _ ?_
      clear hK K
      refine wpAny_take (i := 15) (v := .bool true) rfl (by kernel_rfl) (by kernel_rfl) (by kernel_rfl) (fun _ _ _ h => h) (Or.inl ⟨by kernel_rfl, fun w => by go_simp⟩) ?_
      refine wpAny_take (i := 16) (v := .bool true) rfl (by kernel_rfl) (by kernel_rfl) (by kernel_rfl) (fun _ _ _ h => h) (Or.inl ⟨by kernel_rfl, fun w => by go_simp⟩) ?_
      refine wpAny_done (by kernel_rfl) ?_ _
      go_wp2
      go_ret
      exact ⟨rfl, step h03 hb6⟩
  · go_enter Try.func11, Try.ntmps11
    go_wp2
    go_ret
    exact ⟨rfl, Below.refl _ _⟩
end Go.Proofs.Ytbfjkepelfmeeaa
