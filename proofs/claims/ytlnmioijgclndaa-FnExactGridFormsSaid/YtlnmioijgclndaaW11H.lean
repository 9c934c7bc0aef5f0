import Derived.Test.YtlnmioijgclndaaW11G
set_option maxRecDepth 8000
namespace Go.Proofs.Ytlnmioijgclndaa
open Go.ChangeShapes Go.WideShapes Go.ChangeAt Go.RowKit
theorem Gs.far {w w' : World} {lo lo2 : Nat} {v : Value} {d : List GV} (h : Gs w lo v d) (hb : Below lo2 w w') (hv : ∀ g, v.ownBlock = some g → g < lo2) (hd : ∀ x ∈ d, ∀ g, x.1.ownBlock = some g → g < lo2) : Gs w' lo v d := by
  have key : ∀ {e : TypeId} {lo' : Nat} {u : Value} {n : Nat} {vs : List Value}, w.ownsRow lo' e 1 u n vs → (∀ g, u.ownBlock = some g → g < lo2) → w'.ownsRow lo' e 1 u n vs := fun {e lo' u n vs} ho hu => by
    refine ⟨ho.1, ?_⟩
    rcases ho.2 with hn | ⟨g, cap, cur, hv2, hb2, hgg, rest⟩
    · exact .inl hn
    · refine .inr ⟨g, cap, cur, hv2, hb2, ?_, rest⟩
      rw [hb.block g (hu g (by rw [hv2]; simp [Value.ownBlock]))]
      exact hgg
  refine ⟨key h.1 hv, fun x hx => ?_, h.2.2⟩
  obtain ⟨⟨A, c, e, ho⟩, hs⟩ := h.2.1 x hx
  exact ⟨⟨A, c, e, key ho (fun g hg => hd x hx g (by rw [e]; exact hg))⟩, hs⟩
theorem gfL_len (xs : List Int) (s : Int) (n : Nat) : (gfL xs s n).length ≤ 8 := by
  unfold gfL; split <;> simp
theorem gfL_each {xs : List Int} {s : Int} {n : Nat} (hl : xs.length = n) (k : Nat) : (gat (gfL xs s n) k).length = if k < (gfL xs s n).length then n else 0 := by
  by_cases hk : k < (gfL xs s n).length
  · rw [if_pos hk]
    unfold gfL at hk ⊢
    split
    · next h =>
      rw [if_pos h] at hk
      simp only [List.length_map, List.length_range] at hk
      rw [gat_map hk]; exact frm_len hl k
    · next h => rw [if_neg h] at hk; simp at hk
  · rw [if_neg hk]
    simp [gat, List.getD_eq_getElem?_getD, List.getElem?_eq_none (by omega : (gfL xs s n).length ≤ k)]
set_option maxHeartbeats 2000000 in
theorem exactGridForms_walk (A : Option Addr) (c n : Nat) (xs : List Int) (size : Int) (w : World) (h : Rd w w.heap.size A n xs) (_hs : -9223372036854775808 ≤ size ∧ size ≤ 9223372036854775807) :
    Calls Try.prog 9 #[.slice A n c, .int .i64 size] w fun e w' => e = .returned (.bool true) ∧ Below w.heap.size w w' := by
  by_cases hn : n ≤ 1048576
  · obtain ⟨Ls, hLs⟩ : ∃ Ls, gfL xs size n = Ls := ⟨_, rfl⟩
    have hl0 := h.1
    obtain ⟨m, hm⟩ : ∃ m, Ls.length = m := ⟨_, rfl⟩
    have h8 : m ≤ 8 := by rw [← hm, ← hLs]; exact gfL_len _ _ _
    have heach : ∀ k, (gat Ls k).length = if k < m then n else 0 := fun k => by rw [← hm, ← hLs]; exact gfL_each hl0 k
    have hn16 : 0 < m → n ≤ 16 := fun h0 => by
      cases hg : gv xs size
      · rw [← hm, ← hLs, gfL_f hg] at h0; simp at h0
      · exact (gv_n hg hl0).2.1
    have hall : ∀ k, (gat Ls k).length ≤ 16 := fun k => by
      rw [heach k]; split
      · exact hn16 (by omega)
      · omega
    have hsamex := same_refl xs
    have HLs := Lib.hid hLs
    have Hm := Lib.hid hm
    have Hall := Lib.hid hall
    have Heach := Lib.hid heach
    have Hn16 := Lib.hid hn16
    clear hLs hm hall heach hn16 hl0
    have HSp : Hid (∀ A' c' W, Rd W W.heap.size A' n xs → Calls Try.prog 23 #[.slice A' n c', .int .i64 size] W (RetGs W Ls)) := Lib.hid fun A' c' W hr => by rw [← HLs.out]; exact specGridForms A' c' n _ xs size W hr (Nat.le_refl _) (by omega)
    have HIm : Hid (∀ A' c' W, Rd W W.heap.size A' n xs → Calls Try.prog 22 #[.slice A' n c', .int .i64 size] W (RetGs W Ls)) := Lib.hid fun A' c' W hr => by rw [← HLs.out]; exact implGridForms A' c' n _ xs size W hr (Nat.le_refl _) (by omega)
    go_enter Try.func9, Try.ntmps9
    go_wp2_with fail
    refine (toIntS_any _ _ _ _ _ _ h (Nat.le_refl _) (by omega)).mono ?_
    rintro e wa ⟨rfl, hoa, hba⟩
    go_wp2_with fail
    refine (HSp.out _ _ _ hoa.rd).mono ?_
    rintro e w1 ⟨A0, c0, d0, rfl, hd0, hG0, hb1⟩
    rw [Hm.out] at hG0 ⊢
    have hdl0 : d0.length = m := by rw [← cnt_len, hd0]; exact Hm.out
    have hw1 := step hba hb1
    go_wp2_with fail
    refine (toIntS_any _ _ _ _ _ _ (h.below hw1) hw1.size (by omega)).mono ?_
    rintro e w2 ⟨rfl, hox, hb2⟩
    have hrx := hox.rd
    go_wp2_with fail
    refine (HIm.out _ _ _ hox.rd).mono ?_
    rintro e w3 ⟨A1, c1, d1, rfl, hd1, hG1, hb3⟩
    rw [Hm.out] at hG1 ⊢
    have hdl1 : d1.length = m := by rw [← cnt_len, hd1]; exact Hm.out
    have h13 := step hb2 hb3
    go_wp2_with fail
    refine (eqIntSS_any _ _ _ _ _ _ _ _ _ _ hG1 (hG0.below h13) hdl1 hdl0 (by rw [hd1, hd0]) h8 (by rw [hd1]; exact Hall.out)).mono ?_
    rintro e w4 ⟨rfl, hb4⟩
    have h14 := step h13 hb4
    have hw4 := step hw1 h14
    go_wp2_with fail
    refine (toIntS_any _ _ _ _ _ _ (h.below hw4) hw4.size (by omega)).mono ?_
    rintro e w5 ⟨rfl, hoy, hb5⟩
    go_wp2_with fail
    refine (eqIntS_any _ _ _ _ _ _ _ _ _ _ _ (hrx.below (step (step hb3 hb4) hb5)) hoy.rd (by omega)).mono ?_
    rintro e w6 ⟨rfl, hb6⟩
    have h36 := step (step hb4 hb5) hb6
    have h26 := step hb3 h36
    have h16 := step hb2 h26
    go_wp2_with fail
    refine (markIntS_any _ _ _ _ _ _ _ (hox.below h26) (by omega) (by omega) (by omega)).mono ?_
    rintro e w7 ⟨rfl, _, hg7⟩
    have h17 := h16.trans (below_own hg7 hox.own_lo h16.size)
    have hG7 : Gs w7 w2.heap.size (.slice A1 m c1) d1 := by
      refine Gs.off (H := w6.heap.size) (hG1.below h36) hg7 (fun g hg => .inl (hox.own_hi g hg)) (fun g hg => ?_) (fun x hx g hg => ?_)
      · exact Nat.lt_of_lt_of_le (hG1.vhi g hg) h36.size
      · exact Nat.lt_of_lt_of_le (hG1.hi hx g hg) h36.size
    have hs67 := hg7.size
    clear hg7
    go_wp2_with fail
    refine (eqIntSS_any _ _ _ _ _ _ _ _ _ _ hG7 (hG0.below h17) hdl1 hdl0 (by rw [hd1, hd0]) h8 (by rw [hd1]; exact Hall.out)).mono ?_
    rintro e w8 ⟨rfl, hb8⟩
    have h18 := step h17 hb8
    have hG8 := hG7.below hb8
    have h28 : w2.heap.size ≤ w8.heap.size := Nat.le_trans h26.size (Nat.le_trans hs67 hb8.size)
    obtain ⟨q, hq⟩ : ∃ q, q = if 0 < m then n else 0 := ⟨_, rfl⟩
    have hq16 : q ≤ 16 := by
      rw [hq]; split
      · next h0 => exact Hn16.out h0
      · omega
    have hqk : ∀ k, k < m → (gat (cnt d1) k).length = q := fun k hk => by rw [hd1, Heach.out k, if_pos hk, hq, if_pos (by omega)]
    have hmq : m * q ≤ 8 * 16 := Nat.mul_le_mul h8 hq16
    go_wp2_with fail
    refine (markIntSS_any A1 c1 m w2.heap.size q d1 w8 hG8 hdl1 h8 hqk hq16 h28).mono ?_
    rintro e w9 ⟨d9, rfl, hdl9, hs9, hG9, hb9⟩
    have h19 : Below w1.heap.size w1 w9 := h18.trans (hb9.mono hb2.size)
    have hw9 := step hw1 h19
    have hne : ((1 + (m : Int) * (q : Int)) != (1 + (m : Int) * (q : Int))) = false := by simp
    have hneg : ¬ (1 + (m : Int) * (q : Int) < 0) := by
      have : (0 : Int) ≤ (m : Int) * (q : Int) := by rw [← Int.natCast_mul]; omega
      omega
    have Hq := Lib.hid hq
    clear hq
    go_wp2_with fail
    refine (heldIntSS_any A1 c1 m w2.heap.size q d9 w9 hG9 hdl9 h8 hs9 hq16).mono ?_
    rintro e w9' ⟨rfl, rfl⟩
    go_wp2_with fail
    refine (toIntS_any _ _ _ _ _ _ (h.below hw9) hw9.size (by omega)).mono ?_
    rintro e w10 ⟨rfl, hoz, hb10⟩
    go_wp2_with fail
    refine (HIm.out _ _ _ hoz.rd).mono ?_
    rintro e w11 ⟨A2, c2, d2, rfl, hd2, hG2, hb11⟩
    rw [Hm.out] at hG2 ⊢
    have hdl2 : d2.length = m := by rw [← cnt_len, hd2]; exact Hm.out
    have h1b := step (step h19 hb10) hb11
    go_wp2_with fail
    refine (eqIntSS_any _ _ _ _ _ _ _ _ _ _ hG2 (hG0.below h1b) hdl2 hdl0 (by rw [hd2, hd0]) h8 (by rw [hd2]; exact Hall.out)).mono ?_
    rintro e w12 ⟨rfl, hb12⟩
    have h1c := step h1b hb12
    have hwc := step hw1 h1c
    go_wp2_with fail
    refine (heldIntSS_any A1 c1 m w2.heap.size q d9 w12 (((hG9.below hb10).below hb11).below hb12) hdl9 h8 hs9 hq16).mono ?_
    rintro e w12' ⟨rfl, rfl⟩
    go_wp2
    go_ret
    exact ⟨rfl, hwc⟩
  · go_enter Try.func9, Try.ntmps9
    go_wp2
    go_ret
    exact ⟨rfl, Below.refl _ _⟩
end Go.Proofs.Ytlnmioijgclndaa
