import Derived.Test.YtlnmioijgclndaaW11L
set_option maxRecDepth 8000
namespace Go.Proofs.Ytlnmioijgclndaa
open Go.ChangeShapes Go.WideShapes Go.ChangeAt Go.RowKit
theorem fcI_same {xs ys : List Int} {s n : Nat} (gx : gv xs s = true) (gy : gv ys s = true) (h : SameForms (rf ys s n) (rf xs s n)) : fcI ys s n = fcI xs s n := fc_same gy gx h
set_option maxHeartbeats 2000000 in
theorem formCount_walk (A : Option Addr) (c n : Nat) (bs : List Int) (w : World) (h : Code_ w A n c bs) :
    Calls Try.prog 6 #[.slice A n c] w fun e w' => e = .returned (.bool true) ∧ Below w.heap.size w w' := by
  by_cases hn : n ≤ 1048576
  · go_enter Try.func6, Try.ntmps6
    go_wp2_with fail
    refine (drawFormCount _ _ _ _ _ h).mono ?_
    rintro e w1 ⟨A1, n1, c1, xs, s, rfl, hr1, ⟨h16, hc1, hc2⟩, s0, s1, _, hb1⟩
    have hl := Lib.hid hr1.1
    go_wp2_with fail
    refine (implFormCount _ _ _ _ _ _ _ hr1 (Nat.le_refl _) (by omega)).mono ?_
    rintro e w2 ⟨rfl, hb2⟩
    go_wp2_with fail
    refine (specFormCount _ _ _ _ _ _ _ (hr1.below hb2) hb2.size (by omega)).mono ?_
    rintro e w3 ⟨rfl, hb3⟩
    have hb13 := step hb2 hb3
    cases hg : gv xs s
    · have HL : fcI xs s n1 = -1 := by simp [fcI, hg]
      rw [HL]
      go_wp2_with fail
      refine (alive_any _).mono ?_
      rintro e w5 ⟨rfl, hb5⟩
      go_wp2
      go_ret
      exact ⟨rfl, step (step hb1 hb13) hb5⟩
    · obtain ⟨t, rfl, hs, hls⟩ := size_nat hg
      have hnn : n1 = t * t := by have := hl.out; omega
      obtain ⟨cl, cg, cf⟩ := cn_know hs hnn hl.out hg
      have HC := Lib.hid (fun W (hr : Rd W w1.heap.size A1 n1 xs) (hB : w1.heap.size ≤ W.heap.size) => show Calls Try.prog 14 #[.slice A1 n1 c1, .int .i64 t] W (RetN W n1 (cnL xs t n1)) from (implCanonicalGrid A1 c1 n1 w1.heap.size xs t W hr hB (by omega)).mono fun e' w' hh => retN_of hh cl)
      have hE := fcI_same (n := n1) hg cg cf
      have HF := Lib.hid (fun A' c' W (hr : Rd W W.heap.size A' n1 (cnL xs t n1)) => show Calls Try.prog 29 #[.slice A' n1 c', .int .i64 t] W (fun e w' => e = .returned (.int .i64 (fcI xs t n1)) ∧ Below W.heap.size W w') from by
        have := implFormCount A' c' n1 W.heap.size (cnL xs t n1) t W hr (Nat.le_refl _) (by omega)
        rwa [hE] at this)
      have h1248 := fc_one hs hnn hl.out hg
      obtain ⟨f, hf⟩ : ∃ f, f = fcI xs t n1 := ⟨_, rfl⟩
      rw [← hf] at h1248 HF ⊢
      clear cl cg cf hnn hE hf
      rcases h1248 with rfl | rfl | rfl | rfl
      all_goals
        go_wp2_with fail
        refine (HC.out _ (hr1.below hb13) hb13.size).mono ?_
        rintro e w5 ⟨A5, c5, rfl, ho5, hb5⟩
        go_wp2_with fail
        refine (HF.out _ _ _ ho5.rd).mono ?_
        rintro e w6 ⟨rfl, hb6⟩
        go_wp2
        go_ret
        exact ⟨rfl, step (step (step hb1 hb13) hb5) hb6⟩
  · go_enter Try.func6, Try.ntmps6
    go_wp2
    go_ret
    exact ⟨rfl, Below.refl _ _⟩
set_option maxHeartbeats 2000000 in
theorem renameForms_walk (A : Option Addr) (c n : Nat) (bs : List Int) (w : World) (h : Code_ w A n c bs) :
    Calls Try.prog 8 #[.slice A n c] w fun e w' => e = .returned (.bool true) ∧ Below w.heap.size w w' := by
  by_cases hn : n ≤ 1048576
  · go_enter Try.func8, Try.ntmps8
    go_wp2_with fail
    refine (drawRenameGrid _ _ _ _ _ h).mono ?_
    rintro e w1 ⟨A1, n1, c1, xs, s, rfl, hr1, ⟨h16, hc1, hc2⟩, s0, s1, _, hb1⟩
    have hl := Lib.hid hr1.1
    cases hg : gv xs s
    · have HL := Lib.hid (show rgL xs s n1 = [] by simp [rgL, hg])
      go_wp2_with fail
      refine (implRenameGrid _ _ _ _ _ _ _ hr1 (Nat.le_refl _) (by omega)).mono ?_
      rintro e w2 ⟨A2, c2, rfl, ho2, hb2⟩
      go_wp2_with fail
      refine (specRenameGrid _ _ _ _ _ _ _ (hr1.below hb2) hb2.size (by omega)).mono ?_
      rintro e w3 ⟨A3, c3, rfl, ho3, hb3⟩
      rw [HL.out, show ([] : List Int).length = 0 from rfl] at *
      have hsame := same_refl ([] : List Int)
      go_wp2_with fail
      refine (sameInts_any _ _ _ _ _ _ _ _ _ _ _ ((ho2.rd).below hb3) ho3.rd (by omega)).mono ?_
      rintro e w4 ⟨rfl, hb4⟩
      go_wp2_with fail
      refine (alive_any _).mono ?_
      rintro e w5 ⟨rfl, hb5⟩
      go_wp2
      go_ret
      exact ⟨rfl, step (step (step (step hb1 hb2) hb3) hb4) hb5⟩
    · obtain ⟨t, rfl, hs, hls⟩ := size_nat hg
      have hnn : n1 = t * t := by have := hl.out; omega
      have hn4 := (gv_n hg hl.out).1
      have hz : ((n1 : Int) == 0) = false := by simp; omega
      have eR : rgL xs t n1 = rnL xs n1 := by simp [rgL, hg]
      have gR := rnL_gv hg hl.out
      have FR := forms_pat hs hnn (rnL_len xs n1) hl.out (samePat_rn xs n1).symm
      have hE := fcI_same (n := n1) hg gR FR
      have HIm := Lib.hid (fun W (hr : Rd W w1.heap.size A1 n1 xs) (hB : w1.heap.size ≤ W.heap.size) => show Calls Try.prog 26 #[.slice A1 n1 c1, .int .i64 t] W (RetN W n1 (rnL xs n1)) from (implRenameGrid A1 c1 n1 w1.heap.size xs t W hr hB (by omega)).mono fun e' w' hh => by rw [eR] at hh; exact retN_of hh (rnL_len _ _))
      have HSp := Lib.hid (fun W (hr : Rd W w1.heap.size A1 n1 xs) (hB : w1.heap.size ≤ W.heap.size) => show Calls Try.prog 27 #[.slice A1 n1 c1, .int .i64 t] W (RetN W n1 (rnL xs n1)) from (specRenameGrid A1 c1 n1 w1.heap.size xs t W hr hB (by omega)).mono fun e' w' hh => by rw [eR] at hh; exact retN_of hh (rnL_len _ _))
      have KX := Lib.hid (fun A' c' B W (hr : Rd W B A' n1 xs) (hB : B ≤ W.heap.size) => canon_at hs hnn hl.out hl.out hg hg ⟨fun k hk => ⟨k, hk, rfl⟩, fun k hk => ⟨k, hk, rfl⟩⟩ A' c' B W hr hB (by omega))
      have KR := Lib.hid (fun A' c' B W (hr : Rd W B A' n1 (rnL xs n1)) (hB : B ≤ W.heap.size) => canon_at hs hnn hl.out (rnL_len xs n1) hg gR FR A' c' B W hr hB (by omega))
      have FX := Lib.hid (fun A' c' B W (hr : Rd W B A' n1 xs) (hB : B ≤ W.heap.size) => implFormCount A' c' n1 B xs t W hr hB (by omega))
      have FRn := Lib.hid (fun A' c' B W (hr : Rd W B A' n1 (rnL xs n1)) (hB : B ≤ W.heap.size) => show Calls Try.prog 29 #[.slice A' n1 c', .int .i64 t] W (fun e w' => e = .returned (.int .i64 (fcI xs t n1)) ∧ Below W.heap.size W w') from by
        have := implFormCount A' c' n1 B (rnL xs n1) t W hr hB (by omega)
        rwa [hE] at this)
      have hsame := same_refl (rnL xs n1)
      have hsameC := same_refl (cnL xs t n1)
      have hq : (fcI xs t n1 == fcI xs t n1) = true := by simp
      clear eR gR FR hE hnn
      go_wp2_with fail
      refine (HIm.out _ hr1 (Nat.le_refl _)).mono ?_
      rintro e w2 ⟨A2, c2, rfl, ho2, hb2⟩
      have hr2 := ho2.rd
      go_wp2_with fail
      refine (HSp.out _ (hr1.below hb2) hb2.size).mono ?_
      rintro e w3 ⟨A3, c3, rfl, ho3, hb3⟩
      go_wp2_with fail
      refine (sameInts_any _ _ _ _ _ _ _ _ _ _ _ (hr2.below hb3) ho3.rd (by omega)).mono ?_
      rintro e w4 ⟨rfl, hb4⟩
      have h24 := step hb3 hb4
      go_wp2_with fail
      refine (FRn.out _ _ _ _ (hr2.below h24) h24.size).mono ?_
      rintro e w5 ⟨rfl, hb5⟩
      have h25 := step h24 hb5
      have h15 := step hb2 h25
      go_wp2_with fail
      refine (FX.out _ _ _ _ (hr1.below h15) h15.size).mono ?_
      rintro e w6 ⟨rfl, hb6⟩
      have h26 := step h25 hb6
      go_wp2_with fail
      refine (KR.out _ _ _ _ (hr2.below h26) h26.size).mono ?_
      rintro e w7 ⟨A7, c7, rfl, ho7, hb7⟩
      have h27 := step h26 hb7
      have h17 := step hb2 h27
      go_wp2_with fail
      refine (KX.out _ _ _ _ (hr1.below h17) h17.size).mono ?_
      rintro e w8 ⟨A8, c8, rfl, ho8, hb8⟩
      go_wp2_with fail
      refine (sameInts_any _ _ _ _ _ _ _ _ _ _ _ (ho7.rd.below hb8) ho8.rd (by omega)).mono ?_
      rintro e w9 ⟨rfl, hb9⟩
      go_wp2
      go_ret
      exact ⟨rfl, step hb1 (step h17 (step hb8 hb9))⟩
  · go_enter Try.func8, Try.ntmps8
    go_wp2
    go_ret
    exact ⟨rfl, Below.refl _ _⟩
set_option maxHeartbeats 2000000 in
theorem renameGrid_walk (himpl : ISquareFits) (A : Option Addr) (c n : Nat) (bs : List Int) (w : World) (h : Code_ w A n c bs) :
    Calls Try.prog 5 #[.slice A n c] w fun e w' => e = .returned (.bool true) ∧ Below w.heap.size w w' := by
  have Himpl := Lib.hid himpl; clear himpl
  by_cases hn : n ≤ 1048576
  · go_enter Try.func5, Try.ntmps5
    go_wp2_with fail
    refine (drawRenameGrid _ _ _ _ _ h).mono ?_
    rintro e w1 ⟨A1, n1, c1, xs, s, rfl, hr1, ⟨h16, hc1, hc2⟩, s0, s1, _, hb1⟩
    have hl := Lib.hid hr1.1
    cases hg : gv xs s
    · have HL := Lib.hid (show rgL xs s n1 = [] by simp [rgL, hg])
      go_wp2_with fail
      refine (implRenameGrid _ _ _ _ _ _ _ hr1 (Nat.le_refl _) (by omega)).mono ?_
      rintro e w2 ⟨A2, c2, rfl, ho2, hb2⟩
      go_wp2_with fail
      refine (specRenameGrid _ _ _ _ _ _ _ (hr1.below hb2) hb2.size (by omega)).mono ?_
      rintro e w3 ⟨A3, c3, rfl, ho3, hb3⟩
      rw [HL.out, show ([] : List Int).length = 0 from rfl] at *
      have hsame := same_refl ([] : List Int)
      go_wp2_with fail
      refine (sameInts_any _ _ _ _ _ _ _ _ _ _ _ ((ho2.rd).below hb3) ho3.rd (by omega)).mono ?_
      rintro e w4 ⟨rfl, hb4⟩
      go_wp2_with fail
      refine (alive_any _).mono ?_
      rintro e w5 ⟨rfl, hb5⟩
      go_wp2
      go_ret
      exact ⟨rfl, step (step (step (step hb1 hb2) hb3) hb4) hb5⟩
    · obtain ⟨t, rfl, hs, hls⟩ := size_nat hg
      have hnn : n1 = t * t := by have := hl.out; omega
      have hn4 := (gv_n hg hl.out).1
      obtain ⟨t2, t4⟩ := gv_size hg
      have hz : ((n1 : Int) == 0) = false := by simp; omega
      have rgT : ∀ ys, gv ys t = true → rgL ys t n1 = rnL ys n1 := fun ys hy => by simp [rgL, hy]
      have gR := rnL_gv hg hl.out
      obtain ⟨sl, sg, sp⟩ := swap_know hg hl.out (show (1 : Int) ≤ 1 by omega) (show (1 : Int) ≤ t by omega) (show (1 : Int) ≤ 2 by omega) (show (2 : Int) ≤ t by omega)
      have HAt := Lib.hid (fun (ys : List Int) (gy : gv ys t = true) (e : rnL ys n1 = rnL xs n1) A' c' B W (hr : Rd W B A' n1 ys) (hB : B ≤ W.heap.size) => show Calls Try.prog 26 #[.slice A' n1 c', .int .i64 t] W (RetN W n1 (rnL xs n1)) from (implRenameGrid A' c' n1 B ys t W hr hB (by omega)).mono fun e' w' hh => by rw [rgT ys gy, e] at hh; exact retN_of hh (rnL_len _ _))
      have KX := Lib.hid (HAt.out xs hg rfl)
      have KR := Lib.hid (HAt.out _ gR (rnL_rnL xs n1))
      have KS := Lib.hid (HAt.out _ sg (rnL_pat sp).symm)
      have HSp := Lib.hid (fun W (hr : Rd W w1.heap.size A1 n1 xs) (hB : w1.heap.size ≤ W.heap.size) => show Calls Try.prog 27 #[.slice A1 n1 c1, .int .i64 t] W (RetN W n1 (rnL xs n1)) from (specRenameGrid A1 c1 n1 w1.heap.size xs t W hr hB (by omega)).mono fun e' w' hh => by rw [rgT xs hg] at hh; exact retN_of hh (rnL_len _ _))
      have HS := Lib.hid (fun W (hr : Rd W w1.heap.size A1 n1 xs) (hB : w1.heap.size ≤ W.heap.size) => show Calls Try.prog 20 #[.slice A1 n1 c1, .int .i64 t, .int .i64 1, .int .i64 2] W (RetN W n1 (swapL xs t 1 2)) from (implGridSwap A1 c1 n1 w1.heap.size xs t 1 2 W hr hB (by omega)).mono fun e' w' hh => retN_of hh sl)
      have eF := sqFits_rn hs hnn hl.out hg
      have FR := Lib.hid (fun A' c' B W (hr : Rd W B A' n1 (rnL xs n1)) (hB : B ≤ W.heap.size) => show Calls Try.prog 24 #[.slice A' n1 c', .int .i64 t] W (fun e w' => e = .returned (.bool (sqFits xs t)) ∧ Below W.heap.size W w') from by
        have := Himpl.out A' c' n1 B (rnL xs n1) t W hr hB (by omega)
        rwa [eF] at this)
      have hsame := same_refl (rnL xs n1)
      have Hz := Lib.hid (fun k (hk : k < n1) => show (nth (rnL xs n1) k = 0 ↔ nth xs k = 0) from ((samePat_rn xs n1).1 k hk).symm)
      clear rgT gR sl sg sp hnn HAt eF
      go_wp2_with fail
      refine (KX.out _ _ _ _ hr1 (Nat.le_refl _)).mono ?_
      rintro e w2 ⟨A2, c2, rfl, ho2, hb2⟩
      have hr2 := ho2.rd
      go_wp2_with fail
      refine (HSp.out _ (hr1.below hb2) hb2.size).mono ?_
      rintro e w3 ⟨A3, c3, rfl, ho3, hb3⟩
      go_wp2_with fail
      refine (sameInts_any _ _ _ _ _ _ _ _ _ _ _ (hr2.below hb3) ho3.rd (by omega)).mono ?_
      rintro e w4 ⟨rfl, hb4⟩
      have h24 := step hb3 hb4
      go_wp2
      go_loopw [6] (fun i wr => ∃ k : Nat, k ≤ n1 ∧ i = .int .i64 k ∧ Below w2.heap.size w2 wr) (fun i _ => n1 - (intOf i).toNat)
      case atStart => exact ⟨0, Nat.zero_le _, rfl, h24⟩
      case round =>
        obtain ⟨k, hk, rfl, hb⟩ := hrel
        have h1r := step hb2 hb
        by_cases hlt : k < n1
        · obtain ⟨b, off, rfl, hbB, hck⟩ := (hr2.below hb).at_ hlt
          obtain ⟨b', off', rfl, hbB', hck'⟩ := (hr1.below h1r).at_ hlt
          have hltI : (k : Int) < (n1 : Int) := by omega
          have hzz := Hz.out k hlt
          obtain ⟨bb, he1, he2⟩ : ∃ bb, (nth (rnL xs n1) k == 0) = bb ∧ (nth xs k == 0) = bb := by
            by_cases q : nth xs k = 0
            · exact ⟨true, by simp [hzz.2 q], by simp [q]⟩
            · exact ⟨false, by simp; exact fun z => q (hzz.1 z), by simp [q]⟩
          clear hzz
          go_wp2
          go_quiet (fail)
          go_wp2
          go_roundw
          case rel => exact ⟨k + 1, by omega, by go_num, below_drewN hb _⟩
          case measure => simp [intOf]; omega
        · obtain rfl : k = n1 := by omega
          have h1b := h1r
          go_wp2_with fail
          refine (KR.out _ _ _ _ (hr2.below hb) hb.size).mono ?_
          rintro e w5 ⟨A5, c5, rfl, ho5, hb5⟩
          have h25 := step hb hb5
          go_wp2_with fail
          refine (sameInts_any _ _ _ _ _ _ _ _ _ _ _ ho5.rd (hr2.below h25) (by omega)).mono ?_
          rintro e w6 ⟨rfl, hb6⟩
          have h26 := step h25 hb6
          have h16' := step hb2 h26
          go_wp2_with fail
          refine (HS.out _ (hr1.below h16') h16'.size).mono ?_
          rintro e w7 ⟨A7, c7, rfl, ho7, hb7⟩
          have h27 := step h26 hb7
          go_wp2_with fail
          refine (KS.out _ _ _ _ ho7.rd (Nat.le_refl _)).mono ?_
          rintro e w8 ⟨A8, c8, rfl, ho8, hb8⟩
          have h28 := step h27 hb8
          go_wp2_with fail
          refine (sameInts_any _ _ _ _ _ _ _ _ _ _ _ ho8.rd (hr2.below h28) (by omega)).mono ?_
          rintro e w9 ⟨rfl, hb9⟩
          have h29 := step h28 hb9
          go_wp2_with fail
          refine (FR.out _ _ _ _ (hr2.below h29) h29.size).mono ?_
          rintro e w10 ⟨rfl, hb10⟩
          have h2a := step h29 hb10
          have h1a := step hb2 h2a
          go_wp2_with fail
          refine (Himpl.out _ _ _ _ _ _ _ (hr1.below h1a) h1a.size (by omega)).mono ?_
          rintro e w11 ⟨rfl, hb11⟩
          have hq : (sqFits xs t == sqFits xs t) = true := by simp
          go_wp2
          go_ret
          exact ⟨rfl, step hb1 (step h1a hb11)⟩
  · go_enter Try.func5, Try.ntmps5
    go_wp2
    go_ret
    exact ⟨rfl, Below.refl _ _⟩
end Go.Proofs.Ytlnmioijgclndaa
