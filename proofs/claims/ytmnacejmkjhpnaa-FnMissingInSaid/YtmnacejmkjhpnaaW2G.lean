import Derived.Test.YtmnacejmkjhpnaaW1G
import Derived.Test.YtmnacejmkjhpnaaMiss
namespace Go.Proofs.Ytmnacejmkjhpnaa
open Go.ChangeShapes Go.WideShapes Go.ChangeAt Go.RowKit

theorem fnSwapMissing_walk (himpl : IMissingIn) (A : Option Addr) (c n : Nat) (bs : List Int) (w : World) (h : Code_ w A n c bs) :
    Calls Try.prog 9 #[.slice A n c] w fun e w' => e = .returned (.bool true) ∧ Below w.heap.size w w' := by
  have Himpl := Lib.hid himpl; clear himpl
  by_cases hn : n ≤ 1048576
  · go_enter Try.func9, Try.ntmps9
    go_wp2_with fail
    refine (drawMissingIn _ _ _ _ _ h).mono ?_
    rintro e w1 ⟨A1, n1, c1, xs, s, l, rfl, hr1, ⟨h16, hc1, hc2⟩, s0, s1, l0, l1, hb1⟩
    have hl := Lib.hid hr1.1
    have hle := missL_length xs s l
    have hms := miss_swap (size := s) (line := l) hl.out
    have hsl : (swapL xs s 1 2).length ≤ 16 := by
      have := hl.out
      unfold swapL; split
      · rw [mapTo_length]; omega
      · simp
    have hq : ((((missL (swapL xs s 1 2) s l).length : Nat) : Int) == (((missL xs s l).length : Nat) : Int)) = true := by rw [hms]; simp
    clear hms
    go_wp2_with fail
    refine (Himpl.out _ _ _ _ _ _ _ _ hr1 (Nat.le_refl _) (by omega) (by omega)).mono ?_
    rintro e w2 ⟨A2, c2, rfl, ho2, hb2⟩
    have hr2 := ho2.rd
    have hsame := same_refl (missL xs s l)
    go_wp2_with fail
    refine (specMissingIn _ _ _ _ _ _ _ _ (hr1.below hb2) hb2.size (by omega) (by omega)).mono ?_
    rintro e w3 ⟨A3, c3, rfl, ho3, hb3⟩
    go_wp2_with fail
    refine (sameInts_any _ _ _ _ _ _ _ _ _ _ _ (hr2.below hb3) ho3.rd (by omega)).mono ?_
    rintro e w4 ⟨rfl, hb4⟩
    have h14 := step hb2 (step hb3 hb4)
    go_wp2_with fail
    refine (implGridSwap _ _ _ _ _ _ _ _ _ (hr1.below h14) h14.size (by omega)).mono ?_
    rintro e w5 ⟨A5, c5, rfl, ho5, hb5⟩
    go_wp2_with fail
    refine (Himpl.out _ _ _ _ _ _ _ _ ho5.rd (Nat.le_refl _) (by omega) (by omega)).mono ?_
    rintro e w6 ⟨A6, c6, rfl, ho6, hb6⟩
    have h06 := step (step (step hb1 h14) hb5) hb6
    go_wp2_with fail
    refine (alive_any _).mono ?_
    rintro e w7 ⟨rfl, hb7⟩
    go_wp2
    go_ret
    exact ⟨rfl, step h06 hb7⟩
  · go_enter Try.func9, Try.ntmps9
    go_wp2
    go_ret
    exact ⟨rfl, Below.refl _ _⟩
set_option maxHeartbeats 400000 in
theorem fnSquareSolved_walk (himpl : ISquareSolved) (hmiss : IMissingIn) (A : Option Addr) (c n : Nat) (bs : List Int) (w : World) (h : Code_ w A n c bs) :
    Calls Try.prog 4 #[.slice A n c] w fun e w' => e = .returned (.bool true) ∧ Below w.heap.size w w' := by
  have Himpl := Lib.hid himpl; clear himpl
  have Hmiss := Lib.hid hmiss; clear hmiss
  by_cases hn : n ≤ 1048576
  · go_enter Try.func4, Try.ntmps4
    go_wp2_with fail
    refine (drawSquareSolved _ _ _ _ _ h).mono ?_
    rintro e w1 ⟨A1, n1, c1, xs, s, rfl, hr1, ⟨h16, hc1, hc2⟩, s0, s1, _, hb1⟩
    have hl := Lib.hid hr1.1
    go_wp2_with fail
    refine (Himpl.out _ _ _ _ _ _ _ hr1 (Nat.le_refl _) (by omega)).mono ?_
    rintro e w2 ⟨rfl, hb2⟩
    go_wp2_with fail
    refine (specSquareSolved _ _ _ _ _ _ _ (hr1.below hb2) hb2.size (by omega)).mono ?_
    rintro e w3 ⟨rfl, hb3⟩
    have hne : (sqSolved xs s != sqSolved xs s) = false := by simp
    have h13 := step hb2 hb3
    have h03 := step hb1 h13
    cases hs : sqSolved xs s
    · go_wp2_with fail
      refine (alive_any _).mono ?_
      rintro e w4 ⟨rfl, hb4⟩
      go_wp2
      go_ret
      exact ⟨rfl, step h03 hb4⟩
    · have hsol := Lib.hid hs
      have hg := ((solved_iff hl.out).1 hs).1
      have hst := Lib.hid (sqSolved_turn hl.out hs)
      have htl := Lib.hid (turn_all hg hl.out).len
      obtain ⟨h2, h4⟩ := gv_size hg
      have hsq := (gv_n hg hl.out).2.2
      have hgf : gf xs s = (n1 : Int) := by
        have hs' := hs
        simp only [sqSolved, Bool.and_eq_true, beq_iff_eq] at hs'
        rw [hs'.2, hsq]
      have hw : wrap64 (s * s) = (n1 : Int) := by rw [sq_wrap h2 h4, hsq]
      have Hgf := Lib.hid hgf
      clear hg hsq hgf hne
      go_wp2
      go_loopw [6] (fun i wr => ∃ k : Nat, (k : Int) ≤ 2 * s ∧ i = .int .i64 k ∧ Below w3.heap.size w3 wr) (fun i _ => (2 * s - intOf i).toNat)
      case atStart => exact ⟨0, by omega, rfl, Below.refl _ _⟩
      case round =>
        obtain ⟨k, hk, rfl, hb⟩ := hrel
        have h1r := h13.trans (hb.mono h13.size)
        by_cases hlt : (k : Int) < 2 * s
        · have hfull := Lib.hid (solved_full (line := (k : Int)) hl.out hsol.out (by omega) hlt)
          go_wp2_with fail
          refine (Hmiss.out _ _ _ _ _ _ _ _ (hr1.below h1r) h1r.size (by omega) (by omega)).mono ?_
          rintro e w4 ⟨A4, c4, rfl, ho4, hb4⟩
          rw [hfull.out]
          go_wp2
          go_roundw
          case rel => exact ⟨k + 1, by omega, by go_num, step hb hb4⟩
          case measure => simp [intOf]; omega
        · go_wp2_with fail
          refine (implGridTurn _ _ _ _ _ _ _ (hr1.below h1r) h1r.size (by omega)).mono ?_
          rintro e w4 ⟨A4, c4, rfl, ho4, hb4⟩
          go_wp2_with fail
          refine (Himpl.out _ _ _ _ _ _ _ ho4.rd (Nat.le_refl _) (by rw [htl.out]; omega)).mono ?_
          rintro e w5 ⟨rfl, hb5⟩
          rw [hst.out]
          have h1s := step (step h1r hb4) hb5
          have h0s := step hb1 h1s
          go_wp2_with fail
          refine (implGridFilled _ _ _ _ _ _ _ (hr1.below h1s) h1s.size (by omega)).mono ?_
          rintro e w6 ⟨rfl, hb6⟩
          rw [Hgf.out]
          go_wp2
          go_ret
          exact ⟨rfl, step h0s hb6⟩
  · go_enter Try.func4, Try.ntmps4
    go_wp2
    go_ret
    exact ⟨rfl, Below.refl _ _⟩
set_option maxHeartbeats 400000 in
theorem fnMissingIn_walk (himpl : IMissingIn) (hfits : ISquareFits) (A : Option Addr) (c n : Nat) (bs : List Int) (w : World) (h : Code_ w A n c bs) :
    Calls Try.prog 7 #[.slice A n c] w fun e w' => e = .returned (.bool true) ∧ Below w.heap.size w w' := by
  have Himpl := Lib.hid himpl; clear himpl
  have Hfits := Lib.hid hfits; clear hfits
  by_cases hn : n ≤ 1048576
  · go_enter Try.func7, Try.ntmps7
    go_wp2_with fail
    refine (drawMissingIn _ _ _ _ _ h).mono ?_
    rintro e w1 ⟨A1, n1, c1, xs, s, l, rfl, hr1, ⟨h16, hc1, hc2⟩, s0, s1, l0, l1, hb1⟩
    have hl := Lib.hid hr1.1
    have hle := missL_length xs s l
    have hle2 := lineL_length s l
    go_wp2_with fail
    refine (Himpl.out _ _ _ _ _ _ _ _ hr1 (Nat.le_refl _) (by omega) (by omega)).mono ?_
    rintro e w2 ⟨A2, c2, rfl, ho2, hb2⟩
    have hr2 := ho2.rd
    have hsame := same_refl (missL xs s l)
    go_wp2_with fail
    refine (specMissingIn _ _ _ _ _ _ _ _ (hr1.below hb2) hb2.size (by omega) (by omega)).mono ?_
    rintro e w3 ⟨A3, c3, rfl, ho3, hb3⟩
    go_wp2_with fail
    refine (sameInts_any _ _ _ _ _ _ _ _ _ _ _ (hr2.below hb3) ho3.rd (by omega)).mono ?_
    rintro e w4 ⟨rfl, hb4⟩
    have h24 := step hb3 hb4
    go_wp2_with fail
    refine (implLineCells _ _ _ (by omega)).mono ?_
    rintro e w5 ⟨A5, c5, rfl, ho5, hb5⟩
    have hr5 := ho5.rd
    have h25 := step h24 hb5
    have h15 := step hb2 h25
    have h05 := step hb1 h15
    cases hg : gv xs s
    · have hz : (((missL xs s l).length : Int) == 0) = true := by simp [missL, hg]
      go_wp2_with (go_at_call 23; refine (specGridValid _ _ _ _ _ _ _ (hr1.below h15) (by omega)).mono ?_; rintro e w' ⟨rfl, rfl⟩)
      refine (alive_any _).mono ?_
      rintro e w7 ⟨rfl, hb7⟩
      go_wp2
      go_ret
      exact ⟨rfl, step h05 hb7⟩
    · rcases lineL_cases s l with he | ⟨h2, h4, hl0, hl1⟩
      · have hz2 : (((lineL s l).length : Int) == 0) = true := by simp [he]
        have hz : (((missL xs s l).length : Int) == 0) = true := by
          have : lineOk s l = false := by
            cases hlo : lineOk s l
            · rfl
            · have h9 := lineTo_length s l s.toNat
              rw [lineL, if_pos hlo] at he
              rw [he] at h9
              have := gv_size hg
              simp at h9; omega
          simp [missL, this]
        clear he
        go_wp2_with (go_at_call 23; refine (specGridValid _ _ _ _ _ _ _ (hr1.below h15) (by omega)).mono ?_; rintro e w' ⟨rfl, rfl⟩)
        refine (alive_any _).mono ?_
        rintro e w7 ⟨rfl, hb7⟩
        go_wp2
        go_ret
        exact ⟨rfl, step h05 hb7⟩
      · obtain ⟨S, rfl⟩ := Int.eq_ofNat_of_zero_le (by omega : 0 ≤ s)
        obtain ⟨L, rfl⟩ := Int.eq_ofNat_of_zero_le hl0
        have hlen := lineL_full (s := S) (l := L) (by omega) (by omega) (by omega)
        have hz2 : (((lineL (S : Int) (L : Int)).length : Int) == 0) = false := by rw [hlen]; simp; omega
        have Hlen := Lib.hid hlen; clear hlen
        have hLL := Lib.hid (lineL_ok (size := (S : Int)) (l := L) h2 h4 hl1)
        have hsq := Lib.hid (gv_n hg hl.out).2.2
        have hfv := Lib.hid (lineV_ok hg hl.out hl0 hl1)
        have hml := missL_line hg hl0 hl1
        rw [Int.toNat_natCast] at hml
        have Hml := Lib.hid hml; clear hml
        have hcnt := miss_count (f := lineV xs (S : Int) (L : Int)) (s := S) (by simp; omega) (fun i hi => hfv.out i (by omega))
        rw [← Hml.out] at hcnt
        obtain ⟨hge, heq⟩ := hcnt
        have heq' : sqFits xs (S : Int) = true → (missL xs (S : Int) (L : Int)).length + posTo (lineV xs (S : Int) (L : Int)) S = S := fun hf => heq (by
          simp only [sqFits, Bool.and_eq_true, Bool.not_eq_true'] at hf
          have := line_dup hf.2 hl0 hl1
          rwa [Int.toNat_natCast] at this)
        have Heq := Lib.hid heq'
        clear heq heq'
        have hno : ∀ j k : Nat, j < (missL xs (S : Int) (L : Int)).length → k < S → nth (missL xs (S : Int) (L : Int)) j ≠ lineV xs (S : Int) (L : Int) k := by
          intro j k hj hk he
          have hm : nth (missL xs (S : Int) (L : Int)) j ∈ missL xs (S : Int) (L : Int) := by
            have : nth (missL xs (S : Int) (L : Int)) j = (missL xs (S : Int) (L : Int))[j] := by simp [nth, List.getD_eq_getElem?_getD, hj]
            rw [this]; exact List.getElem_mem hj
          rw [Hml.out] at hm
          have h1 := missTo_mem hm
          have h2 : hasTo (lineV xs (S : Int) (L : Int)) S (lineV xs (S : Int) (L : Int) k) = true := hasTo_iff.2 ⟨k, hk, rfl⟩
          rw [Hml.out] at he
          rw [he, h2] at h1
          cases h1
        have Hno := Lib.hid hno; clear hno
        go_wp2_with (go_at_call 23; refine (specGridValid _ _ _ _ _ _ _ (hr1.below h15) (by omega)).mono ?_; rintro e w' ⟨rfl, rfl⟩)
        go_loop [8, 9] (fun q i => ∃ k : Nat, k ≤ (lineL (S : Int) (L : Int)).length ∧ i = .int .i64 k ∧ q = .int .i64 (posTo (lineV xs (S : Int) (L : Int)) k)) (fun _ i => (lineL (S : Int) (L : Int)).length - (intOf i).toNat)
        case atStart => exact ⟨0, by omega, rfl, rfl⟩
        case round =>
          obtain ⟨k, hk, rfl, rfl⟩ := hrel
          have hpk := posTo_le (lineV xs (S : Int) (L : Int)) k
          by_cases hkl : k < (lineL (S : Int) (L : Int)).length
          · have hks : (k : Int) < (S : Int) := by have := Hlen.out; omega
            obtain ⟨g1, o1, rfl, _, hk1⟩ := hr5.at_ hkl
            have hval : nth (lineL (S : Int) (L : Int)) k = lineAt (S : Int) (L : Int) k := by rw [hLL.out, lineTo_nth (by omega)]
            rw [hval] at hk1
            obtain ⟨x0, x1⟩ := line_ix (k := k) h2 h4 hsq.out hl0 hl1 hks
            obtain ⟨q, hq⟩ := Int.eq_ofNat_of_zero_le x0
            have hqn : q < n1 := by omega
            obtain ⟨g0, o0, rfl, _, hk0⟩ := (hr1.below h15).at_ hqn
            have hv : lineV xs (S : Int) (L : Int) k = nth xs q := by unfold lineV; rw [hq]; rfl
            rw [hq] at hk1
            have hnj := Lib.hid (fun (j : Nat) (hj : j < (missL xs (S : Int) (L : Int)).length) => (hv ▸ Hno.out j k hj (by omega) : nth (missL xs (S : Int) (L : Int)) j ≠ nth xs q))
            have hps := Lib.hid (show posTo (lineV xs (S : Int) (L : Int)) (k + 1) = posTo (lineV xs (S : Int) (L : Int)) k + if 0 < nth xs q then 1 else 0 by rw [posTo, hv])
            clear hq hval hv
            by_cases hp : 0 < nth xs q
            all_goals
              go_wp2
              go_loop [11] (fun j => ∃ t : Nat, t ≤ (missL xs (S : Int) (L : Int)).length ∧ j = .int .i64 t) (fun j => (missL xs (S : Int) (L : Int)).length - (intOf j).toNat)
              case atStart => exact ⟨0, by omega, rfl⟩
              case round =>
                obtain ⟨t, ht, rfl⟩ := hrel
                by_cases htl : t < (missL xs (S : Int) (L : Int)).length
                · obtain ⟨g2, o2, rfl, _, hk2⟩ := (hr2.below h25).at_ htl
                  have hne : (nth (missL xs (S : Int) (L : Int)) t == nth xs q) = false := by simpa using hnj.out t htl
                  go_wp2
                  go_round
                  case rel => exact ⟨t + 1, by omega, by go_num⟩
                  case measure => simp [intOf]; omega
                · go_wp2
                  go_round
                  case rel => exact ⟨k + 1, by omega, by go_num, by rw [hps.out]; split <;> first | go_num | (exfalso; omega)⟩
                  case measure => simp [intOf]; omega
          · have hkS : k = S := by have := Hlen.out; omega
            have hge2 : (S : Int) - (posTo (lineV xs (S : Int) (L : Int)) k : Int) ≤ ((missL xs (S : Int) (L : Int)).length : Int) := by rw [hkS]; omega
            cases hsf : sqFits xs (S : Int)
            · clear hkS
              go_wp2_with fail
              refine (Hfits.out _ _ _ _ _ _ _ (hr1.below h15) h15.size (by omega)).mono ?_
              rintro e w6 ⟨rfl, hb6⟩
              rw [hsf]
              go_wp2
              go_ret
              exact ⟨rfl, step h05 hb6⟩
            · have hqq : (((missL xs (S : Int) (L : Int)).length : Int) == (S : Int) - (posTo (lineV xs (S : Int) (L : Int)) k : Int)) = true := by
                have := Heq.out hsf
                rw [hkS]; simp; omega
              clear hkS
              go_wp2_with fail
              refine (Hfits.out _ _ _ _ _ _ _ (hr1.below h15) h15.size (by omega)).mono ?_
              rintro e w6 ⟨rfl, hb6⟩
              rw [hsf]
              go_wp2
              go_ret
              exact ⟨rfl, step h05 hb6⟩
  · go_enter Try.func7, Try.ntmps7
    go_wp2
    go_ret
    exact ⟨rfl, Below.refl _ _⟩
end Go.Proofs.Ytmnacejmkjhpnaa
