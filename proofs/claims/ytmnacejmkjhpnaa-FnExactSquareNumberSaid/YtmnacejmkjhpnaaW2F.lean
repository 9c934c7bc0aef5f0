import Derived.Test.YtmnacejmkjhpnaaW2E
import Derived.Test.YtmnacejmkjhpnaaDraw2
import Derived.Test.YtmnacejmkjhpnaaC1SI
namespace Go.Proofs.Ytmnacejmkjhpnaa
open Go.ChangeShapes Go.WideShapes Go.ChangeAt Go.RowKit

theorem swapV_comm (a b v : Int) : swapV a b v = swapV b a v := by unfold swapV; split <;> split <;> omega
theorem swapV_two (a b v : Int) : swapV a b (swapV a b v) = v := by
  unfold swapV
  by_cases h1 : v = a
  · subst h1; by_cases h2 : b = v <;> simp [h2]
  · by_cases h2 : v = b
    · subst h2; simp [h1]
    · simp [h1, h2]
theorem swapV_inj {a b u v : Int} (h : swapV a b u = swapV a b v) : u = v := by
  have := congrArg (swapV a b) h
  rwa [swapV_two, swapV_two] at this
theorem swapV_pos {a b v : Int} (ha : 1 ≤ a) (hb : 1 ≤ b) : 0 < swapV a b v ↔ 0 < v := by
  unfold swapV
  split
  · omega
  · split <;> omega
theorem swapL_comm (xs : List Int) (size a b : Int) : swapL xs size a b = swapL xs size b a := by
  unfold swapL swapOk
  have : swapG xs a b = swapG xs b a := by funext k; exact swapV_comm _ _ _
  rw [this, Bool.and_assoc, Bool.and_comm (inr a 1 size), ← Bool.and_assoc]
structure SwapFacts (xs : List Int) (size a b : Int) (n : Nat) : Prop where
  len : (swapL xs size a b).length = n
  nth_ : ∀ k, k < n → nth (swapL xs size a b) k = swapV a b (nth xs k)
  valid : gv (swapL xs size a b) size = true
  two : swapL (swapL xs size a b) size a b = xs
  fits : clash (swapL xs size a b) size = clash xs size
theorem swap_all {xs : List Int} {size a b : Int} {n : Nat} (hok : swapOk xs size a b = true) (hl : xs.length = n) : SwapFacts xs size a b n := by
  have hok' := hok
  simp only [swapOk, Bool.and_eq_true] at hok'
  obtain ⟨⟨hg, ha⟩, hb⟩ := hok'
  obtain ⟨a1, a2⟩ := inr_t ha
  obtain ⟨b1, b2⟩ := inr_t hb
  obtain ⟨h2, h4⟩ := gv_size hg
  have e : swapL xs size a b = mapTo (swapG xs a b) n := by unfold swapL; rw [if_pos hok, hl]
  have hn : ∀ k, k < n → nth (swapL xs size a b) k = swapV a b (nth xs k) := fun k hk => by rw [e, mapTo_nth hk]; rfl
  have hl2 : (swapL xs size a b).length = n := by rw [e, mapTo_length]
  have hv : gv (swapL xs size a b) size = true := okAll_gv hl2 (gv_n hg hl).2.2 h2 h4 (fun k hk => by
    rw [hn k hk]
    have := gv_nth hg (k := k) (by omega)
    unfold swapV
    split
    · omega
    · split <;> omega)
  have hok2 : swapOk (swapL xs size a b) size a b = true := by simp [swapOk, hv, ha, hb]
  refine ⟨hl2, hn, hv, ?_, ?_⟩
  · have e2 : swapL (swapL xs size a b) size a b = mapTo (swapG (swapL xs size a b) a b) n := by rw [swapL, if_pos hok2, hl2]
    rw [e2]
    apply ext_nth (by rw [mapTo_length, hl])
    intro k hk
    rw [mapTo_length] at hk
    rw [mapTo_nth hk, swapG, hn k hk, swapV_two]
  · obtain ⟨s, rfl, hs, hls⟩ := size_nat hg
    obtain rfl : n = s * s := by omega
    rw [Bool.eq_iff_iff, clash_iff hs, clash_iff hs]
    constructor
    · rintro ⟨i, j, hi, hj, hadj, he, hp⟩
      rw [hn i hi, hn j hj] at he
      rw [hn j hj] at hp
      exact ⟨i, j, hi, hj, hadj, swapV_inj he, (swapV_pos a1 b1).1 hp⟩
    · rintro ⟨i, j, hi, hj, hadj, he, hp⟩
      exact ⟨i, j, hi, hj, hadj, by rw [hn i hi, hn j hj, he], by rw [hn j hj]; exact (swapV_pos a1 b1).2 hp⟩
theorem sqFits_swap {xs : List Int} {size a b : Int} {n : Nat} (hok : swapOk xs size a b = true) (hl : xs.length = n) : sqFits (swapL xs size a b) size = sqFits xs size := by
  have f := swap_all hok hl
  have hg : gv xs size = true := by simp only [swapOk, Bool.and_eq_true] at hok; exact hok.1.1
  simp [sqFits, hg, f.valid, f.fits]
theorem sqFits_turn {xs : List Int} {size : Int} {n : Nat} (hg : gv xs size = true) (hl : xs.length = n) : sqFits (turnL xs size) size = sqFits xs size := by
  simp [sqFits, hg, (turn_all hg hl).valid, clash_turn hg hl]
theorem sqFits_mir {xs : List Int} {size : Int} {n : Nat} (hg : gv xs size = true) (hl : xs.length = n) : sqFits (mirL xs size) size = sqFits xs size := by
  simp [sqFits, hg, (mir_all hg hl).valid, clash_mir hg hl]
theorem sqFits_set0 {xs : List Int} {size : Int} {k : Nat} (h : sqFits xs size = true) : sqFits (xs.set k 0) size = true := by
  simp only [sqFits, Bool.and_eq_true, Bool.not_eq_true'] at h ⊢
  obtain ⟨s, rfl, hs, hls⟩ := size_nat h.1
  exact ⟨gv_set0 h.1 rfl, clash_set0 hs hls h.2⟩

set_option maxHeartbeats 400000 in
theorem fnGridSwap_walk (himpl : ISquareFits) (A : Option Addr) (c n : Nat) (bs : List Int) (w : World) (h : Code_ w A n c bs) :
    Calls Try.prog 8 #[.slice A n c] w fun e w' => e = .returned (.bool true) ∧ Below w.heap.size w w' := by
  have Himpl := Lib.hid himpl; clear himpl
  by_cases hn : n ≤ 1048576
  · go_enter Try.func8, Try.ntmps8
    go_wp2_with fail
    refine (drawGridSwap _ _ _ _ _ h).mono ?_
    rintro e w1 ⟨A1, n1, c1, xs, s, a, b, rfl, hr1, ⟨h16, hc1, hc2⟩, s0, s1, a0, a1, b0, b1, hb1⟩
    have hl := Lib.hid hr1.1
    have hle : ∀ a b : Int, (swapL xs s a b).length ≤ 16 := fun a b => by
      have := hl.out
      unfold swapL; split
      · rw [mapTo_length]; omega
      · simp
    have hle1 := hle a b
    have hle2 := hle b a
    clear hle
    go_wp2_with fail
    refine (implGridSwap _ _ _ _ _ _ _ _ _ hr1 (Nat.le_refl _) (by omega)).mono ?_
    rintro e w2 ⟨A2, c2, rfl, ho2, hb2⟩
    have hr2 := ho2.rd
    have hsame := same_refl (swapL xs s a b)
    go_wp2_with fail
    refine (specGridSwap _ _ _ _ _ _ _ _ _ (hr1.below hb2) hb2.size (by omega)).mono ?_
    rintro e w3 ⟨A3, c3, rfl, ho3, hb3⟩
    go_wp2_with fail
    refine (sameInts_any _ _ _ _ _ _ _ _ _ _ _ (hr2.below hb3) ho3.rd (by omega)).mono ?_
    rintro e w4 ⟨rfl, hb4⟩
    have h24 := step hb3 hb4
    have h14 := step hb2 h24
    go_wp2_with fail
    refine (implGridSwap _ _ _ _ _ _ _ _ _ (hr1.below h14) h14.size (by omega)).mono ?_
    rintro e w5 ⟨A5, c5, rfl, ho5, hb5⟩
    have h25 := step h24 hb5
    go_wp2_with fail
    refine (sameInts_any _ _ _ _ _ _ _ _ _ _ _ (hr2.below h25) ho5.rd (by omega)).mono ?_
    rintro e w6 ⟨rfl, hb6⟩
    rw [show same (swapL xs s a b) (swapL xs s b a) = true by rw [swapL_comm xs s a b]; exact same_refl _]
    have h26 := step h25 hb6
    have h16' := step hb2 h26
    have h06 := step hb1 h16'
    cases hok : swapOk xs s a b
    · have hz : (((swapL xs s a b).length : Int) == 0) = true := by simp [swapL, hok]
      go_wp2_with fail
      refine (alive_any _).mono ?_
      rintro e w7 ⟨rfl, hb7⟩
      go_wp2
      go_ret
      exact ⟨rfl, step h06 hb7⟩
    · have hf := Lib.hid (swap_all hok hl.out)
      have hft := Lib.hid (sqFits_swap hok hl.out)
      have hnn : 4 ≤ n1 := by
        simp only [swapOk, Bool.and_eq_true] at hok
        exact (gv_n hok.1.1 hl.out).1
      have hz : (((swapL xs s a b).length : Int) == 0) = false := by rw [hf.out.len]; simp; omega
      have hle3 : (swapL (swapL xs s a b) s a b).length ≤ 16 := by rw [hf.out.two, hl.out]; exact h16
      go_wp2_with fail
      refine (implGridSwap _ _ _ _ _ _ _ _ _ (hr2.below h26) h26.size (by omega)).mono ?_
      rintro e w7 ⟨A7, c7, rfl, ho7, hb7⟩
      go_wp2_with fail
      refine (sameInts_any _ _ _ _ _ _ _ _ _ _ _ ho7.rd (hr1.below (step h16' hb7)) (by omega)).mono ?_
      rintro e w8 ⟨rfl, hb8⟩
      rw [show same (swapL (swapL xs s a b) s a b) xs = true by rw [hf.out.two]; exact same_refl _]
      have h68 := step hb7 hb8
      go_wp2_with fail
      refine (Himpl.out _ _ _ _ _ _ _ (hr2.below (step h26 h68)) (step h26 h68).size (by omega)).mono ?_
      rintro e w9 ⟨rfl, hb9⟩
      rw [hft.out]
      have h69 := step h68 hb9
      go_wp2_with fail
      refine (Himpl.out _ _ _ _ _ _ _ (hr1.below (step h16' h69)) (step h16' h69).size (by omega)).mono ?_
      rintro e w10 ⟨rfl, hb10⟩
      have hq : (sqFits xs s == sqFits xs s) = true := by simp
      go_wp2
      go_ret
      exact ⟨rfl, step (step h06 h69) hb10⟩
  · go_enter Try.func8, Try.ntmps8
    go_wp2
    go_ret
    exact ⟨rfl, Below.refl _ _⟩
set_option maxHeartbeats 400000 in
theorem fnSquareFits_walk (himpl : ISquareFits) (A : Option Addr) (c n : Nat) (bs : List Int) (w : World) (h : Code_ w A n c bs) :
    Calls Try.prog 3 #[.slice A n c] w fun e w' => e = .returned (.bool true) ∧ Below w.heap.size w w' := by
  have Himpl := Lib.hid himpl; clear himpl
  by_cases hn : n ≤ 1048576
  · go_enter Try.func3, Try.ntmps3
    go_wp2_with fail
    refine (drawSquareFits _ _ _ _ _ h).mono ?_
    rintro e w1 ⟨A1, n1, c1, xs, s, rfl, hr1, ⟨h16, hc1, hc2⟩, s0, s1, _, hb1⟩
    have hl := Lib.hid hr1.1
    go_wp2_with fail
    refine (Himpl.out _ _ _ _ _ _ _ hr1 (Nat.le_refl _) (by omega)).mono ?_
    rintro e w2 ⟨rfl, hb2⟩
    go_wp2_with fail
    refine (specSquareFits _ _ _ _ _ _ _ (hr1.below hb2) hb2.size (by omega)).mono ?_
    rintro e w3 ⟨rfl, hb3⟩
    have hne : (sqFits xs s != sqFits xs s) = false := by simp
    have h13 := step hb2 hb3
    have hr3 := hr1.below h13
    have h03 := step hb1 h13
    cases hg : gv xs s
    · have hsf : sqFits xs s = false := by simp [sqFits, hg]
      go_wp2_with fail
      refine (specGridValid _ _ _ _ _ _ _ hr3 (by omega)).mono ?_
      rintro e w3' ⟨rfl, rfl⟩
      go_wp2_with fail
      refine (alive_any _).mono ?_
      rintro e w4 ⟨rfl, hb4⟩
      go_wp2
      go_ret
      exact ⟨rfl, step h03 hb4⟩
    · obtain ⟨hn4, _, _⟩ := gv_n hg hl.out
      have ht := Lib.hid (sqFits_turn hg hl.out)
      have hmm := Lib.hid (sqFits_mir hg hl.out)
      have tl := Lib.hid (turn_all hg hl.out).len
      have ml := Lib.hid (mir_all hg hl.out).len
      have hst := Lib.hid (fun hf : sqFits xs s = true => sqFits_set0 (k := 0) hf)
      go_wp2_with fail
      refine (specGridValid _ _ _ _ _ _ _ hr3 (by omega)).mono ?_
      rintro e w3' ⟨rfl, rfl⟩
      obtain ⟨bb, off, rfl, _, _⟩ := hr3.at_ (k := 0) (by omega)
      go_wp2_with (at_builtin; refine push_some rfl (.tmp 32) (.tmp 33) rfl w3.heap.size (some ⟨w3.heap.size, 0, none⟩) 0 0 [] bb off n1 c1 w1.heap.size xs rfl rfl (Ow.made0 _ _ (Nat.le_refl _)) (hr3.alloc h13.size _) (by omega) (by omega) (by simp) ?_; intro A4 c4 w4 ho4 hg4; simp only [Nat.zero_add, List.nil_append] at ho4; obtain ⟨g, rfl, hlog, hgw⟩ := ho4.form (by omega); obtain ⟨hcq, hfq⟩ := ho4.cell (k := 0) (by omega))
      have ho5 := ho4.put 0 0
      have hb5 : Below w3.heap.size w3 (w4.setCell ⟨g, 0, none⟩ (.int .i64 0)) := (copy_below hg4).setCell hlog _
      generalize w4.setCell ⟨g, 0, none⟩ (.int .i64 0) = W5 at *
      have hrl := ho5.rd
      have h15 := step h13 hb5
      refine (implGridTurn _ _ _ _ _ _ _ (hr1.below h15) h15.size (by omega)).mono ?_
      rintro e w6 ⟨A6, c6, rfl, ho6, hb6⟩
      go_wp2_with fail
      refine (Himpl.out _ _ _ _ _ _ _ ho6.rd (Nat.le_refl _) (by rw [tl.out]; omega)).mono ?_
      rintro e w7 ⟨rfl, hb7⟩
      rw [ht.out]
      have hq : (sqFits xs s == sqFits xs s) = true := by simp
      have h57 := step hb6 hb7
      have h17 := step h15 h57
      go_wp2_with fail
      refine (implGridMirror _ _ _ _ _ _ _ (hr1.below h17) h17.size (by omega)).mono ?_
      rintro e w8 ⟨A8, c8, rfl, ho8, hb8⟩
      go_wp2_with fail
      refine (Himpl.out _ _ _ _ _ _ _ ho8.rd (Nat.le_refl _) (by rw [ml.out]; omega)).mono ?_
      rintro e w9 ⟨rfl, hb9⟩
      rw [hmm.out]
      have h59 := step h57 (step hb8 hb9)
      have h09 := step (step h03 hb5) h59
      cases hf : sqFits xs s
      · go_wp2
        go_ret
        exact ⟨rfl, h09⟩
      · have hs1 := Lib.hid (hst.out hf)
        go_wp2_with fail
        refine (Himpl.out _ _ _ _ _ _ _ (hrl.below h59) h59.size (by omega)).mono ?_
        rintro e w10 ⟨rfl, hb10⟩
        rw [hs1.out]
        go_wp2
        go_ret
        exact ⟨rfl, step h09 hb10⟩
  · go_enter Try.func3, Try.ntmps3
    go_wp2
    go_ret
    exact ⟨rfl, Below.refl _ _⟩
theorem sqOf_facts {s : Int} (h2 : 2 ≤ s) (h4 : s ≤ 4) : (sqOfL s).length = (s * s).toNat ∧ sqSolved (sqOfL s) s = true ∧ ∀ k : Nat, (k : Int) < s → nth (sqOfL s) k = k + 1 := by
  have hs : s = 2 ∨ s = 3 ∨ s = 4 := by omega
  rcases hs with rfl | rfl | rfl
  · refine ⟨by decide, by decide +kernel, fun k hk => ?_⟩
    have : k = 0 ∨ k = 1 := by omega
    rcases this with rfl | rfl <;> decide
  · refine ⟨by decide, by decide +kernel, fun k hk => ?_⟩
    have : k = 0 ∨ k = 1 ∨ k = 2 := by omega
    rcases this with rfl | rfl | rfl <;> decide
  · refine ⟨by decide, by decide +kernel, fun k hk => ?_⟩
    have : k = 0 ∨ k = 1 ∨ k = 2 ∨ k = 3 := by omega
    rcases this with rfl | rfl | rfl | rfl <;> decide
theorem fnSquareOf_walk (himpl : ISquareOf) (hsol : ISquareSolved) (A : Option Addr) (c n : Nat) (bs : List Int) (w : World) (h : Code_ w A n c bs) :
    Calls Try.prog 5 #[.slice A n c] w fun e w' => e = .returned (.bool true) ∧ Below w.heap.size w w' := by
  have Himpl := Lib.hid himpl; clear himpl
  have Hsol := Lib.hid hsol; clear hsol
  by_cases hn : n ≤ 1048576
  · go_enter Try.func5, Try.ntmps5
    go_wp2_with fail
    refine (drawSquareOf _ _ _ _ _ h).mono ?_
    rintro e w1 ⟨s, rfl, s0, s1, hb1⟩
    have hle := sqOfL_length s
    go_wp2_with fail
    refine (Himpl.out _ _ (by omega)).mono ?_
    rintro e w2 ⟨A2, c2, rfl, ho2, hb2⟩
    have hr2 := ho2.rd
    have hsame := same_refl (sqOfL s)
    go_wp2_with fail
    refine (specSquareOf _ _ (by omega)).mono ?_
    rintro e w3 ⟨A3, c3, rfl, ho3, hb3⟩
    go_wp2_with fail
    refine (sameInts_any _ _ _ _ _ _ _ _ _ _ _ (hr2.below hb3) ho3.rd (by omega)).mono ?_
    rintro e w4 ⟨rfl, hb4⟩
    have h24 := step hb3 hb4
    have hr4 := hr2.below h24
    have h04 := step (step hb1 hb2) h24
    by_cases h2 : 2 ≤ s
    · by_cases h4 : s ≤ 4
      · obtain ⟨fl, fs, fk⟩ := sqOf_facts h2 h4
        obtain ⟨q4, q16⟩ := sq_bd h2 h4
        have hz : (((sqOfL s).length : Int) == 0) = false := by rw [fl]; simp; omega
        have hge : s ≤ ((sqOfL s).length : Int) := by
          rw [fl]
          have : s = 2 ∨ s = 3 ∨ s = 4 := by omega
          rcases this with rfl | rfl | rfl <;> decide
        have Fs := Lib.hid fs
        have Fk := Lib.hid fk
        clear fl fs fk q4 q16
        go_wp2
        go_loop [5] (fun i => ∃ k : Nat, (k : Int) ≤ s ∧ i = .int .i64 k) (fun i => (s - intOf i).toNat)
        case atStart => exact ⟨0, by omega, rfl⟩
        case round =>
          obtain ⟨k, hk, rfl⟩ := hrel
          by_cases hlt : (k : Int) < s
          · obtain ⟨bb, off, rfl, _, hck⟩ := hr4.at_ (k := k) (by omega)
            rw [Fk.out k hlt] at hck
            have hne : ((k : Int) + 1 != (k : Int) + 1) = false := by simp
            go_wp2
            go_round
            case rel => exact ⟨k + 1, by omega, by go_num⟩
            case measure => simp [intOf]; omega
          · go_wp2_with fail
            refine (Hsol.out _ _ _ _ _ _ _ hr4 h24.size (by omega)).mono ?_
            rintro e w5 ⟨rfl, hb5⟩
            rw [Fs.out]
            go_wp2
            go_ret
            exact ⟨rfl, step h04 hb5⟩
      · have hz : (((sqOfL s).length : Int) == 0) = true := by
          have : inr s 2 4 = false := by simp [inr]; omega
          simp [sqOfL, this]
        go_wp2_with fail
        refine (alive_any _).mono ?_
        rintro e w5 ⟨rfl, hb5⟩
        go_wp2
        go_ret
        exact ⟨rfl, step h04 hb5⟩
    · have hz : (((sqOfL s).length : Int) == 0) = true := by
        have : inr s 2 4 = false := by simp [inr]; omega
        simp [sqOfL, this]
      go_wp2_with fail
      refine (alive_any _).mono ?_
      rintro e w5 ⟨rfl, hb5⟩
      go_wp2
      go_ret
      exact ⟨rfl, step h04 hb5⟩
  · go_enter Try.func5, Try.ntmps5
    go_wp2
    go_ret
    exact ⟨rfl, Below.refl _ _⟩
end Go.Proofs.Ytmnacejmkjhpnaa
