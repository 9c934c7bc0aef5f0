import Derived.Test.YtlnmioijgclndaaCmp
import Derived.Test.YtlnmioijgclndaaDrawL
import Derived.Test.YtlnmioijgclndaaC1SI
import Derived.Test.YtlnmioijgclndaaW2E
set_option maxRecDepth 8000
namespace Go.Proofs.Ytlnmioijgclndaa
open Go.ChangeShapes Go.WideShapes Go.ChangeAt Go.RowKit
/-! the promises of chapter 11. -/
theorem swapV_eq {a b u v : Int} : swapV a b u = swapV a b v ↔ u = v := by
  unfold swapV
  constructor
  · intro h
    repeat' split at h
    all_goals omega
  · intro h; rw [h]
theorem swapV_zero {a b v : Int} (ha : a ≠ 0) (hb : b ≠ 0) : v = 0 ↔ swapV a b v = 0 := by
  unfold swapV
  repeat' split
  all_goals omega
theorem swap_pat {xs : List Int} {a b : Int} {n : Nat} (ha : a ≠ 0) (hb : b ≠ 0) : SamePat xs (mapTo (swapG xs a b) n) n :=
  ⟨fun i hi => by rw [mapTo_nth hi]; exact swapV_zero ha hb, fun i j hi hj => by rw [mapTo_nth hi, mapTo_nth hj]; exact swapV_eq.symm⟩
/-- what is known of a grid with two values exchanged. -/
theorem swap_know {xs : List Int} {s a b : Int} {n : Nat} (hg : gv xs s = true) (hl : xs.length = n) (a1 : 1 ≤ a) (a2 : a ≤ s) (b1 : 1 ≤ b) (b2 : b ≤ s) : (swapL xs s a b).length = n ∧ gv (swapL xs s a b) s = true ∧ SamePat xs (swapL xs s a b) n := by
  have hok : swapOk xs s a b = true := by simp [swapOk, hg, inr, a1, a2, b1, b2]
  have e : swapL xs s a b = mapTo (swapG xs a b) n := by simp [swapL, hok, hl]
  rw [e]
  refine ⟨mapTo_length _ _, okAll_gv (mapTo_length _ _) (gv_n hg hl).2.2 (gv_size hg).1 (gv_size hg).2 (fun k hk => ?_), swap_pat (by omega) (by omega)⟩
  rw [mapTo_nth hk]
  have := gv_nth hg (show k < xs.length by omega)
  show 0 ≤ swapV a b (nth xs k) ∧ swapV a b (nth xs k) ≤ s
  unfold swapV
  repeat' split
  all_goals omega
theorem cn_know {xs : List Int} {s n : Nat} (hs : s ∈ [2, 3, 4]) (hn : n = s * s) (hl : xs.length = n) (hg : gv xs s = true) : (cnL xs s n).length = n ∧ gv (cnL xs s n) s = true ∧ SameForms (rf (cnL xs s n) s n) (rf xs s n) := by
  obtain ⟨a, ha, e⟩ := cn_mem (n := n) hg
  rw [e]
  exact ⟨rf_len _ _ _ _, rf_gv hs hn hl hg a, forms_rf hs hn hl ha⟩
/-- a contract of the program's CanonicalGrid at a grid of the same forms. -/
theorem canon_at {xs ys : List Int} {s n : Nat} (hs : s ∈ [2, 3, 4]) (hn : n = s * s) (lx : xs.length = n) (ly : ys.length = n) (gx : gv xs s = true) (gy : gv ys s = true) (h : SameForms (rf ys s n) (rf xs s n)) (A : Option Addr) (c B : Nat) (W : World) (hr : Rd W B A n ys) (hB : B ≤ W.heap.size) (hm : n ≤ 1099511627776) :
    Calls Try.prog 14 #[.slice A n c, .int .i64 s] W (RetN W n (cnL xs s n)) := by
  have e := cn_same hs hn ly lx gy gx h
  refine (implCanonicalGrid A c n B ys s W hr hB hm).mono fun e' w' hh => ?_
  rw [e] at hh
  exact retN_of hh (cn_know hs hn lx gx).1
set_option maxHeartbeats 2000000 in
theorem canonicalGrid_walk (A : Option Addr) (c n : Nat) (bs : List Int) (w : World) (h : Code_ w A n c bs) :
    Calls Try.prog 3 #[.slice A n c] w fun e w' => e = .returned (.bool true) ∧ Below w.heap.size w w' := by
  by_cases hn : n ≤ 1048576
  · go_enter Try.func3, Try.ntmps3
    go_wp2_with fail
    refine (drawCanonicalGrid _ _ _ _ _ h).mono ?_
    rintro e w1 ⟨A1, n1, c1, xs, s, rfl, hr1, ⟨h16, hc1, hc2⟩, s0, s1, _, hb1⟩
    have hl := Lib.hid hr1.1
    cases hg : gv xs s
    · have HL := Lib.hid (cnL_f (n := n1) hg)
      go_wp2_with fail
      refine (implCanonicalGrid _ _ _ _ _ _ _ hr1 (Nat.le_refl _) (by omega)).mono ?_
      rintro e w2 ⟨A2, c2, rfl, ho2, hb2⟩
      go_wp2_with fail
      refine (specCanonicalGrid _ _ _ _ _ _ _ (hr1.below hb2) hb2.size (by omega)).mono ?_
      rintro e w3 ⟨A3, c3, rfl, ho3, hb3⟩
      rw [HL.out, show ([] : List Int).length = 0 from rfl] at *
      have hsame := same_refl ([] : List Int)
      go_wp2_with fail
      refine (sameInts_any _ _ _ _ _ _ _ _ _ _ _ ((ho2.rd).below hb3) ho3.rd (by omega)).mono ?_
      rintro e w4 ⟨rfl, hb4⟩
      go_wp2_with fail
      refine (alive_any _).mono ?_
      rintro e w5 ⟨rfl, hb5⟩
      go_wp2
      go_ret
      exact ⟨rfl, step (step (step (step hb1 hb2) hb3) hb4) hb5⟩
    · obtain ⟨t, rfl, hs, hls⟩ := size_nat hg
      have hnn : n1 = t * t := by have := hl.out; omega
      have hn4 := (gv_n hg hl.out).1
      obtain ⟨t2, t4⟩ := gv_size hg
      have hz : ((n1 : Int) == 0) = false := by simp; omega
      obtain ⟨C, hC⟩ : ∃ C, C = cnL xs t n1 := ⟨_, rfl⟩
      have HSp := Lib.hid (fun W (hr : Rd W w1.heap.size A1 n1 xs) (hB : w1.heap.size ≤ W.heap.size) => show Calls Try.prog 16 #[.slice A1 n1 c1, .int .i64 t] W (RetN W n1 C) from (specCanonicalGrid A1 c1 n1 w1.heap.size xs t W hr hB (by omega)).mono fun e' w' hh => by
        rw [hC]; exact retN_of hh (cn_know hs hnn hl.out hg).1)
      have HCn := Lib.hid (fun (ys : List Int) (ly : ys.length = n1) (gy : gv ys t = true) (hf : SameForms (rf ys t n1) (rf xs t n1)) A' c' B W (hr : Rd W B A' n1 ys) (hB : B ≤ W.heap.size) => show Calls Try.prog 14 #[.slice A' n1 c', .int .i64 t] W (RetN W n1 C) from by
        rw [hC]; exact canon_at hs hnn hl.out ly hg gy hf A' c' B W hr hB (by omega))
      have hT := turn_all hg hl.out
      have hM := mir_all hg hl.out
      obtain ⟨sl, sg, sp⟩ := swap_know hg hl.out (show (1 : Int) ≤ 1 by omega) (show (1 : Int) ≤ t by omega) (show (1 : Int) ≤ t by omega) (show (t : Int) ≤ t by omega)
      have FT : SameForms (rf (turnL xs t) t n1) (rf xs t n1) := by rw [turnL_frm hl.out hg]; exact forms_frm hs hnn hl.out (by omega)
      have FM : SameForms (rf (mirL xs t) t n1) (rf xs t n1) := by rw [mirL_frm hl.out hg]; exact forms_frm hs hnn hl.out (by omega)
      have FS := forms_pat hs hnn sl hl.out sp.symm
      obtain ⟨cl, cg, cf⟩ := cn_know hs hnn hl.out hg
      rw [← hC] at cl cg cf
      have HT := Lib.hid (fun W (hr : Rd W w1.heap.size A1 n1 xs) (hB : w1.heap.size ≤ W.heap.size) => show Calls Try.prog 18 #[.slice A1 n1 c1, .int .i64 t] W (RetN W n1 (turnL xs t)) from (implGridTurn A1 c1 n1 w1.heap.size xs t W hr hB (by omega)).mono fun e' w' hh => retN_of hh hT.len)
      have HM := Lib.hid (fun W (hr : Rd W w1.heap.size A1 n1 xs) (hB : w1.heap.size ≤ W.heap.size) => show Calls Try.prog 19 #[.slice A1 n1 c1, .int .i64 t] W (RetN W n1 (mirL xs t)) from (implGridMirror A1 c1 n1 w1.heap.size xs t W hr hB (by omega)).mono fun e' w' hh => retN_of hh hM.len)
      have HS := Lib.hid (fun W (hr : Rd W w1.heap.size A1 n1 xs) (hB : w1.heap.size ≤ W.heap.size) => show Calls Try.prog 20 #[.slice A1 n1 c1, .int .i64 t, .int .i64 1, .int .i64 t] W (RetN W n1 (swapL xs t 1 t)) from (implGridSwap A1 c1 n1 w1.heap.size xs t 1 t W hr hB (by omega)).mono fun e' w' hh => retN_of hh sl)
      have KT := Lib.hid (HCn.out _ hT.len hT.valid FT)
      have KM := Lib.hid (HCn.out _ hM.len hM.valid FM)
      have KS := Lib.hid (HCn.out _ sl sg FS)
      have KC := Lib.hid (HCn.out _ cl cg cf)
      have KX := Lib.hid (HCn.out xs hl.out hg ⟨fun k hk => ⟨k, hk, rfl⟩, fun k hk => ⟨k, hk, rfl⟩⟩)
      have hsame := same_refl C
      clear hT hM sl sg sp FT FM FS cl cg cf hC HCn hnn
      go_wp2_with fail
      refine (KX.out _ _ _ _ hr1 (Nat.le_refl _)).mono ?_
      rintro e w2 ⟨A2, c2, rfl, ho2, hb2⟩
      have hr2 := ho2.rd
      go_wp2_with fail
      refine (HSp.out _ (hr1.below hb2) hb2.size).mono ?_
      rintro e w3 ⟨A3, c3, rfl, ho3, hb3⟩
      go_wp2_with fail
      refine (sameInts_any _ _ _ _ _ _ _ _ _ _ _ (hr2.below hb3) ho3.rd (by omega)).mono ?_
      rintro e w4 ⟨rfl, hb4⟩
      have h24 := step hb3 hb4
      have h14 := step hb2 h24
      go_wp2_with fail
      refine (HT.out _ (hr1.below h14) h14.size).mono ?_
      rintro e w5 ⟨A5, c5, rfl, ho5, hb5⟩
      have h25 := step h24 hb5
      have h15 := step hb2 h25
      go_wp2_with fail
      refine (KT.out _ _ _ _ ho5.rd (Nat.le_refl _)).mono ?_
      rintro e w6 ⟨A6, c6, rfl, ho6, hb6⟩
      have h26 := step h25 hb6
      have h16' := step hb2 h26
      go_wp2_with fail
      refine (sameInts_any _ _ _ _ _ _ _ _ _ _ _ ho6.rd (hr2.below h26) (by omega)).mono ?_
      rintro e w7 ⟨rfl, hb7⟩
      have h27 := step h26 hb7
      have h17 := step hb2 h27
      go_wp2_with fail
      refine (HM.out _ (hr1.below h17) h17.size).mono ?_
      rintro e w8 ⟨A8, c8, rfl, ho8, hb8⟩
      have h28 := step h27 hb8
      go_wp2_with fail
      refine (KM.out _ _ _ _ ho8.rd (Nat.le_refl _)).mono ?_
      rintro e w9 ⟨A9, c9, rfl, ho9, hb9⟩
      have h29 := step h28 hb9
      go_wp2_with fail
      refine (sameInts_any _ _ _ _ _ _ _ _ _ _ _ ho9.rd (hr2.below h29) (by omega)).mono ?_
      rintro e w10 ⟨rfl, hb10⟩
      have h2a := step h29 hb10
      have h1a := step hb2 h2a
      go_wp2_with fail
      refine (HS.out _ (hr1.below h1a) h1a.size).mono ?_
      rintro e w11 ⟨A11, c11, rfl, ho11, hb11⟩
      have h2b := step h2a hb11
      go_wp2_with fail
      refine (KS.out _ _ _ _ ho11.rd (Nat.le_refl _)).mono ?_
      rintro e w12 ⟨A12, c12, rfl, ho12, hb12⟩
      have h2c := step h2b hb12
      go_wp2_with fail
      refine (sameInts_any _ _ _ _ _ _ _ _ _ _ _ ho12.rd (hr2.below h2c) (by omega)).mono ?_
      rintro e w13 ⟨rfl, hb13⟩
      have h2d := step h2c hb13
      go_wp2_with fail
      refine (KC.out _ _ _ _ (hr2.below h2d) h2d.size).mono ?_
      rintro e w14 ⟨A14, c14, rfl, ho14, hb14⟩
      have h2e := step h2d hb14
      go_wp2_with fail
      refine (sameInts_any _ _ _ _ _ _ _ _ _ _ _ ho14.rd (hr2.below h2e) (by omega)).mono ?_
      rintro e w15 ⟨rfl, hb15⟩
      go_wp2
      go_ret
      exact ⟨rfl, step hb1 (step hb2 (step h2e hb15))⟩
  · go_enter Try.func3, Try.ntmps3
    go_wp2
    go_ret
    exact ⟨rfl, Below.refl _ _⟩
end Go.Proofs.Ytlnmioijgclndaa
