import Derived.Test.YtlnmioijgclndaaW11L
import Derived.Test.YtlnmioijgclndaaDrawN
set_option maxRecDepth 8000
namespace Go.Proofs.Ytlnmioijgclndaa
open Go.ChangeShapes Go.WideShapes Go.ChangeAt Go.RowKit
theorem sqn_know {s m : Int} (h : (sqn s m).length ≠ 0) : 2 ≤ s ∧ s ≤ 4 ∧ sqSolved (sqn s m) s = true := by
  unfold sqn at h ⊢
  by_cases hc : inr s 2 4 = true ∧ 0 ≤ m
  · obtain ⟨h2, h4⟩ := inr_t hc.1
    rw [if_pos hc] at h ⊢
    have := sq_bd h2 h4
    cases e : (sols s (s * s).toNat (zeros (s * s).toNat) 0)[m.toNat]? with
    | none => rw [e] at h; simp at h
    | some y =>
      have := sols_solved h2 h4 (show (((s * s).toNat : Nat) : Int) = s * s by omega) (List.mem_of_getElem? e)
      exact ⟨h2, h4, by simpa using this.2⟩
  · rw [if_neg hc] at h; simp at h
theorem cn_solved {xs : List Int} {s n : Nat} (hs : s ∈ [2, 3, 4]) (hn : n = s * s) (hl : xs.length = n) (hx : sqSolved xs s = true) : sqSolved (cnL xs s n) s = true := by
  have hg := ((solved_iff hl).1 hx).1
  obtain ⟨a, ha, e⟩ := cn_mem (n := n) hg
  rw [e]
  exact solved_pat hs hn (samePat_rn _ n) (frm_len hl a) (rnL_len _ _) (rf_gv hs hn hl hg a) (solved_frm hs hn hl hx ha)
set_option maxHeartbeats 2000000 in
theorem turnNumber_walk (himpl : ISquareNumber) (hsol : ISquareSolved) (A : Option Addr) (c n : Nat) (bs : List Int) (w : World) (h : Code_ w A n c bs) :
    Calls Try.prog 7 #[.slice A n c] w fun e w' => e = .returned (.bool true) ∧ Below w.heap.size w w' := by
  have Himpl := Lib.hid himpl; clear himpl
  have Hsol := Lib.hid hsol; clear hsol
  by_cases hn : n ≤ 1048576
  · go_enter Try.func7, Try.ntmps7
    go_wp2_with fail
    refine (drawSquareNumber _ _ _ _ _ h).mono ?_
    rintro e w1 ⟨s, m, rfl, s0, s1, m0, m1, hb1⟩
    have hlen := (sqn_length (size := s) (number := m))
    obtain ⟨xs, hxs⟩ : ∃ xs, sqn s m = xs := ⟨_, rfl⟩
    have HIm := Lib.hid (show Calls Try.prog 32 #[.int .i64 s, .int .i64 m] w1 (RetN w1 xs.length xs) from (Himpl.out s m w1 (by omega) (by omega)).mono fun e' w' hh => by rw [hxs] at hh; exact retN_of hh rfl)
    have HSp := Lib.hid (fun W => show Calls Try.prog 33 #[.int .i64 s, .int .i64 m] W (RetN W xs.length xs) from (specSquareNumber s m W (by omega) (by omega)).mono fun e' w' hh => by rw [hxs] at hh; exact retN_of hh rfl)
    have hkn := fun hh => sqn_know (s := s) (m := m) hh
    rw [hxs] at hlen hkn
    obtain ⟨n1, hn1⟩ : ∃ n1, xs.length = n1 := ⟨_, rfl⟩
    rw [hn1] at HIm HSp hlen hkn
    have hl := Lib.hid hn1
    have hsame := same_refl xs
    clear hxs hn1
    by_cases h0 : n1 = 0
    · subst h0
      clear hkn
      go_wp2_with fail
      refine HIm.out.mono ?_
      rintro e w2 ⟨A2, c2, rfl, ho2, hb2⟩
      go_wp2_with fail
      refine (HSp.out _).mono ?_
      rintro e w3 ⟨A3, c3, rfl, ho3, hb3⟩
      go_wp2_with fail
      refine (sameInts_any _ _ _ _ _ _ _ _ _ _ _ (ho2.rd.below hb3) ho3.rd (by omega)).mono ?_
      rintro e w4 ⟨rfl, hb4⟩
      go_wp2_with fail
      refine (alive_any _).mono ?_
      rintro e w5 ⟨rfl, hb5⟩
      go_wp2
      go_ret
      exact ⟨rfl, step (step (step (step hb1 hb2) hb3) hb4) hb5⟩
    · obtain ⟨t2, t4, hsx⟩ := hkn h0
      have hg := ((solved_iff hl.out).1 hsx).1
      obtain ⟨t, rfl, hs, hls⟩ := size_nat hg
      have hnn : n1 = t * t := by have := hl.out; omega
      have hz : ((n1 : Int) == 0) = false := by simp; omega
      have hT := turn_all hg hl.out
      have eT := turnL_frm hl.out hg
      have FT : SameForms (rf (turnL xs t) t n1) (rf xs t n1) := by rw [eT]; exact forms_frm hs hnn hl.out (by omega)
      have sT : sqSolved (turnL xs t) t = true := by rw [eT]; exact solved_frm hs hnn hl.out hsx (by omega)
      have sC := cn_solved hs hnn hl.out hsx
      have HT := Lib.hid (fun A' c' W (hr : Rd W W.heap.size A' n1 xs) => show Calls Try.prog 18 #[.slice A' n1 c', .int .i64 t] W (RetN W n1 (turnL xs t)) from (implGridTurn A' c' n1 W.heap.size xs t W hr (Nat.le_refl _) (by omega)).mono fun e' w' hh => retN_of hh hT.len)
      have KX := Lib.hid (fun A' c' B W (hr : Rd W B A' n1 xs) (hB : B ≤ W.heap.size) => canon_at hs hnn hl.out hl.out hg hg ⟨fun k hk => ⟨k, hk, rfl⟩, fun k hk => ⟨k, hk, rfl⟩⟩ A' c' B W hr hB (by omega))
      have KT := Lib.hid (fun A' c' B W (hr : Rd W B A' n1 (turnL xs t)) (hB : B ≤ W.heap.size) => canon_at hs hnn hl.out hT.len hg hT.valid FT A' c' B W hr hB (by omega))
      have ST := Lib.hid (fun A' c' B W (hr : Rd W B A' n1 (turnL xs t)) (hB : B ≤ W.heap.size) => show Calls Try.prog 34 #[.slice A' n1 c', .int .i64 t] W (fun e w' => e = .returned (.bool true) ∧ Below W.heap.size W w') from by
        have := Hsol.out A' c' n1 B (turnL xs t) t W hr hB (by omega)
        rwa [sT] at this)
      have SC := Lib.hid (fun A' c' B W (hr : Rd W B A' n1 (cnL xs t n1)) (hB : B ≤ W.heap.size) => show Calls Try.prog 34 #[.slice A' n1 c', .int .i64 t] W (fun e w' => e = .returned (.bool true) ∧ Below W.heap.size W w') from by
        have := Hsol.out A' c' n1 B (cnL xs t n1) t W hr hB (by omega)
        rwa [sC] at this)
      have hsameC := same_refl (cnL xs t n1)
      clear hT eT FT sT sC hnn hkn hsx
      go_wp2_with fail
      refine HIm.out.mono ?_
      rintro e w2 ⟨A2, c2, rfl, ho2, hb2⟩
      have hr2 := ho2.rd
      go_wp2_with fail
      refine (HSp.out _).mono ?_
      rintro e w3 ⟨A3, c3, rfl, ho3, hb3⟩
      go_wp2_with fail
      refine (sameInts_any _ _ _ _ _ _ _ _ _ _ _ (hr2.below hb3) ho3.rd (by omega)).mono ?_
      rintro e w4 ⟨rfl, hb4⟩
      have h24 := step hb3 hb4
      go_wp2_with fail
      refine (HT.out _ _ _ ((ho2.below h24).rd)).mono ?_
      rintro e w5 ⟨A5, c5, rfl, ho5, hb5⟩
      have h25 := step h24 hb5
      go_wp2_with fail
      refine (ST.out _ _ _ _ ho5.rd (Nat.le_refl _)).mono ?_
      rintro e w6 ⟨rfl, hb6⟩
      have h26 := step h25 hb6
      go_wp2_with fail
      refine (KT.out _ _ _ _ (ho5.below hb6).rd (Nat.le_refl _)).mono ?_
      rintro e w7 ⟨A7, c7, rfl, ho7, hb7⟩
      have h27 := step h26 hb7
      go_wp2_with fail
      refine (KX.out _ _ _ _ (hr2.below h27) h27.size).mono ?_
      rintro e w8 ⟨A8, c8, rfl, ho8, hb8⟩
      have h28 := step h27 hb8
      go_wp2_with fail
      refine (sameInts_any _ _ _ _ _ _ _ _ _ _ _ (ho7.rd.below hb8) ho8.rd (by omega)).mono ?_
      rintro e w9 ⟨rfl, hb9⟩
      have h29 := step h28 hb9
      go_wp2_with fail
      refine (KX.out _ _ _ _ (hr2.below h29) h29.size).mono ?_
      rintro e w10 ⟨A10, c10, rfl, ho10, hb10⟩
      have h2a := step h29 hb10
      go_wp2_with fail
      refine (SC.out _ _ _ _ ho10.rd (Nat.le_refl _)).mono ?_
      rintro e w11 ⟨rfl, hb11⟩
      go_wp2
      go_ret
      exact ⟨rfl, step hb1 (step hb2 (step h2a hb11))⟩
  · go_enter Try.func7, Try.ntmps7
    go_wp2
    go_ret
    exact ⟨rfl, Below.refl _ _⟩
end Go.Proofs.Ytlnmioijgclndaa
