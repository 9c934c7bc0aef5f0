import Derived.Test.YtcjdjcpappfkgaaXP10
import Derived.Test.YtcjdjcpappfkgaaXOpn
import Derived.Test.YtcjdjcpappfkgaaXPInD
import Derived.Test.YtcjdjcpappfkgaaXW4E
import Derived.Deep.RegionWith
set_option maxRecDepth 8000
namespace Go.Proofs.Ytcjdjcpappfkgaa
open Go.ChangeShapes Go.WideShapes Go.ChangeAt Go.RowKit
theorem PoS.no {s : Int} {n nr : Nat} {L : List Int} {rs : List RuleM} {w w' : World} {e : Ending} (h : PoS false s n L nr rs w e w') : Below w.heap.size w w' ∧ e = .returned (.tuple #[.agg #[.int .i64 0, .slice none 0 0, .slice none 0 0], .bool false]) := by
  obtain ⟨h1, h2 | h2⟩ := h
  · exact ⟨h1, h2.2⟩
  · exact absurd h2.1 (by simp)
theorem PoS.yes {s : Int} {n nr : Nat} {L : List Int} {rs : List RuleM} {w w' : World} {e : Ending} (h : PoS true s n L nr rs w e w') : Below w.heap.size w w' ∧ ∃ A1 c1 A2 c2, e = .returned (.tuple #[.agg #[.int .i64 s, .slice A1 n c1, .slice A2 nr c2], .bool true]) ∧ Rd w' w'.heap.size A1 n L ∧ RdRs w' w'.heap.size A2 nr rs := by
  obtain ⟨h1, h2 | h2⟩ := h
  · exact absurd h2.1 (by simp)
  · exact ⟨h1, h2.2⟩
theorem PoI.no {s : Int} {n nr : Nat} {L : List Int} {rs : List RuleM} {w w' : World} {e : Ending} (h : PoI false s n L nr rs w e w') : Below w.heap.size w w' ∧ e = .returned (.tuple #[.agg #[.int .i64 0, .slice none 0 0, .slice none 0 0], .bool false]) := by
  obtain ⟨h1, h2 | h2⟩ := h
  · exact ⟨h1, h2.2⟩
  · exact absurd h2.1 (by simp)
theorem PoI.yes {s : Int} {n nr : Nat} {L : List Int} {rs : List RuleM} {w w' : World} {e : Ending} (h : PoI true s n L nr rs w e w') : Below w.heap.size w w' ∧ ∃ A1 c1 g, e = .returned (.tuple #[.agg #[.int .i64 s, .slice A1 n c1, .slice (some ⟨g, 0, none⟩) nr nr], .bool true]) ∧ OwnP w' w.heap.size A1 n c1 L g nr rs := by
  obtain ⟨h1, h2 | h2⟩ := h
  · exact absurd h2.1 (by simp)
  · exact ⟨h1, h2.2⟩
theorem Sz.of_below {B : Nat} {w w' : World} (hb : Below B w w') (hB : w.heap.size ≤ B) : Sz w w' := fun g cs _ hg => ⟨cs, (hb.block g (Nat.lt_of_lt_of_le (Array.getElem?_eq_some_iff.1 hg).1 hB)).trans hg, rfl, fun _ => rfl⟩
set_option maxHeartbeats 40000000 in
theorem exactPuzzleOf_walk (A : Option Addr) (c n : Nat) (gi : List Int) (s : Int) (Ar : Option Addr) (cr nr : Nat) (rs : List RuleM) (w : World) (hg : Rd w w.heap.size A n gi) (_hs : -9223372036854775808 ≤ s ∧ s ≤ 9223372036854775807) (hr : RdRx w w.heap.size Ar nr rs) (hrm : nr ≤ 9223372036854775807) :
    Calls Try.prog 3 #[.slice A n c, .int .i64 s, .slice Ar nr cr] w fun e w' => e = .returned (.bool true) ∧ Below w.heap.size w w' := by
  by_cases hn : n ≤ 1048576
  · have hmg : n ≤ 1099511627776 := by omega
    have hrl := Lib.hid hr.1
    have HG := Lib.hid (fun w' (hb : Below w.heap.size w w') => hg.below hb)
    have HSZ := Lib.hid (szRuleS_any Ar cr nr w.heap.size rs 1048576 w hr (Nat.le_refl _) hrm (by omega) (by omega))
    have HTI := Lib.hid (fun w' (hb : Below w.heap.size w w') => toIntS_any A c n w.heap.size gi w' (HG.out _ hb) hb.size hmg)
    go_enter Try.func3, Try.ntmps3
    go_wp2_with fail
    refine HSZ.out.mono ?_
    rintro e w1 ⟨r, rfl, hb1, hr1⟩
    rcases hr1 with rfl | ⟨r0, hl2, hl3⟩
    · go_wp2
      go_ret
      exact ⟨rfl, hb1⟩
    · have hrneg : ¬ r < 0 := by omega
      have hmr : nr ≤ 1099511627776 := by omega
      have hnr : nr ≤ 1048576 := by omega
      have HL20 := Lib.hid (show ∀ i, i < nr → (rat rs i).xs.length ≤ 1048576 from fun i hi => by have := hl3 i hi; omega)
      have HTR := Lib.hid (fun w' (hb : Below w.heap.size w w') => toRuleS_any Ar cr nr w.heap.size rs w' ((hr.below hb).small (fun i hi => by have := hl3 i hi; omega)) hb.size hnr)
      clear hl2 hl3 hr
      go_wp2_with fail
      refine (HTI.out _ hb1).mono ?_
      rintro e w2 ⟨rfl, ho2, hb2⟩
      have h02 := step hb1 hb2
      go_wp2_with fail
      refine (HTR.out _ h02).mono ?_
      rintro e wb ⟨g2, rfl, hor2, hbb⟩
      have h0b := step h02 hbb
      have hp2 : PGs wb s (some ⟨w1.heap.size, 0, none⟩) n n wb.heap.size gi (some ⟨g2, 0, none⟩) nr nr wb.heap.size rs := ⟨(ho2.below hbb).rd, Nat.le_refl _, hmg, OwR.rd hrl.out hor2, Nat.le_refl _, hmr⟩
      have HS2 := specPuzzleOf _ _ _ _ _ _ _ _ _ _ _ _ hp2 (by omega)
      have HIx := Lib.hid (fun (A' : Option Addr) (B' : Nat) (Ar' : Option Addr) (Br' : Nat) (w' : World) (hp : PGc w' s A' n n B' gi Ar' nr nr Br' rs) => implPuzzleOf _ _ _ _ _ _ _ _ _ _ _ _ hp)
      clear ho2 hor2 hp2
      cases hps : psB s gi rs gi
      · rw [hps] at HS2
        have HI5 := Lib.hid (fun A' B' Ar' Br' w' hp => by
          have := HIx.out A' B' Ar' Br' w' hp
          rw [hps] at this
          exact this)
        have HS2 := Lib.hid HS2
        clear hps
        go_wp2_with fail
        refine HS2.out.mono ?_
        rintro e w3 h3
        obtain ⟨hb3, rfl⟩ := h3.no
        have hb3a : Below w3.heap.size w3 (w3.alloc (.cells #[.int .i64 0, .slice none 0 0, .slice none 0 0] 27)) := (Below.refl _ _).alloc (Nat.le_refl _) _
        have hw0 := pbox_new w3 0 none 0 0 none 0 0 27
        obtain ⟨V3, hV3⟩ : ∃ V3, w3.alloc (.cells #[.int .i64 0, .slice none 0 0, .slice none 0 0] 27) = V3 := ⟨_, rfl⟩
        have hs3 : V3.heap.size = w3.heap.size + 1 := by rw [← hV3]; simp
        rw [hV3] at hb3a hw0
        have h03 := step h0b (step hb3 hb3a)
        have HW0 := Lib.hid (fun w' (hb : Below V3.heap.size V3 w') => hw0.below (by omega : w3.heap.size < V3.heap.size) hb)
        have HV3 := Lib.hid hV3
        clear hV3 hw0
        go_wp2_with fail
        rw [HV3.out]
        refine (HTI.out _ h03).mono ?_
        rintro e w4 ⟨rfl, ho4, hb4⟩
        rw [hs3] at ho4
        have h04 := step h03 hb4
        go_wp2_with fail
        refine (HTR.out _ h04).mono ?_
        rintro e w5 ⟨g4, rfl, hor5, hb5⟩
        have h35 := step hb4 hb5
        have h05 := step h04 hb5
        have HI := Lib.hid (HI5.out _ _ _ _ w5 ⟨(ho4.below hb5).rd, Nat.le_refl _, hmg, OwR.rdc hrl.out hor5, Nat.le_refl _, hmr⟩)
        go_wp2_with fail
        refine HI.out.mono ?_
        rintro e w6 h6
        obtain ⟨hb6, rfl⟩ := h6.no
        have hb6a : Below w6.heap.size w6 (w6.alloc (.cells #[.int .i64 0, .slice none 0 0, .slice none 0 0] 27)) := (Below.refl _ _).alloc (Nat.le_refl _) _
        have hg0 := pbox_new w6 0 none 0 0 none 0 0 27
        obtain ⟨w7, hw7⟩ : ∃ w7, w6.alloc (.cells #[.int .i64 0, .slice none 0 0, .slice none 0 0] 27) = w7 := ⟨_, rfl⟩
        have hs7 : w7.heap.size = w6.heap.size + 1 := by rw [← hw7]; simp
        rw [hw7] at hb6a hg0
        have h57 := step hb6 hb6a
        have h37 := step h35 h57
        have h07 := step h05 h57
        have hf := HW0.out _ h37
        rw [← hw7] at hf
        obtain ⟨f0, f1, f2⟩ := hf
        have Hw7 := Lib.hid hw7
        clear hw7
        have HE7 := Lib.hid (eq_nil w7)
        go_wp2_with fail
        rw [Hw7.out]
        refine HE7.out.mono ?_
        rintro e w8 ⟨rfl, hb8⟩
        have h38 := step h37 hb8
        have h58 := step h57 hb8
        have h08 := step h07 hb8
        clear f0 f1 f2
        go_wp2_with fail
        refine (HTI.out _ h08).mono ?_
        rintro e w9 ⟨rfl, ho9, hb9⟩
        have h59 := step h58 hb9
        have hsame := same_refl gi
        go_wp2_with fail
        refine (eqIntS_any _ _ n n _ _ _ _ gi gi w9 ((ho4.below hb5).below h59).rd ho9.rd hmg).mono ?_
        rintro e wa ⟨rfl, hba⟩
        rw [hsame]
        have h0a := step h08 (step hb9 hba)
        go_wp2_with fail
        refine (HTR.out _ h0a).mono ?_
        rintro e wc ⟨gc, rfl, horc, hbc⟩
        have h5c := step h59 (step hba hbc)
        go_wp2_with fail
        refine (eqRuleS_any _ _ nr nr nr _ _ rs wc ((OwR.rd hrl.out hor5).below h5c) (OwR.rd hrl.out horc) h5c.size (Nat.le_refl _) hmr).mono ?_
        rintro e wd ⟨rfl, hbd⟩
        have h5d := step h5c hbd
        have h3d := step h35 h5d
        have h7d : Below w7.heap.size w7 wd := step hb8 (step hb9 (step hba (step hbc hbd)))
        have h0d := step h05 h5d
        have hB4 : Blk wd (w3.heap.size + 1) w4.heap.size (some ⟨w3.heap.size + 1, 0, none⟩) n := (ho4.blk (Nat.le_refl _)).mk_ (Sz.of_below (step hb5 h5d) (Nat.le_refl _))
        have HM13 := Lib.hid (markIntS_blk (some ⟨w3.heap.size + 1, 0, none⟩) n n (w3.heap.size + 1) w4.heap.size 1 wd hB4 hmg (by omega) (by omega))
        clear ho9 horc hB4
        go_wp2_with fail
        refine HM13.out.mono ?_
        rintro e we ⟨rfl, hme⟩
        have hRe : 0 < nr → ∃ g, (some (⟨g4, 0, none⟩ : Addr)) = some ⟨g, 0, none⟩ ∧ (w4.heap.size ≤ g ∧ g < w5.heap.size) ∧ RBlk we w4.heap.size w5.heap.size g nr (fun i => (rat rs i).xs.length) := fun hp => by
          obtain ⟨h1, h2⟩ := hor5.rblk hp (Nat.le_refl _)
          exact ⟨g4, rfl, h2, (h1.mk_ (Sz.of_below h5d (Nat.le_refl _))).mk_ hme.2⟩
        have HM14 := Lib.hid (markRuleS_blk (some ⟨g4, 0, none⟩) nr nr w4.heap.size w5.heap.size (fun i => (rat rs i).xs.length) (1 + n) we hRe HL20.out hnr (by omega) (by omega))
        have h4s := hb4.size
        have h5s := hb5.size
        have h6s := hb6.size
        have hds := h7d.size
        have hes := hme.1.size
        have h3ds := h3d.size
        have h3e : Below V3.heap.size V3 we := h3d.trans (hme.1.below (by omega) h3ds)
        clear hRe
        go_wp2_with fail
        refine HM14.out.mono ?_
        rintro e wf ⟨⟨q, rfl, q0, _⟩, hmf⟩
        have h3es := h3e.size
        have h3f : Below V3.heap.size V3 wf := h3e.trans (hmf.below h4s h3es)
        have hfs := hmf.size
        have hqn : ¬ q < 0 := by omega
        have hg9 : PBox wf w6.heap.size 0 none 0 0 none 0 0 := by
          have hh := hg0.below (by omega : w6.heap.size < w7.heap.size) h7d
          have hcell : ∀ i, wf.cell? ⟨w6.heap.size, i, none⟩ = wd.cell? ⟨w6.heap.size, i, none⟩ := fun i => World.cell?_of_block (a := ⟨w6.heap.size, i, none⟩) ((hmf.block w6.heap.size (by omega) (.inr (by omega))).trans (hme.1.block w6.heap.size (by omega) (.inr (by omega))))
          exact ⟨(hcell 0).trans hh.1, (hcell 1).trans hh.2.1, (hcell 2).trans hh.2.2⟩
        obtain ⟨k0, k1, k2⟩ := id hg9
        obtain ⟨l0, l1, l2⟩ := HW0.out _ h3f
        have h0f := step h03 h3f
        have HEf := Lib.hid (eq_nil wf)
        have hs6f : w6.heap.size < wf.heap.size := by omega
        go_wp2_with fail
        refine HEf.out.mono ?_
        rintro e w10 ⟨rfl, hb10⟩
        have h310 := step h3f hb10
        have hg10 := hg9.below hs6f hb10
        have hs610 : w6.heap.size < w10.heap.size := Nat.lt_of_lt_of_le hs6f hb10.size
        obtain ⟨m0, m1, m2⟩ := id hg10
        clear k0 k1 k2 l0 l1 l2
        go_wp2_with fail
        refine (mark_nil w10).mono ?_
        rintro e w11 ⟨rfl, hb11⟩
        have h311 := step h310 hb11
        have hg11 := hg10.below hs610 hb11
        have hs11 : w6.heap.size < w11.heap.size := Nat.lt_of_lt_of_le hs610 hb11.size
        have HH := Lib.hid (fun w' (_ : Below w11.heap.size w11 w') => held_nil w')
        obtain ⟨n0, n1, n2⟩ := id hg11
        clear m0 m1 m2
        go_wp2_with fail
        refine (HH.out _ (Below.refl _ _)).mono ?_
        rintro e w12 ⟨rfl, hb12⟩
        have h312 := step h311 hb12
        have h012 := step h03 h312
        clear n0 n1 n2
        go_wp2_with fail
        refine (HTI.out _ h012).mono ?_
        rintro e w13 ⟨rfl, ho13, hb13⟩
        go_wp2_with fail
        refine (HTR.out _ (step h012 hb13)).mono ?_
        rintro e w14 ⟨g14, rfl, hor14, hb14⟩
        have h1114 := step hb12 (step hb13 hb14)
        have h314 := step h311 h1114
        have HI14 := Lib.hid (HI5.out _ _ _ _ w14 ⟨(ho13.below hb14).rd, Nat.le_refl _, hmg, OwR.rdc hrl.out hor14, Nat.le_refl _, hmr⟩)
        clear ho13 hor14
        go_wp2_with fail
        refine HI14.out.mono ?_
        rintro e w15 h15
        obtain ⟨hb15, rfl⟩ := h15.no
        have hb15a : Below w15.heap.size w15 (w15.alloc (.cells #[.int .i64 0, .slice none 0 0, .slice none 0 0] 27)) := (Below.refl _ _).alloc (Nat.le_refl _) _
        obtain ⟨w16, hw16⟩ : ∃ w16, w15.alloc (.cells #[.int .i64 0, .slice none 0 0, .slice none 0 0] 27) = w16 := ⟨_, rfl⟩
        rw [hw16] at hb15a
        have h316 := step h314 (step hb15 hb15a)
        have h1116 := step h1114 (step hb15 hb15a)
        have hr16 := HW0.out _ h316
        rw [← hw16] at hr16
        obtain ⟨r0', r1', r2'⟩ := hr16
        have Hw16 := Lib.hid hw16
        clear hw16
        have HE16 := Lib.hid (eq_nil w16)
        go_wp2_with fail
        rw [Hw16.out]
        refine HE16.out.mono ?_
        rintro e w17 ⟨rfl, hb17⟩
        have h1117 := step h1116 hb17
        obtain ⟨s0, s1, s2⟩ := hg11.below hs11 h1117
        clear r0' r1' r2'
        go_wp2_with fail
        refine (HH.out _ h1117).mono ?_
        rintro e w18 ⟨rfl, hb18⟩
        go_wp2
        go_ret
        exact ⟨rfl, step h03 (step h311 (step h1117 hb18))⟩
      · rw [hps] at HS2
        have HI5 := Lib.hid (fun A' B' Ar' Br' w' hp => by
          have := HIx.out A' B' Ar' Br' w' hp
          rw [hps] at this
          exact this)
        have hnr20 : nr ≤ 20 := by
          have hv : pvB s gi rs = true := by
            unfold psB fpB at hps
            simp only [Bool.and_eq_true] at hps
            exact hps.1.1.1
          have := (pv_gv hv).2.1
          have := hrl.out
          omega
        have HS2 := Lib.hid HS2
        clear hps
        go_wp2_with fail
        refine HS2.out.mono ?_
        rintro e w3 h3
        obtain ⟨hb3, A0, cA0, A0r, c0r, rfl, hr0, hor0⟩ := h3.yes
        have hb3a : Below w3.heap.size w3 (w3.alloc (.cells #[.int .i64 s, .slice A0 n cA0, .slice A0r nr c0r] 27)) := (Below.refl _ _).alloc (Nat.le_refl _) _
        have hw0 := pbox_new w3 s A0 n cA0 A0r nr c0r 27
        obtain ⟨V3, hV3⟩ : ∃ V3, w3.alloc (.cells #[.int .i64 s, .slice A0 n cA0, .slice A0r nr c0r] 27) = V3 := ⟨_, rfl⟩
        have hs3 : V3.heap.size = w3.heap.size + 1 := by rw [← hV3]; simp
        rw [hV3] at hb3a hw0
        have h03 := step h0b (step hb3 hb3a)
        have HW0 := Lib.hid (fun w' (hb : Below V3.heap.size V3 w') => hw0.below (by omega : w3.heap.size < V3.heap.size) hb)
        have HV3 := Lib.hid hV3
        clear hV3 hw0
        have HR0 := Lib.hid (fun w' (hb : Below V3.heap.size V3 w') => (⟨(hr0.below hb3a).below (hb.mono hb3a.size), (hor0.below hb3a).below (hb.mono hb3a.size)⟩ : Rd w' w3.heap.size A0 n gi ∧ RdRs w' w3.heap.size A0r nr rs))
        clear hr0 hor0
        go_wp2_with fail
        rw [HV3.out]
        refine (HTI.out _ h03).mono ?_
        rintro e w4 ⟨rfl, ho4, hb4⟩
        rw [hs3] at ho4
        have h04 := step h03 hb4
        go_wp2_with fail
        refine (HTR.out _ h04).mono ?_
        rintro e w5 ⟨g4, rfl, hor5, hb5⟩
        have h35 := step hb4 hb5
        have h05 := step h04 hb5
        have HI := Lib.hid (HI5.out _ _ _ _ w5 ⟨(ho4.below hb5).rd, Nat.le_refl _, hmg, OwR.rdc hrl.out hor5, Nat.le_refl _, hmr⟩)
        go_wp2_with fail
        refine HI.out.mono ?_
        rintro e w6 h6
        obtain ⟨hb6, A5, c5, g5, rfl, hown⟩ := h6.yes
        have hb6a : Below w6.heap.size w6 (w6.alloc (.cells #[.int .i64 s, .slice A5 n c5, .slice (some ⟨g5, 0, none⟩) nr nr] 27)) := (Below.refl _ _).alloc (Nat.le_refl _) _
        have hg0 := pbox_new w6 s A5 n c5 (some ⟨g5, 0, none⟩) nr nr 27
        obtain ⟨w7, hw7⟩ : ∃ w7, w6.alloc (.cells #[.int .i64 s, .slice A5 n c5, .slice (some ⟨g5, 0, none⟩) nr nr] 27) = w7 := ⟨_, rfl⟩
        have hs7 : w7.heap.size = w6.heap.size + 1 := by rw [← hw7]; simp
        rw [hw7] at hb6a hg0
        have h57 := step hb6 hb6a
        have h37 := step h35 h57
        have h07 := step h05 h57
        have hf := HW0.out _ h37
        rw [← hw7] at hf
        obtain ⟨f0, f1, f2⟩ := hf
        have Hw7 := Lib.hid hw7
        clear hw7
        have hown7 := hown.h.below hb6a
        clear hown
        have HE7 := Lib.hid (eqPuzzle_any s A5 A0 c5 cA0 n w7.heap.size w3.heap.size gi (some ⟨g5, 0, none⟩) A0r nr c0r nr w7.heap.size w3.heap.size rs w7 hown7.1.rd (Nat.le_refl _) hmg (HR0.out _ h37).1 (by have := (h37).size; omega) (hown7.rdrs hrl.out) (HR0.out _ h37).2 (Nat.le_refl _) (by have := (h37).size; omega) hmr)
        go_wp2_with fail
        rw [Hw7.out]
        refine HE7.out.mono ?_
        rintro e w8 ⟨rfl, hb8⟩
        have h38 := step h37 hb8
        have h58 := step h57 hb8
        have h08 := step h07 hb8
        clear f0 f1 f2
        go_wp2_with fail
        refine (HTI.out _ h08).mono ?_
        rintro e w9 ⟨rfl, ho9, hb9⟩
        have h59 := step h58 hb9
        have hsame := same_refl gi
        go_wp2_with fail
        refine (eqIntS_any _ _ n n _ _ _ _ gi gi w9 ((ho4.below hb5).below h59).rd ho9.rd hmg).mono ?_
        rintro e wa ⟨rfl, hba⟩
        rw [hsame]
        have h0a := step h08 (step hb9 hba)
        go_wp2_with fail
        refine (HTR.out _ h0a).mono ?_
        rintro e wc ⟨gc, rfl, horc, hbc⟩
        have h5c := step h59 (step hba hbc)
        go_wp2_with fail
        refine (eqRuleS_any _ _ nr nr nr _ _ rs wc ((OwR.rd hrl.out hor5).below h5c) (OwR.rd hrl.out horc) h5c.size (Nat.le_refl _) hmr).mono ?_
        rintro e wd ⟨rfl, hbd⟩
        have h5d := step h5c hbd
        have h3d := step h35 h5d
        have h7d : Below w7.heap.size w7 wd := step hb8 (step hb9 (step hba (step hbc hbd)))
        have h0d := step h05 h5d
        have hB4 : Blk wd (w3.heap.size + 1) w4.heap.size (some ⟨w3.heap.size + 1, 0, none⟩) n := (ho4.blk (Nat.le_refl _)).mk_ (Sz.of_below (step hb5 h5d) (Nat.le_refl _))
        have HM13 := Lib.hid (markIntS_blk (some ⟨w3.heap.size + 1, 0, none⟩) n n (w3.heap.size + 1) w4.heap.size 1 wd hB4 hmg (by omega) (by omega))
        clear ho9 horc hB4
        go_wp2_with fail
        refine HM13.out.mono ?_
        rintro e we ⟨rfl, hme⟩
        have hRe : 0 < nr → ∃ g, (some (⟨g4, 0, none⟩ : Addr)) = some ⟨g, 0, none⟩ ∧ (w4.heap.size ≤ g ∧ g < w5.heap.size) ∧ RBlk we w4.heap.size w5.heap.size g nr (fun i => (rat rs i).xs.length) := fun hp => by
          obtain ⟨h1, h2⟩ := hor5.rblk hp (Nat.le_refl _)
          exact ⟨g4, rfl, h2, (h1.mk_ (Sz.of_below h5d (Nat.le_refl _))).mk_ hme.2⟩
        have HM14 := Lib.hid (markRuleS_blk (some ⟨g4, 0, none⟩) nr nr w4.heap.size w5.heap.size (fun i => (rat rs i).xs.length) (1 + n) we hRe HL20.out hnr (by omega) (by omega))
        have h4s := hb4.size
        have h5s := hb5.size
        have h6s := hb6.size
        have hds := h7d.size
        have hes := hme.1.size
        have h3ds := h3d.size
        have h3e : Below V3.heap.size V3 we := h3d.trans (hme.1.below (by omega) h3ds)
        clear hRe
        go_wp2_with fail
        refine HM14.out.mono ?_
        rintro e wf ⟨⟨q, rfl, q0, _⟩, hmf⟩
        have h3es := h3e.size
        have h3f : Below V3.heap.size V3 wf := h3e.trans (hmf.below h4s h3es)
        have hfs := hmf.size
        have hqn : ¬ q < 0 := by omega
        have hg9 : PBox wf w6.heap.size s A5 n c5 (some ⟨g5, 0, none⟩) nr nr := by
          have hh := hg0.below (by omega : w6.heap.size < w7.heap.size) h7d
          have hcell : ∀ i, wf.cell? ⟨w6.heap.size, i, none⟩ = wd.cell? ⟨w6.heap.size, i, none⟩ := fun i => World.cell?_of_block (a := ⟨w6.heap.size, i, none⟩) ((hmf.block w6.heap.size (by omega) (.inr (by omega))).trans (hme.1.block w6.heap.size (by omega) (.inr (by omega))))
          exact ⟨(hcell 0).trans hh.1, (hcell 1).trans hh.2.1, (hcell 2).trans hh.2.2⟩
        obtain ⟨k0, k1, k2⟩ := id hg9
        obtain ⟨l0, l1, l2⟩ := HW0.out _ h3f
        have h0f := step h03 h3f
        have hownf := ((hown7.below h7d).bt hme.1 (by omega)).bt hmf (Nat.le_refl _)
        clear hown7
        have HEf := Lib.hid (eqPuzzle_any s A5 A0 c5 cA0 n wf.heap.size w3.heap.size gi (some ⟨g5, 0, none⟩) A0r nr c0r nr wf.heap.size w3.heap.size rs wf hownf.1.rd (Nat.le_refl _) hmg (HR0.out _ h3f).1 (by have := (h3f).size; omega) (hownf.rdrs hrl.out) (HR0.out _ h3f).2 (Nat.le_refl _) (by have := (h3f).size; omega) hmr)
        have hs6f : w6.heap.size < wf.heap.size := by omega
        go_wp2_with fail
        refine HEf.out.mono ?_
        rintro e w10 ⟨rfl, hb10⟩
        have h310 := step h3f hb10
        have hg10 := hg9.below hs6f hb10
        have hs610 : w6.heap.size < w10.heap.size := Nat.lt_of_lt_of_le hs6f hb10.size
        obtain ⟨m0, m1, m2⟩ := id hg10
        clear k0 k1 k2 l0 l1 l2
        go_wp2_with fail
        have hown10 := hownf.below hb10
        have HM10 := Lib.hid (markPuzzle_own s A5 n c5 g5 nr w5.heap.size w6.heap.size gi rs w10 hown10 hn (by omega) HL20.out)
        have h3w5 : V3.heap.size ≤ w5.heap.size := h35.size
        have hs0310 := h310.size
        clear hown10 hownf
        refine HM10.out.mono ?_
        rintro e w11 ⟨rfl, hz11, hb11⟩
        have h311 : Below V3.heap.size V3 w11 := h310.trans (hb11.below h3w5 hs0310)
        have hg11 : PBox w11 w6.heap.size s A5 n c5 (some ⟨g5, 0, none⟩) nr nr := by
          have hcell : ∀ i, w11.cell? ⟨w6.heap.size, i, none⟩ = w10.cell? ⟨w6.heap.size, i, none⟩ := fun i => World.cell?_of_block (a := ⟨w6.heap.size, i, none⟩) (hb11.block w6.heap.size hs610 (.inr (Nat.le_refl _)))
          exact ⟨(hcell 0).trans hg10.1, (hcell 1).trans hg10.2.1, (hcell 2).trans hg10.2.2⟩
        have hs11 : w6.heap.size < w11.heap.size := Nat.lt_of_lt_of_le hs610 hb11.size
        have HH := Lib.hid (fun w' (hb : Below w11.heap.size w11 w') => heldPuzzle_own s A5 n c5 g5 nr rs w' (hz11.below hb) hn (by omega) HL20.out)
        obtain ⟨b0, _⟩ := xN_bd (m := 1 + (n : Int)) HL20.out (by omega) (Nat.le_refl nr)
        obtain ⟨M, hM⟩ : ∃ M, M = xN (1 + n) rs nr := ⟨_, rfl⟩
        rw [← hM] at HH b0
        rw [← hM]
        have hMn : ¬ M < 0 := by omega
        have hMM : (M != M) = false := by simp
        clear hM hz11
        obtain ⟨n0, n1, n2⟩ := id hg11
        clear m0 m1 m2
        go_wp2_with fail
        refine (HH.out _ (Below.refl _ _)).mono ?_
        rintro e w12 ⟨rfl, hb12⟩
        have h312 := step h311 hb12
        have h012 := step h03 h312
        clear n0 n1 n2
        go_wp2_with fail
        refine (HTI.out _ h012).mono ?_
        rintro e w13 ⟨rfl, ho13, hb13⟩
        go_wp2_with fail
        refine (HTR.out _ (step h012 hb13)).mono ?_
        rintro e w14 ⟨g14, rfl, hor14, hb14⟩
        have h1114 := step hb12 (step hb13 hb14)
        have h314 := step h311 h1114
        have HI14 := Lib.hid (HI5.out _ _ _ _ w14 ⟨(ho13.below hb14).rd, Nat.le_refl _, hmg, OwR.rdc hrl.out hor14, Nat.le_refl _, hmr⟩)
        clear ho13 hor14
        go_wp2_with fail
        refine HI14.out.mono ?_
        rintro e w15 h15
        obtain ⟨hb15, Ah, ch, gh, rfl, hown15⟩ := h15.yes
        have hb15a : Below w15.heap.size w15 (w15.alloc (.cells #[.int .i64 s, .slice Ah n ch, .slice (some ⟨gh, 0, none⟩) nr nr] 27)) := (Below.refl _ _).alloc (Nat.le_refl _) _
        obtain ⟨w16, hw16⟩ : ∃ w16, w15.alloc (.cells #[.int .i64 s, .slice Ah n ch, .slice (some ⟨gh, 0, none⟩) nr nr] 27) = w16 := ⟨_, rfl⟩
        rw [hw16] at hb15a
        have h316 := step h314 (step hb15 hb15a)
        have h1116 := step h1114 (step hb15 hb15a)
        have hr16 := HW0.out _ h316
        rw [← hw16] at hr16
        obtain ⟨r0', r1', r2'⟩ := hr16
        have Hw16 := Lib.hid hw16
        clear hw16
        have hown16 := hown15.h.below hb15a
        have HE16 := Lib.hid (eqPuzzle_any s Ah A0 ch cA0 n w16.heap.size w3.heap.size gi (some ⟨gh, 0, none⟩) A0r nr c0r nr w16.heap.size w3.heap.size rs w16 hown16.1.rd (Nat.le_refl _) hmg (HR0.out _ h316).1 (by have := (h316).size; omega) (hown16.rdrs hrl.out) (HR0.out _ h316).2 (Nat.le_refl _) (by have := (h316).size; omega) hmr)
        go_wp2_with fail
        rw [Hw16.out]
        refine HE16.out.mono ?_
        rintro e w17 ⟨rfl, hb17⟩
        have h1117 := step h1116 hb17
        obtain ⟨s0, s1, s2⟩ := hg11.below hs11 h1117
        clear r0' r1' r2'
        go_wp2_with fail
        refine (HH.out _ h1117).mono ?_
        rintro e w18 ⟨rfl, hb18⟩
        go_wp2
        go_ret
        exact ⟨rfl, step h03 (step h311 (step h1117 hb18))⟩
  · go_enter Try.func3, Try.ntmps3
    go_wp2
    go_ret
    exact ⟨rfl, Below.refl _ _⟩
end Go.Proofs.Ytcjdjcpappfkgaa
