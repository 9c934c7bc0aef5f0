import Derived.Test.YtkeoflnmbcdmfaaDoorP5Q
import Derived.Deep.RegionLaw
import Derived.Test.YtkeoflnmbcdmfaaDoorSearch
set_option maxRecDepth 8000
namespace Go.Proofs.YtkeoflnmbcdmfaaDoor
open Go.ChangeShapes Go.WideShapes Go.ChangeAt Go.RowKit

theorem rows_push {w W0 w3 w4 : World} {P lo n : Nat} {v : Value} {Ls : List (List Int)} {vs : List Value} {A1 : Option Addr} {c1 g' cap : Nat} {g : List Int} {o : Obj} (hb0 : Below w.heap.size w W0) (ho : Out_ w P v) (hown : w.ownsRow lo 23 1 v Ls.length vs)
    (hin : ∀ i, i < Ls.length → ∃ A' c', vs[i]? = some (.slice A' n c') ∧ Ow w lo A' n c' (Ls.getD i []) ∧ ∀ g, (Value.slice A' n c').ownBlock = some g → v.ownBlock ≠ some g ∧ g ≠ P) (hvP : v.ownBlock ≠ some P) (hlow : lo ≤ w.heap.size)
    (hbA : Below W0.heap.size W0 w3) (ho3 : Ow w3 W0.heap.size A1 n c1 g) (h4 : w4.ownsRow lo 23 1 (.slice (some ⟨g', 0, none⟩) (Ls.length + 1) cap) (Ls.length + 1) (vs ++ [.slice A1 n c1])) (hg4 : (w3.alloc o).grownBy w4 v.ownBlock) (hl4 : v.ownBlock = some g' ∨ g' = (w3.alloc o).heap.size) :
    Out_ (w4.setCell ⟨P, 0, none⟩ (.slice (some ⟨g', 0, none⟩) (Ls.length + 1) cap)) P (.slice (some ⟨g', 0, none⟩) (Ls.length + 1) cap) ∧ Rows_ (w4.setCell ⟨P, 0, none⟩ (.slice (some ⟨g', 0, none⟩) (Ls.length + 1) cap)) lo P (.slice (some ⟨g', 0, none⟩) (Ls.length + 1) cap) (Ls ++ [g]) n ∧ Chg5 w (w4.setCell ⟨P, 0, none⟩ (.slice (some ⟨g', 0, none⟩) (Ls.length + 1) cap)) P v (.slice (some ⟨g', 0, none⟩) (Ls.length + 1) cap) := by
  have hB3 : Below w.heap.size w w3 := hb0.trans (hbA.mono hb0.size)
  have hB4 : Below w.heap.size w (w3.alloc o) := hB3.alloc hB3.size o
  have hs0 := hb0.size
  have hs3 := hbA.size
  have hP := ho.lt
  have ho4 : Out_ w4 P v := (hg4.block P (by rw [World.size_alloc]; omega) (fun e => hvP e.symm)).trans ((hB4.block P hP).trans ho)
  have hg5 : w4.grownBy (w4.setCell ⟨P, 0, none⟩ (.slice (some ⟨g', 0, none⟩) (Ls.length + 1) cap)) (some P) := grown_set
  have hg'P : g' ≠ P := by
    rcases hl4 with h | h
    · exact fun e => hvP (by rw [h, e])
    · rw [World.size_alloc] at h; omega
  have hg'lo : lo ≤ g' ∧ g' < w4.heap.size := World.ownsRow.lt h4 g' (by simp [Value.ownBlock])
  refine ⟨?_, ⟨some ⟨g', 0, none⟩, cap, vs ++ [.slice A1 n c1], by rw [List.length_append]; rfl, ?_, by simp only [Value.ownBlock]; intro e; injection e with e; exact hg'P e, fun i hi => ?_⟩, ?_⟩
  · unfold Out_
    rw [heap_setCell_same w4 P 0 _ _ _ ho4]
    rfl
  · rw [List.length_append]
    exact World.ownsRow.kept h4 hg5 (by rw [show (Value.slice (some ⟨g', 0, none⟩) (Ls.length + 1) cap).ownBlock = some g' by simp [Value.ownBlock]]; exact .inr (fun e => by injection e with e; omega))
  · rw [List.length_append, List.length_singleton] at hi
    have hvl : vs.length = Ls.length := by have := hown.1; simpa using this
    by_cases hlt : i < Ls.length
    · obtain ⟨A', c', e1, e2, e3⟩ := hin i hlt
      refine ⟨A', c', by rw [List.getElem?_append_left (by omega)]; exact e1, ?_, fun b hb => ?_⟩
      · rw [show (Ls ++ [g]).getD i [] = Ls.getD i [] by simp [List.getD_eq_getElem?_getD, List.getElem?_append_left hlt]]
        exact ((e2.below hB4).far hg4 (fun b hb => (e3 b hb).1)).far hg5 (fun b hb e => by injection e with e; exact (e3 b hb).2 e.symm)
      · have h1 := e2.own_hi b hb
        rw [show (Value.slice (some ⟨g', 0, none⟩) (Ls.length + 1) cap).ownBlock = some g' by simp [Value.ownBlock]]
        refine ⟨fun e => ?_, (e3 b hb).2⟩
        injection e with e
        subst e
        rcases hl4 with h | h
        · exact (e3 g' hb).1 h
        · rw [World.size_alloc] at h; omega
    · obtain rfl : i = Ls.length := by omega
      refine ⟨A1, c1, by rw [← hvl, List.getElem?_append_right (Nat.le_refl _)]; simp, ?_, fun b hb => ?_⟩
      · rw [show (Ls ++ [g]).getD Ls.length [] = g by simp [List.getD_eq_getElem?_getD]]
        have e4 : Ow (w3.alloc o) W0.heap.size A1 n c1 g := World.ownsRow.alloc ho3 o
        exact ((e4.far hg4 (fun b hb e => by have h1 := ho3.own_lo b hb; have h2 := (World.ownsRow.lt hown b e).2; omega)).far hg5 (fun b hb e => by have := ho3.own_lo b hb; injection e with e; omega)).mono (by omega)
      · have h1 := ho3.own_hi b hb
        have h2 := ho3.own_lo b hb
        rw [show (Value.slice (some ⟨g', 0, none⟩) (Ls.length + 1) cap).ownBlock = some g' by simp [Value.ownBlock]]
        refine ⟨fun e => ?_, by omega⟩
        injection e with e
        subst e
        rcases hl4 with h | h
        · have := (World.ownsRow.lt hown g' h).2; omega
        · rw [World.size_alloc] at h; omega
  · refine ⟨?_, ?_, ?_, ?_, fun k hk hkP hkv => ?_, fun b hb => ?_⟩
    · exact hg5.os.trans (hg4.os.trans hB4.os)
    · exact hg5.tape.trans (hg4.tape.trans hB4.tape)
    · exact hg5.output.trans (hg4.output.trans hB4.output)
    · exact Nat.le_trans hB4.size (Nat.le_trans hg4.size hg5.size)
    · exact (hg5.block k (Nat.lt_of_lt_of_le hk (Nat.le_trans hB4.size hg4.size)) (fun e => hkP (by injection e))).trans ((hg4.block k (Nat.lt_of_lt_of_le hk hB4.size) (fun e => hkv e.symm)).trans (hB4.block k hk))
    · rw [show (Value.slice (some ⟨g', 0, none⟩) (Ls.length + 1) cap).ownBlock = some g' by simp [Value.ownBlock]] at hb
      injection hb with hb
      subst hb
      rcases hl4 with h | h
      · exact .inl h
      · exact .inr (by rw [World.size_alloc] at h; omega)
theorem Rows_.below {w w' : World} {lo P : Nat} {v : Value} {Ls : List (List Int)} {n : Nat} (h : Rows_ w lo P v Ls n) (hb : Below w.heap.size w w') : Rows_ w' lo P v Ls n := by
  obtain ⟨A, c, vs, e, hown, hvP, hin⟩ := h
  refine ⟨A, c, vs, e, World.ownsRow.kept hown (row := none) ⟨hb.os, hb.tape, hb.output, hb.size, fun k hk _ => hb.block k hk⟩ (by
    cases e : v.ownBlock
    · exact .inl rfl
    · exact .inr (by simp)), hvP, fun i hi => ?_⟩
  obtain ⟨A', c', e1, e2, e3⟩ := hin i hi
  exact ⟨A', c', e1, e2.below hb, e3⟩
theorem Rows_.own {w : World} {lo P : Nat} {v : Value} {Ls : List (List Int)} {n : Nat} (h : Rows_ w lo P v Ls n) : ∀ g, v.ownBlock = some g → lo ≤ g ∧ g < w.heap.size := by
  obtain ⟨A, c, vs, rfl, hown, hvP, hin⟩ := h
  exact World.ownsRow.lt hown
theorem Chg5.below {w w' : World} {P lo B : Nat} {v v' : Value} (h : Chg5 w w' P v v') (hv : ∀ g, v.ownBlock = some g → lo ≤ g) (hP : B ≤ P) (hlo : B ≤ lo) (hB : B ≤ w.heap.size) : Below B w w' :=
  ⟨h.1, h.2.1, h.2.2.1, h.2.2.2.1, fun k hk => h.2.2.2.2.1 k (Nat.lt_of_lt_of_le hk hB) (by omega) (fun e => by have := hv k e; omega)⟩
theorem Rd.rd' {w w' : World} {P : Nat} {v v' : Value} {B : Nat} {A : Option Addr} {n : Nat} {xs : List Int} (h : Rd w B A n xs) (hc : Chg5 w w' P v v') (hB : B ≤ w.heap.size) (hne : ∀ b off, A = some ⟨b, off, none⟩ → b ≠ P ∧ v.ownBlock ≠ some b) : Rd w' B A n xs := Chg5.rd h hc hB hne
theorem s5_len (fit : List Int → Bool) (s most : Nat) : ∀ f g p Ls, Ls.length < most → (s5 fit s most f g p Ls).length ≤ most := by
  intro f
  induction f with
  | zero => intro g p Ls h; simp only [s5, List.length_append, List.length_singleton]; omega
  | succ f ih =>
    intro g p Ls h
    have key : ∀ r v (Ls : List (List Int)), Ls.length ≤ most → (tryV fit (fun g' L' => s5 fit s most f g' (p + 1) L') g p most r v Ls).length ≤ most := by
      intro r
      induction r with
      | zero => intro v Ls h; exact h
      | succ r ihr =>
        intro v Ls h
        simp only [tryV]
        split
        · next h2 =>
          refine ihr _ _ ?_
          split
          · exact ih _ _ _ h2
          · exact h
        · exact h
    simp only [s5]
    split
    · exact ih _ _ _ h
    · exact key _ _ _ (Nat.le_of_lt h)
def Post5 (w : World) (P lo n : Nat) (v : Value) (Ls : List (List Int)) (e : Ending) (w' : World) : Prop := e = .returned (.tuple #[]) ∧ ∃ v', Out_ w' P v' ∧ Rows_ w' lo P v' Ls n ∧ Chg5 w w' P v v'
set_option maxHeartbeats 2000000 in
theorem specSearch5 (s : Nat) (Ag : Option Addr) (n cg Bg : Nat) (gi : List Int) (Ar : Option Addr) (nr cr Br : Nat) (rs : List RuleM) (hs : s ∈ [2, 3, 4]) (hn : Hid ((n : Int) = (s : Int) * s)) (hn16 : n ≤ 16) (P lo most : Nat) (hBg' : Bg ≤ lo) (hBr' : Br ≤ lo) (hlo : lo ≤ P) (hmr : nr ≤ 1099511627776) (hm : most ≤ 1000) (N : Nat) :
    ∀ (A : Option Addr) (c B : Nat) (g : List Int) (at_ : Nat) (v : Value) (Ls : List (List Int)) (w : World), n - at_ = N → at_ ≤ n → Rd w Bg Ag n gi → RdRs w Br Ar nr rs → Rd w B A n g → B ≤ w.heap.size → (∀ b off, A = some ⟨b, off, none⟩ → b ≠ P ∧ v.ownBlock ≠ some b) → Hid (okAll g s n) → Out_ w P v → Rows_ w lo P v Ls n → Ls.length < most → lo ≤ w.heap.size →
    Calls Tryd.prog 94 #[.agg #[.int .i64 s, .slice Ag n cg, .slice Ar nr cr], .slice A n c, .int .i64 at_, .int .i64 most, .pointer (some ⟨P, 0, none⟩)] w (Post5 w P lo n v (s5 (fitB s gi rs) s most (n - at_) g at_ Ls)) := by
  have hBg : Bg ≤ P := Nat.le_trans hBg' hlo
  have hBr : Br ≤ P := Nat.le_trans hBr' hlo
  induction N using Nat.strongRecOn with
  | _ N ih =>
    intro A c B g at_ v Ls w hN hat hgi hr h hB hne hok ho hrw hL hlow
    have Ih := Lib.hid ih; clear ih
    have HN := Lib.hid hN; clear hN
    obtain ⟨i0, hi, hz0, hz1, hz2⟩ := info_parts ints_info
    have hx0 := pbox_new w s Ag n cg Ar nr cr 26
    have hb0 : Below w.heap.size w (w.alloc (.cells #[.int .i64 s, .slice Ag n cg, .slice Ar nr cr] 26)) := (Below.refl _ _).alloc (Nat.le_refl _) _
    have hs0 : w.heap.size < (w.alloc (.cells #[.int .i64 s, .slice Ag n cg, .slice Ar nr cr] 26)).heap.size := by simp
    go_enter Tryd.func94, Tryd.ntmps94
    go_wp2
    obtain ⟨W0, hW0⟩ : ∃ W0, W0 = w.alloc (.cells #[.int .i64 s, .slice Ag n cg, .slice Ar nr cr] 26) := ⟨_, rfl⟩
    rw [← hW0] at hx0 hb0 hs0
    rw [← hW0]
    clear hW0
    have h0 := h.below (hb0.mono hB)
    go_loopw [2] (fun i wr => wr = W0 ∧ ∃ p : Nat, at_ ≤ p ∧ p ≤ n ∧ i = .int .i64 p ∧ Hid (s5 (fitB s gi rs) s most (n - at_) g at_ Ls = s5 (fitB s gi rs) s most (n - p) g p Ls)) (fun i _ => n - (intOf i).toNat)
    case atStart => exact ⟨rfl, at_, Nat.le_refl _, hat, rfl, Lib.hid rfl⟩
    case round =>
      obtain ⟨rfl, p, hp1, hp2, rfl, hsk⟩ := hrel
      by_cases hlt : p < n
      · obtain ⟨b, off, hA, hbB, hck⟩ := h0.at_ hlt
        subst hA
        obtain ⟨x0, x4⟩ := hok.out p hlt
        have hf : n - p = (n - (p + 1)) + 1 := by omega
        by_cases hx : 0 < nth g p
        · have hsk2 := Lib.hid (show s5 (fitB s gi rs) s most (n - at_) g at_ Ls = s5 (fitB s gi rs) s most (n - (p + 1)) g (p + 1) Ls by rw [hsk.out, hf]; simp only [s5]; rw [if_pos hx])
          clear hf
          go_wp2
          go_roundw
          case rel => exact ⟨by trivial, p + 1, by omega, by omega, by go_num, hsk2⟩
          case measure => simp [intOf]; omega
        · have hsk2 := Lib.hid (show s5 (fitB s gi rs) s most (n - at_) g at_ Ls = tryV (fitB s gi rs) (fun g' L' => s5 (fitB s gi rs) s most (n - (p + 1)) g' (p + 1) L') g p most s 1 Ls by rw [hsk.out, hf]; simp only [s5]; rw [if_neg hx])
          have hpn : ((p : Int) == (n : Int)) = false := by simp only [beq_eq_false_iff_ne]; omega
          have hgw := hgi.below (hb0.mono (Nat.le_trans hBg (Nat.le_of_lt ho.lt)))
          have hrw0 := hr.below (hb0.mono (Nat.le_trans hBr (Nat.le_of_lt ho.lt)))
          have hout0 : Out_ wr P v := (hb0.block P ho.lt).trans ho
          have hrows0 := hrw.below hb0
          have hPw := hout0.lt
          have hvo := hrw.own
          have hww := hb0.size
          have hvw : v.ownBlock ≠ some w.heap.size := fun e => by have := (hvo _ e).2; omega
          have hwP : w.heap.size ≠ P := by have := ho.lt; omega
          clear hf hsk
          go_wp2
          obtain ⟨W0, hW⟩ : ∃ W0, W0 = wr := ⟨_, rfl⟩
          rw [← hW]
          rw [← hW] at hx0 hb0 hs0 h0 hck hgw hrw0 hout0 hrows0 hPw hww
          clear hW
          go_loopw [10] (fun i wr => ∃ (q : Nat) (vv : Value) (L' : List (List Int)), 1 ≤ q ∧ q ≤ s + 1 ∧ i = .int .i64 q ∧ Hid (tryV (fitB s gi rs) (fun g' L' => s5 (fitB s gi rs) s most (n - (p + 1)) g' (p + 1) L') g p most s 1 Ls = tryV (fitB s gi rs) (fun g' L' => s5 (fitB s gi rs) s most (n - (p + 1)) g' (p + 1) L') g p most (s + 1 - q) q L') ∧ Out_ wr P vv ∧ Rows_ wr lo P vv L' n ∧ Chg5 W0 wr P v vv ∧ L'.length ≤ most) (fun i _ => s + 1 - (intOf i).toNat)
          case atStart => exact ⟨1, v, Ls, by omega, by omega, rfl, Lib.hid (by rw [Nat.add_sub_cancel]), hout0, hrows0, Chg5.refl _ _ _, Nat.le_of_lt hL⟩
          case round =>
            obtain ⟨q, vv, L', hq1, hq2, rfl, htv, hout, hrows, hchg, hLm⟩ := hrel
            have hoc := hout.cell
            obtain ⟨Ao, co, vs, rfl, hown, hvP2, hin⟩ := id hrows
            have b0 := (hchg.cell hs0 hwP hvw).trans hx0.1
            have b1 := (hchg.cell hs0 hwP hvw).trans hx0.2.1
            have b2 := (hchg.cell hs0 hwP hvw).trans hx0.2.2
            have hfin := (Chg5.ofBelow (P := P) (v := v) hb0).trans hchg
            have hsW := hchg.2.2.2.1
            by_cases hqs : q ≤ s
            · have hqs' : (q : Int) ≤ (s : Int) := by omega
              by_cases hlm : L'.length < most
              · have hlm' : (L'.length : Int) < (most : Int) := by omega
                have hneW : ∀ b' off', (some ⟨b, off, none⟩ : Option Addr) = some ⟨b', off', none⟩ → b' ≠ P ∧ v.ownBlock ≠ some b' := fun b' off' e => hne b' off' e
                have hBW : B ≤ W0.heap.size := Nat.le_trans hB hww
                have hr' : Rd wr B (some ⟨b, off, none⟩) n g := h0.rd' hchg hBW hneW
                have hbP : Below lo W0 wr := hchg.below (fun g hg => (hvo g hg).1) hlo (Nat.le_refl _) (by omega)
                have hgw2 := hgw.below (hbP.mono hBg')
                have hrw2 := hrw0.below (hbP.mono hBr')
                have hlowr : lo ≤ wr.heap.size := by omega
                have hwwr : w.heap.size < wr.heap.size := by omega
                go_wp2_with (at_builtin; (refine push_some rfl (.tmp 53) (.tmp 54) rfl wr.heap.size (some ⟨wr.heap.size, 0, none⟩) 0 0 [] b off n c B g rfl rfl (Ow.made0 _ _ (Nat.le_refl _)) (hr'.alloc (by omega) _) (by omega) (by omega) (by simp) ?_); (intro A1 c1 w1 ho1 hg1); (simp only [Nat.zero_add, List.nil_append] at ho1); (obtain ⟨gb, rfl, hlog, hgw1⟩ := ho1.form (by omega)); (obtain ⟨hcq, hfq⟩ := ho1.cell hlt); (have hbw1 : Below wr.heap.size wr w1 := ((Below.refl _ _).alloc (Nat.le_refl _) _).grown hg1 (by simp) (fun k hk => (Ow.made0 wr wr.heap.size (Nat.le_refl _)).own_lo k hk)); (have hgbw : w.heap.size ≠ gb := by omega); (have d0 := (cell_other5 (k := p) (v := .int .i64 (q : Int)) hgbw).trans ((hbw1.cell (p := ⟨w.heap.size, 0, none⟩) hwwr).trans b0)); (have d1 := (cell_other5 (k := p) (v := .int .i64 (q : Int)) hgbw).trans ((hbw1.cell (p := ⟨w.heap.size, 1, none⟩) hwwr).trans b1)); (have d2 := (cell_other5 (k := p) (v := .int .i64 (q : Int)) hgbw).trans ((hbw1.cell (p := ⟨w.heap.size, 2, none⟩) hwwr).trans b2)))
                have ho2 : Ow (w1.setCell ⟨gb, p, none⟩ (.int .i64 q)) wr.heap.size (some ⟨gb, 0, none⟩) n c1 (g.set p (q : Int)) := by
                  have := (World.ownsRow.stored ho1 p (.int .i64 (q : Int))).1
                  rw [vals_set] at this
                  exact this
                have hb2 : Below wr.heap.size wr (w1.setCell ⟨gb, p, none⟩ (.int .i64 q)) := (((Below.refl _ _).alloc (Nat.le_refl _) _).grown hg1 (by simp) (fun k hk => (Ow.made0 wr wr.heap.size (Nat.le_refl _)).own_lo k hk)).setCell hlog _
                generalize w1.setCell ⟨gb, p, none⟩ (.int .i64 (q : Int)) = W2 at *
                have hok2 := Lib.hid (okAll_set hok.out h.1 hlt (by omega : (0 : Int) ≤ (q : Int)) hqs')
                have hBP : P ≤ wr.heap.size := Nat.le_of_lt hout.lt
                have HF := Lib.hid (specFits s Ag n cg Bg gi Ar nr cr Br rs (some ⟨gb, 0, none⟩) c1 W2.heap.size (g.set p (q : Int)) W2 (hgw2.below (hb2.mono (Nat.le_trans hBg hBP))) (Nat.le_trans (Nat.le_trans hBg hBP) hb2.size) (hrw2.below (hb2.mono (Nat.le_trans hBr hBP))) (Nat.le_trans (Nat.le_trans hBr hBP) hb2.size) hmr ho2.rd (Nat.le_refl _) hs hn hok2)
                have hstep : s + 1 - q = (s - q) + 1 := by omega
                have hstep2 : s + 1 - (q + 1) = s - q := by omega
                have hs4 : s ≤ 4 := by simp at hs; omega
                have hPr := hout.lt
                have hlt2 := World.ownsRow.lt hown
                have hne3 : ∀ b' off' : Nat, (some ⟨gb, 0, none⟩ : Option Addr) = some ⟨b', off', none⟩ → b' ≠ P ∧ (Value.slice Ao L'.length co).ownBlock ≠ some b' := fun b' off' e => by
                  cases e
                  exact ⟨by omega, fun e => by have := (hlt2 _ e).2; omega⟩
                have hout2 : Out_ W2 P (.slice Ao L'.length co) := (hb2.block P hPr).trans hout
                have hrows2 : Rows_ W2 lo P (.slice Ao L'.length co) L' n := hrows.below hb2
                have hc2 : Chg5 W0 W2 P v (.slice Ao L'.length co) := hchg.trans (Chg5.ofBelow hb2)
                have hs2 := hb2.size
                clear hcq hfq hg1 ho1 hbw1 hoc hrows hout hown hin hfin hchg b0 b1 b2
                refine HF.out.mono ?_
                rintro e w3 ⟨rfl, hb3⟩
                have hs3 := hb3.size
                have hwW2 : w.heap.size < W2.heap.size := by omega
                have e0 := (hb3.cell (p := ⟨w.heap.size, 0, none⟩) hwW2).trans d0
                have e1 := (hb3.cell (p := ⟨w.heap.size, 1, none⟩) hwW2).trans d1
                have e2 := (hb3.cell (p := ⟨w.heap.size, 2, none⟩) hwW2).trans d2
                have hout3 : Out_ w3 P (.slice Ao L'.length co) := (hb3.block P hout2.lt).trans hout2
                have hrows3 := hrows2.below hb3
                have hc3 : Chg5 W0 w3 P v (.slice Ao L'.length co) := hc2.trans (Chg5.ofBelow hb3)
                have hg3 := (hgw2.below (hb2.mono (Nat.le_trans hBg hBP))).below (hb3.mono (Nat.le_trans (Nat.le_trans hBg hBP) hb2.size))
                have hr3 := (hrw2.below (hb2.mono (Nat.le_trans hBr hBP))).below (hb3.mono (Nat.le_trans (Nat.le_trans hBr hBP) hb2.size))
                have ho3 := ho2.below hb3
                clear hout2 hrows2 hc2 hgw2 hrw2 ho2 d0 d1 d2
                cases hft : fitB s gi rs (g.set p (q : Int))
                · have Hn := Lib.hid (show tryV (fitB s gi rs) (fun g' L' => s5 (fitB s gi rs) s most (n - (p + 1)) g' (p + 1) L') g p most (s + 1 - q) q L' = tryV (fitB s gi rs) (fun g' L' => s5 (fitB s gi rs) s most (n - (p + 1)) g' (p + 1) L') g p most (s + 1 - (q + 1)) (q + 1) L' by rw [hstep, hstep2]; simp only [tryV]; rw [if_pos hlm, hft]; rfl)
                  have Ht := Lib.hid (htv.out.trans Hn.out)
                  clear hstep hstep2 hft Hn
                  go_wp2
                  go_roundw
                  case rel => exact ⟨q + 1, _, L', by omega, by omega, by go_num, Ht, hout3, hrows3, hc3, hLm⟩
                  case measure => simp [intOf]; omega
                · have Hn := Lib.hid (show tryV (fitB s gi rs) (fun g' L' => s5 (fitB s gi rs) s most (n - (p + 1)) g' (p + 1) L') g p most (s + 1 - q) q L' = tryV (fitB s gi rs) (fun g' L' => s5 (fitB s gi rs) s most (n - (p + 1)) g' (p + 1) L') g p most (s + 1 - (q + 1)) (q + 1) (s5 (fitB s gi rs) s most (n - (p + 1)) (g.set p (q : Int)) (p + 1) L') by rw [hstep, hstep2]; simp only [tryV]; rw [if_pos hlm, hft]; rfl)
                  have Ht := Lib.hid (htv.out.trans Hn.out)
                  have Hl := Lib.hid (s5_len (fitB s gi rs) s most (n - (p + 1)) (g.set p (q : Int)) (p + 1) L' hlm)
                  have Hm := Lib.hid (show n - (p + 1) < N by have := HN.out; omega)
                  have hp1n : p + 1 ≤ n := hlt
                  have hlow3 : lo ≤ w3.heap.size := by omega
                  clear hstep hstep2 hft Hn
                  go_wp2_with (go_at_call 94; (rw [show ((p : Int) + 1) = ((p + 1 : Nat) : Int) from by omega]); (refine (Ih.out _ Hm.out _ _ _ _ _ _ _ _ rfl hp1n hg3 hr3 ho3.rd (Nat.le_refl _) hne3 hok2 hout3 hrows3 hlm hlow3).mono ?_); rintro e w4 ⟨rfl, v4, hout4, hrows4, hchg4⟩)
                  go_roundw
                  case rel => exact ⟨q + 1, _, _, by omega, by omega, by go_num, Ht, hout4, hrows4, hc3.trans hchg4, Hl.out⟩
                  case measure => simp [intOf]; omega
              · have hlm' : decide ((L'.length : Int) < (most : Int)) = false := by simp; omega
                have HL := Lib.hid (show s5 (fitB s gi rs) s most (n - at_) g at_ Ls = L' by rw [hsk2.out, htv.out, show s + 1 - q = (s - q) + 1 by omega]; simp only [tryV]; rw [if_neg hlm])
                go_wp2
                (try simp only [Exit.inBlock, Exit.then])
                refine bodyPost_ret (results_none rfl _ _ _) rfl ?_
                rw [HL.out]
                exact ⟨rfl, _, hout, hrows, hfin⟩
            · have hqs' : decide ((q : Int) ≤ (s : Int)) = false := by simp; omega
              have HL := Lib.hid (show s5 (fitB s gi rs) s most (n - at_) g at_ Ls = L' by rw [hsk2.out, htv.out, show s + 1 - q = 0 by omega]; rfl)
              go_wp2
              (try simp only [Exit.inBlock, Exit.then])
              refine bodyPost_ret (results_none rfl _ _ _) rfl ?_
              rw [HL.out]
              exact ⟨rfl, _, hout, hrows, hfin⟩
      · obtain rfl : p = n := by omega
        obtain ⟨Ao, co, vs, rfl, hown, hvP, hin⟩ := id hrw
        have ho1 : Out_ wr P (.slice Ao Ls.length co) := (hb0.block P ho.lt).trans ho
        have hoc := ho1.cell
        have hof := ho1.free
        have HR := Lib.hid (fun w' (hb : Below wr.heap.size wr w') => h0.below (hb.mono (Nat.le_trans hB hb0.size)))
        have hown0 : wr.ownsRow lo 23 1 (.slice Ao Ls.length co) Ls.length vs := World.ownsRow.kept hown (row := none) ⟨hb0.os, hb0.tape, hb0.output, hb0.size, fun k hk _ => hb0.block k hk⟩ (by
          cases e : (Value.slice Ao Ls.length co).ownBlock
          · exact .inl rfl
          · exact .inr (by simp))
        have HO : Hid (∀ w', Below wr.heap.size wr w' → w'.ownsRow lo 23 1 (.slice Ao Ls.length co) Ls.length vs) := Lib.hid (fun w' hb => World.ownsRow.kept hown0 (row := none) ⟨hb.os, hb.tape, hb.output, hb.size, fun k hk _ => hb.block k hk⟩ (by
          cases e : (Value.slice Ao Ls.length co).ownBlock
          · exact .inl rfl
          · exact .inr (by simp)))
        have hPw := ho1.lt
        have hlow' : lo ≤ wr.heap.size := by omega
        have HL := Lib.hid (show s5 (fitB s gi rs) s most (p - at_) g at_ Ls = Ls ++ [g] by rw [hsk.out, Nat.sub_self]; rfl)
        have hpp : ((p : Int) == (p : Int)) = true := by simp
        go_wp2
        go_region_law (first
          | (refine step_push_new (by rfl) _ _ (by rfl) wr.heap.size (some ⟨wr.heap.size, 0, none⟩) A p c B g (by rfl) (by rfl) (Ow.made0 _ _ (Nat.le_refl _)) (HR.out _ (below_d1 _ _)) (by omega) (below_d1 _ _).size ?_; intro A1 c1 w3 ho3 hg3 hl3; have hbA : Below wr.heap.size wr w3 := below_push (below_d1 _ _) (Ow.made0 _ _ (Nat.le_refl _)) (Nat.le_refl _) (below_d1 _ _).size hg3; have hoc3 := (hbA.cell (p := ⟨P, 0, none⟩) hPw).trans hoc; have hP3 := Nat.lt_of_lt_of_le hPw hbA.size)
          | (refine step_append_lies _ (by rfl) _ _ 51 (by rfl) lo 23 i0 (.slice none 0 0) 1 24 Tryd.underlying51 hi hz0 hz1 hz2 (by rfl) (by decide) (.slice Ao Ls.length co) Ls.length vs (by rfl) (HO.out _ (hbA.alloc hbA.size _)) ⟨w3.heap.size, 0, none⟩ 1 1 [.slice A1 p c1] (by rfl) (by rfl) (World.news_of_block (cs := #[.slice A1 p c1]) (t := 23) (fr := (0, 0)) (heap_alloc_new w3 _)) (by simp [Value.oneCell']) (by decide) (by simp only [maxLen]; omega) (by omega) (Nat.le_trans hlow' (hbA.alloc hbA.size _).size) _ rfl ?_; intro g' cap w4 h4 hg4 hl4 hlt4; have ho4 : Out_ w4 P (.slice Ao Ls.length co) := (hg4.block P (Nat.lt_of_lt_of_le hPw (hbA.alloc hbA.size _).size) (fun e => hvP e.symm)).trans (((hbA.alloc hbA.size _).block P hPw).trans ho1); have hoc4 := ho4.cell; have hof4 := ho4.free))
        all_goals
          go_wp2
          (try simp only [Exit.inBlock, Exit.then])
          refine bodyPost_ret (results_none rfl _ _ _) rfl ?_
          rw [HL.out]
          obtain ⟨q1, q2, q3⟩ := rows_push hb0 ho hown hin hvP hlow hbA ho3 h4 hg4 hl4
          exact ⟨rfl, _, q1, q2, q3⟩
end Go.Proofs.YtkeoflnmbcdmfaaDoor
