import Derived.Test.YtoejpodchlepiaaVLD
import Derived.Test.YtoejpodchlepiaaVW4E
import Derived.Deep.RegionHeld3
import Derived.Test.YtoejpodchlepiaaVLM
import Derived.Test.YtoejpodchlepiaaVI6M
import Derived.Test.YtoejpodchlepiaaVSqnS
import Derived.Test.YtoejpodchlepiaaVNr
import Derived.Test.YtoejpodchlepiaaVNp
import Derived.Test.YtoejpodchlepiaaVPuzA
import Derived.Lib.SliceRun
import Derived.Test.YtoejpodchlepiaaVNa
set_option maxRecDepth 8000
namespace Go.Proofs.Ytoejpodchlepiaa
open Go.ChangeShapes Go.WideShapes Go.ChangeAt Go.RowKit

def DrawnRule (w : World) (e : Ending) (w' : World) : Prop :=
  ∃ (k : Int) (A : Option Addr) (n c : Nat) (v : Int) (xs : List Int) (s : Int), e = .returned (.tuple #[.agg #[.int .i64 k, .slice A n c, .int .i64 v], .int .i64 s]) ∧ Ow w' w.heap.size A n c xs ∧ n ≤ 5 ∧ -1 ≤ s ∧ s ≤ 5 ∧ Below w.heap.size w w'
end Go.Proofs.Ytoejpodchlepiaa
set_option maxRecDepth 8000
namespace Go.Proofs.Ytoejpodchlepiaa
open Go.ChangeShapes Go.WideShapes Go.ChangeAt Go.RowKit
/-- what a draw of masks hands back. -/
def DrawnM (w : World) (e : Ending) (w' : World) : Prop := ∃ s A n c xs, e = .returned (.tuple #[.slice A n c, .int .i64 s]) ∧ -1 ≤ s ∧ s ≤ 5 ∧ n ≤ 16 ∧ n ≤ c ∧ c ≤ 9223372036854775807 ∧ Rd w' w'.heap.size A n xs ∧ Hid (smallM xs n) ∧ (∀ b off, A = some ⟨b, off, none⟩ → w.heap.size ≤ b) ∧ Below w.heap.size w w'
theorem draw_DrawMasksValid (A : Option Addr) (n c : Nat) (bs : List Int) (w : World) (h : Code_ w A n c bs) : Calls Try.prog 64 #[.slice A n c] w (DrawnM w) := by
  go_enter Try.func64, Try.ntmps64
  go_wp2_with fail
  refine (specOpen A c n bs w h.1 h.2.1 h.2.2).mono ?_
  rintro e w1 ⟨rfl, hr, hb⟩
  go_wp2_with fail
  refine (l20Masks_any w.heap.size w.heap.size 0 2 w1 hr (Nat.le_refl _) (by omega) (by omega)).mono ?_
  rintro e w2 ⟨s, A2, n2, c2, xs, rfl, s1, s5, n16, hnc, hcm, hrd, hsm, hlo, hr2, hg⟩
  go_wp2
  go_ret2
  exact ⟨s, A2, n2, c2, xs, rfl, s1, s5, n16, hnc, hcm, hrd, hsm, fun b off e => Nat.le_trans hb.size (hlo b off e), hb.grown hg hb.size (fun k hk => by injection hk with hk; omega)⟩

theorem draw_DrawNarrowHidden (A : Option Addr) (n c : Nat) (bs : List Int) (w : World) (h : Code_ w A n c bs) : Calls Try.prog 66 #[.slice A n c] w (DrawnM w) := by
  go_enter Try.func66, Try.ntmps66
  go_wp2_with fail
  refine (specOpen A c n bs w h.1 h.2.1 h.2.2).mono ?_
  rintro e w1 ⟨rfl, hr, hb⟩
  go_wp2_with fail
  refine (l20Masks_any w.heap.size w.heap.size 0 12 w1 hr (Nat.le_refl _) (by omega) (by omega)).mono ?_
  rintro e w2 ⟨s, A2, n2, c2, xs, rfl, s1, s5, n16, hnc, hcm, hrd, hsm, hlo, hr2, hg⟩
  go_wp2
  go_ret2
  exact ⟨s, A2, n2, c2, xs, rfl, s1, s5, n16, hnc, hcm, hrd, hsm, fun b off e => Nat.le_trans hb.size (hlo b off e), hb.grown hg hb.size (fun k hk => by injection hk with hk; omega)⟩

theorem rd_tail {w : World} {B b off n : Nat} {xs : List Int} (h : Rd w B (some ⟨b, off, none⟩) n xs) (hn : 1 ≤ n) : Rd w B (some ⟨b, off + 1, none⟩) (n - 1) (xs.drop 1) := by
  refine ⟨by rw [List.length_drop, h.1], fun hn1 => ?_⟩
  obtain ⟨b', off', e, hlt, hc⟩ := h.2 (by omega)
  injection e with e
  injection e with e1 e2 _
  subst e1 e2
  refine ⟨_, off + 1, rfl, hlt, fun k hk => ?_⟩
  have := hc (k + 1) (by omega)
  rw [show nth (xs.drop 1) k = nth xs (k + 1) by simp [nth, List.getD_eq_getElem?_getD]]
  rw [← this]
  congr 2
  omega
theorem mvd_odd {m : List Int} {s : Int} (_hm : mvd m s = true) (h0 : 0 < m.length) : mvd (m.set 0 1) s = false := by
  unfold mvd
  rw [all_not (xs := m.set 0 1) (k := 0) rfl (by rw [List.length_set]; exact h0) (by rw [nth_set h0, if_pos rfl]; unfold mkOk; simp)]
  simp
theorem mvd_less {m : List Int} {s : Int} (hm : mvd m s = true) : mvd (m.drop 1) s = false := by
  obtain ⟨⟨s2, s4⟩, hl, _, _⟩ := mvd_at hm
  have h4 := (sq_bd s2 s4).1
  have : ((m.drop 1).length : Int) ≠ s * s := by rw [List.length_drop]; omega
  unfold mvd
  rw [show (((m.drop 1).length : Int) == s * s) = false by simpa using this]
  simp
set_option maxHeartbeats 4000000 in
theorem masksValid_walk (A : Option Addr) (c n : Nat) (bs : List Int) (w : World) (h : Code_ w A n c bs) :
    Calls Try.prog 16 #[.slice A n c] w fun e w' => e = .returned (.bool true) ∧ Below w.heap.size w w' := by
  by_cases hn : n ≤ 1048576
  · go_enter Try.func16, Try.ntmps16
    go_wp2_with fail
    refine (draw_DrawMasksValid _ _ _ _ _ h).mono ?_
    rintro e w1 ⟨s, A1, n1, c1, xs, rfl, s1, s5, n16, hnc, hcm, hrd, hsm, hlo, hb1⟩
    have hlen := hrd.1
    have hx64 := Lib.hid (smallM_b64 hsm.out hlen)
    have hsb : -9223372036854775808 ≤ s ∧ s ≤ 9223372036854775807 := by omega
    go_wp2_with fail
    refine (implMasksValid A1 c1 n1 _ xs s w1 hrd hx64.out (Nat.le_refl _) (by omega) hsb).mono ?_
    rintro e w2 ⟨rfl, hb2⟩
    have h02 := step hb1 hb2
    go_wp2_with fail
    refine (specMasksValid A1 c1 n1 _ xs s w2 (hrd.below hb2) hb2.size (by omega) hsb).mono ?_
    rintro e w3 ⟨rfl, hb3⟩
    have h03 := step h02 hb3
    have h13 := step hb2 hb3
    have hne : (mvd xs s != mvd xs s) = false := by simp
    cases hv : mvd xs s
    · rw [hv] at hne
      go_wp2_with (go_at_call 24; (with_reducible refine (alive_any _).mono ?_); rintro e w6 ⟨rfl, hb6⟩)
      go_ret
      exact ⟨rfl, step h03 hb6⟩
    · rw [hv] at hne
      obtain ⟨⟨s2, s4⟩, hl, _, _⟩ := mvd_at hv
      have hn4 : 4 ≤ n1 := by have := (sq_bd s2 s4).1; omega
      have hn0 : ((n1 : Int) == 0) = false := by simp only [beq_eq_false_iff_ne]; omega
      have Hodd := Lib.hid (mvd_odd hv (by omega))
      have Hless := Lib.hid (mvd_less hv)
      have hr3 := hrd.below h13
      have hmade : Ow (w3.alloc (.cells #[] 3)) w3.heap.size (some ⟨w3.heap.size, 0, none⟩) 0 0 [] := Ow.made0 _ _ (Nat.le_refl _)
      have hbm : Below w3.heap.size w3 (w3.alloc (.cells #[] 3)) := (Below.refl _ _).alloc (Nat.le_refl _) _
      have hrm := hr3.below (hbm.mono h13.size)
      clear hl hv
      go_wp2_with (at_builtin; refine push_new rfl (.tmp 31) (.tmp 32) rfl w3.heap.size (some ⟨w3.heap.size, 0, none⟩) A1 n1 c1 w1.heap.size xs rfl rfl hmade hrm (by omega) (by simp) ?_; intro A4 c4 w4 ho4 hg4; (have hb4 : Below w3.heap.size w3 w4 := hbm.grown hg4 (by simp) (fun k hk => hmade.own_lo k hk)); (obtain ⟨g4, rfl, hg4l, _⟩ := ho4.form (by omega)); (obtain ⟨hc4, hf4⟩ := ho4.cell (show 0 < n1 by omega)))
      have hop := ho4.putN 0 1
      have hb5 : Below w3.heap.size w3 (w4.setCell ⟨g4, 0, none⟩ (.int .i64 1)) := Below.setCell (p := (⟨g4, 0, none⟩ : Addr)) hb4 hg4l _
      have h05 := step h03 hb5
      have hr5 := hr3.below (hb5.mono h13.size)
      have h64b : B64 (xs.set 0 1) := by
        refine smallM_b64 (n := n1) (smallM_set hsm.out ⟨by decide, by decide⟩) (by rw [List.length_set]; exact hlen)
      go_wp2_with fail
      refine (implMasksValid _ c4 n1 _ (xs.set 0 1) s _ hop.rd h64b (Nat.le_refl _) (by omega) hsb).mono ?_
      rintro e w6 ⟨rfl, hb6⟩
      rw [Hodd.out]
      have h06 := step h05 hb6
      obtain ⟨b1, off1, rfl, _, _⟩ := hrd.at_ (show 0 < n1 by omega)
      have hb56 := step hb5 hb6
      have hr6 := Lib.hid (rd_tail (hr3.below (hb56.mono h13.size)) (show 1 ≤ n1 by omega))
      have hcI : (1 : Int) < (c1 : Int) := by omega
      have hnI : (1 : Int) ≤ (n1 : Int) := by omega
      have h64d := Lib.hid (show B64 (xs.drop 1) from fun k => by
        have e : nth (xs.drop 1) k = nth xs (k + 1) := by simp [nth, List.getD_eq_getElem?_getD]
        rw [e]; exact hx64.out (k + 1))
      have hwB : w1.heap.size ≤ w6.heap.size := Nat.le_trans h13.size hb56.size
      clear hlen hrd hr3 hr5 hmade hrm hn4
      go_wp2_with fail
      refine (implMasksValid _ (c1 - 1) (n1 - 1) w1.heap.size (xs.drop 1) s w6 hr6.out h64d.out hwB (by omega) hsb).mono ?_
      rintro e w7 ⟨rfl, hb7⟩
      rw [Hless.out]
      go_wp2
      go_ret
      exact ⟨rfl, step h06 hb7⟩
  · go_enter Try.func16, Try.ntmps16
    go_wp2
    go_ret
    exact ⟨rfl, Below.refl _ _⟩
end Go.Proofs.Ytoejpodchlepiaa
set_option maxRecDepth 8000
namespace Go.Proofs.Ytoejpodchlepiaa
open Go.ChangeShapes Go.WideShapes Go.ChangeAt Go.RowKit
/-- masks within masks, bit by bit. -/
def Wi (a b : List Int) : Prop := ∀ k, k < b.length → bits .andNot .i64 (nth a k) (nth b k) = 0
theorem an_self : ∀ x, x < 32 → bits .andNot .i64 (x : Nat) (x : Nat) = 0 := by decide +kernel
theorem an_and : ∀ x, x < 32 → ∀ v, v < 5 → ∀ y, y < 32 → bits .andNot .i64 (x : Nat) (y : Nat) = 0 → bits .andNot .i64 (bits .and .i64 (x : Nat) (2 ^ v)) (y : Nat) = 0 := by decide +kernel
theorem and_bit : ∀ x, x < 32 → ∀ v, v < 5 → (bits .and .i64 (x : Nat) (2 ^ v)).toNat.testBit v = x.testBit v := by decide +kernel
theorem Wi.refl {m : List Int} {s : Int} (hm : mvd m s = true) : Wi m m := fun k hk => by
  obtain ⟨x0, x1, _⟩ := mvd_nth hm k
  obtain ⟨x, hx⟩ := Int.eq_ofNat_of_zero_le x0
  rw [hx]; exact an_self x (by omega)
theorem within_any (A A' : Option Addr) (c c' n n' B B' : Nat) (xs ys : List Int) (w : World) (h : Rd w B A n xs) (h' : Rd w B' A' n' ys) (hnn : n = n') (hw : Hid (Wi xs ys)) (hm : n ≤ 1099511627776) :
    Calls Try.prog 67 #[.slice A n c, .slice A' n' c'] w fun e w' => e = .returned (.bool true) ∧ Below w.heap.size w w' := by
  subst hnn
  have hl' := Lib.hid h'.1
  go_enter Try.func67, Try.ntmps67
  go_wp2
  go_loopw [5] (fun i wr => ∃ k : Nat, k ≤ n ∧ i = .int .i64 k ∧ Below w.heap.size w wr ∧ Rd wr B A n xs ∧ Rd wr B' A' n ys) (fun i _ => n - (intOf i).toNat)
  case atStart => exact ⟨0, Nat.zero_le _, rfl, Below.refl _ _, h, h'⟩
  case round =>
    obtain ⟨k, hk, rfl, hb, hr, hr'⟩ := hrel
    by_cases hlt : k < n
    · obtain ⟨b, off, rfl, hbB, hck⟩ := hr.at_ hlt
      obtain ⟨b', off', rfl, hbB', hck'⟩ := hr'.at_ hlt
      have hltI : (k : Int) < (n : Int) := by omega
      have hne : (bits .andNot .i64 (nth xs k) (nth ys k) != 0) = false := by rw [hw.out k (by rw [hl'.out]; exact hlt)]; rfl
      go_wp2
      go_quiet (fail)
      go_wp2
      go_roundw
      case rel => exact ⟨k + 1, by omega, by go_num, below_drewN hb _, hr, hr'⟩
      case measure => simp [intOf]; omega
    · obtain rfl : k = n := by omega
      go_wp2
      go_ret
      exact ⟨rfl, hb⟩
set_option maxHeartbeats 1000000 in
theorem keeps_any (A A' : Option Addr) (c c' n n' B B' : Nat) (m x : List Int) (s : Int) (w : World) (h : Rd w B A n m) (h' : Rd w B' A' n' x) (hB : B ≤ w.heap.size) (hB' : B' ≤ w.heap.size) (hm : n ≤ 1099511627776) (hm' : n' ≤ 1099511627776) (h64 : B64 x) (s2 : 2 ≤ s) (s4 : s ≤ 4)
    (hk : Hid (∀ q : Nat, sqSolved (sqn s q) s = true → mhB m s (sqn s q) = true → mhB x s (sqn s q) = true)) :
    Calls Try.prog 68 #[.slice A n c, .slice A' n' c', .int .i64 s] w fun e w' => e = .returned (.bool true) ∧ Below w.heap.size w w' := by
  have hsb : -9223372036854775808 ≤ s ∧ s ≤ 9223372036854775807 := by omega
  go_enter Try.func68, Try.ntmps68
  go_wp2
  go_loopw [7] (fun i wr => ∃ k : Nat, k ≤ 14 ∧ i = .int .i64 k ∧ Below w.heap.size w wr) (fun i _ => 14 - (intOf i).toNat)
  case atStart => exact ⟨0, Nat.zero_le _, rfl, Below.refl _ _⟩
  case round =>
    obtain ⟨k, hk14, rfl, hb⟩ := hrel
    by_cases hlt : k < 14
    · have hltI : (k : Int) < 14 := by omega
      have HS := Lib.hid (fun w' => specSquareNumber s (k : Int) w' (by omega) (by omega))
      by_cases hc : (k : Int) < sqCnt s
      · obtain ⟨hl, hsv, _⟩ := sqn_some s2 s4 (by omega : (0 : Int) ≤ k) hc
        obtain ⟨q4, q16⟩ := sq_bd s2 s4
        obtain ⟨ng, hng⟩ : ∃ ng : Nat, (sqn s k).length = ng := ⟨_, rfl⟩
        have hng4 : 4 ≤ ng := by omega
        have hng16 : ng ≤ 16 := by omega
        have hnz : ((ng : Int) == 0) = false := by simp only [beq_eq_false_iff_ne]; omega
        have Hng := Lib.hid hng
        have Hk := Lib.hid (hk.out k hsv)
        clear hl hsv hng hc q4 q16
        have hX : ∃ bb, mhB x s (sqn s k) = bb := ⟨_, rfl⟩
        obtain ⟨bb, hbb⟩ := hX
        have Hbb := Lib.hid hbb
        cases hmh : mhB m s (sqn s k)
        · go_wp2_with (first
            | (go_at_call 111; refine (HS.out _).mono ?_; rintro e w2 ⟨Ag, cg, rfl, hog, hb2⟩; rw [Hng.out] at hog ⊢; have h02 := step hb hb2; have hrg := hog.rd; have hrm := h.below (h02.mono hB); have hBm := Nat.le_trans hB h02.size)
            | (go_at_call 50; refine (specMasksHave A c n B m s Ag cg ng _ (sqn s k) _ hrm hBm hm hrg (Nat.le_refl _) (by omega) hsb).mono ?_; rintro e w3 ⟨rfl, hb3⟩; rw [hmh]; have h03 := step h02 hb3))
          go_roundw
          case rel => exact ⟨k + 1, by omega, by go_num, h03⟩
          case measure => simp [intOf]; omega
        · have hx := Lib.hid (Hk.out hmh)
          clear hbb
          go_wp2_with (first
            | (go_at_call 111; refine (HS.out _).mono ?_; rintro e w2 ⟨Ag, cg, rfl, hog, hb2⟩; rw [Hng.out] at hog ⊢; have h02 := step hb hb2; have hrg := hog.rd; have hrm := h.below (h02.mono hB); have hBm := Nat.le_trans hB h02.size)
            | (go_at_call 50; refine (specMasksHave A c n B m s Ag cg ng _ (sqn s k) _ hrm hBm hm hrg (Nat.le_refl _) (by omega) hsb).mono ?_; rintro e w3 ⟨rfl, hb3⟩; rw [hmh]; have h03 := step h02 hb3; have hrg3 := hrg.below hb3; have hrx := h'.below (h03.mono hB'); have hBx := Nat.le_trans hB' h03.size; have hBg := hb3.size)
            | (go_at_call 51; refine (implMasksHave A' c' n' B' x s Ag cg ng _ (sqn s k) _ hrx h64 hBx hm' hrg3 hBg (by omega) hsb).mono ?_; rintro e w4 ⟨rfl, hb4⟩; rw [hx.out]; have h04 := step h03 hb4))
          go_roundw
          case rel => exact ⟨k + 1, by omega, by go_num, h04⟩
          case measure => simp [intOf]; omega
      · have hz := Lib.hid (sqn_none (n := (k : Int)) s2 s4 (by omega))
        go_wp2_with (go_at_call 111; refine (HS.out _).mono ?_; rintro e w2 ⟨Ag, cg, rfl, hog, hb2⟩; rw [hz.out])
        go_ret
        exact ⟨rfl, step hb hb2⟩
    · obtain rfl : k = 14 := by omega
      go_wp2
      go_ret
      exact ⟨rfl, hb⟩
end Go.Proofs.Ytoejpodchlepiaa
set_option maxRecDepth 8000
namespace Go.Proofs.Ytoejpodchlepiaa
open Go.ChangeShapes Go.WideShapes Go.ChangeAt Go.RowKit
theorem line_at {s u : Nat} (hs : s ∈ [2, 3, 4]) (hu : u < 2 * s) : ∀ j, j < s → (lineAt s u j).toNat < s * s := by
  intro j hj
  simp at hs
  by_cases hx : (u : Int) < (s : Int)
  · rw [lineAt_row hx]
    rcases hs with rfl | rfl | rfl <;> omega
  · rw [lineAt_col hx]
    rcases hs with rfl | rfl | rfl <;> omega
theorem hC_none {m : List Int} {S u : Int} {v : Nat} : ∀ {N : Nat}, hC m S u v N = 0 → ∀ k, k < N → hB m S u v k = false := by
  intro N
  induction N with
  | zero => intro _ k hk; omega
  | succ N ih =>
    intro h k hk
    simp only [hC] at h
    split at h
    · omega
    · next hn =>
      by_cases e : k = N
      · subst e; simpa using hn
      · exact ih h k (by omega)
theorem hL_one {m : List Int} {S u : Int} {v : Nat} : ∀ {N : Nat}, hC m S u v N = 1 → ∀ k, k < N → hB m S u v k = true → hL m S u v N = (lineAt S u k).toNat := by
  intro N
  induction N with
  | zero => intro _ k hk; omega
  | succ N ih =>
    intro h k hk hb
    simp only [hC] at h
    simp only [hL]
    split at h
    · next hn =>
      rw [if_pos hn]
      by_cases e : k = N
      · subst e; rfl
      · have := hC_none (by omega : hC m S u v N = 0) k (by omega)
        rw [hb] at this; cases this
    · next hn =>
      rw [if_neg hn]
      by_cases e : k = N
      · subst e; exact absurd hb hn
      · exact ih h k (by omega) hb
theorem inr_bit {x : Int} (h0 : 0 ≤ x) (h1 : x ≤ 30) {v : Nat} (hv : v ≤ 4) : (bits .and .i64 x (2 ^ v)).toNat.testBit v = x.toNat.testBit v := by
  obtain ⟨y, rfl⟩ := Int.eq_ofNat_of_zero_le h0
  rw [Int.toNat_natCast]
  exact and_bit y (by omega) v (by omega)
/-- a solved grid within masks stays within them. -/
theorem hVs_in {m g o : List Int} {s : Nat} {u : Nat} (hs : s ∈ [2, 3, 4]) (hm : mvd m s = true) (hsb : Sub o m) (hu : u < 2 * s)
    (hg : ∀ v : Nat, 1 ≤ v → v ≤ s → ∃ i, i < s ∧ lineV g s u i = v) (hin : ∀ k, k < s * s → inMask m g k = true) (ho : ∀ k, k < s * s → inMask o g k = true) (r : Nat) (hr : r ≤ s) : ∀ k, k < s * s → inMask (hVs m s s u o r) g k = true := by
  induction r with
  | zero => exact ho
  | succ r ih =>
    have ih := ih (by omega)
    simp only [hVs]
    split
    · next h1 =>
      obtain ⟨i, hi, hv⟩ := hg (r + 1) (by omega) hr
      have hp := line_at hs hu i hi
      have hbi : hB m s u (r + 1) i = true := by
        have := hin _ hp
        unfold inMask at this
        unfold hB
        unfold lineV at hv
        rw [hv] at this
        exact this
      have he := hL_one h1 i hi hbi
      rw [he]
      have hln : m.length = s * s := by
        have := (mvd_at hm).2.1
        simp at hs
        rcases hs with rfl | rfl | rfl <;> omega
      have hlo : (hVs m s s u o r).length = s * s := by rw [hVs_len, hsb.1, hln]
      intro k hk
      unfold inMask
      rw [nth_set (by rw [hlo]; exact hp)]
      split
      · next e =>
        subst e
        have hs4 : s ≤ 4 := by simp at hs; omega
        have hsub := hVs_sub (u := (u : Int)) (S := (s : Int)) (N := s) hm hsb r (by omega)
        obtain ⟨⟨x0, x1, _⟩, _⟩ := hsub.at_ hm (by rw [hln]; exact hp)
        have := ih _ hp
        unfold inMask at this
        unfold lineV at hv
        rw [hv] at this ⊢
        have e2 : ((r + 1 : Nat) : Int).toNat = r + 1 := by omega
        rw [e2] at this ⊢
        rw [inr_bit x0 x1 (by omega)]
        exact this
      · exact ih k hk
    · exact ih
theorem hU_in {m g : List Int} {s : Nat} (hs : s ∈ [2, 3, 4]) (hm : mvd m s = true)
    (hg : ∀ u, u < 2 * s → ∀ v : Nat, 1 ≤ v → v ≤ s → ∃ i, i < s ∧ lineV g s (u : Nat) i = v) (hin : ∀ k, k < s * s → inMask m g k = true) (u : Nat) (hu : u ≤ 2 * s) : ∀ k, k < s * s → inMask (hU m s s u) g k = true := by
  have hs4 : s ≤ 4 := by simp at hs; omega
  induction u with
  | zero => exact hin
  | succ u ih =>
    simp only [hU]
    exact hVs_in hs hm (hU_sub hm hs4 u) (by omega) (hg u (by omega)) hin (ih (by omega)) s (Nat.le_refl _)
theorem sol_lines {g : List Int} {s : Nat} (hs : s ∈ [2, 3, 4]) (hl : g.length = s * s) (h : sqSolved g s = true) : ∀ u, u < 2 * s → ∀ v : Nat, 1 ≤ v → v ≤ s → ∃ i, i < s ∧ lineV g s (u : Nat) i = v := by
  obtain ⟨h1, h2, h3⟩ := (solved_iff hl).1 h
  intro u hu v v1 v2
  have hd : dupTo (lineV g s (u : Nat)) s = false := by
    cases e : dupTo (lineV g s (u : Nat)) s
    · rfl
    · have := clash_at (xs := g) (size := (s : Int)) (l := u) (by omega) (by rw [Int.toNat_natCast]; exact e)
      rw [h2] at this; cases this
  have := pig (f := lineV g s (u : Nat)) hs (fun i hi => by
    have hp := line_at hs hu i hi
    have hz := h3 _ hp
    obtain ⟨q0, q1⟩ := gv_nth h1 (k := (lineAt s u i).toNat) (by rw [hl]; exact hp)
    unfold lineV
    omega) hd (v := (v : Int)) (by omega) (by omega)
  exact hasTo_iff.1 this
theorem nh_keeps {m g : List Int} {s : Int} (hm : mvd m s = true) (hg : sqSolved g s = true) (h : mhB m s g = true) : mhB (nhL m s) s g = true := by
  obtain ⟨⟨s2, s4⟩, hlm, _, _⟩ := mvd_at hm
  obtain ⟨t, rfl⟩ : ∃ t : Nat, s = t := ⟨s.toNat, by omega⟩
  have hs : t ∈ [2, 3, 4] := by simp; omega
  simp only [mhB, Bool.and_eq_true, List.all_eq_true, List.mem_range] at h ⊢
  obtain ⟨⟨_, hgv⟩, hin⟩ := h
  have hlg := gv_len hgv
  have hln : g.length = t * t := by
    simp at hs
    rcases hs with rfl | rfl | rfl <;> omega
  refine ⟨⟨(nh_sub hm).mvd_ hm, hgv⟩, ?_⟩
  rw [hln] at hin ⊢
  have := hU_in hs hm (sol_lines hs hln hg) hin (2 * t) (Nat.le_refl _)
  unfold nhL
  rw [if_pos hm, Int.toNat_natCast]
  exact this
theorem hVs_wi {m o : List Int} {s : Int} {S : Int} {N : Nat} {u : Int} (hm : mvd m s = true) (h : Sub o m) (hw : Wi o m) (r : Nat) (hr : r ≤ 4) : Wi (hVs m S N u o r) m := by
  induction r with
  | zero => exact hw
  | succ r ih =>
    have ih := ih (by omega)
    simp only [hVs]
    split
    · have hsub := hVs_sub (u := u) (S := S) (N := N) hm h r (by omega)
      intro k hk
      rw [show nth ((hVs m S N u o r).set (hL m S u (r + 1) N) (bits .and .i64 (nth (hVs m S N u o r) (hL m S u (r + 1) N)) (2 ^ (r + 1)))) k = if hL m S u (r + 1) N = k then bits .and .i64 (nth (hVs m S N u o r) (hL m S u (r + 1) N)) (2 ^ (r + 1)) else nth (hVs m S N u o r) k from ?_]
      · split
        · next e =>
          rw [e]
          obtain ⟨⟨x0, x1, _⟩, _⟩ := hsub.at_ hm hk
          obtain ⟨y0, y1, _⟩ := mvd_nth hm k
          have hz := ih k hk
          obtain ⟨x, hx⟩ := Int.eq_ofNat_of_zero_le x0
          obtain ⟨y, hy⟩ := Int.eq_ofNat_of_zero_le y0
          rw [hx, hy] at hz ⊢
          exact an_and x (by omega) (r + 1) (by omega) y (by omega) hz
        · exact ih k hk
      · by_cases hj : hL m S u (r + 1) N < (hVs m S N u o r).length
        · exact nth_set hj
        · rw [List.set_eq_of_length_le (by omega)]
          rw [if_neg (by have := hsub.1; omega)]
    · exact ih
theorem hU_wi {m : List Int} {s S : Int} {N : Nat} (hm : mvd m s = true) (hN : N ≤ 4) (u : Nat) : Wi (hU m S N u) m := by
  induction u with
  | zero => exact Wi.refl hm
  | succ u ih => simp only [hU]; exact hVs_wi hm (hU_sub hm hN u) ih N hN
theorem nh_wi {m : List Int} {s : Int} (hm : mvd m s = true) : Wi (nhL m s) m := by
  unfold nhL; rw [if_pos hm]; exact hU_wi hm (by have := (mvd_at hm).1; omega) _
end Go.Proofs.Ytoejpodchlepiaa
set_option maxRecDepth 8000
namespace Go.Proofs.Ytoejpodchlepiaa
open Go.ChangeShapes Go.WideShapes Go.ChangeAt Go.RowKit
/-! the second technique of the program: a queue of cells. -/
theorem hC_mono (m : List Int) (S u : Int) (v : Nat) {k k' : Nat} (h : k ≤ k') : hC m S u v k ≤ hC m S u v k' := by
  induction h with
  | refl => exact Nat.le_refl _
  | step _ ih => simp only [hC]; split <;> omega
/-- what a line's values leave in the queue: cells and values. -/
def qV (m : List Int) (S : Int) (N : Nat) (u : Int) : Nat → List (Nat × Nat)
  | 0 => []
  | r + 1 => if hC m S u (r + 1) N = 1 then qV m S N u r ++ [(hL m S u (r + 1) N, r + 1)] else qV m S N u r
def qU (m : List Int) (S : Int) (N : Nat) : Nat → List (Nat × Nat)
  | 0 => []
  | u + 1 => qU m S N u ++ qV m S N u N
def keepQ (o : List Int) (p : Nat × Nat) : List Int := o.set p.1 (bits .and .i64 (nth o p.1) (2 ^ p.2))
theorem qV_fold (m : List Int) (S : Int) (N : Nat) (u : Int) (o : List Int) (r : Nat) : (qV m S N u r).foldl keepQ o = hVs m S N u o r := by
  induction r with
  | zero => rfl
  | succ r ih =>
    simp only [qV, hVs]
    split
    · rw [List.foldl_append, ih]; rfl
    · exact ih
theorem qU_fold (m : List Int) (S : Int) (N u : Nat) : (qU m S N u).foldl keepQ m = hU m S N u := by
  induction u with
  | zero => rfl
  | succ u ih => simp only [qU, hU]; rw [List.foldl_append, ih, qV_fold]
theorem qV_len (m : List Int) (S : Int) (N : Nat) (u : Int) (r : Nat) : (qV m S N u r).length ≤ r := by
  induction r with
  | zero => exact Nat.le_refl _
  | succ r ih =>
    simp only [qV]
    split
    · simp; omega
    · omega
theorem qU_len (m : List Int) (S : Int) (N u : Nat) : (qU m S N u).length ≤ u * N := by
  induction u with
  | zero => simp [qU]
  | succ u ih => simp only [qU, List.length_append]; have := qV_len m S N u N; rw [Nat.succ_mul]; omega
theorem qV_in {m : List Int} {S u : Int} {N n : Nat} (hat : ∀ j, j < N → (lineAt S u j).toNat < n) (h0 : 0 < n) (r : Nat) : ∀ p ∈ qV m S N u r, p.1 < n ∧ 1 ≤ p.2 ∧ p.2 ≤ r := by
  induction r with
  | zero => intro p hp; simp [qV] at hp
  | succ r ih =>
    intro p hp
    simp only [qV] at hp
    split at hp
    · rcases List.mem_append.1 hp with h | h
      · have := ih p h; omega
      · rw [List.mem_singleton] at h; subst h
        exact ⟨hL_lt hat h0, by simp, by simp⟩
    · have := ih p hp; omega
theorem qU_in {m : List Int} {S : Int} {N n U : Nat} (hat : ∀ u : Nat, u < U → ∀ j, j < N → (lineAt S u j).toNat < n) (h0 : 0 < n) (u : Nat) (hu : u ≤ U) : ∀ p ∈ qU m S N u, p.1 < n ∧ 1 ≤ p.2 ∧ p.2 ≤ N := by
  induction u with
  | zero => intro p hp; simp [qU] at hp
  | succ u ih =>
    intro p hp
    simp only [qU] at hp
    rcases List.mem_append.1 hp with h | h
    · exact ih (by omega) p h
    · exact qV_in (hat u (by omega)) h0 N p h
/-- a queue of the call's own. -/
def fl (q : List (Nat × Nat)) : List Value := q.flatMap (fun p => [.int .i64 (p.1 : Int), .int .i64 (p.2 : Int)])
theorem fl_len (q : List (Nat × Nat)) : (fl q).length = q.length * 2 := by
  induction q with
  | nil => rfl
  | cons a q ih =>
    have : fl (a :: q) = [.int .i64 (a.1 : Int), .int .i64 (a.2 : Int)] ++ fl q := rfl
    rw [this, List.length_append, ih, List.length_cons]; simp; omega
theorem fl_app (q q' : List (Nat × Nat)) : fl (q ++ q') = fl q ++ fl q' := by simp [fl]
theorem fl_get {q : List (Nat × Nat)} {k : Nat} (h : k < q.length) : (fl q)[k * 2]? = some (.int .i64 (q[k].1 : Int)) ∧ (fl q)[k * 2 + 1]? = some (.int .i64 (q[k].2 : Int)) := by
  induction q generalizing k with
  | nil => simp at h
  | cons a q ih =>
    have e : fl (a :: q) = .int .i64 (a.1 : Int) :: .int .i64 (a.2 : Int) :: fl q := rfl
    rw [e]
    cases k with
    | zero => simp
    | succ k =>
      have h' : k < q.length := by simpa using h
      rw [show (k + 1) * 2 = k * 2 + 1 + 1 by omega]
      simpa using ih h'
def OwF (w : World) (lo : Nat) (A : Option Addr) (n c : Nat) (q : List (Nat × Nat)) : Prop := w.ownsRow lo 90 2 (.slice A n c) n (fl q)
theorem OwF.below {w w' : World} {lo n c : Nat} {A : Option Addr} {q : List (Nat × Nat)} (h : OwF w lo A n c q) (hb : Below w.heap.size w w') : OwF w' lo A n c q :=
  World.ownsRow.kept h (row := none) ⟨hb.os, hb.tape, hb.output, hb.size, fun k hk _ => hb.block k hk⟩ (by
    cases e : (Value.slice A n c).ownBlock
    · exact .inl rfl
    · exact .inr (by simp))
theorem found_info : (Try.prog.info? 90).map (fun i => (i.zero, i.size, i.bytes)) = some (some (.agg #[.int .i64 0, .int .i64 0]), 2, 16) := by kernel_rfl
/-- 'queue = append(queue, foundCell{cell, value})'. -/
theorem push_found {w : World} {ops : Array Oper} {rest : List Oper} {o : Oper} {a : Act} {Q : Exit → Act → World → Prop} (hgd : o.guard = none) (s x : Operand)
    (ho : o.op = .call { callee := .builtin .append, args := #[s, x], argTypes := #[87, 87] })
    (lo : Nat) (A : Option Addr) (n c : Nat) (q : List (Nat × Nat)) (p v : Nat) (hs : a.eval s = .slice A n c) (hx : a.eval x = .slice (some ⟨w.heap.size, 0, none⟩) 1 1) (hown : OwF w lo A n c q) (hn : n ≤ 1099511627776) (hlo : lo ≤ w.heap.size)
    (h : ∀ A' c' w', OwF w' lo A' (n + 1) c' (q ++ [(p, v)]) → (w.alloc (.cells #[.int .i64 (p : Int), .int .i64 (v : Int)] 90)).grownBy w' (Value.slice A n c).ownBlock → wpList Try.prog ops Q rest (a.put o.dst (.slice A' (n + 1) c')) w') :
    wpList Try.prog ops Q (o :: rest) a (w.alloc (.cells #[.int .i64 (p : Int), .int .i64 (v : Int)] 90)) := by
  obtain ⟨i0, hi, hz0, hz1, hz2⟩ := info_parts found_info
  refine wpList_append_own (P := Try.prog) _ hgd s x 87 ho lo 90 i0 (.agg #[.int .i64 0, .int .i64 0]) 2 16 Try.underlying87 hi hz0 hz1 hz2 rfl (by decide) _ n (fl q) hs (World.ownsRow.alloc hown _) ⟨w.heap.size, 0, none⟩ 1 1 [.int .i64 (p : Int), .int .i64 (v : Int)] hx rfl ?_ ?_ (by simp only [maxLen]; omega) (by omega) (by simp; omega) ?_
  · intro j u hj
    match j, hj with
    | 0, hj =>
      simp at hj
      subst hj
      simp [Addr.add]
    | 1, hj =>
      simp at hj
      subst hj
      simp [Addr.add]
  · intro u hu
    simp at hu
    rcases hu with rfl | rfl <;> rfl
  · intro v' w' h2 h3 _
    obtain ⟨g, cap, hv, _, _⟩ := World.ownsRow.form h2 (by omega)
    subst hv
    exact h _ _ _ (by unfold OwF; rw [fl_app]; exact h2) h3
set_option maxHeartbeats 1000000 in
theorem onlyPlace_any (A : Option Addr) (c n B : Nat) (m : List Int) (Ac : Option Addr) (cc N Bc : Nat) (S u : Int) (v : Nat) (w : World) (h : Rd w B A n m) (hc : Rd w Bc Ac N (lineTo S u N)) (hBm : B ≤ w.heap.size) (hBc : Bc ≤ w.heap.size) (hN : N ≤ 4) (hat : Hid (∀ j, j < N → ∃ q : Nat, lineAt S u j = (q : Int) ∧ q < n)) (hrng : Hid (∀ k, k < n → 0 ≤ nth m k ∧ nth m k ≤ 30)) (hv : v ≤ 4) :
    Calls Try.prog 123 #[.slice A n c, .slice Ac N cc, .int .i64 v] w fun e w' => (∃ p : Nat, e = .returned (.tuple #[.int .i64 p, .bool (hC m S u v N == 1)]) ∧ (hC m S u v N = 1 → p = hL m S u v N)) ∧ Below w.heap.size w w' := by
  go_enter Try.func123, Try.ntmps123
  go_wp2
  go_loopw [8, 9, 14] (fun pl fo i wr => ∃ k p : Nat, k ≤ N ∧ i = .int .i64 k ∧ hC m S u v k ≤ 1 ∧ pl = .int .i64 p ∧ fo = .bool (hC m S u v k == 1) ∧ Hid (hC m S u v k = 1 → p = hL m S u v k) ∧ Below w.heap.size w wr) (fun _ _ i _ => N - (intOf i).toNat)
  case atStart => exact ⟨0, 0, Nat.zero_le _, rfl, Nat.zero_le _, rfl, rfl, Lib.hid (fun h => by simp [hC] at h), Below.refl _ _⟩
  case round =>
    obtain ⟨k, p, hk, rfl, hle, rfl, rfl, hp, hb⟩ := hrel
    by_cases hlt : k < N
    · obtain ⟨q, hq, hqn⟩ := hat.out k hlt
      obtain ⟨b, off, rfl, hbB, hck⟩ := (hc.below (hb.mono hBc)).at_ hlt
      rw [show nth (lineTo S u N) k = (q : Int) by rw [← hq]; simp [lineTo, nth, List.getD_eq_getElem?_getD, hlt]] at hck
      obtain ⟨b', off', rfl, hbB', hcm⟩ := (h.below (hb.mono hBm)).at_ hqn
      obtain ⟨x0, x1⟩ := hrng.out q hqn
      obtain ⟨M, hM⟩ := Int.eq_ofNat_of_zero_le x0
      rw [hM] at hcm x1
      have hsh := and_pow0 M v (by omega) hv
      have hbit : hB m S u v k = M.testBit v := by simp only [hB, hq, Int.toNat_natCast]; rw [hM]; simp
      have hvs : v < 64 := by omega
      cases hh : M.testBit v
      · rw [hh] at hsh hbit
        have H1 := Lib.hid (show hC m S u v (k + 1) = hC m S u v k by simp [hC, hbit])
        have H2 := Lib.hid (show hL m S u v (k + 1) = hL m S u v k by simp [hL, hbit])
        clear hh hbit hM hq x0
        go_wp2
        go_quiet (fail)
        go_wp2
        go_roundw
        case rel => exact ⟨k + 1, p, by omega, by go_num, by rw [H1.out]; exact hle, rfl, by rw [H1.out], Lib.hid (by rw [H1.out, H2.out]; exact hp.out), below_drewN hb _⟩
        case measure => simp [intOf]; omega
      · rw [hh] at hsh hbit
        have H1 := Lib.hid (show hC m S u v (k + 1) = hC m S u v k + 1 by simp [hC, hbit])
        have H2 := Lib.hid (show hL m S u v (k + 1) = q by simp [hL, hbit, hq])
        clear hh hbit hM hq x0
        by_cases h1 : hC m S u v k = 1
        · have Hf := Lib.hid (show hC m S u v N ≠ 1 by have := hC_mono m S u v (show k + 1 ≤ N by omega); rw [H1.out] at this; omega)
          have f1 : (hC m S u v k == 1) = true := by simp [h1]
          rw [f1]
          clear h1 f1
          go_wp2
          go_quiet (fail)
          go_wp2
          go_ret2
          exact ⟨⟨0, by rw [show (hC m S u v N == 1) = false by simp [Hf.out]]; rfl, fun h => absurd h Hf.out⟩, below_drewN hb _⟩
        · have h0 := Lib.hid (show hC m S u v k = 0 by omega)
          have f1 : (hC m S u v k == 1) = false := by simp [h1]
          rw [f1]
          clear h1 f1
          go_wp2
          go_quiet (fail)
          go_wp2
          go_roundw
          case rel => exact ⟨k + 1, q, by omega, by go_num, by rw [H1.out, h0.out]; exact Nat.le_refl _, rfl, by rw [H1.out, h0.out]; rfl, Lib.hid (fun _ => H2.out.symm), below_drewN hb _⟩
          case measure => simp [intOf]; omega
    · obtain rfl : k = N := by omega
      obtain ⟨bb, hbb⟩ : ∃ bb, (hC m S u v k == 1) = bb := ⟨_, rfl⟩
      rw [hbb]
      go_wp2
      go_ret2
      exact ⟨⟨p, by rw [hbb]; rfl, hp.out⟩, hb⟩
theorem qV_step {m : List Int} {S u : Int} {N v : Nat} (h : 1 ≤ v) : qV m S N u v = if hC m S u v N = 1 then qV m S N u (v - 1) ++ [(hL m S u v N, v)] else qV m S N u (v - 1) := by
  obtain ⟨r, rfl⟩ : ∃ r, v = r + 1 := ⟨v - 1, by omega⟩
  rfl
theorem line_in {s u : Nat} (hs : s ∈ [2, 3, 4]) (hu : u < 2 * s) : ∀ j, j < s → ∃ q : Nat, lineAt s u j = (q : Int) ∧ q < s * s := by
  intro j hj
  simp at hs
  by_cases hx : (u : Int) < (s : Int)
  · rw [lineAt_row hx]
    refine ⟨u * s + j, by simp, ?_⟩
    rcases hs with rfl | rfl | rfl <;> omega
  · rw [lineAt_col hx]
    refine ⟨j * s + u - s, ?_, ?_⟩
    · rcases hs with rfl | rfl | rfl <;> omega
    · rcases hs with rfl | rfl | rfl <;> omega
set_option maxHeartbeats 2000000 in
theorem hiddenIn_any (A : Option Addr) (c n B : Nat) (m : List Int) (s : Nat) (w : World) (h : Rd w B A n m) (hBm : B ≤ w.heap.size) (hs : s ∈ [2, 3, 4]) (hn : n = s * s) (hrng : Hid (∀ k, k < n → 0 ≤ nth m k ∧ nth m k ≤ 30)) :
    Calls Try.prog 96 #[.slice A n c, .int .i64 s] w fun e w' => ∃ A' c', e = .returned (.slice A' (qU m s s (2 * s)).length c') ∧ OwF w' w.heap.size A' (qU m s s (2 * s)).length c' (qU m s s (2 * s)) ∧ Below w.heap.size w w' := by
  have hs2 : 2 ≤ s := by simp at hs; omega
  have hs4 : s ≤ 4 := by simp at hs; omega
  have Hs := Lib.hid hs
  have Hn := Lib.hid hn
  obtain ⟨T, hT⟩ : ∃ T, T = 2 * s := ⟨_, rfl⟩
  rw [← hT]
  have HT := Lib.hid hT
  have hT8 : T ≤ 8 := by omega
  clear hs hn hT
  go_enter Try.func96, Try.ntmps96
  go_wp2
  go_loopw [5, 13] (fun qv i wr => ∃ (u k : Nat) (A' : Option Addr) (c' : Nat), u ≤ T ∧ i = .int .i64 u ∧ qv = .slice A' k c' ∧ Hid ((qU m s s u).length = k) ∧ OwF wr w.heap.size A' k c' (qU m s s u) ∧ Below w.heap.size w wr) (fun _ i _ => T - (intOf i).toNat)
  case atStart => exact ⟨0, 0, none, 0, Nat.zero_le _, rfl, rfl, Lib.hid rfl, World.ownsRow_nil _ _ _ _, Below.refl _ _⟩
  case round =>
    obtain ⟨u, k, A', c', hu, rfl, rfl, hk, ho, hb⟩ := hrel
    by_cases hlt : u < T
    · have hltI : (u : Int) < 2 * (s : Int) := by have := HT.out; omega
      have HLc : Hid (Calls Try.prog 122 #[.int .i64 s, .int .i64 u] wr fun e w'' => ∃ A3 c3, e = .returned (.slice A3 s c3) ∧ Ow w'' wr.heap.size A3 s c3 (lineTo s u s) ∧ Below wr.heap.size wr w'') := Lib.hid ((implLineCells s u wr ⟨by omega, by omega⟩).mono (by
          rintro e w'' ⟨A3, c3, rfl, ho3, hb3⟩
          have e1 : lineL s u = lineTo s u s := by
            have : lineOk s u = true := by have := HT.out; simp [lineOk, inr]; omega
            simp [lineL, this]
          rw [e1, lineTo_length] at ho3
          rw [e1, lineTo_length]
          exact ⟨A3, c3, rfl, ho3, hb3⟩))
      have hat := Lib.hid (show ∀ j, j < s → ∃ q : Nat, lineAt s u j = (q : Int) ∧ q < n by rw [Hn.out]; exact line_in Hs.out (by have := HT.out; omega))
      have hsw := hb.size
      go_wp2_with (go_at_call 122; refine HLc.out.mono ?_; rintro e w3 ⟨A3, c3, rfl, ho3, hb3⟩)
      have hoq := ho.below hb3
      have hbq := hb.trans (hb3.mono hsw)
      have ho3' := ho3.mono hsw
      go_loopw [5, 8] (fun qv i wr => ∃ (v k : Nat) (A' : Option Addr) (c' : Nat), 1 ≤ v ∧ v ≤ s + 1 ∧ i = .int .i64 v ∧ qv = .slice A' k c' ∧ Hid ((qU m s s u ++ qV m s s u (v - 1)).length = k) ∧ OwF wr w.heap.size A' k c' (qU m s s u ++ qV m s s u (v - 1)) ∧ Ow wr w.heap.size A3 s c3 (lineTo s u s) ∧ Below w.heap.size w wr) (fun _ i _ => s + 1 - (intOf i).toNat)
      case atStart => exact ⟨1, k, A', c', by omega, by omega, rfl, rfl, Lib.hid (by simp only [Nat.sub_self, qV, List.append_nil]; exact hk.out), by simp only [Nat.sub_self, qV, List.append_nil]; exact hoq, ho3', hbq⟩
      case round =>
        clear ho hoq hbq ho3 ho3' hb3 hb HLc hk
        obtain ⟨v, k, A', c', hv1, hv2, rfl, rfl, hk, ho, ho3, hb⟩ := hrel
        have hsw := hb.size
        by_cases hvs : v ≤ s
        · have hvI : (v : Int) ≤ (s : Int) := by omega
          have HOP := Lib.hid (onlyPlace_any A c n B m A3 c3 s wr.heap.size s u v wr (h.below (hb.mono hBm)) ho3.rd (Nat.le_trans hBm hb.size) (Nat.le_refl _) hs4 hat hrng (by omega))
          have hk8 : k ≤ 1099511627776 := by
            have q1 := hk.out
            have q2 := qU_len m s s u
            have q3 := qV_len m s s u (v - 1)
            have q4 : u * s ≤ 8 * 4 := Nat.mul_le_mul (by omega) hs4
            rw [List.length_append] at q1
            omega
          by_cases h1 : hC m s u v s = 1
          · have f1 : (hC m s u v s == 1) = true := by simp [h1]
            have HQ := Lib.hid (show qV m s s u v = qV m s s u (v - 1) ++ [(hL m s u v s, v)] by rw [qV_step hv1, if_pos h1])
            have H1 := Lib.hid h1
            clear h1
            go_wp2_with (first
              | (go_at_call 123; refine HOP.out.mono ?_; rintro e w3 ⟨⟨p, rfl, hp⟩, hb3⟩; rw [f1]; have ho5 := ho.below hb3; have hp' := Lib.hid (hp H1.out); clear hp; have hs3 := Nat.le_trans hsw hb3.size)
              | (at_builtin; refine push_found rfl (.tmp 32) (.tmp 36) rfl w.heap.size A' k c' _ p v rfl rfl ho5 hk8 hs3 ?_; intro A5 c5 w5 ho6 hg6))
            have ho36 := ow_own (World.ownsRow.alloc (ho3.below hb3) _) (World.ownsRow.alloc ho5 _) (by decide) hg6
            have hb6 : Below w.heap.size w w5 := ((hb.trans (hb3.mono hsw)).alloc hs3 _).grown hg6 (by simp; omega) (fun g hg => (World.ownsRow.lt ho5 g hg).1)
            go_roundw
            case rel => exact ⟨v + 1, k + 1, A5, c5, by omega, by omega, by go_num, rfl, Lib.hid (by rw [Nat.add_sub_cancel, HQ.out, ← List.append_assoc, List.length_append, hk.out]; rfl), by rw [Nat.add_sub_cancel, HQ.out, ← List.append_assoc, ← hp'.out]; exact ho6, ho36, hb6⟩
            case measure => simp [intOf]; omega
          · have f1 : (hC m s u v s == 1) = false := by simp [h1]
            have HQ := Lib.hid (show qV m s s u v = qV m s s u (v - 1) by rw [qV_step hv1, if_neg h1])
            clear h1
            go_wp2_with (go_at_call 123; refine HOP.out.mono ?_; rintro e w3 ⟨⟨p, rfl, _⟩, hb3⟩; rw [f1])
            go_roundw
            case rel => exact ⟨v + 1, k, A', c', by omega, by omega, by go_num, rfl, Lib.hid (by rw [Nat.add_sub_cancel, HQ.out]; exact hk.out), by rw [Nat.add_sub_cancel, HQ.out]; exact ho.below hb3, ho3.below hb3, step hb hb3⟩
            case measure => simp [intOf]; omega
        · obtain rfl : v = s + 1 := by omega
          have hvI : ((s + 1 : Nat) : Int) = (s : Int) + 1 := by simp
          rw [Nat.add_sub_cancel] at hk ho
          go_wp2
          go_roundw
          case rel => exact ⟨u + 1, k, A', c', by omega, by go_num, rfl, hk, ho, hb⟩
          case measure => simp [intOf]; omega
    · have hltI : ¬ (u : Int) < 2 * (s : Int) := by have := HT.out; omega
      obtain rfl : u = T := by omega
      go_wp2
      go_ret
      rw [hk.out]
      exact ⟨_, _, rfl, ho, hb⟩
theorem clone_any (A : Option Addr) (n c B : Nat) (xs : List Int) (w : World) (h : Rd w B A n xs) (hB : B ≤ w.heap.size) (hn : 0 < n) (hm : n ≤ 1099511627776) :
    Calls Try.prog 95 #[.slice A n c] w fun e w' => ∃ A' c', e = .returned (.slice A' n c') ∧ Ow w' w.heap.size A' n c' xs ∧ Below w.heap.size w w' := by
  obtain ⟨b, off, rfl, _, _⟩ := h.at_ hn
  have hb0 : Below w.heap.size w (w.alloc (.cells #[] 3)) := (Below.refl _ _).alloc (Nat.le_refl _) _
  have HO := Lib.hid (Ow.made0 w w.heap.size (Nat.le_refl _))
  have HR := Lib.hid (h.below (hb0.mono hB))
  have hsO : w.heap.size ≤ (w.alloc (.cells #[] 3)).heap.size := by simp
  have hcmp := fun w' => Lib.run_eql_slice_nil (P := Try.prog) w' 23 3 (some ⟨b, off, none⟩) n c 0 0 Try.underlying23
  go_enter Try.func95, Try.ntmps95
  go_wp2_with (at_builtin; (refine push_new rfl (.tmp 5) (.tmp 6) rfl w.heap.size (some ⟨w.heap.size, 0, none⟩) (some ⟨b, off, none⟩) n c B xs rfl rfl HO.out HR.out hm hsO ?_); intro A1 c1 w1 ho1 hg1; have hb1 := hb0.grown hg1 hb0.size (fun k hk => HO.out.own_lo k hk))
  go_ret
  exact ⟨_, _, rfl, ho1, hb1⟩
theorem OwF.set {w : World} {lo lo' g n c n' c' j : Nat} {A : Option Addr} {q : List (Nat × Nat)} {xs : List Int} (h : OwF w lo A n c q) (ho : Ow w lo' (some ⟨g, 0, none⟩) n' c' xs) (v : Value) : OwF (w.setCell ⟨g, j, none⟩ v) lo A n c q := by
  refine World.ownsRow.kept h (row := some g) grown_set ?_
  rcases h.2 with ⟨e1, _⟩ | ⟨g1, cap1, cur1, e1, _, hr1, _⟩
  · rw [e1]; exact .inl rfl
  · refine .inr (fun e2 => ?_)
    rw [e1] at e2
    have e3 : g1 = g := by simpa [Value.ownBlock] using e2
    subst e3
    rcases ho.2 with ⟨e4, _⟩ | ⟨g2, cap2, cur2, e4, _, hr2, _⟩
    · cases e4
    · injection e4 with e4 _ _
      injection e4 with e4
      injection e4 with e4 _ _
      subst e4
      rw [hr1] at hr2
      injection hr2 with hr2
      injection hr2 with _ h2 _
      exact absurd h2 (by decide)
theorem OwF.cells {w : World} {lo n c : Nat} {A : Option Addr} {q : List (Nat × Nat)} (h : OwF w lo A n c q) {k : Nat} (hk : k < n) : ∃ g, A = some ⟨g, 0, none⟩ ∧ g < w.heap.size ∧ w.cell? ⟨g, k * 2, none⟩ = some (.int .i64 ((q.getD k (0, 0)).1 : Int)) ∧ w.cell? ⟨g, k * 2 + 1, none⟩ = some (.int .i64 ((q.getD k (0, 0)).2 : Int)) := by
  obtain ⟨g, cap, hv, _, hg⟩ := World.ownsRow.form h (by omega)
  injection hv with hA _ _
  subst hA
  have hl := h.1
  rw [fl_len] at hl
  have hkq : k < q.length := by omega
  have e := fl_get hkq
  have hd : q.getD k (0, 0) = q[k] := by simp [List.getD_eq_getElem?_getD, hkq]
  refine ⟨g, rfl, hg, ?_, ?_⟩
  · rw [hd, World.ownsRow.cellAt h (k * 2) (by omega)]; exact e.1
  · rw [hd, World.ownsRow.cellAt h (k * 2 + 1) (by omega)]; exact e.2
set_option maxHeartbeats 2000000 in
theorem implNarrowHidden (A : Option Addr) (c n B : Nat) (m : List Int) (size : Int) (w : World) (h : Rd w B A n m) (hm64 : B64 m) (hBm : B ≤ w.heap.size) (hm : n ≤ 1099511627776) (hsb : -9223372036854775808 ≤ size ∧ size ≤ 9223372036854775807) :
    Calls Try.prog 47 #[.slice A n c, .int .i64 size] w (RetSl w (nhL m size)) := by
  have hlen := Lib.hid h.1
  have HV := Lib.hid (implMasksValid A c n B m size w h hm64 hBm hm hsb)
  cases hv : mvd m size
  · have HL := Lib.hid (show nhL m size = [] by simp [nhL, hv])
    go_enter Try.func47, Try.ntmps47
    go_wp2_with (go_at_call 65; refine HV.out.mono ?_; rintro e w1 ⟨rfl, hb1⟩; rw [hv])
    go_ret
    rw [HL.out]
    exact ⟨_, _, rfl, Ow.nil_ _ _, hb1⟩
  · obtain ⟨⟨s2, s4⟩, hsq, hn16, hrng⟩ := mvd_at hv
    rw [hlen.out] at hsq hn16 hrng
    obtain ⟨s, rfl⟩ := Int.eq_ofNat_of_zero_le (by omega : 0 ≤ size)
    have hs : s ∈ [2, 3, 4] := by simp; omega
    have hn : n = s * s := by
      have : (n : Int) = ((s * s : Nat) : Int) := by simpa using hsq
      omega
    have hn0 : 0 < n := by
      simp at hs
      rcases hs with rfl | rfl | rfl <;> omega
    have Hrng := Lib.hid (fun k (hk : k < n) => (⟨(hrng k hk).1, (hrng k hk).2.1⟩ : 0 ≤ nth m k ∧ nth m k ≤ 30))
    have HCl := Lib.hid (fun w' (hb : Below w.heap.size w w') => clone_any A n c B m w' (h.below (hb.mono hBm)) (Nat.le_trans hBm hb.size) hn0 hm)
    have HHi := Lib.hid (fun w' (hb : Below w.heap.size w w') => hiddenIn_any A c n B m s w' (h.below (hb.mono hBm)) (Nat.le_trans hBm hb.size) hs hn Hrng)
    have Hin := Lib.hid (qU_in (m := m) (S := s) (N := s) (n := n) (U := 2 * s) (fun u hu j hj => by
      obtain ⟨q, hq, hqn⟩ := line_in hs hu j hj
      rw [hq, hn]; simpa using hqn) hn0 (2 * s) (Nat.le_refl _))
    have HQ8 := Lib.hid (show (qU m s s (2 * s)).length ≤ 32 by have := qU_len m s s (2 * s); have : 2 * s * s ≤ 8 * 4 := Nat.mul_le_mul (by omega) (by omega); omega)
    have HF := Lib.hid (show nhL m s = (qU m s s (2 * s)).foldl keepQ m by rw [qU_fold]; simp [nhL, hv])
    have hs4' : s ≤ 4 := by omega
    obtain ⟨q, hq⟩ : ∃ q, q = qU m s s (2 * s) := ⟨_, rfl⟩
    rw [← hq] at HHi Hin HQ8 HF
    obtain ⟨K, hK⟩ : ∃ K, K = q.length := ⟨_, rfl⟩
    rw [← hK] at HHi HQ8
    have HK := Lib.hid hK
    have hK32 := HQ8.out
    clear hrng hsq hq hK hn hs
    go_enter Try.func47, Try.ntmps47
    go_wp2_with (first
      | (go_at_call 65; refine HV.out.mono ?_; rintro e w1 ⟨rfl, hb1⟩; rw [hv])
      | (go_at_call 95; refine (HCl.out _ hb1).mono ?_; rintro e w2 ⟨Ac, cc, rfl, ho2, hb2⟩; have hb12 := step hb1 hb2)
      | (go_at_call 96; refine (HHi.out _ hb12).mono ?_; rintro e w3 ⟨Aq, cq, rfl, hoq, hb3⟩))
    have hb13 := step hb12 hb3
    have ho3 := (ho2.mono hb1.size).below hb3
    have hoq' : OwF w3 w.heap.size Aq K cq q := World.ownsRow.mono hoq hb12.size
    obtain ⟨g, rfl, hgl, hgw⟩ := ho3.form hn0
    go_loopw [18] (fun i wr => ∃ k : Nat, k ≤ K ∧ i = .int .i64 k ∧ Ow wr w.heap.size (some ⟨g, 0, none⟩) n cc ((q.take k).foldl keepQ m) ∧ OwF wr w.heap.size Aq K cq q ∧ Below w.heap.size w wr) (fun i _ => K - (intOf i).toNat)
    case atStart => exact ⟨0, Nat.zero_le _, rfl, ho3, hoq', hb13⟩
    case round =>
      clear ho3 hoq hoq' hb13 hb12 hb1 hb2 hb3 ho2
      obtain ⟨k, hk, rfl, ho, hof, hb⟩ := hrel
      by_cases hlt : k < K
      · obtain ⟨gq, rfl, hgq, hcx, hcy⟩ := hof.cells hlt
        have hkq : k < q.length := by rw [← HK.out]; exact hlt
        have hmem : q.getD k (0, 0) ∈ q := by
          rw [List.getD_eq_getElem?_getD, List.getElem?_eq_getElem hkq]; exact List.getElem_mem _
        obtain ⟨hx, hy1, hy4⟩ := Hin.out _ hmem
        have HT := Lib.hid (show (q.take (k + 1)).foldl keepQ m = ((q.take k).foldl keepQ m).set (q.getD k (0, 0)).1 (bits .and .i64 (nth ((q.take k).foldl keepQ m) (q.getD k (0, 0)).1) (2 ^ (q.getD k (0, 0)).2)) by
          rw [List.take_add_one, List.getElem?_eq_getElem hkq]
          simp only [Option.toList_some, List.foldl_append, List.foldl_cons, List.foldl_nil, keepQ, List.getD_eq_getElem?_getD, List.getElem?_eq_getElem hkq, Option.getD_some])
        obtain ⟨x, hxe⟩ : ∃ x, x = (q.getD k (0, 0)).1 := ⟨_, rfl⟩
        obtain ⟨y, hye⟩ : ∃ y, y = (q.getD k (0, 0)).2 := ⟨_, rfl⟩
        rw [← hxe] at hcx hx HT
        rw [← hye] at hcy hy1 hy4 HT
        obtain ⟨o, hoe⟩ : ∃ o, o = (q.take k).foldl keepQ m := ⟨_, rfl⟩
        rw [← hoe] at ho HT
        clear hxe hye hmem hoe
        obtain ⟨hcell, hfr⟩ := ho.cell hx
        have hw2 : wrap64 ((2 : Int) ^ y) = 2 ^ y := by
          obtain ⟨r, rfl⟩ : ∃ r, y = r + 1 := ⟨y - 1, by omega⟩
          exact pow_wrap5 (by omega)
        have hy64 : y < 64 := by omega
        have hgr := ho.own_hi g rfl
        obtain ⟨W, hW⟩ : ∃ W, wr.alloc (.cells #[.int .i64 (x : Int), .int .i64 (y : Int)] 90) = W := ⟨_, rfl⟩
        have hoW : Ow W w.heap.size (some ⟨g, 0, none⟩) n cc o := by rw [← hW]; exact World.ownsRow.alloc ho _
        have hofW : OwF W w.heap.size (some ⟨gq, 0, none⟩) K cq q := by rw [← hW]; exact World.ownsRow.alloc hof _
        have hbW : Below w.heap.size w W := by rw [← hW]; exact hb.alloc hb.size _
        have hz0 : W.cell? ⟨wr.heap.size, 0, none⟩ = some (.int .i64 (x : Int)) := by rw [← hW]; exact cell_of_row _ _ 0 _ _ (0, 0) (heap_alloc_new wr _)
        have hz1 : W.cell? ⟨wr.heap.size, 1, none⟩ = some (.int .i64 (y : Int)) := by rw [← hW]; exact cell_of_row _ _ 1 _ _ (0, 0) (heap_alloc_new wr _)
        obtain ⟨hcW, hfW⟩ := hoW.cell hx
        have hput := Lib.hid (hoW.putN x (bits .and .i64 (nth o x) (2 ^ y)))
        have hofp := Lib.hid (hofW.set (j := x) hoW (.int .i64 (bits .and .i64 (nth o x) (2 ^ y))))
        have hbp := Lib.hid (Below.setCell (p := (⟨g, x, none⟩ : Addr)) hbW hgl (.int .i64 (bits .and .i64 (nth o x) (2 ^ y))))
        have HW := Lib.hid hW
        clear hW hofW hoW hbW
        go_wp2
        rw [HW.out]
        go_region
        go_wp2
        go_roundw
        case rel => exact ⟨k + 1, by omega, by go_num, by rw [HT.out]; exact hput.out, hofp.out, below_drewN hbp.out 1⟩
        case measure => simp [intOf]; omega
      · obtain rfl : k = K := by omega
        rw [show q.take k = q by rw [HK.out]; exact List.take_length] at ho
        go_wp2
        go_ret
        rw [HF.out]
        exact retSl_mk ho hb
end Go.Proofs.Ytoejpodchlepiaa
set_option maxRecDepth 8000
namespace Go.Proofs.Ytoejpodchlepiaa
open Go.ChangeShapes Go.WideShapes Go.ChangeAt Go.RowKit
theorem nh_b64 {m : List Int} {s : Int} (hm : mvd m s = true) : B64 (nhL m s) := fun k => by
  by_cases hk : k < m.length
  · obtain ⟨⟨x0, x1, _⟩, _⟩ := (nh_sub hm).at_ hm hk
    omega
  · rw [show nth (nhL m s) k = 0 by
      have := (nh_sub hm).1
      simp [nth, List.getD_eq_getElem?_getD, List.getElem?_eq_none (show (nhL m s).length ≤ k by omega)]]
    omega
set_option maxHeartbeats 4000000 in
theorem narrowHidden_walk (A : Option Addr) (c n : Nat) (bs : List Int) (w : World) (h : Code_ w A n c bs) :
    Calls Try.prog 17 #[.slice A n c] w fun e w' => e = .returned (.bool true) ∧ Below w.heap.size w w' := by
  by_cases hn : n ≤ 1048576
  · go_enter Try.func17, Try.ntmps17
    go_wp2_with fail
    refine (draw_DrawNarrowHidden _ _ _ _ _ h).mono ?_
    rintro e w1 ⟨s, A1, n1, c1, xs, rfl, s1, s5, n16, hnc, hcm, hrd, hsm, hlo, hb1⟩
    have hlen := hrd.1
    have hx64 := Lib.hid (smallM_b64 hsm.out hlen)
    have hsb : -9223372036854775808 ≤ s ∧ s ≤ 9223372036854775807 := by omega
    have hln : (nhL xs s).length ≤ 16 := by
      by_cases hv : mvd xs s = true
      · have := (nh_sub hv).1; omega
      · simp [nhL, hv]
    obtain ⟨nl, hnl⟩ : ∃ nl, (nhL xs s).length = nl := ⟨_, rfl⟩
    rw [hnl] at hln
    have Hnl := Lib.hid hnl
    go_wp2_with fail
    refine (implNarrowHidden A1 c1 n1 _ xs s w1 hrd hx64.out (Nat.le_refl _) (by omega) hsb).mono ?_
    rintro e w2 ⟨A2, c2, rfl, ho2, hb2⟩
    rw [Hnl.out] at ho2 ⊢
    have h02 := step hb1 hb2
    go_wp2_with fail
    refine (specNarrowHidden A1 c1 n1 _ xs s w2 (hrd.below hb2) hb2.size (by omega) hsb).mono ?_
    rintro e w3 ⟨A3, c3, rfl, ho3, hb3⟩
    rw [Hnl.out] at ho3 ⊢
    have h03 := step h02 hb3
    have h13 := step hb2 hb3
    have hr2 := ho2.rd.below hb3
    go_wp2_with fail
    refine (sameInts_any _ _ _ _ _ _ _ _ _ _ _ hr2 ho3.rd (by omega)).mono ?_
    rintro e w4 ⟨rfl, hb4⟩
    rw [show same (nhL xs s) (nhL xs s) = true by simp [same]]
    have h04 := step h03 hb4
    have h14 := step h13 hb4
    have hr4 := hrd.below h14
    have hx4 := hr2.below (hb4.mono hb3.size)
    have hB4 := h14.size
    have HV := Lib.hid (specMasksValid A1 c1 n1 _ xs s w4 hr4 hB4 (by omega) hsb)
    cases hv : mvd xs s
    · have hz : nl = 0 := by rw [← Hnl.out]; simp [nhL, hv]
      subst hz
      go_wp2_with (first
        | (go_at_call 63; refine HV.out.mono ?_; rintro e w5 ⟨rfl, hb5⟩; rw [hv]; have h05 := step h04 hb5)
        | (go_at_call 24; (with_reducible refine (alive_any _).mono ?_); rintro e w6 ⟨rfl, hb6⟩))
      go_ret
      exact ⟨rfl, step h05 hb6⟩
    · obtain ⟨⟨s2, s4⟩, hl, _, _⟩ := mvd_at hv
      have hne : n1 = nl := by rw [← Hnl.out, (nh_sub hv).1, hlen]
      subst hne
      have Hwi := Lib.hid (nh_wi hv)
      have Hkp := Lib.hid (fun (q : Nat) (hq : sqSolved (sqn s q) s = true) (hh : mhB xs s (sqn s q) = true) => nh_keeps hv hq hh)
      have h64 := Lib.hid (nh_b64 hv)
      clear hl hsm
      go_wp2_with (first
        | (go_at_call 63; refine HV.out.mono ?_; rintro e w5 ⟨rfl, hb5⟩; rw [hv]; have h05 := step h04 hb5; have h15 := step h14 hb5; have hr5 := hr4.below (hb5.mono hB4); have hx5 := hx4.below (hb5.mono (Nat.le_trans hb3.size hb4.size)))
        | (go_at_call 67; refine (within_any A2 A1 c2 c1 n1 n1 _ _ (nhL xs s) xs _ hx5 hr5 rfl Hwi (by omega)).mono ?_; rintro e w6 ⟨rfl, hb6⟩; have h06 := step h05 hb6; have h16 := step h15 hb6; have hr6 := hr5.below (hb6.mono h15.size); have hx6 := hx5.below (hb6.mono (Nat.le_trans (Nat.le_trans hb3.size hb4.size) hb5.size)))
        | (go_at_call 68; refine (keeps_any A1 A2 c1 c2 n1 n1 w1.heap.size w2.heap.size xs (nhL xs s) s _ hr6 hx6 h16.size (Nat.le_trans (Nat.le_trans (Nat.le_trans hb3.size hb4.size) hb5.size) hb6.size) (by omega) (by omega) h64.out s2 s4 Hkp).mono ?_; rintro e w7 ⟨rfl, hb7⟩))
      go_ret
      exact ⟨rfl, step h06 hb7⟩
  · go_enter Try.func17, Try.ntmps17
    go_wp2
    go_ret
    exact ⟨rfl, Below.refl _ _⟩
end Go.Proofs.Ytoejpodchlepiaa
