import Derived.Test.YtoejpodchlepiaaVLD
import Derived.Test.YtoejpodchlepiaaVW4E
import Derived.Deep.RegionHeld3
import Derived.Test.YtoejpodchlepiaaVLM
import Derived.Test.YtoejpodchlepiaaVI3V
set_option maxRecDepth 8000
namespace Go.Proofs.Ytoejpodchlepiaa
open Go.ChangeShapes Go.WideShapes Go.ChangeAt Go.RowKit

def DrawnRule (w : World) (e : Ending) (w' : World) : Prop :=
  ∃ (k : Int) (A : Option Addr) (n c : Nat) (v : Int) (xs : List Int) (s : Int), e = .returned (.tuple #[.agg #[.int .i64 k, .slice A n c, .int .i64 v], .int .i64 s]) ∧ Ow w' w.heap.size A n c xs ∧ n ≤ 5 ∧ -1 ≤ s ∧ s ≤ 5 ∧ Below w.heap.size w w'
end Go.Proofs.Ytoejpodchlepiaa
set_option maxRecDepth 8000
namespace Go.Proofs.Ytoejpodchlepiaa
open Go.ChangeShapes Go.WideShapes Go.ChangeAt Go.RowKit
/-- what a draw of masks hands back. -/
def DrawnM (w : World) (e : Ending) (w' : World) : Prop := ∃ s A n c xs, e = .returned (.tuple #[.slice A n c, .int .i64 s]) ∧ -1 ≤ s ∧ s ≤ 5 ∧ n ≤ 16 ∧ n ≤ c ∧ c ≤ 9223372036854775807 ∧ Rd w' w'.heap.size A n xs ∧ Hid (smallM xs n) ∧ (∀ b off, A = some ⟨b, off, none⟩ → w.heap.size ≤ b) ∧ Below w.heap.size w w'
theorem draw_DrawMasksValid (A : Option Addr) (n c : Nat) (bs : List Int) (w : World) (h : Code_ w A n c bs) : Calls Try.prog 64 #[.slice A n c] w (DrawnM w) := by
  go_enter Try.func64, Try.ntmps64
  go_wp2_with fail
  refine (specOpen A c n bs w h.1 h.2.1 h.2.2).mono ?_
  rintro e w1 ⟨rfl, hr, hb⟩
  go_wp2_with fail
  refine (l20Masks_any w.heap.size w.heap.size 0 2 w1 hr (Nat.le_refl _) (by omega) (by omega)).mono ?_
  rintro e w2 ⟨s, A2, n2, c2, xs, rfl, s1, s5, n16, hnc, hcm, hrd, hsm, hlo, hr2, hg⟩
  go_wp2
  go_ret2
  exact ⟨s, A2, n2, c2, xs, rfl, s1, s5, n16, hnc, hcm, hrd, hsm, fun b off e => Nat.le_trans hb.size (hlo b off e), hb.grown hg hb.size (fun k hk => by injection hk with hk; omega)⟩

theorem draw_DrawNarrowHidden (A : Option Addr) (n c : Nat) (bs : List Int) (w : World) (h : Code_ w A n c bs) : Calls Try.prog 66 #[.slice A n c] w (DrawnM w) := by
  go_enter Try.func66, Try.ntmps66
  go_wp2_with fail
  refine (specOpen A c n bs w h.1 h.2.1 h.2.2).mono ?_
  rintro e w1 ⟨rfl, hr, hb⟩
  go_wp2_with fail
  refine (l20Masks_any w.heap.size w.heap.size 0 12 w1 hr (Nat.le_refl _) (by omega) (by omega)).mono ?_
  rintro e w2 ⟨s, A2, n2, c2, xs, rfl, s1, s5, n16, hnc, hcm, hrd, hsm, hlo, hr2, hg⟩
  go_wp2
  go_ret2
  exact ⟨s, A2, n2, c2, xs, rfl, s1, s5, n16, hnc, hcm, hrd, hsm, fun b off e => Nat.le_trans hb.size (hlo b off e), hb.grown hg hb.size (fun k hk => by injection hk with hk; omega)⟩

theorem rd_tail {w : World} {B b off n : Nat} {xs : List Int} (h : Rd w B (some ⟨b, off, none⟩) n xs) (hn : 1 ≤ n) : Rd w B (some ⟨b, off + 1, none⟩) (n - 1) (xs.drop 1) := by
  refine ⟨by rw [List.length_drop, h.1], fun hn1 => ?_⟩
  obtain ⟨b', off', e, hlt, hc⟩ := h.2 (by omega)
  injection e with e
  injection e with e1 e2 _
  subst e1 e2
  refine ⟨_, off + 1, rfl, hlt, fun k hk => ?_⟩
  have := hc (k + 1) (by omega)
  rw [show nth (xs.drop 1) k = nth xs (k + 1) by simp [nth, List.getD_eq_getElem?_getD]]
  rw [← this]
  congr 2
  omega
theorem mvd_odd {m : List Int} {s : Int} (_hm : mvd m s = true) (h0 : 0 < m.length) : mvd (m.set 0 1) s = false := by
  unfold mvd
  rw [all_not (xs := m.set 0 1) (k := 0) rfl (by rw [List.length_set]; exact h0) (by rw [nth_set h0, if_pos rfl]; unfold mkOk; simp)]
  simp
theorem mvd_less {m : List Int} {s : Int} (hm : mvd m s = true) : mvd (m.drop 1) s = false := by
  obtain ⟨⟨s2, s4⟩, hl, _, _⟩ := mvd_at hm
  have h4 := (sq_bd s2 s4).1
  have : ((m.drop 1).length : Int) ≠ s * s := by rw [List.length_drop]; omega
  unfold mvd
  rw [show (((m.drop 1).length : Int) == s * s) = false by simpa using this]
  simp
set_option maxHeartbeats 4000000 in
theorem masksValid_walk (A : Option Addr) (c n : Nat) (bs : List Int) (w : World) (h : Code_ w A n c bs) :
    Calls Try.prog 16 #[.slice A n c] w fun e w' => e = .returned (.bool true) ∧ Below w.heap.size w w' := by
  by_cases hn : n ≤ 1048576
  · go_enter Try.func16, Try.ntmps16
    go_wp2_with fail
    refine (draw_DrawMasksValid _ _ _ _ _ h).mono ?_
    rintro e w1 ⟨s, A1, n1, c1, xs, rfl, s1, s5, n16, hnc, hcm, hrd, hsm, hlo, hb1⟩
    have hlen := hrd.1
    have hx64 := Lib.hid (smallM_b64 hsm.out hlen)
    have hsb : -9223372036854775808 ≤ s ∧ s ≤ 9223372036854775807 := by omega
    go_wp2_with fail
    refine (implMasksValid A1 c1 n1 _ xs s w1 hrd hx64.out (Nat.le_refl _) (by omega) hsb).mono ?_
    rintro e w2 ⟨rfl, hb2⟩
    have h02 := step hb1 hb2
    go_wp2_with fail
    refine (specMasksValid A1 c1 n1 _ xs s w2 (hrd.below hb2) hb2.size (by omega) hsb).mono ?_
    rintro e w3 ⟨rfl, hb3⟩
    have h03 := step h02 hb3
    have h13 := step hb2 hb3
    have hne : (mvd xs s != mvd xs s) = false := by simp
    cases hv : mvd xs s
    · rw [hv] at hne
      go_wp2_with (go_at_call 24; (with_reducible refine (alive_any _).mono ?_); rintro e w6 ⟨rfl, hb6⟩)
      go_ret
      exact ⟨rfl, step h03 hb6⟩
    · rw [hv] at hne
      obtain ⟨⟨s2, s4⟩, hl, _, _⟩ := mvd_at hv
      have hn4 : 4 ≤ n1 := by have := (sq_bd s2 s4).1; omega
      have hn0 : ((n1 : Int) == 0) = false := by simp only [beq_eq_false_iff_ne]; omega
      have Hodd := Lib.hid (mvd_odd hv (by omega))
      have Hless := Lib.hid (mvd_less hv)
      have hr3 := hrd.below h13
      have hmade : Ow (w3.alloc (.cells #[] 3)) w3.heap.size (some ⟨w3.heap.size, 0, none⟩) 0 0 [] := Ow.made0 _ _ (Nat.le_refl _)
      have hbm : Below w3.heap.size w3 (w3.alloc (.cells #[] 3)) := (Below.refl _ _).alloc (Nat.le_refl _) _
      have hrm := hr3.below (hbm.mono h13.size)
      clear hl hv
      go_wp2_with (at_builtin; refine push_new rfl (.tmp 31) (.tmp 32) rfl w3.heap.size (some ⟨w3.heap.size, 0, none⟩) A1 n1 c1 w1.heap.size xs rfl rfl hmade hrm (by omega) (by simp) ?_; intro A4 c4 w4 ho4 hg4; (have hb4 : Below w3.heap.size w3 w4 := hbm.grown hg4 (by simp) (fun k hk => hmade.own_lo k hk)); (obtain ⟨g4, rfl, hg4l, _⟩ := ho4.form (by omega)); (obtain ⟨hc4, hf4⟩ := ho4.cell (show 0 < n1 by omega)))
      have hop := ho4.putN 0 1
      have hb5 : Below w3.heap.size w3 (w4.setCell ⟨g4, 0, none⟩ (.int .i64 1)) := Below.setCell (p := (⟨g4, 0, none⟩ : Addr)) hb4 hg4l _
      have h05 := step h03 hb5
      have hr5 := hr3.below (hb5.mono h13.size)
      have h64b : B64 (xs.set 0 1) := by
        refine smallM_b64 (n := n1) (smallM_set hsm.out ⟨by decide, by decide⟩) (by rw [List.length_set]; exact hlen)
      go_wp2_with fail
      refine (implMasksValid _ c4 n1 _ (xs.set 0 1) s _ hop.rd h64b (Nat.le_refl _) (by omega) hsb).mono ?_
      rintro e w6 ⟨rfl, hb6⟩
      rw [Hodd.out]
      have h06 := step h05 hb6
      obtain ⟨b1, off1, rfl, _, _⟩ := hrd.at_ (show 0 < n1 by omega)
      have hb56 := step hb5 hb6
      have hr6 := Lib.hid (rd_tail (hr3.below (hb56.mono h13.size)) (show 1 ≤ n1 by omega))
      have hcI : (1 : Int) < (c1 : Int) := by omega
      have hnI : (1 : Int) ≤ (n1 : Int) := by omega
      have h64d := Lib.hid (show B64 (xs.drop 1) from fun k => by
        have e : nth (xs.drop 1) k = nth xs (k + 1) := by simp [nth, List.getD_eq_getElem?_getD]
        rw [e]; exact hx64.out (k + 1))
      have hwB : w1.heap.size ≤ w6.heap.size := Nat.le_trans h13.size hb56.size
      clear hlen hrd hr3 hr5 hmade hrm hn4
      go_wp2_with fail
      refine (implMasksValid _ (c1 - 1) (n1 - 1) w1.heap.size (xs.drop 1) s w6 hr6.out h64d.out hwB (by omega) hsb).mono ?_
      rintro e w7 ⟨rfl, hb7⟩
      rw [Hless.out]
      go_wp2
      go_ret
      exact ⟨rfl, step h06 hb7⟩
  · go_enter Try.func16, Try.ntmps16
    go_wp2
    go_ret
    exact ⟨rfl, Below.refl _ _⟩
end Go.Proofs.Ytoejpodchlepiaa
