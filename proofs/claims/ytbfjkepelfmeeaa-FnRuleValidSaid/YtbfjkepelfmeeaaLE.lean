import Derived.Test.YtbfjkepelfmeeaaLD
import Derived.Test.YtbfjkepelfmeeaaR4Q
import Derived.Test.YtbfjkepelfmeeaaW4E
import Derived.Deep.RegionHeld3
set_option maxRecDepth 8000
namespace Go.Proofs.Ytbfjkepelfmeeaa
open Go.ChangeShapes Go.WideShapes Go.ChangeAt Go.RowKit

def DrawnRule (w : World) (e : Ending) (w' : World) : Prop :=
  ∃ (k : Int) (A : Option Addr) (n c : Nat) (v : Int) (xs : List Int) (s : Int), e = .returned (.tuple #[.agg #[.int .i64 k, .slice A n c, .int .i64 v], .int .i64 s]) ∧ Ow w' w.heap.size A n c xs ∧ n ≤ 5 ∧ -1 ≤ s ∧ s ≤ 5 ∧ Below w.heap.size w w'
set_option maxHeartbeats 4000000 in
theorem drawRuleValid (A : Option Addr) (n c : Nat) (bs : List Int) (w : World) (h : Code_ w A n c bs) :
    Calls Try.prog 21 #[.slice A n c] w (DrawnRule w) := by
  have Hone := Lib.hid rule_one
  have Hi := Lib.hid rule_info
  have h1 := h.1.alloc_ (.cells #[.int .i64 0, .slice none 0 0, .int .i64 0] 30)
  obtain ⟨w0, hW⟩ : ∃ w0, w0 = w.alloc (.cells #[.int .i64 0, .slice none 0 0, .int .i64 0] 30) := ⟨_, rfl⟩
  rw [← hW] at h1
  have hRw : w.heap.size < w0.heap.size := by rw [hW]; simp
  have hb00 : Below w.heap.size w w0 := by rw [hW]; exact (Below.refl _ _).alloc (Nat.le_refl _) _
  have hR0 : w0.heap[w.heap.size]? = some (.cells #[.int .i64 0, .slice none 0 0, .int .i64 0] 30) := by rw [hW]; exact heap_alloc_new w _
  have HW := Lib.hid hW
  clear hW
  go_enter Try.func21, Try.ntmps21
  go_wp2_with fail
  rw [← HW.out]
  refine (specOpen A c n bs w0 h1 h.2.1 h.2.2).mono ?_
  rintro e w1 ⟨rfl, hr, hb⟩
  have hR1 := (hb.block w.heap.size hRw).trans hR0
  have hGl := hr.lt
  go_wp2_with fail
  refine (l20Size_any _ _ 0 _ _ hr (Nat.le_refl _) (by omega) (by omega)).mono ?_
  rintro e w2 ⟨s, rfl, ⟨_, _, hs⟩, hr2, hg2⟩
  obtain ⟨h2s, h4s⟩ := hs (Int.le_refl _)
  clear hs
  go_wp2_with fail
  refine (l20Solved_any _ _ (0 + 2) _ _ hr2 (Nat.le_refl _) (by omega) h2s h4s).mono ?_
  rintro e w3 ⟨Ag, ng, cg, g, rfl, hog, hnn, hmem, hr3, hg3⟩
  have hgv : gv g s = true := solved_gv h2s h4s hnn hmem
  have hg23 := hg2.trans hg3
  have hlo2 := hg2.size
  go_wp2_with fail
  refine (l20Rule_any _ _ (0 + 2 + 2) _ _ _ _ _ _ 2 _ hr3 (Nat.le_refl _) (by omega) hog.rd (Nat.le_refl _) (fun b off e => by subst e; have := hog.own_lo b rfl; omega) hgv (by omega)).mono ?_
  rintro e w4 ⟨k, A4, n4, c4, v4, xs, rfl, ho4, hn5, _, hr4, hg4⟩
  have hg14 := hg23.trans hg4
  have hlo3 := hg23.size
  have hneX : ∀ b, (Value.slice A4 n4 c4).ownBlock = some b → b ≠ w4.heap.size := fun b hb => Nat.ne_of_lt (ho4.own_hi b hb)
  have hbA : Below w4.heap.size w4 (w4.alloc (.cells #[.int .i64 k, .slice A4 n4 c4, .int .i64 v4] 30)) := (Below.refl _ _).alloc (Nat.le_refl _) _
  have hoA := (ho4.below hbA).mono hlo3
  have hrowA : (w4.alloc (.cells #[.int .i64 k, .slice A4 n4 c4, .int .i64 v4] 30)).heap[w4.heap.size]? = some (.cells #[.int .i64 k, .slice A4 n4 c4, .int .i64 v4] 30) := heap_alloc_new w4 _
  have hgA := only_alloc hg14 (.cells #[.int .i64 k, .slice A4 n4 c4, .int .i64 v4] 30)
  have hX4 : w1.heap.size ≤ w4.heap.size := hg14.size
  have hrA := hr4.alloc (show w0.heap.size ≤ w4.heap.size by omega) (.cells #[.int .i64 k, .slice A4 n4 c4, .int .i64 v4] 30)
  go_wp2_with fail
  refine (odd_any _ _ (0 + 2 + 2 + 100) 9 _ hrA (Nat.le_refl _) (by omega) (by omega)).mono ?_
  rintro e w5 ⟨ob, rfl, _, hr5, hg5⟩
  have hrow5 := (hg5.block w4.heap.size (by simp) (fun e => by injection e with e; omega)).trans hrowA
  have ho5 := hoA.keptG hg5 hGl
  have hg15 := hgA.trans hg5
  clear hrowA hoA hgA hbA
  go_upto_if 18 with fail
  go_cut [5] from 7 (fun sv wx => ∃ s' : Int, sv = .int .i64 s' ∧ -1 ≤ s' ∧ s' ≤ 5 ∧ wx.heap[w4.heap.size]? = some (.cells #[.int .i64 k, .slice A4 n4 c4, .int .i64 v4] 30) ∧ Ow wx w1.heap.size A4 n4 c4 xs ∧ w1.grownBy wx (some w0.heap.size))
  case first =>
    cases ob
    · go_wp2
      go_meet
      case rel => exact ⟨_, rfl, by omega, by omega, hrow5, ho5, hg15⟩
    · go_wp2_with fail
      refine (l20Size_any _ _ (0 + 2 + 2 + 100 + 1) 1 _ hr5 (Nat.le_refl _) (by omega) (by omega)).mono ?_
      rintro e w6 ⟨s6, rfl, ⟨a6, b6, _⟩, hr6, hg6⟩
      have hrow6 := (hg6.block w4.heap.size (Array.getElem?_eq_some_iff.1 hrow5).1 (fun e => by injection e with e; omega)).trans hrow5
      go_wp2
      go_meet
      case rel => exact ⟨_, rfl, a6, b6, hrow6, ho5.keptG hg6 hGl, hg15.trans hg6⟩
  case rest =>
    obtain ⟨s', rfl, a7, b7, hrow7, ho7, hg7⟩ := hcut
    have hR7 := (hg7.block w.heap.size (Nat.lt_of_lt_of_le hRw hb.size) (fun e => by injection e with e; omega)).trans hR1
    have hb17 : Below w.heap.size w wc := (hb00.trans (hb.mono hb00.size)).trans ⟨hg7.os, hg7.tape, hg7.output, hg7.size, fun j hj => hg7.block j (Nat.lt_of_lt_of_le hj (Nat.le_trans hb00.size hb.size)) (fun e => by injection e with e; omega)⟩
    go_wp2_with (first | (refine wpList_load_row rfl 30 _ rfl w4.heap.size rfl 30 #[.int .i64 k, .slice A4 n4 c4, .int .i64 v4] (0, 0) _ hrow7 Try.underlying30 rfl (Hi.out _ _ _ _ _) ?_) | (refine wpList_store_row rfl 30 _ _ rfl w.heap.size #[.int .i64 k, .slice A4 n4 c4, .int .i64 v4] rfl rfl 30 #[.int .i64 0, .slice none 0 0, .int .i64 0] hR7 (Hi.out _ _ _ _ _) rfl (Hone.out _ _ _ _ _) ?_))
    refine bodyPost_ret (v := .tuple #[.agg #[.int .i64 k, .slice A4 n4 c4, .int .i64 v4], .int .i64 s']) (results_ct (by rfl) _ _ w.heap.size 30 _ (0, 0) _ _ rfl rfl (setRow_heap _ _ _ _ _ _ hR7) Try.underlying30 rfl (Hi.out _ _ _ _ _)) rfl ⟨k, A4, n4, c4, v4, xs, s', rfl, (ho7.row5 (fun b hb' => ?_)).mono (Nat.le_trans hb00.size hb.size), hn5, a7, b7, setRow_below5 hb17 (Nat.le_refl _)⟩
    have := ho7.own_lo b hb'
    have := hb.size
    omega
end Go.Proofs.Ytbfjkepelfmeeaa
