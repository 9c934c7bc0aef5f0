import Derived.Test.YtmnacejmkjhpnaaDrawL
import Derived.Test.YtmnacejmkjhpnaaSol
namespace Go.Proofs.Ytmnacejmkjhpnaa
open Go.ChangeShapes Go.WideShapes Go.ChangeAt Go.RowKit

theorem results4 {fn : Func} {t u v x : Tmp} (h : fn.results = #[.tmp t, .tmp u, .tmp v, .tmp x]) (tmps : Array Value) (P : Program) (w : World) :
    (results fn tmps).run P w = .ok (.tuple #[tmps.getD t undef, tmps.getD u undef, tmps.getD v undef, tmps.getD x undef]) w := by simp [results, h]

theorem rd_keptG {w w' : World} {G n : Nat} {A : Option Addr} {xs : List Int} (h : Rd w w.heap.size A n xs) (hg : w.grownBy w' (some G)) (hne : ∀ a, A = some a → a.block ≠ G) : Rd w' w'.heap.size A n xs := by
  refine ⟨h.1, fun hn => ?_⟩
  obtain ⟨b, off, he, hb, hc⟩ := h.2 hn
  have hbG := hne _ he
  exact ⟨b, off, he, Nat.lt_of_lt_of_le hb hg.size, fun k hk => (World.cell?_of_block (a := ⟨b, off + k, none⟩) (hg.block b hb (fun e => hbG (by injection e)))).trans (hc k hk)⟩
def DrawnSwap (w : World) (e : Ending) (w' : World) : Prop :=
  ∃ A n c xs, ∃ s a b : Int, e = .returned (.tuple #[.slice A n c, .int .i64 s, .int .i64 a, .int .i64 b]) ∧ Rd w' w'.heap.size A n xs ∧ (n ≤ 16 ∧ n ≤ c ∧ c ≤ 9223372036854775807) ∧ -1 ≤ s ∧ s ≤ 5 ∧ 1 ≤ a ∧ a ≤ 4 ∧ 0 ≤ b ∧ b ≤ 5 ∧ Below w.heap.size w w'
theorem drawGridSwap (A : Option Addr) (n c : Nat) (bs : List Int) (w : World) (h : Code_ w A n c bs) :
    Calls Try.prog 42 #[.slice A n c] w (DrawnSwap w) := by
  go_enter Try.func42, Try.ntmps42
  go_wp2_with fail
  refine (specOpen A c n bs w h.1 h.2.1 h.2.2).mono ?_
  rintro e w1 ⟨rfl, hr, hb⟩
  go_wp2_with fail
  refine (l20Grid_any _ _ _ _ _ hr (Nat.le_refl _) (by omega) (by omega)).mono ?_
  rintro e w2 ⟨A2, n2, c2, xs, s, rfl, hr2, hc2, s0, s1, _, hd2, hg2, hf2⟩
  have hG := hr.lt
  go_wp2_with fail
  refine (pick_any _ _ _ _ _ hd2 (Nat.le_refl _) (by omega)).mono ?_
  rintro e w3 ⟨a, rfl, ⟨a0, a1, _⟩, hd3, hg3⟩
  have a2 := a1 (by omega)
  go_wp2_with fail
  refine (pick_any _ _ _ _ _ hd3 (Nat.le_refl _) (by omega)).mono ?_
  rintro e w4 ⟨b, rfl, ⟨b0, b1, _⟩, hd4, hg4⟩
  have b2 := b1 (by omega)
  have hr4 : Rd w4 w4.heap.size A2 n2 xs := rd_keptG hr2 (hg3.trans hg4) (fun a ha => by have := hf2.out a ha; omega)
  have hbb := hb.trans (grown_below ((hg2.trans hg3).trans hg4) (Nat.le_refl _) hb.size)
  clear a1 b1 hg2 hg3 hg4 hd2 hd3 hd4 hr2
  go_wp2
  refine bodyPost_ret (results4 rfl _ _ _) rfl ?_
  exact ⟨A2, n2, c2, xs, s, 1 + a, b, rfl, hr4, hc2, s0, s1, by omega, by omega, b0, by omega, hbb⟩
def DrawnGridLine (w : World) (e : Ending) (w' : World) : Prop :=
  ∃ A n c xs, ∃ s l : Int, e = .returned (.tuple #[.slice A n c, .int .i64 s, .int .i64 l]) ∧ Rd w' w'.heap.size A n xs ∧ (n ≤ 16 ∧ n ≤ c ∧ c ≤ 9223372036854775807) ∧ -1 ≤ s ∧ s ≤ 5 ∧ -1 ≤ l ∧ l ≤ 8 ∧ Below w.heap.size w w'
theorem drawMissingIn (A : Option Addr) (n c : Nat) (bs : List Int) (w : World) (h : Code_ w A n c bs) :
    Calls Try.prog 39 #[.slice A n c] w (DrawnGridLine w) := by
  go_enter Try.func39, Try.ntmps39
  go_wp2_with fail
  refine (specOpen A c n bs w h.1 h.2.1 h.2.2).mono ?_
  rintro e w1 ⟨rfl, hr, hb⟩
  have hG := hr.lt
  go_wp2_with fail
  refine (l20Grid_any _ _ _ _ _ hr (Nat.le_refl _) (by omega) (by omega)).mono ?_
  rintro e w2 ⟨A2, n2, c2, xs, s, rfl, hr2, hc2, s0, s1, _, hd2, hg2, hf2⟩
  go_wp2_with fail
  refine (pick_any _ _ _ _ _ hd2 (Nat.le_refl _) (by omega)).mono ?_
  rintro e w3 ⟨a, rfl, ⟨a0, a1, _⟩, hd3, hg3⟩
  have a2 := a1 (by omega)
  have hr3 : Rd w3 w3.heap.size A2 n2 xs := rd_keptG hr2 hg3 (fun a ha => by have := hf2.out a ha; omega)
  have hbb := hb.trans (grown_below (hg2.trans hg3) (Nat.le_refl _) hb.size)
  clear a1 hg2 hg3 hd2 hd3 hr2
  go_wp2
  go_ret3
  exact ⟨A2, n2, c2, xs, s, a - 1, rfl, hr3, hc2, s0, s1, by omega, by omega, hbb⟩
theorem drawSquareSolved (A : Option Addr) (n c : Nat) (bs : List Int) (w : World) (h : Code_ w A n c bs) :
    Calls Try.prog 27 #[.slice A n c] w (DrawnGrid w 9) := by
  go_enter Try.func27, Try.ntmps27
  go_wp2_with fail
  refine (specOpen A c n bs w h.1 h.2.1 h.2.2).mono ?_
  rintro e w1 ⟨rfl, hr, hb⟩
  have hG := hr.lt
  go_wp2_with fail
  refine (pick_any _ _ _ _ _ hr (Nat.le_refl _) (by omega)).mono ?_
  rintro e w2 ⟨v, rfl, _, hd2, hg2⟩
  have hb2 := hb.trans (grown_below hg2 (Nat.le_refl _) hb.size)
  by_cases h0 : v = 0
  · have hz : (v == 0) = true := by simp [h0]
    clear h0
    go_wp2_with fail
    refine (l20Size_any _ _ _ _ _ hd2 (Nat.le_refl _) (by omega) (by omega)).mono ?_
    rintro e w3 ⟨s, rfl, ⟨s0, s1, ss⟩, hd3, hg3⟩
    obtain ⟨h2, h4⟩ := ss (Int.le_refl _)
    have hb3 := hb2.trans (grown_below hg3 (Nat.le_refl _) hb2.size)
    clear ss
    go_wp2_with fail
    refine (l20Solved_any _ _ _ _ _ hd3 (Nat.le_refl _) (by omega) h2 h4).mono ?_
    rintro e w4 ⟨A4, n4, c4, xs, rfl, ho4, hn4, _, hd4, hg4⟩
    have hb4 := hb3.trans (grown_below hg4 (Nat.le_refl _) hb3.size)
    obtain ⟨q4, q16⟩ := sq_bd h2 h4
    have hcap := ho4.cap (by omega)
    simp only [maxLen] at hcap
    have Hn := Lib.hid hn4
    have n16 : n4 ≤ 16 := by omega
    clear hn4
    go_wp2
    go_ret2
    exact ⟨A4, n4, c4, xs, s, rfl, ho4.rd, ⟨n16, hcap.1, by omega⟩, s0, s1, by omega, hb4⟩
  · have hz : (v == 0) = false := by simp [h0]
    clear h0
    go_wp2_with fail
    refine (l20Grid_any _ _ _ 9 _ hd2 (Nat.le_refl _) (by omega) (by omega)).mono ?_
    intro e w3 hp
    obtain ⟨A', n', c', xs, s, rfl, hrest⟩ := drawn_grid hb2 hp
    go_wp2
    go_ret2
    exact ⟨A', n', c', xs, s, rfl, hrest⟩
def DrawnSize (w : World) (e : Ending) (w' : World) : Prop := ∃ s : Int, e = .returned (.int .i64 s) ∧ -1 ≤ s ∧ s ≤ 5 ∧ Below w.heap.size w w'
theorem drawSquareOf (A : Option Addr) (n c : Nat) (bs : List Int) (w : World) (h : Code_ w A n c bs) :
    Calls Try.prog 32 #[.slice A n c] w (DrawnSize w) := by
  go_enter Try.func32, Try.ntmps32
  go_wp2_with fail
  refine (specOpen A c n bs w h.1 h.2.1 h.2.2).mono ?_
  rintro e w1 ⟨rfl, hr, hb⟩
  go_wp2_with fail
  refine (l20Size_any _ _ _ _ _ hr (Nat.le_refl _) (by omega) (by omega)).mono ?_
  rintro e w2 ⟨s, rfl, ⟨s0, s1, _⟩, hd2, hg2⟩
  go_wp2
  go_ret
  exact ⟨s, rfl, s0, s1, hb.trans (grown_below hg2 (Nat.le_refl _) hb.size)⟩
end Go.Proofs.Ytmnacejmkjhpnaa
