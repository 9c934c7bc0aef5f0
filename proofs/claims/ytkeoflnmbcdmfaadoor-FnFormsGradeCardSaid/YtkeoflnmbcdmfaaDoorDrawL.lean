import Derived.Test.YtkeoflnmbcdmfaaDoorDrawH
import Derived.Test.YtkeoflnmbcdmfaaDoorC1
set_option maxRecDepth 8000
namespace Go.Proofs.YtkeoflnmbcdmfaaDoor
open Go.ChangeShapes Go.WideShapes Go.ChangeAt Go.RowKit

/-- the code that a law of draws takes. -/
def Code_ (w : World) (A : Option Addr) (n c : Nat) (bs : List Int) : Prop := RdB w w.heap.size A n bs ∧ n ≤ c ∧ c ≤ 9223372036854775807
theorem code_of_row {w : World} {a : Option Addr} {len cap : Nat} {zs : List Int} (h : IsRow .u8 w a len cap zs) : Code_ w a len cap (zs.take len) := by
  refine ⟨rdB_of_row h, ?_⟩
  rcases h with ⟨rfl, rfl, rfl, rfl⟩ | ⟨x, rfl, hl, hm, _⟩
  · omega
  · simp only [maxLen] at hm; omega
def DrawnGrid (w : World) (m : Int) (e : Ending) (w' : World) : Prop :=
  ∃ A n c xs s, e = .returned (.tuple #[.slice A n c, .int .i64 s]) ∧ Rd w' w'.heap.size A n xs ∧ (n ≤ 16 ∧ n ≤ c ∧ c ≤ 9223372036854775807) ∧ -1 ≤ s ∧ s ≤ 5 ∧ (m ≤ 0 → gv xs s = true) ∧ Below w.heap.size w w'
theorem drawn_grid {w w1 w2 : World} {P : Nat} {m : Int} {e : Ending} (hb : Below w.heap.size w w1) (h : DrewGrid w1 w.heap.size w.heap.size P m e w2) : DrawnGrid w m e w2 := by
  obtain ⟨A, n, c, xs, s, he, h1, h2, h3, h4, h5, _, h7, _⟩ := h
  exact ⟨A, n, c, xs, s, he, h1, h2, h3, h4, h5, hb.trans (grown_below h7 (Nat.le_refl _) hb.size)⟩
theorem drawGridForms (A : Option Addr) (n c : Nat) (bs : List Int) (w : World) (h : Code_ w A n c bs) :
    Calls Tryd.prog 43 #[.slice A n c] w (DrawnGrid w 9) := by
  go_enter Tryd.func43, Tryd.ntmps43
  go_wp2_with fail
  refine (specOpen A c n bs w h.1 h.2.1 h.2.2).mono ?_
  rintro e w1 ⟨rfl, hr, hb⟩
  go_wp2_with fail
  refine (l20Grid_any _ _ _ 9 _ hr (Nat.le_refl _) (by omega) (by omega)).mono ?_
  intro e w2 hp
  obtain ⟨A', n', c', xs, s, rfl, hrest⟩ := drawn_grid hb hp
  go_wp2
  go_ret2
  exact ⟨A', n', c', xs, s, rfl, hrest⟩










theorem alive_any (w : World) : Calls Tryd.prog 21 #[] w fun e w' => e = .returned (.bool true) ∧ Below w.heap.size w w' := by
  have hrd : Rd (w.alloc (.cells #[.int .i64 1, .int .i64 0, .int .i64 0, .int .i64 2] 3)) (w.heap.size + 1) (some ⟨w.heap.size, 0, none⟩) 4 [1, 0, 0, 2] := by
    refine ⟨rfl, fun _ => ⟨w.heap.size, 0, rfl, by omega, fun k hk => ?_⟩⟩
    rw [cell_of_row _ _ (0 + k) _ _ _ (heap_alloc_new w _)]
    have : k = 0 ∨ k = 1 ∨ k = 2 ∨ k = 3 := by omega
    rcases this with rfl | rfl | rfl | rfl <;> rfl
  have hgf := Lib.hid (show gf [1, 0, 0, 2] 2 = 2 by decide)
  go_enter Tryd.func21, Tryd.ntmps21
  go_wp2_with fail
  refine (implGridFilled _ _ _ _ _ _ _ hrd (by simp) (by omega)).mono ?_
  rintro e w1 ⟨rfl, hb⟩
  rw [hgf.out]
  go_wp2
  go_ret
  exact ⟨rfl, box_below hb⟩
end Go.Proofs.YtkeoflnmbcdmfaaDoor
