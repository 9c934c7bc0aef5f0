import Derived.Test.YtoejpodchlepiaaIt
set_option maxRecDepth 8000
namespace Go.Proofs.Ytoejpodchlepiaa
open Go.ChangeShapes Go.WideShapes Go.ChangeAt Go.RowKit
theorem waysToHold_any (A : Option Addr) (c n : Nat) (k v : Int) (Am : Option Addr) (n2 cm : Nat) (w : World) (hk : k = 1 ∨ k = 2 ∨ k = 3 ∨ k = 4 ∨ k = 5) :
    Calls Try.prog 116 #[.agg #[.int .i64 k, .slice A n c, .int .i64 v], .slice Am n2 cm] w fun e w' =>
      ∃ MB RB, e = .returned (.func (.func 134) #[] #[.pointer (some ⟨MB, 0, none⟩), .pointer (some ⟨RB, 0, none⟩)]) ∧ w'.cell? ⟨MB, 0, none⟩ = some (.slice Am n2 cm) ∧ w'.cell? ⟨RB, 0, none⟩ = some (ofk k (rval k A n c v)) ∧ Below w.heap.size w w' := by
  have hx0 := rbox_new w k A n c v 25
  have hb0 : Below w.heap.size w (w.alloc (.cells #[.int .i64 k, .slice A n c, .int .i64 v] 25)) := (Below.refl _ _).alloc (Nat.le_refl _) _
  have hs0 : (w.alloc (.cells #[.int .i64 k, .slice A n c, .int .i64 v] 25)).heap.size = w.heap.size + 1 := by simp
  obtain ⟨W1, hW1⟩ : ∃ W1, (w.alloc (.cells #[.int .i64 k, .slice A n c, .int .i64 v] 25)).alloc (.cells #[.slice Am n2 cm] 23) = W1 := ⟨_, rfl⟩
  have hb1 : Below w.heap.size w W1 := by rw [← hW1]; exact hb0.alloc hb0.size _
  have hs1 : W1.heap.size = w.heap.size + 1 + 1 := by rw [← hW1]; simp
  have hx1 : RBox W1 w.heap.size k A n c v := by
    rw [← hW1]
    exact hx0.below (by simp) ((Below.refl _ _).alloc (Nat.le_refl _) _)
  have hm1 : W1.cell? ⟨w.heap.size + 1, 0, none⟩ = some (.slice Am n2 cm) := by
    rw [← hW1, ← hs0]; exact cell_of_row _ _ 0 _ _ (0, 0) (heap_alloc_new _ _)
  obtain ⟨a0, a1, a2⟩ := id hx1
  obtain ⟨x, hx⟩ : ∃ x, rval k A n c v = x := ⟨_, rfl⟩
  obtain ⟨T, hT⟩ : ∃ T, ofk k (rval k A n c v) = .iface T x := by
    rw [hx]
    rcases hk with rfl | rfl | rfl | rfl | rfl <;> exact ⟨_, rfl⟩
  have HK := ofKind_any A c n k v W1
  rw [hT] at HK ⊢
  have HK := Lib.hid HK
  clear hx hT
  have Hs := Lib.hid hs1
  clear hs1 hs0 hb0
  go_enter Try.func116, Try.ntmps116
  go_wp2_with (go_at_call 77; refine HK.out.mono ?_; rintro e w3 ⟨rfl, hb3⟩; have hm3 := (hb3.cell (p := ⟨w.heap.size + 1, 0, none⟩) (show w.heap.size + 1 < _ by rw [Hs.out]; omega)).trans hm1)
  go_ret
  have hb4 : Below w3.heap.size w3 (w3.alloc (.cells #[.iface T x] 73)) := (Below.refl _ _).alloc (Nat.le_refl _) _
  exact ⟨w.heap.size + 1, w3.heap.size, rfl, (hb4.cell (p := ⟨w.heap.size + 1, 0, none⟩) (cell_lt hm3)).trans hm3, cell_of_row _ _ 0 _ _ (0, 0) (heap_alloc_new _ _), step (step hb1 hb3) hb4⟩
end Go.Proofs.Ytoejpodchlepiaa
