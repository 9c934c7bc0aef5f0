import Derived.Test.YtgeedgljabdllaaFw
import Derived.Deep.RegionHeld3
set_option maxRecDepth 8000
namespace Go.Proofs.Ytgeedgljabdllaa
open Go.ChangeShapes Go.WideShapes Go.ChangeAt Go.RowKit
theorem below_undrewF {w w2 : World} (h : Below w.drew.heap.size w.drew w2) : Below w.heap.size w w2 := ⟨h.os, h.tape, h.output, h.size, h.block⟩
theorem index_row (T : Nat → Nat → Int) (j : Nat) (hj : j < 10) : ∀ w : World, (Instr.index 127 (.agg (fcells T)) (.int .i64 j)).run Try.prog w = .ok (.agg (rowL T j).toArray) w := by
  intro w
  have : j = 0 ∨ j = 1 ∨ j = 2 ∨ j = 3 ∨ j = 4 ∨ j = 5 ∨ j = 6 ∨ j = 7 ∨ j = 8 ∨ j = 9 := by omega
  rcases this with rfl | rfl | rfl | rfl | rfl | rfl | rfl | rfl | rfl | rfl <;> rfl
theorem index_cell (T : Nat → Nat → Int) (j i : Nat) (hi : i < 5) : ∀ w : World, (Instr.index 125 (.agg (rowL T j).toArray) (.int .i64 i)).run Try.prog w = .ok (.int .i64 (T j i)) w := by
  intro w
  have : i = 0 ∨ i = 1 ∨ i = 2 ∨ i = 3 ∨ i = 4 := by omega
  rcases this with rfl | rfl | rfl | rfl | rfl <;> rfl
set_option maxHeartbeats 2000000 in
theorem ways_any (A : Option Addr) (m c B : Nat) (cs : List Int) (A' : Option Addr) (n c' B' : Nat) (ks : List Int) (w : World) (h : Rd w B A m cs) (hB : B ≤ w.heap.size) (hm : m ≤ 4) (hcs : ∀ v ∈ cs, 1 ≤ v ∧ v ≤ 8) (h' : Rd w B' A' n ks) (hB' : B' ≤ w.heap.size) (hn : n ≤ 8) (hc : n ≤ c') (hc2 : c' ≤ 9223372036854775807) :
    Calls Try.prog 113 #[.agg #[.slice A m c, .slice A' n c']] w fun e w' => e = .returned (.int .i64 (wys (kk ks) cs n : Nat)) ∧ Below w.heap.size w w' := by
  have hl := Lib.hid h.1
  have hl' := Lib.hid h'.1
  have hE := Lib.hid (show TT ks cs (n + 1) (n + 1) m = (wys (kk ks) cs n : Nat) by
    unfold TT tb
    rw [if_pos (Nat.le_refl _), if_pos (by rw [hl.out]; exact Nat.le_refl _), ← hl.out, wys_fr _ _ (fun v hv => (hcs v hv).1) n (by simp [kk, hl'.out])])
  have hb0 : Below w.heap.size w (w.alloc (.cells #[.slice A m c, .slice A' n c'] 124)) := (Below.refl _ _).alloc (Nat.le_refl _) _
  have hx0 : LBox (w.alloc (.cells #[.slice A m c, .slice A' n c'] 124)) w.heap.size A m c A' n c' := heap_alloc_new w _
  have hs0 : w.heap.size < (w.alloc (.cells #[.slice A m c, .slice A' n c'] 124)).heap.size := by simp
  obtain ⟨C, R, X, hX, hi1, hi2, hFW⟩ : ∃ (C R : Array Value) (X : Int), X = (wys (kk ks) cs n : Nat) ∧ (∀ u : World, (Instr.index 127 (.agg C) (.int .i64 (IntKind.i64.wrap ((n : Int) + 1)))).run Try.prog u = .ok (.agg R) u) ∧ (∀ u : World, (Instr.index 125 (.agg R) (.int .i64 (m : Int))).run Try.prog u = .ok (.int .i64 X) u) ∧
      Calls Try.prog 116 #[.agg #[.slice A m c, .slice A' n c']] (w.alloc (.cells #[.slice A m c, .slice A' n c'] 124)).drew fun e w' => e = .returned (.agg C) ∧ Below (w.alloc (.cells #[.slice A m c, .slice A' n c'] 124)).heap.size (w.alloc (.cells #[.slice A m c, .slice A' n c'] 124)).drew w' := by
    refine ⟨fcells (TT ks cs (n + 1)), (rowL (TT ks cs (n + 1)) (n + 1)).toArray, TT ks cs (n + 1) (n + 1) m, hE.out, fun u => ?_, fun u => index_cell _ (n + 1) m (by omega) u, ?_⟩
    · rw [show IntKind.i64.wrap ((n : Int) + 1) = ((n + 1 : Nat) : Int) from IntWalk.i64_in _ (by omega)]
      exact index_row _ (n + 1) (by omega) u
    · exact frontWays_any A m c B cs A' n c' B' ks (w.alloc (.cells #[.slice A m c, .slice A' n c'] 124)).drew ((h.below (hb0.mono hB)).below (Below.refl _ _).drew) (Nat.le_trans hB hb0.size) hm hcs ((h'.below (hb0.mono hB')).below (Below.refl _ _).drew) (Nat.le_trans hB' hb0.size) hn hc hc2
  have HFW := Lib.hid hFW
  have HX := Lib.hid hX
  clear hFW hX hE
  have HS : Hid (∀ w', Below (w.alloc (.cells #[.slice A m c, .slice A' n c'] 124)).heap.size (w.alloc (.cells #[.slice A m c, .slice A' n c'] 124)).drew w' → w'.cell? ⟨w.heap.size, 0, none⟩ = some (.slice A m c) ∧ w'.cell? ⟨w.heap.size, 1, none⟩ = some (.slice A' n c')) :=
    Lib.hid (fun w' hb => ⟨(cell_of_row _ _ 0 _ _ (0, 0) ((hb.block w.heap.size hs0).trans hx0)).trans rfl, (cell_of_row _ _ 1 _ _ (0, 0) ((hb.block w.heap.size hs0).trans hx0)).trans rfl⟩)
  have z0 : (w.alloc (.cells #[.slice A m c, .slice A' n c'] 124)).cell? ⟨w.heap.size, 0, none⟩ = some (.slice A m c) := (cell_of_row _ _ 0 _ _ (0, 0) hx0).trans rfl
  have z1 : (w.alloc (.cells #[.slice A m c, .slice A' n c'] 124)).cell? ⟨w.heap.size, 1, none⟩ = some (.slice A' n c') := (cell_of_row _ _ 1 _ _ (0, 0) hx0).trans rfl
  go_enter Try.func113, Try.ntmps113
  go_wp2
  go_region_held3 (fun w' => w'.cell? ⟨w.heap.size, 0, none⟩ = some (.slice A m c) ∧ w'.cell? ⟨w.heap.size, 1, none⟩ = some (.slice A' n c'))
    (first | go_keep | exact HS.out _ hb1)
    ((go_simp; go_at_call 116; refine HFW.out.mono ?_; rintro e w1 ⟨rfl, hb1⟩))
  go_wp2
  go_ret
  exact ⟨by rw [← HX.out]; rfl, hb0.trans ((below_undrewF (w := w.alloc (.cells #[.slice A m c, .slice A' n c'] 124)) hb1).mono hb0.size)⟩
end Go.Proofs.Ytgeedgljabdllaa
