import Derived.Test.YtchcmgaohcldjaaDoorSqNum
set_option maxRecDepth 8000
namespace Go.Proofs.YtchcmgaohcldjaaDoor
open Go.ChangeShapes Go.WideShapes Go.ChangeAt Go.RowKit

theorem lit_cell {w w2 : World} {cs : Array Value} {t : TypeId} {G : Nat} (hg : (w.alloc (.cells cs t)).grownBy w2 (some G)) (hG : G < w.heap.size) (i : Nat) : w2.cell? ⟨w.heap.size, i, none⟩ = cs[i]? := by
  have h := hg.block w.heap.size (by simp) (fun e => by injection e with e; omega)
  exact cell_of_row _ _ i cs t (0, 0) (h.trans (heap_alloc_new w _))
theorem only_alloc {a w : World} {row : Option Nat} (h : a.grownBy w row) (o : Obj) : a.grownBy (w.alloc o) row :=
  ⟨h.os, h.tape, h.output, Nat.le_trans h.size (by simp), fun i hi hne => (Below.heap_alloc w o i (Nat.lt_of_lt_of_le hi h.size)).trans (h.block i hi hne)⟩
theorem only_set {a w : World} {row : Option Nat} (h : a.grownBy w row) {p : Addr} (hp : a.heap.size ≤ p.block) (u : Value) : a.grownBy (w.setCell p u) row :=
  ⟨h.os, h.tape, h.output, by simpa [World.setCell] using h.size, fun i hi hne => (Below.heap_setCell w p u i (by omega)).trans (h.block i hi hne)⟩
theorem grown_of_alloc {w w2 : World} {o : Obj} {G : Nat} (h : (w.alloc o).grownBy w2 (some G)) : w.grownBy w2 (some G) := (only_alloc (World.grownBy.refl w _) o).trans h
theorem Ow.keptG {w w' : World} {lo G : Nat} {A : Option Addr} {n c : Nat} {xs : List Int} (h : Ow w lo A n c xs) (hg : w.grownBy w' (some G)) (hG : G < lo) : Ow w' lo A n c xs := by
  refine World.ownsRow.kept h hg ?_
  cases e : (Value.slice A n c).ownBlock with
  | none => exact .inl rfl
  | some g =>
    refine .inr fun he => ?_
    have h1 := h.own_lo g e
    injection he with he
    omega

end Go.Proofs.YtchcmgaohcldjaaDoor
