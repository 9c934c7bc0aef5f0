import Derived.Test.YtcjdjcpappfkgaaGreatDoorGSqNum
set_option maxRecDepth 8000
namespace Go.Proofs.YtcjdjcpappfkgaaGreatDoor
open Go.ChangeShapes Go.WideShapes Go.ChangeAt Go.RowKit
theorem only_alloc {a w : World} {row : Option Nat} (h : a.grownBy w row) (o : Obj) : a.grownBy (w.alloc o) row :=
  ⟨h.os, h.tape, h.output, Nat.le_trans h.size (by simp), fun i hi hne => (Below.heap_alloc w o i (Nat.lt_of_lt_of_le hi h.size)).trans (h.block i hi hne)⟩
theorem Ow.keptG {w w' : World} {lo G : Nat} {A : Option Addr} {n c : Nat} {xs : List Int} (h : Ow w lo A n c xs) (hg : w.grownBy w' (some G)) (hG : G < lo) : Ow w' lo A n c xs := by
  refine World.ownsRow.kept h hg ?_
  cases e : (Value.slice A n c).ownBlock with
  | none => exact .inl rfl
  | some g =>
    refine .inr fun he => ?_
    have h1 := h.own_lo g e
    injection he with he
    omega
theorem Rdr.more {w : World} {B G P P' : Nat} (h : Rdr w B G P) (hP : P ≤ P') : Rdr w B G P' := by
  obtain ⟨A, n, c, p, bs, h1, h2, h3, h4, h5⟩ := h; exact ⟨A, n, c, p, bs, h1, h2, by omega, h4, h5⟩
theorem Rdr.lt {w : World} {B G P : Nat} (h : Rdr w B G P) : G < w.heap.size := by
  obtain ⟨A, n, c, p, bs, h1, _⟩ := h; exact cell_lt (p := ⟨G, 0, none⟩) (cell_of_row _ _ 0 _ _ _ h1)
theorem Rdr.alloc {w : World} {B G P : Nat} (h : Rdr w B G P) (hB : B ≤ w.heap.size) (o : Obj) : Rdr (w.alloc o) B G P := by
  have hlt := h.lt; obtain ⟨A, n, c, p, bs, h1, h2, h3, h4, h5⟩ := h; exact ⟨A, n, c, p, bs, (Below.heap_alloc w o G hlt).trans h1, h2, h3, h4, h5.below ((Below.refl _ _).alloc hB o)⟩
theorem Rdr.below {w w' : World} {B G P : Nat} (h : Rdr w B G P) (hb : Below w.heap.size w w') (hB : B ≤ w.heap.size) : Rdr w' B G P := by
  have hlt := h.lt; obtain ⟨A, n, c, p, bs, h1, h2, h3, h4, h5⟩ := h; exact ⟨A, n, c, p, bs, (hb.block G hlt).trans h1, h2, h3, h4, h5.below (hb.mono hB)⟩
end Go.Proofs.YtcjdjcpappfkgaaGreatDoor
