import Derived.Test.YtlnmioijgclndaaDoorR4W
set_option maxRecDepth 8000
namespace Go.Proofs.YtlnmioijgclndaaDoor
open Go.ChangeShapes Go.WideShapes Go.ChangeAt Go.RowKit

theorem below_d1 (w : World) (o : Obj) : Below w.heap.size w (w.drew.alloc o) := ((Below.refl _ _).drew).alloc (Nat.le_refl _) o
theorem below_d2 (w : World) (o o' : Obj) : Below w.heap.size w ((w.drew.alloc o).alloc o') := (below_d1 w o).alloc (below_d1 w o).size o'
theorem rdV_new (w : World) (x : Int) : Rd (w.alloc (.cells #[.int .i64 x] 3)) (w.heap.size + 1) (some ⟨w.heap.size, 0, none⟩) 1 [x] :=
  ⟨rfl, fun _ => ⟨w.heap.size, 0, rfl, Nat.lt_succ_self _, fun k hk => by
    obtain rfl : k = 0 := by omega
    exact cell_of_row _ _ 0 _ _ (0, 0) (heap_alloc_new w _)⟩⟩
theorem made0_1 (w : World) (o : Obj) : Ow ((w.alloc o).alloc (.cells #[] 3)) w.heap.size (some ⟨w.heap.size + 1, 0, none⟩) 0 0 [] := by
  have := Ow.made0 (w.alloc o) w.heap.size (by simp)
  rwa [World.size_alloc] at this
theorem rdV_ii {w w1 : World} {x : Int} (hg : ((w.alloc (.cells #[] 3)).alloc (.cells #[.int .i64 x] 3)).grownBy w1 (Value.slice (some ⟨w.heap.size, 0, none⟩) 0 0).ownBlock) : Rd w1 w1.heap.size (some ⟨w.heap.size + 1, 0, none⟩) 1 [x] :=
  ⟨rfl, fun _ => ⟨w.heap.size + 1, 0, rfl, by have := hg.size; simp at this ⊢; omega, fun k hk => by
    obtain rfl : k = 0 := by omega
    refine (hg.cell_far ⟨w.heap.size + 1, 0, none⟩ (by simp) (by simp [Value.ownBlock])).trans ?_
    have := cell_of_row _ _ 0 _ _ (0, 0) (heap_alloc_new (w.alloc (.cells #[] 3)) (.cells #[.int .i64 x] 3))
    rwa [World.size_alloc] at this⟩⟩
theorem rdV_iii {w w1 : World} {x : Int} (hg : ((w.alloc (.cells #[.int .i64 x] 3)).alloc (.cells #[] 3)).grownBy w1 (Value.slice (some ⟨w.heap.size + 1, 0, none⟩) 0 0).ownBlock) : Rd w1 w1.heap.size (some ⟨w.heap.size, 0, none⟩) 1 [x] :=
  ⟨rfl, fun _ => ⟨w.heap.size, 0, rfl, by have := hg.size; simp at this ⊢; omega, fun k hk => by
    obtain rfl : k = 0 := by omega
    refine (hg.cell_far ⟨w.heap.size, 0, none⟩ (by simp; omega) (by simp [Value.ownBlock])).trans ?_
    refine (cell_of_row _ _ 0 #[.int .i64 x] 3 (0, 0) ?_)
    rw [heap_alloc_old _ _ (by simp)]
    exact heap_alloc_new _ _⟩⟩
theorem own_ne {w : World} {lo G : Nat} {A : Option Addr} {n c : Nat} {xs : List Int} (h : Ow w lo A (n + 1) c xs) (hG : G < lo) : ∀ b off, A = some ⟨b, off, none⟩ → b ≠ G := fun b off e => by
  obtain ⟨g, e2, hlo, _⟩ := h.form (Nat.succ_pos n)
  rw [e] at e2
  cases e2
  omega
theorem below_push {B : Nat} {w0 w w' : World} {lo : Nat} {A : Option Addr} {n c : Nat} {xs : List Int} (hb : Below B w0 w) (hown : Ow w lo A n c xs) (hlo : B ≤ lo) (hB : B ≤ w.heap.size) (hg : w.grownBy w' (Value.slice A n c).ownBlock) : Below B w0 w' :=
  hb.grown hg hB (fun k hk => Nat.le_trans hlo (hown.own_lo k hk))

end Go.Proofs.YtlnmioijgclndaaDoor
