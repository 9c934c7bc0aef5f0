import Derived.Test.YtlnmioijgclndaaDoorClash
import Derived.Deep.QuietTactic
import Derived.BigQuiet
namespace Go.Proofs.YtlnmioijgclndaaDoor
open Go.ChangeShapes Go.WideShapes Go.ChangeAt Go.RowKit

/-- a rule's cell number k is a cell of the grid and none of those before it. -/
def freshB (xs : List Int) (k : Nat) : Bool := (List.range k).all fun j => nth xs j != nth xs k
def cellOk (m : Int) (xs : List Int) (k : Nat) : Bool := inr (nth xs k) 0 m && freshB xs k
def kindOk (k v : Int) (n : Nat) (s : Int) : Bool :=
  if k = 1 then decide (2 ≤ n) && (v == 0) else if k = 2 then decide (1 ≤ n) && inr v 1 (s * s * s * s) else if k = 3 then decide (1 ≤ n) && inr v 1 (s * s * s * s)
  else if k = 4 then decide (n = 2) && (v == 0) else if k = 5 then decide (n = 2) && inr v 0 (s - 1) else false
def rv (k : Int) (xs : List Int) (v s : Int) : Bool := inr s 2 4 && decide (xs.length ≤ 4) && ((List.range xs.length).all (cellOk (s * s - 1) xs)) && kindOk k v xs.length s
theorem rv_cell {k v s : Int} {xs : List Int} {n i : Nat} (hl : xs.length = n) (hi : i < n) (h : cellOk (s * s - 1) xs i = false) : rv k xs v s = false := by
  have : (List.range xs.length).all (cellOk (s * s - 1) xs) = false := by
    cases e : (List.range xs.length).all (cellOk (s * s - 1) xs)
    · rfl
    · have := List.all_eq_true.1 e i (List.mem_range.2 (by omega))
      rw [h] at this; cases this
  simp only [rv, this, Bool.and_false, Bool.false_and]
theorem rv_tail {k v s : Int} {xs : List Int} {n : Nat} (hl : xs.length = n) (hs : inr s 2 4 = true) (h4 : n ≤ 4) (h : ∀ i, i < n → cellOk (s * s - 1) xs i = true) : rv k xs v s = kindOk k v n s := by
  subst hl
  have : (List.range xs.length).all (cellOk (s * s - 1) xs) = true := List.all_eq_true.2 (fun i hi => h i (by rw [List.mem_range] at hi; omega))
  simp only [rv, this, hs, decide_eq_true h4, Bool.true_and]
theorem fresh_succ {xs : List Int} {k : Nat} {j : Nat} (h : ∀ i, i < j → nth xs i ≠ nth xs k) (e : nth xs j ≠ nth xs k) : ∀ i, i < j + 1 → nth xs i ≠ nth xs k := fun i hi => by
  by_cases he : i = j
  · subst he; exact e
  · exact h i (by omega)
theorem fresh_t {xs : List Int} {k : Nat} (h : ∀ i, i < k → nth xs i ≠ nth xs k) : freshB xs k = true := by
  simp only [freshB, List.all_eq_true, List.mem_range, bne_iff_ne]
  exact h
theorem fresh_f {xs : List Int} {k j : Nat} (hj : j < k) (e : nth xs j = nth xs k) : freshB xs k = false := by
  cases h : freshB xs k
  · rfl
  · simp only [freshB, List.all_eq_true, List.mem_range, bne_iff_ne] at h
    exact absurd e (h j hj)

/-- a rule's three cells in block g. -/
def RBox (w : World) (g : Nat) (k : Int) (A : Option Addr) (n c : Nat) (v : Int) : Prop := w.cell? ⟨g, 0, none⟩ = some (.int .i64 k) ∧ w.cell? ⟨g, 1, none⟩ = some (.slice A n c) ∧ w.cell? ⟨g, 2, none⟩ = some (.int .i64 v)
theorem RBox.below {w w' : World} {g B : Nat} {k : Int} {A : Option Addr} {n c : Nat} {v : Int} (h : RBox w g k A n c v) (hg : g < B) (hb : Below B w w') : RBox w' g k A n c v :=
  ⟨(hb.cell (p := ⟨g, 0, none⟩) hg).trans h.1, (hb.cell (p := ⟨g, 1, none⟩) hg).trans h.2.1, (hb.cell (p := ⟨g, 2, none⟩) hg).trans h.2.2⟩
theorem rbox_new (w : World) (k : Int) (A : Option Addr) (n c : Nat) (v : Int) (t : TypeId) : RBox (w.alloc (.cells #[.int .i64 k, .slice A n c, .int .i64 v] t)) w.heap.size k A n c v :=
  ⟨cell_of_row _ _ 0 _ _ (0, 0) (heap_alloc_new w _), cell_of_row _ _ 1 _ _ (0, 0) (heap_alloc_new w _), cell_of_row _ _ 2 _ _ (0, 0) (heap_alloc_new w _)⟩
theorem pow4_wrap {s : Int} (h2 : 2 ≤ s) (h4 : s ≤ 4) : wrap64 (s * s) = s * s ∧ wrap64 (s * s * s) = s * s * s ∧ wrap64 (s * s * s * s) = s * s * s * s ∧ wrap64 (s * s - 1) = s * s - 1 ∧ wrap64 (s - 1) = s - 1 := by
  have : s = 2 ∨ s = 3 ∨ s = 4 := by omega
  rcases this with rfl | rfl | rfl <;> exact ⟨IntWalk.wrap64_in _ ⟨by omega, by omega⟩, IntWalk.wrap64_in _ ⟨by omega, by omega⟩, IntWalk.wrap64_in _ ⟨by omega, by omega⟩, IntWalk.wrap64_in _ ⟨by omega, by omega⟩, IntWalk.wrap64_in _ ⟨by omega, by omega⟩⟩

end Go.Proofs.YtlnmioijgclndaaDoor
