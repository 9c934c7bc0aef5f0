import Derived.Test.YtmnacejmkjhpnaaDoorBase
namespace Go.Proofs.YtmnacejmkjhpnaaDoor
open Go.ChangeShapes Go.WideShapes Go.ChangeAt Go.RowKit

theorem l1In_any (n lo hi : Int) (w : World) : Calls Tryd.prog 14 #[.int .i64 n, .int .i64 lo, .int .i64 hi] w fun e w' => e = .returned (.bool (inr n lo hi)) ∧ w = w' := by
  by_cases h1 : lo ≤ n
  · go_enter Tryd.func14, Tryd.ntmps14
    go_wp2
    go_ret
    exact ⟨by simp [inr, h1], rfl⟩
  · go_enter Tryd.func14, Tryd.ntmps14
    go_wp2
    go_ret
    exact ⟨by simp [inr]; omega, rfl⟩

theorem sizeValid_any (n : Int) (w : World) : Calls Tryd.prog 15 #[.int .i64 n] w fun e w' => e = .returned (.bool (inr n 2 4)) ∧ w = w' := by
  by_cases h1 : 2 ≤ n
  · go_enter Tryd.func15, Tryd.ntmps15
    go_wp2
    go_ret
    exact ⟨by simp [inr, h1], rfl⟩
  · go_enter Tryd.func15, Tryd.ntmps15
    go_wp2
    go_ret
    exact ⟨by simp [inr]; omega, rfl⟩

def okTo (xs : List Int) (size : Int) (k : Nat) : Prop := ∀ j, j < k → inr (nth xs j) 0 size = true
theorem okTo_zero {xs : List Int} {size : Int} : okTo xs size 0 := fun j hj => by omega
theorem okTo_succ {xs : List Int} {size : Int} {k : Nat} (h : okTo xs size k) (hv : inr (nth xs k) 0 size = true) : okTo xs size (k + 1) := fun j hj => by
  by_cases e : j = k
  · subst e; exact hv
  · exact h j (by omega)
def gv (xs : List Int) (size : Int) : Bool := inr size 2 4 && ((xs.length : Int) == size * size) && xs.all (fun x => inr x 0 size)

theorem okTo_all {xs : List Int} {size : Int} {n : Nat} (h : okTo xs size n) (hn : xs.length = n) : xs.all (fun x => inr x 0 size) = true := by
  subst hn
  rw [List.all_eq_true]
  intro x hx
  obtain ⟨j, hj, rfl⟩ := List.getElem_of_mem hx
  have := h j hj
  simpa [nth, List.getD_eq_getElem?_getD, hj] using this
theorem not_all {xs : List Int} {size : Int} {n k : Nat} (hn : xs.length = n) (hk : k < n) (h : inr (nth xs k) 0 size = false) : gv xs size = false := by
  subst hn
  have : xs.all (fun x => inr x 0 size) = false := by
    rw [List.all_eq_false]
    exact ⟨xs[k], List.getElem_mem hk, by simpa [nth, List.getD_eq_getElem?_getD, hk] using h⟩
  simp only [gv, this, Bool.and_false]

theorem sq_bd {size : Int} (h2 : 2 ≤ size) (h4 : size ≤ 4) : 4 ≤ size * size ∧ size * size ≤ 16 := by
  have : size = 2 ∨ size = 3 ∨ size = 4 := by omega
  rcases this with rfl | rfl | rfl <;> omega
theorem sq_wrap {size : Int} (h2 : 2 ≤ size) (h4 : size ≤ 4) : wrap64 (size * size) = size * size :=
  IntWalk.wrap64_in _ ⟨by have := sq_bd h2 h4; omega, by have := sq_bd h2 h4; omega⟩

theorem gv_nth {xs : List Int} {size : Int} (h : gv xs size = true) {k : Nat} (hk : k < xs.length) : 0 ≤ nth xs k ∧ nth xs k ≤ size := by
  simp only [gv, Bool.and_eq_true, List.all_eq_true] at h
  have := inr_t (h.2 xs[k] (List.getElem_mem hk))
  simpa [nth, List.getD_eq_getElem?_getD, hk] using this
theorem gv_size {xs : List Int} {size : Int} (h : gv xs size = true) : 2 ≤ size ∧ size ≤ 4 := by
  simp only [gv, Bool.and_eq_true] at h
  exact inr_t h.1.1
theorem gv_len {xs : List Int} {size : Int} (h : gv xs size = true) : (xs.length : Int) = size * size := by
  simp only [gv, Bool.and_eq_true, beq_iff_eq] at h
  exact h.1.2

/-- how many of the first k are not 0. -/
def cnz (xs : List Int) : Nat → Nat
  | 0 => 0
  | k + 1 => cnz xs k + if nth xs k = 0 then 0 else 1
theorem cnz_le (xs : List Int) (k : Nat) : cnz xs k ≤ k := by
  induction k with
  | zero => simp [cnz]
  | succ k ih => simp only [cnz]; split <;> omega
theorem cnz_z {xs : List Int} {k : Nat} (h : nth xs k = 0) : cnz xs (k + 1) = cnz xs k := by simp [cnz, h]
theorem cnz_nz {xs : List Int} {k : Nat} (h : nth xs k ≠ 0) : cnz xs (k + 1) = cnz xs k + 1 := by simp [cnz, h]
def gf (xs : List Int) (size : Int) : Int := if gv xs size = true then (cnz xs xs.length : Int) else -1

end Go.Proofs.YtmnacejmkjhpnaaDoor
