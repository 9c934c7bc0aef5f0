import Derived.Test.YtgeedgljabdllaaDrawG
set_option maxRecDepth 8000
namespace Go.Proofs.Ytgeedgljabdllaa
open Go.ChangeShapes Go.WideShapes Go.ChangeAt Go.RowKit

theorem okAll_set' {xs : List Int} {size v : Int} {n p : Nat} (h : okAll xs size n) (v0 : 0 ≤ v) (v1 : v ≤ size) : okAll (xs.set p v) size n := by
  intro k hk
  by_cases hp : p < xs.length
  · rw [nth_set hp]
    split
    · exact ⟨v0, v1⟩
    · exact h k hk
  · rw [List.set_eq_of_length_le (by omega)]
    exact h k hk
theorem sols_ok {size : Int} (hs : 0 ≤ size) (n : Nat) : ∀ (f : Nat) (xs : List Int) (p : Nat), okAll xs size n → ∀ y, y ∈ sols size f xs p → okAll y size n := by
  intro f
  induction f with
  | zero => intro xs p h y hy; simp [sols] at hy; subst hy; exact h
  | succ f ih =>
    intro xs p h y hy
    refine solsFrom_all (P := fun y => okAll y size n) _ _ (fun u y h1 h2 hy => ?_) y hy
    exact ih _ _ (okAll_set' h (by omega) (by omega)) y hy
theorem okAll_gv {xs : List Int} {size : Int} {n : Nat} (hl : xs.length = n) (hn : (n : Int) = size * size) (h2 : 2 ≤ size) (h4 : size ≤ 4) (h : okAll xs size n) : gv xs size = true := by
  have h1 : inr size 2 4 = true := by simp [inr, h2, h4]
  have h3 : xs.all (fun x => inr x 0 size) = true := okTo_all (n := n) (fun j hj => by have := h j hj; simp [inr, this]) hl
  simp [gv, h1, h3, hl, hn]

theorem Ow.put {w : World} {lo g n c : Nat} {xs : List Int} (h : Ow w lo (some ⟨g, 0, none⟩) n c xs) (k : Nat) (v : Int) : Ow (w.setCell ⟨g, k, none⟩ (.int .i64 v)) lo (some ⟨g, 0, none⟩) n c (xs.set k v) := by
  have := (World.ownsRow.stored h k (.int .i64 v)).1
  rw [vals_set] at this
  exact this

end Go.Proofs.Ytgeedgljabdllaa
