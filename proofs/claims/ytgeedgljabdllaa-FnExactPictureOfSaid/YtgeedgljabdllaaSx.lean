import Derived.Test.YtgeedgljabdllaaPl
set_option maxRecDepth 8000
namespace Go.Proofs.Ytgeedgljabdllaa
open Go.ChangeShapes Go.WideShapes Go.ChangeAt Go.RowKit
/-! sums over lines: more of them. -/
theorem sm_cons (n : Nat) (f : List Bool → Nat) : sm (n + 1) f = sm n (fun L => f (false :: L)) + sm n (fun L => f (true :: L)) := by
  rw [Nat.add_comm n 1, sm_app 1 n]
  rfl
theorem sm_comm (a b : Nat) : ∀ f : List Bool → List Bool → Nat, sm a (fun A => sm b (fun B => f A B)) = sm b (fun B => sm a (fun A => f A B)) := by
  induction a with
  | zero => intro f; rfl
  | succ a ih =>
    intro f
    simp only [sm]
    rw [ih (fun A B => f (A ++ [false]) B), ih (fun A B => f (A ++ [true]) B), ← sm_add]
end Go.Proofs.Ytgeedgljabdllaa
