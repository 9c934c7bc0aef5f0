import Derived.Test.YtgeedgljabdllaaPushAll
set_option maxRecDepth 8000
namespace Go.Proofs.Ytgeedgljabdllaa
open Go.ChangeShapes Go.WideShapes Go.ChangeAt Go.RowKit

/-- 'append([]int{}, t...)', t whatever reads. -/
theorem push_new {w : World} {ops : Array Oper} {rest : List Oper} {o : Oper} {a : Act} {Q : Exit → Act → World → Prop} (hgd : o.guard = none) (s x : Operand)
    (ho : o.op = .call { callee := .builtin .append, args := #[s, x], argTypes := #[28, 28] })
    (lo : Nat) (A : Option Addr) (A2 : Option Addr) (m c2 B : Nat) (ys : List Int) (hs : a.eval s = .slice A 0 0) (hx : a.eval x = .slice A2 m c2) (hown : Ow w lo A 0 0 []) (hr : Rd w B A2 m ys)
    (hm : m ≤ 1099511627776) (hlo : lo ≤ w.heap.size)
    (h : ∀ A' c' w', Ow w' lo A' m c' ys → w.grownBy w' (Value.slice A 0 0).ownBlock → wpList Try.prog ops Q rest (a.put o.dst (.slice A' m c')) w') :
    wpList Try.prog ops Q (o :: rest) a w := by
  refine wpList_plain hgd fun K hK => ?_
  obtain ⟨A', c', w', hrun, h1, h2, h3⟩ := run_push_all o.type lo A 0 0 [] A2 m c2 B ys hown hr (.inr rfl) (by omega) hm hlo
  rw [Nat.zero_add] at hrun h1
  rw [List.nil_append] at h1
  unfold Oper.wp
  simp [execOp, ho, resolve, invoke, builtin, hs, hx, hrun, Result.andThen]
  exact hK _ _ (h A' c' w' h1 h2)
end Go.Proofs.Ytgeedgljabdllaa
