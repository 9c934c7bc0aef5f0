import Derived.Test.YtgeedgljabdllaaBase
import Derived.Deep.Upon
import Derived.Deep.RegionHeld3
namespace Go.Proofs.Ytgeedgljabdllaa
open Go.ChangeShapes Go.WideShapes Go.ChangeAt Go.RowKit

theorem Rd.news {w : World} {B b off m : Nat} {ys : List Int} (hr : Rd w B (some ⟨b, off, none⟩) m ys) : ∀ j u, (vals ys)[j]? = some u → w.cell? ((⟨b, off, none⟩ : Addr).add j) = some u := by
  intro j u hj
  have hjl : j < ys.length := by
    have := (List.getElem?_eq_some_iff.1 hj).1
    rwa [vals_length] at this
  rw [vals_get hjl] at hj
  injection hj with hj
  subst hj
  have hjm : j < m := by rw [← hr.1]; exact hjl
  obtain ⟨b', off', he, _, hc⟩ := hr.at_ hjm
  cases he
  rw [← hc]
  unfold Addr.add
  by_cases h0 : j = 0
  · subst h0; simp
  · simp [h0]
theorem vals_one (ys : List Int) : ∀ u ∈ vals ys, u.oneCell' = true := by
  intro u hu
  simp only [vals, List.mem_map] at hu
  obtain ⟨y, _, rfl⟩ := hu
  rfl
/-- 'append(s, t...)' to a slice of the call's own: t may be empty if s is. -/
theorem run_push_all {w : World} (ty : TypeId) (lo : Nat) (A : Option Addr) (n c : Nat) (xs : List Int) (A2 : Option Addr) (m c2 B : Nat) (ys : List Int) (hown : Ow w lo A n c xs) (hr : Rd w B A2 m ys) (hmn : 0 < m ∨ n = 0)
    (hn : n ≤ 1099511627776) (hm : m ≤ 1099511627776) (hlo : lo ≤ w.heap.size) :
    ∃ A' c' w', (Builtin.append_ #[28, 28] ty #[.slice A n c, .slice A2 m c2]).run Try.prog w = .ok (.slice A' (n + m) c') w' ∧ Ow w' lo A' (n + m) c' (xs ++ ys) ∧ w.grownBy w' (Value.slice A n c).ownBlock ∧ (∀ g, (Value.slice A' (n + m) c').ownBlock = some g → (Value.slice A n c).ownBlock = some g ∨ g = w.heap.size) := by
  obtain ⟨i0, hi, hz0, hz1, hz2⟩ := info_parts int_info
  by_cases h0 : 0 < m
  · obtain ⟨b, off, rfl, _, _⟩ := hr.at_ h0
    obtain ⟨g, cap, w', hrun, h2, h3, h4, h5⟩ := run_append_lies (P := Try.prog) w 28 ty lo 3 i0 (.int .i64 0) 1 8 Try.underlying28 hi hz0 hz1 hz2 rfl (by decide) _ n (vals xs) hown ⟨b, off, none⟩ m c2 (vals ys) (by rw [vals_length, hr.1]; omega) hr.news (vals_one ys) h0 (by simp only [maxLen]; omega) (by omega) hlo _ rfl
    refine ⟨some ⟨g, 0, none⟩, cap, w', hrun, ?_, h3, ?_⟩
    · unfold Ow
      rw [show vals (xs ++ ys) = vals xs ++ vals ys by simp [vals]]
      exact h2
    · intro g' hg'
      have : g' = g := by simp [Value.ownBlock] at hg'; omega
      subst this
      exact h4
  · obtain rfl : m = 0 := by omega
    obtain rfl : n = 0 := by omega
    have hy : ys = [] := List.eq_nil_of_length_eq_zero hr.1
    subst hy
    have hsrc : Go.Src Try.prog i0.size 28 (.slice A2 0 c2) 0 [] w := by
      cases A2 with
      | none => exact Go.Src.ofNil w Try.underlying28 c2
      | some a => exact Go.Src.ofSlice w Try.underlying28 a 0 c2 [] (by simp) (fun j u hj => by simp at hj) (fun u hu => by simp at hu)
    refine ⟨A, c, w, run_append_nothing w 28 28 ty 3 i0 Try.underlying28 hi A 0 c (Nat.zero_le _) _ hsrc, ?_, World.grownBy.refl _ _, fun g hg => .inl hg⟩
    rw [List.append_nil]
    exact hown
/-- at a step of a region that draws its order. -/
theorem step_push_all {w : World} {ops : Array Oper} {o : Oper} {a : Act} {K : Act → World → Prop} {Q : Exit → Act → World → Prop} {E : Prop} (hgd : o.guard = none) (s x : Operand)
    (ho : o.op = .call { callee := .builtin .append, args := #[s, x], argTypes := #[28, 28] })
    (lo : Nat) (A : Option Addr) (n c : Nat) (xs : List Int) (A2 : Option Addr) (m c2 B : Nat) (ys : List Int) (hs : a.eval s = .slice A n c) (hx : a.eval x = .slice A2 m c2) (hown : Ow w lo A n c xs) (hr : Rd w B A2 m ys) (hmn : 0 < m ∨ n = 0)
    (hn : n ≤ 1099511627776) (hm : m ≤ 1099511627776) (hlo : lo ≤ w.heap.size)
    (h : ∀ A' c' w', Ow w' lo A' (n + m) c' (xs ++ ys) → w.grownBy w' (Value.slice A n c).ownBlock → (∀ g, (Value.slice A' (n + m) c').ownBlock = some g → (Value.slice A n c).ownBlock = some g ∨ g = w.heap.size) → K (a.put o.dst (.slice A' (n + m) c')) w') :
    if Region.wanted o (yielded ops a.tmps) = true then Oper.wp Try.prog o a w K Q else E := by
  obtain ⟨A', c', w', hrun, h1, h2, h3⟩ := run_push_all o.type lo A n c xs A2 m c2 B ys hown hr hmn hn hm hlo
  have hw : Region.wanted o (yielded ops a.tmps) = true := by simp [Region.wanted, hgd]
  rw [if_pos hw]
  unfold Oper.wp execOp
  simp only [ho, resolve, invoke, builtin, Sem.run_bind, Sem.run_pure, Result.andThen_ok, List.map_toArray, List.map_cons, List.map_nil, hs, hx, hrun]
  exact h A' c' w' h1 h2 h3
/-- 'append([]int{}, t...)' at such a step. -/
theorem step_push_new {w : World} {ops : Array Oper} {o : Oper} {a : Act} {K : Act → World → Prop} {Q : Exit → Act → World → Prop} {E : Prop} (hgd : o.guard = none) (s x : Operand)
    (ho : o.op = .call { callee := .builtin .append, args := #[s, x], argTypes := #[28, 28] })
    (lo : Nat) (A : Option Addr) (A2 : Option Addr) (m c2 B : Nat) (ys : List Int) (hs : a.eval s = .slice A 0 0) (hx : a.eval x = .slice A2 m c2) (hown : Ow w lo A 0 0 []) (hr : Rd w B A2 m ys)
    (hm : m ≤ 1099511627776) (hlo : lo ≤ w.heap.size)
    (h : ∀ A' c' w', Ow w' lo A' m c' ys → w.grownBy w' (Value.slice A 0 0).ownBlock → (∀ g, (Value.slice A' m c').ownBlock = some g → (Value.slice A 0 0).ownBlock = some g ∨ g = w.heap.size) → K (a.put o.dst (.slice A' m c')) w') :
    if Region.wanted o (yielded ops a.tmps) = true then Oper.wp Try.prog o a w K Q else E := by
  refine step_push_all hgd s x ho lo A 0 0 [] A2 m c2 B ys hs hx hown hr (.inr rfl) (by omega) hm hlo fun A' c' w' h1 h2 h3 => ?_
  rw [Nat.zero_add] at h1 h3 ⊢
  rw [List.nil_append] at h1
  exact h A' c' w' h1 h2 h3
end Go.Proofs.Ytgeedgljabdllaa
