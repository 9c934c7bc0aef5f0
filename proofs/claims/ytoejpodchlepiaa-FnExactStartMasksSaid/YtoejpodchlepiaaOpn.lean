import Derived.Test.YtoejpodchlepiaaPInD
import Derived.Test.YtoejpodchlepiaaW4E
import Derived.Deep.Slices
import Derived.Deep.Fields
import Derived.Lib.SmallJoins
import Derived.ChangeSame
set_option maxRecDepth 8000
namespace Go.Proofs.Ytoejpodchlepiaa
open Go.ChangeShapes Go.WideShapes Go.ChangeAt Go.RowKit Go.Deep
/-! A slice of rules that came in, as it reads. -/
theorem list_of {P : Nat → RuleM → Prop} : ∀ n, (∀ i, i < n → ∃ r, P i r) → ∃ rs : List RuleM, rs.length = n ∧ ∀ i, i < n → P i (rat rs i) := by
  intro n
  induction n with
  | zero => intro _; exact ⟨[], rfl, fun i hi => absurd hi (by omega)⟩
  | succ n ih =>
    intro h
    obtain ⟨rs, hl, hp⟩ := ih (fun i hi => h i (by omega))
    obtain ⟨r, hr⟩ := h n (by omega)
    refine ⟨rs ++ [r], by simp [hl], fun i hi => ?_⟩
    by_cases e : i < n
    · have : rat (rs ++ [r]) i = rat rs i := by simp [rat, List.getD_eq_getElem?_getD, List.getElem?_append_left (by omega : i < rs.length)]
      rw [this]; exact hp i e
    · obtain rfl : i = n := by omega
      have : rat (rs ++ [r]) i = r := by simp [rat, List.getD_eq_getElem?_getD, ← hl]
      rw [this]; exact hr
theorem add_plain (b off i : Nat) : (⟨b, off, none⟩ : Addr).add i = ⟨b, off + i, none⟩ := by unfold Addr.add; split <;> simp_all
theorem open_rules {H : Type} {enc : TypeId × Value → H} {W : World} {base : Nat} {held : Bool} {fs : Array Field} {fuel : Nat} {v : Value} {x : DataW H × List MemPlace}
    (he : Try.prog.underlying 34 = some (.struct fs)) (hone : oneCellFields Try.prog fs = true) (hC : Try.prog.cellsOf 34 = 3) (hfs : fs.size = 3)
    (t0 : (fs[0]?).map (·.type) = some 3) (t1 : (fs[1]?).map (·.type) = some 23) (t2 : (fs[2]?).map (·.type) = some 3) (h1 : Try.prog.cellsOf 3 = 1)
    (h : DataW.trod enc Try.prog W base (fun _ => true) held fuel 41 [v] = some x) :
    ∃ A len cap rs, v = .slice A len cap ∧ RdRx W W.heap.size A len rs ∧ len ≤ 9223372036854775807 := by
  rcases open_slice Try.underlying41 h with ⟨hcs, _⟩ | ⟨a, len, cap, m, nf, D, Pl, hcs, hb, hl, hm, hmm, _, hi⟩
  · injection hcs with hcs
    exact ⟨none, 0, 0, [], hcs, ⟨rfl, fun hn => absurd hn (by omega)⟩, by omega⟩
  · injection hcs with hcs
    have hlm : len ≤ m := by rw [hmm]; simpa using hl
    have hmax : len ≤ 9223372036854775807 := by simp only [maxLen] at hm; omega
    -- one element
    have one : ∀ i, i < len → ∃ (k : Int) (A' : Option Addr) (l c : Nat) (zs : List Int) (u : Int), W.cell? (a.add (i * 3)) = some (.int .i64 k) ∧ W.cell? (a.add (i * 3 + 1)) = some (.slice A' l c) ∧ W.cell? (a.add (i * 3 + 2)) = some (.int .i64 u) ∧ IsRow .i64 W A' l c zs := fun i hil => by
      obtain ⟨cs', hc, ht⟩ := hi i (by omega)
      rw [hC] at hc
      obtain ⟨ys, n', _, _, hlen, hyl, hf⟩ := DataW.trod_struct he ht
      obtain ⟨_, hcl, hat⟩ := World.cells?_some hc
      match cs', hcl with
      | [c0, c1, c2], _ =>
        obtain ⟨f0, hf0⟩ : ∃ f, fs[0]? = some f := ⟨fs[0], Array.getElem?_eq_getElem (by omega)⟩
        obtain ⟨f1, hf1⟩ : ∃ f, fs[1]? = some f := ⟨fs[1], Array.getElem?_eq_getElem (by omega)⟩
        obtain ⟨f2, hf2⟩ : ∃ f, fs[2]? = some f := ⟨fs[2], Array.getElem?_eq_getElem (by omega)⟩
        obtain ⟨o0, k0⟩ := hone_of hone 0 f0 hf0
        obtain ⟨o1, k1⟩ := hone_of hone 1 f1 hf1
        obtain ⟨o2, k2⟩ := hone_of hone 2 f2 hf2
        have e0 := hf 0 f0 hf0
        have e1 := hf 1 f1 hf1
        have e2 := hf 2 f2 hf2
        rw [o0, k0] at e0
        rw [o1, k1] at e1
        rw [o2, k2] at e2
        rw [hf0] at t0
        rw [hf1] at t1
        rw [hf2] at t2
        have t0' : f0.type = 3 := by simpa using t0
        have t1' : f1.type = 23 := by simpa using t1
        have t2' : f2.type = 3 := by simpa using t2
        rw [t0'] at e0
        rw [t1'] at e1
        rw [t2'] at e2
        have g0 : DataW.trod enc Try.prog W base (fun _ => true) held n' 3 [c0] = some (ys[0]'(by omega)) := by rw [← List.getElem?_eq_getElem]; simpa using e0
        have g1 : DataW.trod enc Try.prog W base (fun _ => true) held n' 23 [c1] = some (ys[1]'(by omega)) := by rw [← List.getElem?_eq_getElem]; simpa using e1
        have g2 : DataW.trod enc Try.prog W base (fun _ => true) held n' 3 [c2] = some (ys[2]'(by omega)) := by rw [← List.getElem?_eq_getElem]; simpa using e2
        obtain ⟨k, ek, _⟩ := DataW.trod_int Try.underlying3 g0
        obtain ⟨u, eu, _⟩ := DataW.trod_int Try.underlying3 g2
        injection ek with ek
        injection eu with eu
        have a0 := hat 0 (by omega)
        have a1 := hat 1 (by omega)
        have a2 := hat 2 (by omega)
        rw [add_add] at a0 a1 a2
        obtain ⟨A', l, c, zs, ez, hz⟩ : ∃ A' l c zs, c1 = .slice A' l c ∧ IsRow .i64 W A' l c zs := by
          rcases open_ints Try.underlying23 Try.underlying3 h1 g1 with ⟨hcs, _⟩ | ⟨x, l, c, zs, hcs, _, hl, hm, hz, _, hcell, hwz⟩
          · injection hcs with hcs
            exact ⟨none, 0, 0, [], hcs, .inl ⟨rfl, rfl, rfl, rfl⟩⟩
          · injection hcs with hcs
            exact ⟨_, _, _, zs, hcs, .inr ⟨_, rfl, hl, hm, by simpa using hz, hcell, hwz⟩⟩
        exact ⟨k, A', l, c, zs, u, by rw [ek] at a0; simpa using a0, by rw [ez] at a1; simpa using a1, by rw [eu] at a2; simpa using a2, hz⟩
    by_cases h0 : len = 0
    · subst h0
      exact ⟨some a, 0, cap, [], hcs, ⟨rfl, fun hn => absurd hn (by omega)⟩, hmax⟩
    · obtain ⟨k, A', l, c, zs, u, q0, q1, q2, q3⟩ := one 0 (by omega)
      obtain ⟨b, off, spot⟩ := a
      have hspot : spot = none := by simpa [Addr.add] using World.cell?_spot q0
      subst hspot
      obtain ⟨rs, hrl, hrs⟩ := list_of (P := fun i r => ∃ A' c', W.cell? ⟨b, off + i * 3, none⟩ = some (.int .i64 r.k) ∧ W.cell? ⟨b, off + i * 3 + 1, none⟩ = some (.slice A' r.xs.length c') ∧ W.cell? ⟨b, off + i * 3 + 2, none⟩ = some (.int .i64 r.v) ∧ Rd W W.heap.size A' r.xs.length r.xs ∧ r.xs.length ≤ 9223372036854775807) len (fun i hil => by
        obtain ⟨k, A', l, c, zs, u, q0, q1, q2, q3⟩ := one i hil
        have hrd := rd_of_row q3
        have hll := hrd.1
        rw [add_plain] at q0 q1 q2
        exact ⟨⟨k, zs.take l, u⟩, A', c, q0, by rw [hll, Nat.add_assoc]; exact q1, by rw [Nat.add_assoc]; exact q2, by rw [hll]; exact hrd, by rw [hll]; exact row_max q3⟩)
      exact ⟨_, _, _, rs, hcs, ⟨hrl, fun _ => ⟨b, off, rfl, cell_lt q0, hrs⟩⟩, hmax⟩
end Go.Proofs.Ytoejpodchlepiaa
