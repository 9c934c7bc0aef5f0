import Derived.Test.YtkeoflnmbcdmfaaDoorPz
import Derived.Deep.AppendLies
set_option maxRecDepth 8000
namespace Go.Proofs.YtkeoflnmbcdmfaaDoor
open Go.ChangeShapes Go.WideShapes Go.ChangeAt Go.RowKit

theorem ints_info : (Tryd.prog.info? 23).map (fun i => (i.zero, i.size, i.bytes)) = some (some (.slice none 0 0), 1, 24) := by kernel_rfl
/-- a slice of slices of the call's own, n elements each; nothing of it lies in block P. -/
def Rows_ (w : World) (lo P : Nat) (v : Value) (Ls : List (List Int)) (n : Nat) : Prop :=
  ∃ A c vs, v = .slice A Ls.length c ∧ w.ownsRow lo 23 1 v Ls.length vs ∧ v.ownBlock ≠ some P ∧ ∀ i, i < Ls.length → ∃ A' c', vs[i]? = some (.slice A' n c') ∧ Ow w lo A' n c' (Ls.getD i []) ∧ ∀ g, (Value.slice A' n c').ownBlock = some g → v.ownBlock ≠ some g ∧ g ≠ P
/-- the variable that holds such a slice, in block P. -/
def Out_ (w : World) (P : Nat) (v : Value) : Prop := w.heap[P]? = some (.cells #[v] 51)
theorem Out_.cell {w : World} {P : Nat} {v : Value} (h : Out_ w P v) : w.cell? ⟨P, 0, none⟩ = some v := cell_of_row _ _ 0 _ _ (0, 0) h
theorem Out_.free {w : World} {P : Nat} {v : Value} (h : Out_ w P v) : w.frozen? ⟨P, 0, none⟩ = false := frozen_of_row w P 0 _ _ h
theorem Out_.lt {w : World} {P : Nat} {v : Value} (h : Out_ w P v) : P < w.heap.size := (Array.getElem?_eq_some_iff.1 h).1
/-- all but the variable's block and the block of what it held is as it was; what it holds lies where it lay, or in a block of its own. -/
def Chg5 (w w' : World) (P : Nat) (v v' : Value) : Prop := w'.os = w.os ∧ w'.tape = w.tape ∧ w'.output = w.output ∧ w.heap.size ≤ w'.heap.size ∧ (∀ k, k < w.heap.size → k ≠ P → v.ownBlock ≠ some k → w'.heap[k]? = w.heap[k]?) ∧ ∀ g, v'.ownBlock = some g → v.ownBlock = some g ∨ w.heap.size ≤ g
theorem Chg5.refl (w : World) (P : Nat) (v : Value) : Chg5 w w P v v := ⟨rfl, rfl, rfl, Nat.le_refl _, fun _ _ _ _ => rfl, fun _ h => .inl h⟩
theorem Chg5.trans {w w1 w2 : World} {P : Nat} {v v1 v2 : Value} (h : Chg5 w w1 P v v1) (h2 : Chg5 w1 w2 P v1 v2) : Chg5 w w2 P v v2 := by
  obtain ⟨a1, a2, a3, a4, a5, a6⟩ := h
  obtain ⟨b1, b2, b3, b4, b5, b6⟩ := h2
  refine ⟨b1.trans a1, b2.trans a2, b3.trans a3, Nat.le_trans a4 b4, fun k hk hP hv => ?_, fun g hg => ?_⟩
  · refine (b5 k (Nat.lt_of_lt_of_le hk a4) hP (fun e => ?_)).trans (a5 k hk hP hv)
    rcases a6 k e with h | h
    · exact hv h
    · omega
  · rcases b6 g hg with h | h
    · exact a6 g h
    · exact .inr (Nat.le_trans a4 h)
theorem Chg5.ofBelow {w w' : World} {P : Nat} {v : Value} (h : Below w.heap.size w w') : Chg5 w w' P v v := ⟨h.os, h.tape, h.output, h.size, fun k hk _ _ => h.block k hk, fun _ h => .inl h⟩
theorem Chg5.cell {w w' : World} {P : Nat} {v v' : Value} (h : Chg5 w w' P v v') {b i : Nat} (hb : b < w.heap.size) (hP : b ≠ P) (hv : v.ownBlock ≠ some b) : w'.cell? ⟨b, i, none⟩ = w.cell? ⟨b, i, none⟩ := World.cell?_of_block (a := ⟨b, i, none⟩) (h.2.2.2.2.1 b hb hP hv)
theorem Chg5.rd {w w' : World} {P : Nat} {v v' : Value} {B : Nat} {A : Option Addr} {n : Nat} {xs : List Int} (h : Rd w B A n xs) (hc : Chg5 w w' P v v') (hB : B ≤ w.heap.size) (hne : ∀ b off, A = some ⟨b, off, none⟩ → b ≠ P ∧ v.ownBlock ≠ some b) : Rd w' B A n xs :=
  ⟨h.1, fun hn => by
    obtain ⟨b, off, e, hlt, hk⟩ := h.2 hn
    exact ⟨b, off, e, hlt, fun k hkn => (hc.cell (by omega) (hne b off e).1 (hne b off e).2).trans (hk k hkn)⟩⟩

/-- the solutions that the search adds: f cells are left, from the cell p on. -/
def tryV (fit : List Int → Bool) (rec : List Int → List (List Int) → List (List Int)) (g : List Int) (p most : Nat) : Nat → Nat → List (List Int) → List (List Int)
  | 0, _, Ls => Ls
  | r + 1, v, Ls => if Ls.length < most then tryV fit rec g p most r (v + 1) (if fit (g.set p (v : Int)) = true then rec (g.set p (v : Int)) Ls else Ls) else Ls
def s5 (fit : List Int → Bool) (s most : Nat) : Nat → List Int → Nat → List (List Int) → List (List Int)
  | 0, g, _, Ls => Ls ++ [g]
  | f + 1, g, p, Ls => if 0 < nth g p then s5 fit s most f g (p + 1) Ls else tryV fit (fun g' L' => s5 fit s most f g' (p + 1) L') g p most s 1 Ls
end Go.Proofs.YtkeoflnmbcdmfaaDoor
