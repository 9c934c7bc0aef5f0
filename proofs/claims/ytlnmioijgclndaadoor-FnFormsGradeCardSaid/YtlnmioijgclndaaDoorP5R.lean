import Derived.Test.YtlnmioijgclndaaDoorP5Q
import Derived.Deep.RegionLaw
import Derived.Test.YtlnmioijgclndaaDoorSearch
set_option maxRecDepth 8000
namespace Go.Proofs.YtlnmioijgclndaaDoor
open Go.ChangeShapes Go.WideShapes Go.ChangeAt Go.RowKit

theorem rows_push {w W0 w3 w4 : World} {P lo n : Nat} {v : Value} {Ls : List (List Int)} {vs : List Value} {A1 : Option Addr} {c1 g' cap : Nat} {g : List Int} {o : Obj} (hb0 : Below w.heap.size w W0) (ho : Out_ w P v) (hown : w.ownsRow lo 23 1 v Ls.length vs)
    (hin : ∀ i, i < Ls.length → ∃ A' c', vs[i]? = some (.slice A' n c') ∧ Ow w lo A' n c' (Ls.getD i []) ∧ ∀ g, (Value.slice A' n c').ownBlock = some g → v.ownBlock ≠ some g ∧ g ≠ P) (hvP : v.ownBlock ≠ some P) (hlow : lo ≤ w.heap.size)
    (hbA : Below W0.heap.size W0 w3) (ho3 : Ow w3 W0.heap.size A1 n c1 g) (h4 : w4.ownsRow lo 23 1 (.slice (some ⟨g', 0, none⟩) (Ls.length + 1) cap) (Ls.length + 1) (vs ++ [.slice A1 n c1])) (hg4 : (w3.alloc o).grownBy w4 v.ownBlock) (hl4 : v.ownBlock = some g' ∨ g' = (w3.alloc o).heap.size) :
    Out_ (w4.setCell ⟨P, 0, none⟩ (.slice (some ⟨g', 0, none⟩) (Ls.length + 1) cap)) P (.slice (some ⟨g', 0, none⟩) (Ls.length + 1) cap) ∧ Rows_ (w4.setCell ⟨P, 0, none⟩ (.slice (some ⟨g', 0, none⟩) (Ls.length + 1) cap)) lo P (.slice (some ⟨g', 0, none⟩) (Ls.length + 1) cap) (Ls ++ [g]) n ∧ Chg5 w (w4.setCell ⟨P, 0, none⟩ (.slice (some ⟨g', 0, none⟩) (Ls.length + 1) cap)) P v (.slice (some ⟨g', 0, none⟩) (Ls.length + 1) cap) := by
  have hB3 : Below w.heap.size w w3 := hb0.trans (hbA.mono hb0.size)
  have hB4 : Below w.heap.size w (w3.alloc o) := hB3.alloc hB3.size o
  have hs0 := hb0.size
  have hs3 := hbA.size
  have hP := ho.lt
  have ho4 : Out_ w4 P v := (hg4.block P (by rw [World.size_alloc]; omega) (fun e => hvP e.symm)).trans ((hB4.block P hP).trans ho)
  have hg5 : w4.grownBy (w4.setCell ⟨P, 0, none⟩ (.slice (some ⟨g', 0, none⟩) (Ls.length + 1) cap)) (some P) := grown_set
  have hg'P : g' ≠ P := by
    rcases hl4 with h | h
    · exact fun e => hvP (by rw [h, e])
    · rw [World.size_alloc] at h; omega
  have hg'lo : lo ≤ g' ∧ g' < w4.heap.size := World.ownsRow.lt h4 g' (by simp [Value.ownBlock])
  refine ⟨?_, ⟨some ⟨g', 0, none⟩, cap, vs ++ [.slice A1 n c1], by rw [List.length_append]; rfl, ?_, by simp only [Value.ownBlock]; intro e; injection e with e; exact hg'P e, fun i hi => ?_⟩, ?_⟩
  · unfold Out_
    rw [heap_setCell_same w4 P 0 _ _ _ ho4]
    rfl
  · rw [List.length_append]
    exact World.ownsRow.kept h4 hg5 (by rw [show (Value.slice (some ⟨g', 0, none⟩) (Ls.length + 1) cap).ownBlock = some g' by simp [Value.ownBlock]]; exact .inr (fun e => by injection e with e; omega))
  · rw [List.length_append, List.length_singleton] at hi
    have hvl : vs.length = Ls.length := by have := hown.1; simpa using this
    by_cases hlt : i < Ls.length
    · obtain ⟨A', c', e1, e2, e3⟩ := hin i hlt
      refine ⟨A', c', by rw [List.getElem?_append_left (by omega)]; exact e1, ?_, fun b hb => ?_⟩
      · rw [show (Ls ++ [g]).getD i [] = Ls.getD i [] by simp [List.getD_eq_getElem?_getD, List.getElem?_append_left hlt]]
        exact ((e2.below hB4).far hg4 (fun b hb => (e3 b hb).1)).far hg5 (fun b hb e => by injection e with e; exact (e3 b hb).2 e.symm)
      · have h1 := e2.own_hi b hb
        rw [show (Value.slice (some ⟨g', 0, none⟩) (Ls.length + 1) cap).ownBlock = some g' by simp [Value.ownBlock]]
        refine ⟨fun e => ?_, (e3 b hb).2⟩
        injection e with e
        subst e
        rcases hl4 with h | h
        · exact (e3 g' hb).1 h
        · rw [World.size_alloc] at h; omega
    · obtain rfl : i = Ls.length := by omega
      refine ⟨A1, c1, by rw [← hvl, List.getElem?_append_right (Nat.le_refl _)]; simp, ?_, fun b hb => ?_⟩
      · rw [show (Ls ++ [g]).getD Ls.length [] = g by simp [List.getD_eq_getElem?_getD]]
        have e4 : Ow (w3.alloc o) W0.heap.size A1 n c1 g := World.ownsRow.alloc ho3 o
        exact ((e4.far hg4 (fun b hb e => by have h1 := ho3.own_lo b hb; have h2 := (World.ownsRow.lt hown b e).2; omega)).far hg5 (fun b hb e => by have := ho3.own_lo b hb; injection e with e; omega)).mono (by omega)
      · have h1 := ho3.own_hi b hb
        have h2 := ho3.own_lo b hb
        rw [show (Value.slice (some ⟨g', 0, none⟩) (Ls.length + 1) cap).ownBlock = some g' by simp [Value.ownBlock]]
        refine ⟨fun e => ?_, by omega⟩
        injection e with e
        subst e
        rcases hl4 with h | h
        · have := (World.ownsRow.lt hown g' h).2; omega
        · rw [World.size_alloc] at h; omega
  · refine ⟨?_, ?_, ?_, ?_, fun k hk hkP hkv => ?_, fun b hb => ?_⟩
    · exact hg5.os.trans (hg4.os.trans hB4.os)
    · exact hg5.tape.trans (hg4.tape.trans hB4.tape)
    · exact hg5.output.trans (hg4.output.trans hB4.output)
    · exact Nat.le_trans hB4.size (Nat.le_trans hg4.size hg5.size)
    · exact (hg5.block k (Nat.lt_of_lt_of_le hk (Nat.le_trans hB4.size hg4.size)) (fun e => hkP (by injection e))).trans ((hg4.block k (Nat.lt_of_lt_of_le hk hB4.size) (fun e => hkv e.symm)).trans (hB4.block k hk))
    · rw [show (Value.slice (some ⟨g', 0, none⟩) (Ls.length + 1) cap).ownBlock = some g' by simp [Value.ownBlock]] at hb
      injection hb with hb
      subst hb
      rcases hl4 with h | h
      · exact .inl h
      · exact .inr (by rw [World.size_alloc] at h; omega)
theorem Rows_.below {w w' : World} {lo P : Nat} {v : Value} {Ls : List (List Int)} {n : Nat} (h : Rows_ w lo P v Ls n) (hb : Below w.heap.size w w') : Rows_ w' lo P v Ls n := by
  obtain ⟨A, c, vs, e, hown, hvP, hin⟩ := h
  refine ⟨A, c, vs, e, World.ownsRow.kept hown (row := none) ⟨hb.os, hb.tape, hb.output, hb.size, fun k hk _ => hb.block k hk⟩ (by
    cases e : v.ownBlock
    · exact .inl rfl
    · exact .inr (by simp)), hvP, fun i hi => ?_⟩
  obtain ⟨A', c', e1, e2, e3⟩ := hin i hi
  exact ⟨A', c', e1, e2.below hb, e3⟩
theorem Rows_.own {w : World} {lo P : Nat} {v : Value} {Ls : List (List Int)} {n : Nat} (h : Rows_ w lo P v Ls n) : ∀ g, v.ownBlock = some g → lo ≤ g ∧ g < w.heap.size := by
  obtain ⟨A, c, vs, rfl, hown, hvP, hin⟩ := h
  exact World.ownsRow.lt hown
theorem Chg5.below {w w' : World} {P lo B : Nat} {v v' : Value} (h : Chg5 w w' P v v') (hv : ∀ g, v.ownBlock = some g → lo ≤ g) (hP : B ≤ P) (hlo : B ≤ lo) (hB : B ≤ w.heap.size) : Below B w w' :=
  ⟨h.1, h.2.1, h.2.2.1, h.2.2.2.1, fun k hk => h.2.2.2.2.1 k (Nat.lt_of_lt_of_le hk hB) (by omega) (fun e => by have := hv k e; omega)⟩
theorem Rd.rd' {w w' : World} {P : Nat} {v v' : Value} {B : Nat} {A : Option Addr} {n : Nat} {xs : List Int} (h : Rd w B A n xs) (hc : Chg5 w w' P v v') (hB : B ≤ w.heap.size) (hne : ∀ b off, A = some ⟨b, off, none⟩ → b ≠ P ∧ v.ownBlock ≠ some b) : Rd w' B A n xs := Chg5.rd h hc hB hne
theorem s5_len (fit : List Int → Bool) (s most : Nat) : ∀ f g p Ls, Ls.length < most → (s5 fit s most f g p Ls).length ≤ most := by
  intro f
  induction f with
  | zero => intro g p Ls h; simp only [s5, List.length_append, List.length_singleton]; omega
  | succ f ih =>
    intro g p Ls h
    have key : ∀ r v (Ls : List (List Int)), Ls.length ≤ most → (tryV fit (fun g' L' => s5 fit s most f g' (p + 1) L') g p most r v Ls).length ≤ most := by
      intro r
      induction r with
      | zero => intro v Ls h; exact h
      | succ r ihr =>
        intro v Ls h
        simp only [tryV]
        split
        · next h2 =>
          refine ihr _ _ ?_
          split
          · exact ih _ _ _ h2
          · exact h
        · exact h
    simp only [s5]
    split
    · exact ih _ _ _ h
    · exact key _ _ _ (Nat.le_of_lt h)
def Post5 (w : World) (P lo n : Nat) (v : Value) (Ls : List (List Int)) (e : Ending) (w' : World) : Prop := e = .returned (.tuple #[]) ∧ ∃ v', Out_ w' P v' ∧ Rows_ w' lo P v' Ls n ∧ Chg5 w w' P v v'
end Go.Proofs.YtlnmioijgclndaaDoor
