import Derived.Test.YtcjdjcpappfkgaaP5Q
import Derived.Deep.RegionLaw
import Derived.Test.YtcjdjcpappfkgaaSearch
set_option maxRecDepth 8000
namespace Go.Proofs.Ytcjdjcpappfkgaa
open Go.ChangeShapes Go.WideShapes Go.ChangeAt Go.RowKit

theorem Rows_.below {w w' : World} {lo P : Nat} {v : Value} {Ls : List (List Int)} {n : Nat} (h : Rows_ w lo P v Ls n) (hb : Below w.heap.size w w') : Rows_ w' lo P v Ls n := by
  obtain ⟨A, c, vs, e, hown, hvP, hin⟩ := h
  refine ⟨A, c, vs, e, World.ownsRow.kept hown (row := none) ⟨hb.os, hb.tape, hb.output, hb.size, fun k hk _ => hb.block k hk⟩ (by
    cases e : v.ownBlock
    · exact .inl rfl
    · exact .inr (by simp)), hvP, fun i hi => ?_⟩
  obtain ⟨A', c', e1, e2, e3⟩ := hin i hi
  exact ⟨A', c', e1, e2.below hb, e3⟩
theorem Rows_.own {w : World} {lo P : Nat} {v : Value} {Ls : List (List Int)} {n : Nat} (h : Rows_ w lo P v Ls n) : ∀ g, v.ownBlock = some g → lo ≤ g ∧ g < w.heap.size := by
  obtain ⟨A, c, vs, rfl, hown, hvP, hin⟩ := h
  exact World.ownsRow.lt hown
theorem Chg5.below {w w' : World} {P lo B : Nat} {v v' : Value} (h : Chg5 w w' P v v') (hv : ∀ g, v.ownBlock = some g → lo ≤ g) (hP : B ≤ P) (hlo : B ≤ lo) (hB : B ≤ w.heap.size) : Below B w w' :=
  ⟨h.1, h.2.1, h.2.2.1, h.2.2.2.1, fun k hk => h.2.2.2.2.1 k (Nat.lt_of_lt_of_le hk hB) (by omega) (fun e => by have := hv k e; omega)⟩
theorem Rd.rd' {w w' : World} {P : Nat} {v v' : Value} {B : Nat} {A : Option Addr} {n : Nat} {xs : List Int} (h : Rd w B A n xs) (hc : Chg5 w w' P v v') (hB : B ≤ w.heap.size) (hne : ∀ b off, A = some ⟨b, off, none⟩ → b ≠ P ∧ v.ownBlock ≠ some b) : Rd w' B A n xs := Chg5.rd h hc hB hne
theorem s5_len (fit : List Int → Bool) (s most : Nat) : ∀ f g p Ls, Ls.length < most → (s5 fit s most f g p Ls).length ≤ most := by
  intro f
  induction f with
  | zero => intro g p Ls h; simp only [s5, List.length_append, List.length_singleton]; omega
  | succ f ih =>
    intro g p Ls h
    have key : ∀ r v (Ls : List (List Int)), Ls.length ≤ most → (tryV fit (fun g' L' => s5 fit s most f g' (p + 1) L') g p most r v Ls).length ≤ most := by
      intro r
      induction r with
      | zero => intro v Ls h; exact h
      | succ r ihr =>
        intro v Ls h
        simp only [tryV]
        split
        · next h2 =>
          refine ihr _ _ ?_
          split
          · exact ih _ _ _ h2
          · exact h
        · exact h
    simp only [s5]
    split
    · exact ih _ _ _ h
    · exact key _ _ _ (Nat.le_of_lt h)
end Go.Proofs.Ytcjdjcpappfkgaa
