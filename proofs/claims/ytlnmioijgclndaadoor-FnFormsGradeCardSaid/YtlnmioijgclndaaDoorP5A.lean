import Derived.Test.YtlnmioijgclndaaDoorP5R
set_option maxRecDepth 8000
namespace Go.Proofs.YtlnmioijgclndaaDoor
open Go.ChangeShapes Go.WideShapes Go.ChangeAt Go.RowKit

/-- the first solutions, at most so many. -/
def allS (s : Int) (most n : Nat) (gi : List Int) (rs : List RuleM) : List (List Int) := if fpB s gi rs gi = true then s5 (fitB s gi rs) s.toNat most n gi 0 [] else []
theorem allS_len (s : Int) (most n : Nat) (gi : List Int) (rs : List RuleM) (h : 0 < most) : (allS s most n gi rs).length ≤ most := by
  unfold allS
  split
  · exact s5_len _ _ _ _ _ _ _ (by simpa using h)
  · exact Nat.zero_le _
/-- what a valid puzzle's own grid is. -/
theorem pv_grid {s : Int} {gi : List Int} {rs : List RuleM} {ng : Nat} (h : pvB s gi rs = true) (hl : gi.length = ng) : ∃ t : Nat, s = t ∧ t ∈ [2, 3, 4] ∧ (ng : Int) = (t : Int) * t ∧ ng ≤ 16 ∧ okAll gi t ng := by
  obtain ⟨hgi, _, _⟩ := pv_gv h
  obtain ⟨s2, s4⟩ := gv_size hgi
  obtain ⟨t, rfl⟩ := Int.eq_ofNat_of_zero_le (by omega : 0 ≤ s)
  have hs : t ∈ [2, 3, 4] := by
    have : t = 2 ∨ t = 3 ∨ t = 4 := by omega
    simpa using this
  have e1 := gv_len hgi
  rw [hl] at e1
  refine ⟨t, rfl, hs, e1, by have := (sq_bd s2 s4).2; omega, fun i hi => gv_nth hgi (by rw [hl]; exact hi)⟩
end Go.Proofs.YtlnmioijgclndaaDoor
