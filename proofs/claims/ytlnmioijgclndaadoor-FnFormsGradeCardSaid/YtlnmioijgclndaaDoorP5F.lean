import Derived.Test.YtlnmioijgclndaaDoorP5
set_option maxRecDepth 8000
namespace Go.Proofs.YtlnmioijgclndaaDoor
open Go.ChangeShapes Go.WideShapes Go.ChangeAt Go.RowKit

/-- a cell does not gainsay what is given there. -/
def giveOk (gi g : List Int) (i : Nat) : Bool := !(decide (0 < nth gi i) && decide (0 < nth g i) && (nth g i != nth gi i))
def rpR (s : Int) (g : List Int) (r : RuleM) : Bool := rpB r.k r.xs r.v g s
/-- whether a grid can still be a solution, as far as single lines and rules tell. -/
def fitB (s : Int) (gi : List Int) (rs : List RuleM) (g : List Int) : Bool := ((List.range g.length).all fun i => giveOk gi g i) && ((List.range rs.length).all fun i => rpR s g (rat rs i)) && !clash g s
theorem fit_give {s : Int} {gi g : List Int} {rs : List RuleM} {n i : Nat} (hl : g.length = n) (hi : i < n) (h : giveOk gi g i = false) : fitB s gi rs g = false := by
  have : ((List.range g.length).all fun i => giveOk gi g i) = false := by
    cases e : (List.range g.length).all fun i => giveOk gi g i
    · rfl
    · have := List.all_eq_true.1 e i (List.mem_range.2 (by omega))
      rw [h] at this; cases this
  simp only [fitB, this, Bool.false_and]
theorem fit_rule {s : Int} {gi g : List Int} {rs : List RuleM} {n i : Nat} (hl : rs.length = n) (hi : i < n) (h : rpR s g (rat rs i) = false) : fitB s gi rs g = false := by
  unfold fitB
  rw [not_all_rat hl hi h, Bool.and_false, Bool.false_and]
theorem fit_end {s : Int} {gi g : List Int} {rs : List RuleM} {n m : Nat} (hl : g.length = n) (h1 : ∀ i, i < n → giveOk gi g i = true) (hm : rs.length = m) (h2 : allR (rpR s g) rs m) : fitB s gi rs g = !clash g s := by
  have e : ((List.range g.length).all fun i => giveOk gi g i) = true := List.all_eq_true.2 (fun i hi => h1 i (by rw [List.mem_range] at hi; omega))
  unfold fitB
  rw [e, all_rat hm h2, Bool.true_and, Bool.true_and]

end Go.Proofs.YtlnmioijgclndaaDoor
