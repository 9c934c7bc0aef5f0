/-
  DERIVED. GIVEN WITH THE SEED: THE CARDS: each row of YtgejahkdiciplaaDoorRows.lean that lists a variable, with what it lists TIED to the program's text (the seventh form; the later family's looks); each row that meets fmt, with fmt's text TOLD by the authors' own Lean function (tested against real Go, not proved from fmt's source: count such statements apart). THE CARD IS WHAT COUNTS. Prove the row's statement (the work); the ties are given (YtgejahkdiciplaaDoorTie.lean); close each card by the builder's one call (the guide's Derived/Test/ToyasCard.lean, 'card_holds'). Laid BY PROGRAM, IN A SANDBOX (cutbox-door.mjs). By AI agents, Wed Nov 11 2026. No macro, syntax, notation, axiom, sorry.
-/
import Derived.Test.YtgejahkdiciplaaDoorRows
import GoSem.ClaimSeven
namespace Go.Proofs.YtgejahkdiciplaaDoor
namespace Rows

/-- THE TIED CARD OF 'laws.FnMasksGrid'. -/
def fnMasksGridCard : Claim7 := { stood := { row := fnMasksGridRow, standIns := [], harness := (true, "27503c2372ea6e242964530adaa6ff1e3cf17201d99cede25dc754b76378c88b"), looks := false }, kinds := [], alts := [], laidByText := true, laidKinds := [.data, .data], laidTests := true, laidLooks := .later }
def FnMasksGridCardSaid : Prop := Claim7.holds Tryd.pinned (.plain (OpenSpec.ofChange fnMasksGridSpec)) fnMasksGridCard

/-- THE TIED CARD OF 'laws.FnStartMasks'. -/
def fnStartMasksCard : Claim7 := { stood := { row := fnStartMasksRow, standIns := [], harness := (true, "27503c2372ea6e242964530adaa6ff1e3cf17201d99cede25dc754b76378c88b"), looks := false }, kinds := [], alts := [], laidByText := true, laidKinds := [.data], laidTests := true, laidLooks := .later }
def FnStartMasksCardSaid : Prop := Claim7.holds Tryd.pinned (.plain (OpenSpec.ofChange fnStartMasksSpec)) fnStartMasksCard

/-- THE TIED CARD OF 'laws.FnNarrowSingles'. -/
def fnNarrowSinglesCard : Claim7 := { stood := { row := fnNarrowSinglesRow, standIns := [], harness := (true, "27503c2372ea6e242964530adaa6ff1e3cf17201d99cede25dc754b76378c88b"), looks := false }, kinds := [], alts := [], laidByText := true, laidKinds := [.data, .data], laidTests := true, laidLooks := .later }
def FnNarrowSinglesCardSaid : Prop := Claim7.holds Tryd.pinned (.plain (OpenSpec.ofChange fnNarrowSinglesSpec)) fnNarrowSinglesCard

/-- THE TIED CARD OF 'laws.FnMasksCount'. -/
def fnMasksCountCard : Claim7 := { stood := { row := fnMasksCountRow, standIns := [], harness := (true, "27503c2372ea6e242964530adaa6ff1e3cf17201d99cede25dc754b76378c88b"), looks := false }, kinds := [], alts := [], laidByText := true, laidKinds := [.data, .data], laidTests := true, laidLooks := .later }
def FnMasksCountCardSaid : Prop := Claim7.holds Tryd.pinned (.plain (OpenSpec.ofChange fnMasksCountSpec)) fnMasksCountCard

/-- THE TIED CARD OF 'laws.FnNarrowCandidates'. -/
def fnNarrowCandidatesCard : Claim7 := { stood := { row := fnNarrowCandidatesRow, standIns := [], harness := (true, "27503c2372ea6e242964530adaa6ff1e3cf17201d99cede25dc754b76378c88b"), looks := false }, kinds := [], alts := [], laidByText := true, laidKinds := [.data, .data], laidTests := true, laidLooks := .later }
def FnNarrowCandidatesCardSaid : Prop := Claim7.holds Tryd.pinned (.plain (OpenSpec.ofChange fnNarrowCandidatesSpec)) fnNarrowCandidatesCard

/-- THE TIED CARD OF 'laws.FnRulesLess'. -/
def fnRulesLessCard : Claim7 := { stood := { row := fnRulesLessRow, standIns := [], harness := (true, "27503c2372ea6e242964530adaa6ff1e3cf17201d99cede25dc754b76378c88b"), looks := false }, kinds := [], alts := [], laidByText := true, laidKinds := [.data], laidTests := true, laidLooks := .later }
def FnRulesLessCardSaid : Prop := Claim7.holds Tryd.pinned (.plain (OpenSpec.ofChange fnRulesLessSpec)) fnRulesLessCard

/-- THE TIED CARD OF 'laws.FnExactSolveFirst'. -/
def fnExactSolveFirstCard : Claim7 := { stood := { row := fnExactSolveFirstRow, standIns := [], harness := (true, "27503c2372ea6e242964530adaa6ff1e3cf17201d99cede25dc754b76378c88b"), looks := false }, kinds := [], alts := [], laidByText := true, laidKinds := [.data], laidTests := true, laidLooks := .later }
def FnExactSolveFirstCardSaid : Prop := Claim7.holds Tryd.pinned (.plain (OpenSpec.ofChange fnExactSolveFirstSpec)) fnExactSolveFirstCard

/-- THE TIED CARD OF 'laws.FnExactCountSolutions'. -/
def fnExactCountSolutionsCard : Claim7 := { stood := { row := fnExactCountSolutionsRow, standIns := [], harness := (true, "27503c2372ea6e242964530adaa6ff1e3cf17201d99cede25dc754b76378c88b"), looks := false }, kinds := [], alts := [], laidByText := true, laidKinds := [.data], laidTests := true, laidLooks := .later }
def FnExactCountSolutionsCardSaid : Prop := Claim7.holds Tryd.pinned (.plain (OpenSpec.ofChange fnExactCountSolutionsSpec)) fnExactCountSolutionsCard

/-- THE TIED CARD OF 'laws.FnExactNarrowSingles'. -/
def fnExactNarrowSinglesCard : Claim7 := { stood := { row := fnExactNarrowSinglesRow, standIns := [], harness := (true, "27503c2372ea6e242964530adaa6ff1e3cf17201d99cede25dc754b76378c88b"), looks := false }, kinds := [], alts := [], laidByText := true, laidKinds := [.data, .data], laidTests := true, laidLooks := .later }
def FnExactNarrowSinglesCardSaid : Prop := Claim7.holds Tryd.pinned (.plain (OpenSpec.ofChange fnExactNarrowSinglesSpec)) fnExactNarrowSinglesCard

/-- THE SECOND FORM's CARD OF 'laws.FnMasksGrid'. -/
def fnMasksGridUptoCard : Claim7 := { stood := { row := fnMasksGridUptoRow, standIns := [], harness := (true, "27503c2372ea6e242964530adaa6ff1e3cf17201d99cede25dc754b76378c88b"), looks := false }, kinds := [], alts := [], laidByText := true, laidKinds := [.data, .data], laidTests := true, laidLooks := .later }
def FnMasksGridUptoCardSaid : Prop := Claim7.holds Tryd.pinned (.plain (OpenSpec.upto fnMasksGridSpec)) fnMasksGridUptoCard

/-- THE SECOND FORM's CARD OF 'laws.FnStartMasks'. -/
def fnStartMasksUptoCard : Claim7 := { stood := { row := fnStartMasksUptoRow, standIns := [], harness := (true, "27503c2372ea6e242964530adaa6ff1e3cf17201d99cede25dc754b76378c88b"), looks := false }, kinds := [], alts := [], laidByText := true, laidKinds := [.data], laidTests := true, laidLooks := .later }
def FnStartMasksUptoCardSaid : Prop := Claim7.holds Tryd.pinned (.plain (OpenSpec.upto fnStartMasksSpec)) fnStartMasksUptoCard

/-- THE SECOND FORM's CARD OF 'laws.FnNarrowSingles'. -/
def fnNarrowSinglesUptoCard : Claim7 := { stood := { row := fnNarrowSinglesUptoRow, standIns := [], harness := (true, "27503c2372ea6e242964530adaa6ff1e3cf17201d99cede25dc754b76378c88b"), looks := false }, kinds := [], alts := [], laidByText := true, laidKinds := [.data, .data], laidTests := true, laidLooks := .later }
def FnNarrowSinglesUptoCardSaid : Prop := Claim7.holds Tryd.pinned (.plain (OpenSpec.upto fnNarrowSinglesSpec)) fnNarrowSinglesUptoCard

/-- THE SECOND FORM's CARD OF 'laws.FnMasksCount'. -/
def fnMasksCountUptoCard : Claim7 := { stood := { row := fnMasksCountUptoRow, standIns := [], harness := (true, "27503c2372ea6e242964530adaa6ff1e3cf17201d99cede25dc754b76378c88b"), looks := false }, kinds := [], alts := [], laidByText := true, laidKinds := [.data, .data], laidTests := true, laidLooks := .later }
def FnMasksCountUptoCardSaid : Prop := Claim7.holds Tryd.pinned (.plain (OpenSpec.upto fnMasksCountSpec)) fnMasksCountUptoCard

/-- THE SECOND FORM's CARD OF 'laws.FnNarrowCandidates'. -/
def fnNarrowCandidatesUptoCard : Claim7 := { stood := { row := fnNarrowCandidatesUptoRow, standIns := [], harness := (true, "27503c2372ea6e242964530adaa6ff1e3cf17201d99cede25dc754b76378c88b"), looks := false }, kinds := [], alts := [], laidByText := true, laidKinds := [.data, .data], laidTests := true, laidLooks := .later }
def FnNarrowCandidatesUptoCardSaid : Prop := Claim7.holds Tryd.pinned (.plain (OpenSpec.upto fnNarrowCandidatesSpec)) fnNarrowCandidatesUptoCard

/-- THE SECOND FORM's CARD OF 'laws.FnRulesLess'. -/
def fnRulesLessUptoCard : Claim7 := { stood := { row := fnRulesLessUptoRow, standIns := [], harness := (true, "27503c2372ea6e242964530adaa6ff1e3cf17201d99cede25dc754b76378c88b"), looks := false }, kinds := [], alts := [], laidByText := true, laidKinds := [.data], laidTests := true, laidLooks := .later }
def FnRulesLessUptoCardSaid : Prop := Claim7.holds Tryd.pinned (.plain (OpenSpec.upto fnRulesLessSpec)) fnRulesLessUptoCard

/-- THE SECOND FORM's CARD OF 'laws.FnExactSolveFirst'. -/
def fnExactSolveFirstUptoCard : Claim7 := { stood := { row := fnExactSolveFirstUptoRow, standIns := [], harness := (true, "27503c2372ea6e242964530adaa6ff1e3cf17201d99cede25dc754b76378c88b"), looks := false }, kinds := [], alts := [], laidByText := true, laidKinds := [.data], laidTests := true, laidLooks := .later }
def FnExactSolveFirstUptoCardSaid : Prop := Claim7.holds Tryd.pinned (.plain (OpenSpec.upto fnExactSolveFirstSpec)) fnExactSolveFirstUptoCard

/-- THE SECOND FORM's CARD OF 'laws.FnExactCountSolutions'. -/
def fnExactCountSolutionsUptoCard : Claim7 := { stood := { row := fnExactCountSolutionsUptoRow, standIns := [], harness := (true, "27503c2372ea6e242964530adaa6ff1e3cf17201d99cede25dc754b76378c88b"), looks := false }, kinds := [], alts := [], laidByText := true, laidKinds := [.data], laidTests := true, laidLooks := .later }
def FnExactCountSolutionsUptoCardSaid : Prop := Claim7.holds Tryd.pinned (.plain (OpenSpec.upto fnExactCountSolutionsSpec)) fnExactCountSolutionsUptoCard

/-- THE SECOND FORM's CARD OF 'laws.FnExactNarrowSingles'. -/
def fnExactNarrowSinglesUptoCard : Claim7 := { stood := { row := fnExactNarrowSinglesUptoRow, standIns := [], harness := (true, "27503c2372ea6e242964530adaa6ff1e3cf17201d99cede25dc754b76378c88b"), looks := false }, kinds := [], alts := [], laidByText := true, laidKinds := [.data, .data], laidTests := true, laidLooks := .later }
def FnExactNarrowSinglesUptoCardSaid : Prop := Claim7.holds Tryd.pinned (.plain (OpenSpec.upto fnExactNarrowSinglesSpec)) fnExactNarrowSinglesUptoCard
end Rows
end Go.Proofs.YtgejahkdiciplaaDoor
