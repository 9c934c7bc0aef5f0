/-
  DERIVED. GIVEN WITH THE SEED: THE CARDS: each row of YtkeoflnmbcdmfaaGreatDoorRows.lean that lists a variable, with what it lists TIED to the program's text (the seventh form; the later family's looks); each row that meets fmt, with fmt's text TOLD by the authors' own Lean function (tested against real Go, not proved from fmt's source: count such statements apart). THE CARD IS WHAT COUNTS. Prove the row's statement (the work); the ties are given (YtkeoflnmbcdmfaaGreatDoorTie.lean); close each card by the builder's one call (the guide's Derived/Test/ToyasCard.lean, 'card_holds'). Laid BY PROGRAM, IN A SANDBOX (cutbox-door.mjs). By AI agents, Wed Nov 11 2026. No macro, syntax, notation, axiom, sorry.
-/
import Derived.Test.YtkeoflnmbcdmfaaGreatDoorRows
import GoSem.ClaimSeven
namespace Go.Proofs.YtkeoflnmbcdmfaaGreatDoor
namespace Rows

/-- THE TIED CARD OF 'laws.FnCountSolutions'. -/
def fnCountSolutionsCard : Claim7 := { stood := { row := fnCountSolutionsRow, standIns := [], harness := (true, "770b74859ef11454c3aba9aa5c0767d8b4c49c7c2d2aff51ec383af74d433bb1"), looks := false }, kinds := [], alts := [], laidByText := true, laidKinds := [.data], laidTests := true, laidLooks := .later }
def FnCountSolutionsCardSaid : Prop := Claim7.holds Tryz.pinned (.plain (OpenSpec.ofChange fnCountSolutionsSpec)) fnCountSolutionsCard

/-- THE TIED CARD OF 'laws.FnSolveFirst'. -/
def fnSolveFirstCard : Claim7 := { stood := { row := fnSolveFirstRow, standIns := [], harness := (true, "770b74859ef11454c3aba9aa5c0767d8b4c49c7c2d2aff51ec383af74d433bb1"), looks := false }, kinds := [], alts := [], laidByText := true, laidKinds := [.data], laidTests := true, laidLooks := .later }
def FnSolveFirstCardSaid : Prop := Claim7.holds Tryz.pinned (.plain (OpenSpec.ofChange fnSolveFirstSpec)) fnSolveFirstCard

/-- THE TIED CARD OF 'laws.FnGradePuzzle'. -/
def fnGradePuzzleCard : Claim7 := { stood := { row := fnGradePuzzleRow, standIns := [], harness := (true, "770b74859ef11454c3aba9aa5c0767d8b4c49c7c2d2aff51ec383af74d433bb1"), looks := false }, kinds := [], alts := [], laidByText := true, laidKinds := [.data, .data], laidTests := true, laidLooks := .later }
def FnGradePuzzleCardSaid : Prop := Claim7.holds Tryz.pinned (.plain (OpenSpec.ofChange fnGradePuzzleSpec)) fnGradePuzzleCard

/-- THE TIED CARD OF 'laws.FnExactGradePuzzle'. -/
def fnExactGradePuzzleCard : Claim7 := { stood := { row := fnExactGradePuzzleRow, standIns := [], harness := (true, "770b74859ef11454c3aba9aa5c0767d8b4c49c7c2d2aff51ec383af74d433bb1"), looks := false }, kinds := [], alts := [], laidByText := true, laidKinds := [.data, .data], laidTests := true, laidLooks := .later }
def FnExactGradePuzzleCardSaid : Prop := Claim7.holds Tryz.pinned (.plain (OpenSpec.ofChange fnExactGradePuzzleSpec)) fnExactGradePuzzleCard

/-- THE TIED CARD OF 'laws.FnPuzzleOf'. -/
def fnPuzzleOfCard : Claim7 := { stood := { row := fnPuzzleOfRow, standIns := [], harness := (true, "770b74859ef11454c3aba9aa5c0767d8b4c49c7c2d2aff51ec383af74d433bb1"), looks := false }, kinds := [], alts := [], laidByText := true, laidKinds := [.data, .data], laidTests := true, laidLooks := .later }
def FnPuzzleOfCardSaid : Prop := Claim7.holds Tryz.pinned (.plain (OpenSpec.ofChange fnPuzzleOfSpec)) fnPuzzleOfCard

/-- THE TIED CARD OF 'laws.FnSolveSteps'. -/
def fnSolveStepsCard : Claim7 := { stood := { row := fnSolveStepsRow, standIns := [], harness := (true, "770b74859ef11454c3aba9aa5c0767d8b4c49c7c2d2aff51ec383af74d433bb1"), looks := false }, kinds := [], alts := [], laidByText := true, laidKinds := [.data, .data], laidTests := true, laidLooks := .later }
def FnSolveStepsCardSaid : Prop := Claim7.holds Tryz.pinned (.plain (OpenSpec.ofChange fnSolveStepsSpec)) fnSolveStepsCard

/-- THE TIED CARD OF 'laws.FnStepMasks'. -/
def fnStepMasksCard : Claim7 := { stood := { row := fnStepMasksRow, standIns := [], harness := (true, "770b74859ef11454c3aba9aa5c0767d8b4c49c7c2d2aff51ec383af74d433bb1"), looks := false }, kinds := [], alts := [], laidByText := true, laidKinds := [.data, .data], laidTests := true, laidLooks := .later }
def FnStepMasksCardSaid : Prop := Claim7.holds Tryz.pinned (.plain (OpenSpec.ofChange fnStepMasksSpec)) fnStepMasksCard

/-- THE TIED CARD OF 'laws.FnTechniqueCounts'. -/
def fnTechniqueCountsCard : Claim7 := { stood := { row := fnTechniqueCountsRow, standIns := [], harness := (true, "770b74859ef11454c3aba9aa5c0767d8b4c49c7c2d2aff51ec383af74d433bb1"), looks := false }, kinds := [], alts := [], laidByText := true, laidKinds := [.data, .data], laidTests := true, laidLooks := .later }
def FnTechniqueCountsCardSaid : Prop := Claim7.holds Tryz.pinned (.plain (OpenSpec.ofChange fnTechniqueCountsSpec)) fnTechniqueCountsCard

/-- THE TIED CARD OF 'laws.FnEasySteps'. -/
def fnEasyStepsCard : Claim7 := { stood := { row := fnEasyStepsRow, standIns := [], harness := (true, "770b74859ef11454c3aba9aa5c0767d8b4c49c7c2d2aff51ec383af74d433bb1"), looks := false }, kinds := [], alts := [], laidByText := true, laidKinds := [.data, .data], laidTests := true, laidLooks := .later }
def FnEasyStepsCardSaid : Prop := Claim7.holds Tryz.pinned (.plain (OpenSpec.ofChange fnEasyStepsSpec)) fnEasyStepsCard

/-- THE TIED CARD OF 'laws.FnExactSolveSteps'. -/
def fnExactSolveStepsCard : Claim7 := { stood := { row := fnExactSolveStepsRow, standIns := [], harness := (true, "770b74859ef11454c3aba9aa5c0767d8b4c49c7c2d2aff51ec383af74d433bb1"), looks := false }, kinds := [], alts := [], laidByText := true, laidKinds := [.data, .data], laidTests := true, laidLooks := .later }
def FnExactSolveStepsCardSaid : Prop := Claim7.holds Tryz.pinned (.plain (OpenSpec.ofChange fnExactSolveStepsSpec)) fnExactSolveStepsCard

/-- THE TIED CARD OF 'laws.FnExactStepMasks'. -/
def fnExactStepMasksCard : Claim7 := { stood := { row := fnExactStepMasksRow, standIns := [], harness := (true, "770b74859ef11454c3aba9aa5c0767d8b4c49c7c2d2aff51ec383af74d433bb1"), looks := false }, kinds := [], alts := [], laidByText := true, laidKinds := [.data, .data], laidTests := true, laidLooks := .later }
def FnExactStepMasksCardSaid : Prop := Claim7.holds Tryz.pinned (.plain (OpenSpec.ofChange fnExactStepMasksSpec)) fnExactStepMasksCard

/-- THE TIED CARD OF 'laws.FnExactTechniqueCounts'. -/
def fnExactTechniqueCountsCard : Claim7 := { stood := { row := fnExactTechniqueCountsRow, standIns := [], harness := (true, "770b74859ef11454c3aba9aa5c0767d8b4c49c7c2d2aff51ec383af74d433bb1"), looks := false }, kinds := [], alts := [], laidByText := true, laidKinds := [.data, .data], laidTests := true, laidLooks := .later }
def FnExactTechniqueCountsCardSaid : Prop := Claim7.holds Tryz.pinned (.plain (OpenSpec.ofChange fnExactTechniqueCountsSpec)) fnExactTechniqueCountsCard

/-- THE SECOND FORM's CARD OF 'laws.FnCountSolutions'. -/
def fnCountSolutionsUptoCard : Claim7 := { stood := { row := fnCountSolutionsUptoRow, standIns := [], harness := (true, "770b74859ef11454c3aba9aa5c0767d8b4c49c7c2d2aff51ec383af74d433bb1"), looks := false }, kinds := [], alts := [], laidByText := true, laidKinds := [.data], laidTests := true, laidLooks := .later }
def FnCountSolutionsUptoCardSaid : Prop := Claim7.holds Tryz.pinned (.plain (OpenSpec.upto fnCountSolutionsSpec)) fnCountSolutionsUptoCard

/-- THE SECOND FORM's CARD OF 'laws.FnSolveFirst'. -/
def fnSolveFirstUptoCard : Claim7 := { stood := { row := fnSolveFirstUptoRow, standIns := [], harness := (true, "770b74859ef11454c3aba9aa5c0767d8b4c49c7c2d2aff51ec383af74d433bb1"), looks := false }, kinds := [], alts := [], laidByText := true, laidKinds := [.data], laidTests := true, laidLooks := .later }
def FnSolveFirstUptoCardSaid : Prop := Claim7.holds Tryz.pinned (.plain (OpenSpec.upto fnSolveFirstSpec)) fnSolveFirstUptoCard

/-- THE SECOND FORM's CARD OF 'laws.FnGradePuzzle'. -/
def fnGradePuzzleUptoCard : Claim7 := { stood := { row := fnGradePuzzleUptoRow, standIns := [], harness := (true, "770b74859ef11454c3aba9aa5c0767d8b4c49c7c2d2aff51ec383af74d433bb1"), looks := false }, kinds := [], alts := [], laidByText := true, laidKinds := [.data, .data], laidTests := true, laidLooks := .later }
def FnGradePuzzleUptoCardSaid : Prop := Claim7.holds Tryz.pinned (.plain (OpenSpec.upto fnGradePuzzleSpec)) fnGradePuzzleUptoCard

/-- THE SECOND FORM's CARD OF 'laws.FnExactGradePuzzle'. -/
def fnExactGradePuzzleUptoCard : Claim7 := { stood := { row := fnExactGradePuzzleUptoRow, standIns := [], harness := (true, "770b74859ef11454c3aba9aa5c0767d8b4c49c7c2d2aff51ec383af74d433bb1"), looks := false }, kinds := [], alts := [], laidByText := true, laidKinds := [.data, .data], laidTests := true, laidLooks := .later }
def FnExactGradePuzzleUptoCardSaid : Prop := Claim7.holds Tryz.pinned (.plain (OpenSpec.upto fnExactGradePuzzleSpec)) fnExactGradePuzzleUptoCard

/-- THE SECOND FORM's CARD OF 'laws.FnPuzzleOf'. -/
def fnPuzzleOfUptoCard : Claim7 := { stood := { row := fnPuzzleOfUptoRow, standIns := [], harness := (true, "770b74859ef11454c3aba9aa5c0767d8b4c49c7c2d2aff51ec383af74d433bb1"), looks := false }, kinds := [], alts := [], laidByText := true, laidKinds := [.data, .data], laidTests := true, laidLooks := .later }
def FnPuzzleOfUptoCardSaid : Prop := Claim7.holds Tryz.pinned (.plain (OpenSpec.upto fnPuzzleOfSpec)) fnPuzzleOfUptoCard

/-- THE SECOND FORM's CARD OF 'laws.FnSolveSteps'. -/
def fnSolveStepsUptoCard : Claim7 := { stood := { row := fnSolveStepsUptoRow, standIns := [], harness := (true, "770b74859ef11454c3aba9aa5c0767d8b4c49c7c2d2aff51ec383af74d433bb1"), looks := false }, kinds := [], alts := [], laidByText := true, laidKinds := [.data, .data], laidTests := true, laidLooks := .later }
def FnSolveStepsUptoCardSaid : Prop := Claim7.holds Tryz.pinned (.plain (OpenSpec.upto fnSolveStepsSpec)) fnSolveStepsUptoCard

/-- THE SECOND FORM's CARD OF 'laws.FnStepMasks'. -/
def fnStepMasksUptoCard : Claim7 := { stood := { row := fnStepMasksUptoRow, standIns := [], harness := (true, "770b74859ef11454c3aba9aa5c0767d8b4c49c7c2d2aff51ec383af74d433bb1"), looks := false }, kinds := [], alts := [], laidByText := true, laidKinds := [.data, .data], laidTests := true, laidLooks := .later }
def FnStepMasksUptoCardSaid : Prop := Claim7.holds Tryz.pinned (.plain (OpenSpec.upto fnStepMasksSpec)) fnStepMasksUptoCard

/-- THE SECOND FORM's CARD OF 'laws.FnTechniqueCounts'. -/
def fnTechniqueCountsUptoCard : Claim7 := { stood := { row := fnTechniqueCountsUptoRow, standIns := [], harness := (true, "770b74859ef11454c3aba9aa5c0767d8b4c49c7c2d2aff51ec383af74d433bb1"), looks := false }, kinds := [], alts := [], laidByText := true, laidKinds := [.data, .data], laidTests := true, laidLooks := .later }
def FnTechniqueCountsUptoCardSaid : Prop := Claim7.holds Tryz.pinned (.plain (OpenSpec.upto fnTechniqueCountsSpec)) fnTechniqueCountsUptoCard

/-- THE SECOND FORM's CARD OF 'laws.FnEasySteps'. -/
def fnEasyStepsUptoCard : Claim7 := { stood := { row := fnEasyStepsUptoRow, standIns := [], harness := (true, "770b74859ef11454c3aba9aa5c0767d8b4c49c7c2d2aff51ec383af74d433bb1"), looks := false }, kinds := [], alts := [], laidByText := true, laidKinds := [.data, .data], laidTests := true, laidLooks := .later }
def FnEasyStepsUptoCardSaid : Prop := Claim7.holds Tryz.pinned (.plain (OpenSpec.upto fnEasyStepsSpec)) fnEasyStepsUptoCard

/-- THE SECOND FORM's CARD OF 'laws.FnExactSolveSteps'. -/
def fnExactSolveStepsUptoCard : Claim7 := { stood := { row := fnExactSolveStepsUptoRow, standIns := [], harness := (true, "770b74859ef11454c3aba9aa5c0767d8b4c49c7c2d2aff51ec383af74d433bb1"), looks := false }, kinds := [], alts := [], laidByText := true, laidKinds := [.data, .data], laidTests := true, laidLooks := .later }
def FnExactSolveStepsUptoCardSaid : Prop := Claim7.holds Tryz.pinned (.plain (OpenSpec.upto fnExactSolveStepsSpec)) fnExactSolveStepsUptoCard

/-- THE SECOND FORM's CARD OF 'laws.FnExactStepMasks'. -/
def fnExactStepMasksUptoCard : Claim7 := { stood := { row := fnExactStepMasksUptoRow, standIns := [], harness := (true, "770b74859ef11454c3aba9aa5c0767d8b4c49c7c2d2aff51ec383af74d433bb1"), looks := false }, kinds := [], alts := [], laidByText := true, laidKinds := [.data, .data], laidTests := true, laidLooks := .later }
def FnExactStepMasksUptoCardSaid : Prop := Claim7.holds Tryz.pinned (.plain (OpenSpec.upto fnExactStepMasksSpec)) fnExactStepMasksUptoCard

/-- THE SECOND FORM's CARD OF 'laws.FnExactTechniqueCounts'. -/
def fnExactTechniqueCountsUptoCard : Claim7 := { stood := { row := fnExactTechniqueCountsUptoRow, standIns := [], harness := (true, "770b74859ef11454c3aba9aa5c0767d8b4c49c7c2d2aff51ec383af74d433bb1"), looks := false }, kinds := [], alts := [], laidByText := true, laidKinds := [.data, .data], laidTests := true, laidLooks := .later }
def FnExactTechniqueCountsUptoCardSaid : Prop := Claim7.holds Tryz.pinned (.plain (OpenSpec.upto fnExactTechniqueCountsSpec)) fnExactTechniqueCountsUptoCard
end Rows
end Go.Proofs.YtkeoflnmbcdmfaaGreatDoor
