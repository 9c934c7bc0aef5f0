/-
  DERIVED. GIVEN WITH THE SEED: THE CARDS: each row of YtkeoflnmbcdmfaaDoorRows.lean that lists a variable, with what it lists TIED to the program's text (the seventh form; the later family's looks); each row that meets fmt, with fmt's text TOLD by the authors' own Lean function (tested against real Go, not proved from fmt's source: count such statements apart). THE CARD IS WHAT COUNTS. Prove the row's statement (the work); the ties are given (YtkeoflnmbcdmfaaDoorTie.lean); close each card by the builder's one call (the guide's Derived/Test/ToyasCard.lean, 'card_holds'). Laid BY PROGRAM, IN A SANDBOX (cutbox-door.mjs). By AI agents, Wed Nov 11 2026. No macro, syntax, notation, axiom, sorry.
-/
import Derived.Test.YtkeoflnmbcdmfaaDoorRows
import GoSem.ClaimSeven
namespace Go.Proofs.YtkeoflnmbcdmfaaDoor
namespace Rows

/-- THE TIED CARD OF 'laws.FnRulesLess'. -/
def fnRulesLessCard : Claim7 := { stood := { row := fnRulesLessRow, standIns := [], harness := (true, "16125b7ec1c6131b0f2102d7355ccc603b0cb143b5933bbfd15b44e9ffa29445"), looks := false }, kinds := [], alts := [], laidByText := true, laidKinds := [.data], laidTests := true, laidLooks := .later }
def FnRulesLessCardSaid : Prop := Claim7.holds Tryd.pinned (.plain (OpenSpec.ofChange fnRulesLessSpec)) fnRulesLessCard

/-- THE TIED CARD OF 'laws.FnExactCountSolutions'. -/
def fnExactCountSolutionsCard : Claim7 := { stood := { row := fnExactCountSolutionsRow, standIns := [], harness := (true, "16125b7ec1c6131b0f2102d7355ccc603b0cb143b5933bbfd15b44e9ffa29445"), looks := false }, kinds := [], alts := [], laidByText := true, laidKinds := [.data], laidTests := true, laidLooks := .later }
def FnExactCountSolutionsCardSaid : Prop := Claim7.holds Tryd.pinned (.plain (OpenSpec.ofChange fnExactCountSolutionsSpec)) fnExactCountSolutionsCard

/-- THE TIED CARD OF 'laws.FnIsRedundant'. -/
def fnIsRedundantCard : Claim7 := { stood := { row := fnIsRedundantRow, standIns := [], harness := (true, "16125b7ec1c6131b0f2102d7355ccc603b0cb143b5933bbfd15b44e9ffa29445"), looks := false }, kinds := [], alts := [], laidByText := true, laidKinds := [.data], laidTests := true, laidLooks := .later }
def FnIsRedundantCardSaid : Prop := Claim7.holds Tryd.pinned (.plain (OpenSpec.ofChange fnIsRedundantSpec)) fnIsRedundantCard

/-- THE TIED CARD OF 'laws.FnIsMinimal'. -/
def fnIsMinimalCard : Claim7 := { stood := { row := fnIsMinimalRow, standIns := [], harness := (true, "16125b7ec1c6131b0f2102d7355ccc603b0cb143b5933bbfd15b44e9ffa29445"), looks := false }, kinds := [], alts := [], laidByText := true, laidKinds := [.data], laidTests := true, laidLooks := .later }
def FnIsMinimalCardSaid : Prop := Claim7.holds Tryd.pinned (.plain (OpenSpec.ofChange fnIsMinimalSpec)) fnIsMinimalCard

/-- THE TIED CARD OF 'laws.FnMakeMinimal'. -/
def fnMakeMinimalCard : Claim7 := { stood := { row := fnMakeMinimalRow, standIns := [], harness := (true, "16125b7ec1c6131b0f2102d7355ccc603b0cb143b5933bbfd15b44e9ffa29445"), looks := false }, kinds := [], alts := [], laidByText := true, laidKinds := [.data], laidTests := true, laidLooks := .later }
def FnMakeMinimalCardSaid : Prop := Claim7.holds Tryd.pinned (.plain (OpenSpec.ofChange fnMakeMinimalSpec)) fnMakeMinimalCard

/-- THE TIED CARD OF 'laws.FnMakeEven'. -/
def fnMakeEvenCard : Claim7 := { stood := { row := fnMakeEvenRow, standIns := [], harness := (true, "16125b7ec1c6131b0f2102d7355ccc603b0cb143b5933bbfd15b44e9ffa29445"), looks := false }, kinds := [], alts := [], laidByText := true, laidKinds := [.data], laidTests := true, laidLooks := .later }
def FnMakeEvenCardSaid : Prop := Claim7.holds Tryd.pinned (.plain (OpenSpec.ofChange fnMakeEvenSpec)) fnMakeEvenCard

/-- THE TIED CARD OF 'laws.FnExactIsRedundant'. -/
def fnExactIsRedundantCard : Claim7 := { stood := { row := fnExactIsRedundantRow, standIns := [], harness := (true, "16125b7ec1c6131b0f2102d7355ccc603b0cb143b5933bbfd15b44e9ffa29445"), looks := false }, kinds := [], alts := [], laidByText := true, laidKinds := [.data], laidTests := true, laidLooks := .later }
def FnExactIsRedundantCardSaid : Prop := Claim7.holds Tryd.pinned (.plain (OpenSpec.ofChange fnExactIsRedundantSpec)) fnExactIsRedundantCard

/-- THE TIED CARD OF 'laws.FnExactIsMinimal'. -/
def fnExactIsMinimalCard : Claim7 := { stood := { row := fnExactIsMinimalRow, standIns := [], harness := (true, "16125b7ec1c6131b0f2102d7355ccc603b0cb143b5933bbfd15b44e9ffa29445"), looks := false }, kinds := [], alts := [], laidByText := true, laidKinds := [.data], laidTests := true, laidLooks := .later }
def FnExactIsMinimalCardSaid : Prop := Claim7.holds Tryd.pinned (.plain (OpenSpec.ofChange fnExactIsMinimalSpec)) fnExactIsMinimalCard

/-- THE TIED CARD OF 'laws.FnExactMakeMinimal'. -/
def fnExactMakeMinimalCard : Claim7 := { stood := { row := fnExactMakeMinimalRow, standIns := [], harness := (true, "16125b7ec1c6131b0f2102d7355ccc603b0cb143b5933bbfd15b44e9ffa29445"), looks := false }, kinds := [], alts := [], laidByText := true, laidKinds := [.data], laidTests := true, laidLooks := .later }
def FnExactMakeMinimalCardSaid : Prop := Claim7.holds Tryd.pinned (.plain (OpenSpec.ofChange fnExactMakeMinimalSpec)) fnExactMakeMinimalCard

/-- THE TIED CARD OF 'laws.FnExactMakeEven'. -/
def fnExactMakeEvenCard : Claim7 := { stood := { row := fnExactMakeEvenRow, standIns := [], harness := (true, "16125b7ec1c6131b0f2102d7355ccc603b0cb143b5933bbfd15b44e9ffa29445"), looks := false }, kinds := [], alts := [], laidByText := true, laidKinds := [.data], laidTests := true, laidLooks := .later }
def FnExactMakeEvenCardSaid : Prop := Claim7.holds Tryd.pinned (.plain (OpenSpec.ofChange fnExactMakeEvenSpec)) fnExactMakeEvenCard

/-- THE TIED CARD OF 'laws.FnMinimalAgain'. -/
def fnMinimalAgainCard : Claim7 := { stood := { row := fnMinimalAgainRow, standIns := [], harness := (true, "16125b7ec1c6131b0f2102d7355ccc603b0cb143b5933bbfd15b44e9ffa29445"), looks := false }, kinds := [], alts := [], laidByText := true, laidKinds := [.data], laidTests := true, laidLooks := .later }
def FnMinimalAgainCardSaid : Prop := Claim7.holds Tryd.pinned (.plain (OpenSpec.ofChange fnMinimalAgainSpec)) fnMinimalAgainCard

/-- THE TIED CARD OF 'laws.FnEvenMinimal'. -/
def fnEvenMinimalCard : Claim7 := { stood := { row := fnEvenMinimalRow, standIns := [], harness := (true, "16125b7ec1c6131b0f2102d7355ccc603b0cb143b5933bbfd15b44e9ffa29445"), looks := false }, kinds := [], alts := [], laidByText := true, laidKinds := [.data], laidTests := true, laidLooks := .later }
def FnEvenMinimalCardSaid : Prop := Claim7.holds Tryd.pinned (.plain (OpenSpec.ofChange fnEvenMinimalSpec)) fnEvenMinimalCard

/-- THE TIED CARD OF 'laws.FnFormsGrade'. -/
def fnFormsGradeCard : Claim7 := { stood := { row := fnFormsGradeRow, standIns := [], harness := (true, "16125b7ec1c6131b0f2102d7355ccc603b0cb143b5933bbfd15b44e9ffa29445"), looks := false }, kinds := [], alts := [], laidByText := true, laidKinds := [.data], laidTests := true, laidLooks := .later }
def FnFormsGradeCardSaid : Prop := Claim7.holds Tryd.pinned (.plain (OpenSpec.ofChange fnFormsGradeSpec)) fnFormsGradeCard

/-- THE SECOND FORM's CARD OF 'laws.FnRulesLess'. -/
def fnRulesLessUptoCard : Claim7 := { stood := { row := fnRulesLessUptoRow, standIns := [], harness := (true, "16125b7ec1c6131b0f2102d7355ccc603b0cb143b5933bbfd15b44e9ffa29445"), looks := false }, kinds := [], alts := [], laidByText := true, laidKinds := [.data], laidTests := true, laidLooks := .later }
def FnRulesLessUptoCardSaid : Prop := Claim7.holds Tryd.pinned (.plain (OpenSpec.upto fnRulesLessSpec)) fnRulesLessUptoCard

/-- THE SECOND FORM's CARD OF 'laws.FnExactCountSolutions'. -/
def fnExactCountSolutionsUptoCard : Claim7 := { stood := { row := fnExactCountSolutionsUptoRow, standIns := [], harness := (true, "16125b7ec1c6131b0f2102d7355ccc603b0cb143b5933bbfd15b44e9ffa29445"), looks := false }, kinds := [], alts := [], laidByText := true, laidKinds := [.data], laidTests := true, laidLooks := .later }
def FnExactCountSolutionsUptoCardSaid : Prop := Claim7.holds Tryd.pinned (.plain (OpenSpec.upto fnExactCountSolutionsSpec)) fnExactCountSolutionsUptoCard

/-- THE SECOND FORM's CARD OF 'laws.FnIsRedundant'. -/
def fnIsRedundantUptoCard : Claim7 := { stood := { row := fnIsRedundantUptoRow, standIns := [], harness := (true, "16125b7ec1c6131b0f2102d7355ccc603b0cb143b5933bbfd15b44e9ffa29445"), looks := false }, kinds := [], alts := [], laidByText := true, laidKinds := [.data], laidTests := true, laidLooks := .later }
def FnIsRedundantUptoCardSaid : Prop := Claim7.holds Tryd.pinned (.plain (OpenSpec.upto fnIsRedundantSpec)) fnIsRedundantUptoCard

/-- THE SECOND FORM's CARD OF 'laws.FnIsMinimal'. -/
def fnIsMinimalUptoCard : Claim7 := { stood := { row := fnIsMinimalUptoRow, standIns := [], harness := (true, "16125b7ec1c6131b0f2102d7355ccc603b0cb143b5933bbfd15b44e9ffa29445"), looks := false }, kinds := [], alts := [], laidByText := true, laidKinds := [.data], laidTests := true, laidLooks := .later }
def FnIsMinimalUptoCardSaid : Prop := Claim7.holds Tryd.pinned (.plain (OpenSpec.upto fnIsMinimalSpec)) fnIsMinimalUptoCard

/-- THE SECOND FORM's CARD OF 'laws.FnMakeMinimal'. -/
def fnMakeMinimalUptoCard : Claim7 := { stood := { row := fnMakeMinimalUptoRow, standIns := [], harness := (true, "16125b7ec1c6131b0f2102d7355ccc603b0cb143b5933bbfd15b44e9ffa29445"), looks := false }, kinds := [], alts := [], laidByText := true, laidKinds := [.data], laidTests := true, laidLooks := .later }
def FnMakeMinimalUptoCardSaid : Prop := Claim7.holds Tryd.pinned (.plain (OpenSpec.upto fnMakeMinimalSpec)) fnMakeMinimalUptoCard

/-- THE SECOND FORM's CARD OF 'laws.FnMakeEven'. -/
def fnMakeEvenUptoCard : Claim7 := { stood := { row := fnMakeEvenUptoRow, standIns := [], harness := (true, "16125b7ec1c6131b0f2102d7355ccc603b0cb143b5933bbfd15b44e9ffa29445"), looks := false }, kinds := [], alts := [], laidByText := true, laidKinds := [.data], laidTests := true, laidLooks := .later }
def FnMakeEvenUptoCardSaid : Prop := Claim7.holds Tryd.pinned (.plain (OpenSpec.upto fnMakeEvenSpec)) fnMakeEvenUptoCard

/-- THE SECOND FORM's CARD OF 'laws.FnExactIsRedundant'. -/
def fnExactIsRedundantUptoCard : Claim7 := { stood := { row := fnExactIsRedundantUptoRow, standIns := [], harness := (true, "16125b7ec1c6131b0f2102d7355ccc603b0cb143b5933bbfd15b44e9ffa29445"), looks := false }, kinds := [], alts := [], laidByText := true, laidKinds := [.data], laidTests := true, laidLooks := .later }
def FnExactIsRedundantUptoCardSaid : Prop := Claim7.holds Tryd.pinned (.plain (OpenSpec.upto fnExactIsRedundantSpec)) fnExactIsRedundantUptoCard

/-- THE SECOND FORM's CARD OF 'laws.FnExactIsMinimal'. -/
def fnExactIsMinimalUptoCard : Claim7 := { stood := { row := fnExactIsMinimalUptoRow, standIns := [], harness := (true, "16125b7ec1c6131b0f2102d7355ccc603b0cb143b5933bbfd15b44e9ffa29445"), looks := false }, kinds := [], alts := [], laidByText := true, laidKinds := [.data], laidTests := true, laidLooks := .later }
def FnExactIsMinimalUptoCardSaid : Prop := Claim7.holds Tryd.pinned (.plain (OpenSpec.upto fnExactIsMinimalSpec)) fnExactIsMinimalUptoCard

/-- THE SECOND FORM's CARD OF 'laws.FnExactMakeMinimal'. -/
def fnExactMakeMinimalUptoCard : Claim7 := { stood := { row := fnExactMakeMinimalUptoRow, standIns := [], harness := (true, "16125b7ec1c6131b0f2102d7355ccc603b0cb143b5933bbfd15b44e9ffa29445"), looks := false }, kinds := [], alts := [], laidByText := true, laidKinds := [.data], laidTests := true, laidLooks := .later }
def FnExactMakeMinimalUptoCardSaid : Prop := Claim7.holds Tryd.pinned (.plain (OpenSpec.upto fnExactMakeMinimalSpec)) fnExactMakeMinimalUptoCard

/-- THE SECOND FORM's CARD OF 'laws.FnExactMakeEven'. -/
def fnExactMakeEvenUptoCard : Claim7 := { stood := { row := fnExactMakeEvenUptoRow, standIns := [], harness := (true, "16125b7ec1c6131b0f2102d7355ccc603b0cb143b5933bbfd15b44e9ffa29445"), looks := false }, kinds := [], alts := [], laidByText := true, laidKinds := [.data], laidTests := true, laidLooks := .later }
def FnExactMakeEvenUptoCardSaid : Prop := Claim7.holds Tryd.pinned (.plain (OpenSpec.upto fnExactMakeEvenSpec)) fnExactMakeEvenUptoCard

/-- THE SECOND FORM's CARD OF 'laws.FnMinimalAgain'. -/
def fnMinimalAgainUptoCard : Claim7 := { stood := { row := fnMinimalAgainUptoRow, standIns := [], harness := (true, "16125b7ec1c6131b0f2102d7355ccc603b0cb143b5933bbfd15b44e9ffa29445"), looks := false }, kinds := [], alts := [], laidByText := true, laidKinds := [.data], laidTests := true, laidLooks := .later }
def FnMinimalAgainUptoCardSaid : Prop := Claim7.holds Tryd.pinned (.plain (OpenSpec.upto fnMinimalAgainSpec)) fnMinimalAgainUptoCard

/-- THE SECOND FORM's CARD OF 'laws.FnEvenMinimal'. -/
def fnEvenMinimalUptoCard : Claim7 := { stood := { row := fnEvenMinimalUptoRow, standIns := [], harness := (true, "16125b7ec1c6131b0f2102d7355ccc603b0cb143b5933bbfd15b44e9ffa29445"), looks := false }, kinds := [], alts := [], laidByText := true, laidKinds := [.data], laidTests := true, laidLooks := .later }
def FnEvenMinimalUptoCardSaid : Prop := Claim7.holds Tryd.pinned (.plain (OpenSpec.upto fnEvenMinimalSpec)) fnEvenMinimalUptoCard

/-- THE SECOND FORM's CARD OF 'laws.FnFormsGrade'. -/
def fnFormsGradeUptoCard : Claim7 := { stood := { row := fnFormsGradeUptoRow, standIns := [], harness := (true, "16125b7ec1c6131b0f2102d7355ccc603b0cb143b5933bbfd15b44e9ffa29445"), looks := false }, kinds := [], alts := [], laidByText := true, laidKinds := [.data], laidTests := true, laidLooks := .later }
def FnFormsGradeUptoCardSaid : Prop := Claim7.holds Tryd.pinned (.plain (OpenSpec.upto fnFormsGradeSpec)) fnFormsGradeUptoCard
end Rows
end Go.Proofs.YtkeoflnmbcdmfaaDoor
