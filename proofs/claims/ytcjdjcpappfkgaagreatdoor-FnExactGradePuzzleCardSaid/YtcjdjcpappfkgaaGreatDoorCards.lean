/-
  DERIVED. GIVEN WITH THE SEED: THE CARDS: each row of YtcjdjcpappfkgaaGreatDoorRows.lean that lists a variable, with what it lists TIED to the program's text (the seventh form; the later family's looks); each row that meets fmt, with fmt's text TOLD by the authors' own Lean function (tested against real Go, not proved from fmt's source: count such statements apart). THE CARD IS WHAT COUNTS. Prove the row's statement (the work); the ties are given (YtcjdjcpappfkgaaGreatDoorTie.lean); close each card by the builder's one call (the guide's Derived/Test/ToyasCard.lean, 'card_holds'). Laid BY PROGRAM, IN A SANDBOX (cutbox-door.mjs). By AI agents, Wed Nov 11 2026. No macro, syntax, notation, axiom, sorry.
-/
import Derived.Test.YtcjdjcpappfkgaaGreatDoorRows
import GoSem.ClaimSeven
namespace Go.Proofs.YtcjdjcpappfkgaaGreatDoor
namespace Rows

/-- THE TIED CARD OF 'laws.FnCountSolutions'. -/
def fnCountSolutionsCard : Claim7 := { stood := { row := fnCountSolutionsRow, standIns := [], harness := (true, "3ea4f9f0c869d704c22a3dd60d34734c08a3e37329e53f13edb14b88109a1cdc"), looks := false }, kinds := [], alts := [], laidByText := true, laidKinds := [.data], laidTests := true, laidLooks := .later }
def FnCountSolutionsCardSaid : Prop := Claim7.holds Tryz.pinned (.plain (OpenSpec.ofChange fnCountSolutionsSpec)) fnCountSolutionsCard

/-- THE TIED CARD OF 'laws.FnSolveFirst'. -/
def fnSolveFirstCard : Claim7 := { stood := { row := fnSolveFirstRow, standIns := [], harness := (true, "3ea4f9f0c869d704c22a3dd60d34734c08a3e37329e53f13edb14b88109a1cdc"), looks := false }, kinds := [], alts := [], laidByText := true, laidKinds := [.data], laidTests := true, laidLooks := .later }
def FnSolveFirstCardSaid : Prop := Claim7.holds Tryz.pinned (.plain (OpenSpec.ofChange fnSolveFirstSpec)) fnSolveFirstCard

/-- THE TIED CARD OF 'laws.FnPuzzleOf'. -/
def fnPuzzleOfCard : Claim7 := { stood := { row := fnPuzzleOfRow, standIns := [], harness := (true, "3ea4f9f0c869d704c22a3dd60d34734c08a3e37329e53f13edb14b88109a1cdc"), looks := false }, kinds := [], alts := [], laidByText := true, laidKinds := [.data, .data], laidTests := true, laidLooks := .later }
def FnPuzzleOfCardSaid : Prop := Claim7.holds Tryz.pinned (.plain (OpenSpec.ofChange fnPuzzleOfSpec)) fnPuzzleOfCard

/-- THE TIED CARD OF 'laws.FnNarrowRules'. -/
def fnNarrowRulesCard : Claim7 := { stood := { row := fnNarrowRulesRow, standIns := [], harness := (true, "3ea4f9f0c869d704c22a3dd60d34734c08a3e37329e53f13edb14b88109a1cdc"), looks := false }, kinds := [], alts := [], laidByText := true, laidKinds := [.data, .data], laidTests := true, laidLooks := .later }
def FnNarrowRulesCardSaid : Prop := Claim7.holds Tryz.pinned (.plain (OpenSpec.ofChange fnNarrowRulesSpec)) fnNarrowRulesCard

/-- THE TIED CARD OF 'laws.FnNarrowAll'. -/
def fnNarrowAllCard : Claim7 := { stood := { row := fnNarrowAllRow, standIns := [], harness := (true, "3ea4f9f0c869d704c22a3dd60d34734c08a3e37329e53f13edb14b88109a1cdc"), looks := false }, kinds := [], alts := [], laidByText := true, laidKinds := [.data, .data], laidTests := true, laidLooks := .later }
def FnNarrowAllCardSaid : Prop := Claim7.holds Tryz.pinned (.plain (OpenSpec.ofChange fnNarrowAllSpec)) fnNarrowAllCard

/-- THE TIED CARD OF 'laws.FnNarrowMore'. -/
def fnNarrowMoreCard : Claim7 := { stood := { row := fnNarrowMoreRow, standIns := [], harness := (true, "3ea4f9f0c869d704c22a3dd60d34734c08a3e37329e53f13edb14b88109a1cdc"), looks := false }, kinds := [], alts := [], laidByText := true, laidKinds := [.data, .data], laidTests := true, laidLooks := .later }
def FnNarrowMoreCardSaid : Prop := Claim7.holds Tryz.pinned (.plain (OpenSpec.ofChange fnNarrowMoreSpec)) fnNarrowMoreCard

/-- THE TIED CARD OF 'laws.FnGradePuzzle'. -/
def fnGradePuzzleCard : Claim7 := { stood := { row := fnGradePuzzleRow, standIns := [], harness := (true, "3ea4f9f0c869d704c22a3dd60d34734c08a3e37329e53f13edb14b88109a1cdc"), looks := false }, kinds := [], alts := [], laidByText := true, laidKinds := [.data, .data], laidTests := true, laidLooks := .later }
def FnGradePuzzleCardSaid : Prop := Claim7.holds Tryz.pinned (.plain (OpenSpec.ofChange fnGradePuzzleSpec)) fnGradePuzzleCard

/-- THE TIED CARD OF 'laws.FnExactGradePuzzle'. -/
def fnExactGradePuzzleCard : Claim7 := { stood := { row := fnExactGradePuzzleRow, standIns := [], harness := (true, "3ea4f9f0c869d704c22a3dd60d34734c08a3e37329e53f13edb14b88109a1cdc"), looks := false }, kinds := [], alts := [], laidByText := true, laidKinds := [.data, .data], laidTests := true, laidLooks := .later }
def FnExactGradePuzzleCardSaid : Prop := Claim7.holds Tryz.pinned (.plain (OpenSpec.ofChange fnExactGradePuzzleSpec)) fnExactGradePuzzleCard

/-- THE SECOND FORM's CARD OF 'laws.FnCountSolutions'. -/
def fnCountSolutionsUptoCard : Claim7 := { stood := { row := fnCountSolutionsUptoRow, standIns := [], harness := (true, "3ea4f9f0c869d704c22a3dd60d34734c08a3e37329e53f13edb14b88109a1cdc"), looks := false }, kinds := [], alts := [], laidByText := true, laidKinds := [.data], laidTests := true, laidLooks := .later }
def FnCountSolutionsUptoCardSaid : Prop := Claim7.holds Tryz.pinned (.plain (OpenSpec.upto fnCountSolutionsSpec)) fnCountSolutionsUptoCard

/-- THE SECOND FORM's CARD OF 'laws.FnSolveFirst'. -/
def fnSolveFirstUptoCard : Claim7 := { stood := { row := fnSolveFirstUptoRow, standIns := [], harness := (true, "3ea4f9f0c869d704c22a3dd60d34734c08a3e37329e53f13edb14b88109a1cdc"), looks := false }, kinds := [], alts := [], laidByText := true, laidKinds := [.data], laidTests := true, laidLooks := .later }
def FnSolveFirstUptoCardSaid : Prop := Claim7.holds Tryz.pinned (.plain (OpenSpec.upto fnSolveFirstSpec)) fnSolveFirstUptoCard

/-- THE SECOND FORM's CARD OF 'laws.FnPuzzleOf'. -/
def fnPuzzleOfUptoCard : Claim7 := { stood := { row := fnPuzzleOfUptoRow, standIns := [], harness := (true, "3ea4f9f0c869d704c22a3dd60d34734c08a3e37329e53f13edb14b88109a1cdc"), looks := false }, kinds := [], alts := [], laidByText := true, laidKinds := [.data, .data], laidTests := true, laidLooks := .later }
def FnPuzzleOfUptoCardSaid : Prop := Claim7.holds Tryz.pinned (.plain (OpenSpec.upto fnPuzzleOfSpec)) fnPuzzleOfUptoCard

/-- THE SECOND FORM's CARD OF 'laws.FnNarrowRules'. -/
def fnNarrowRulesUptoCard : Claim7 := { stood := { row := fnNarrowRulesUptoRow, standIns := [], harness := (true, "3ea4f9f0c869d704c22a3dd60d34734c08a3e37329e53f13edb14b88109a1cdc"), looks := false }, kinds := [], alts := [], laidByText := true, laidKinds := [.data, .data], laidTests := true, laidLooks := .later }
def FnNarrowRulesUptoCardSaid : Prop := Claim7.holds Tryz.pinned (.plain (OpenSpec.upto fnNarrowRulesSpec)) fnNarrowRulesUptoCard

/-- THE SECOND FORM's CARD OF 'laws.FnNarrowAll'. -/
def fnNarrowAllUptoCard : Claim7 := { stood := { row := fnNarrowAllUptoRow, standIns := [], harness := (true, "3ea4f9f0c869d704c22a3dd60d34734c08a3e37329e53f13edb14b88109a1cdc"), looks := false }, kinds := [], alts := [], laidByText := true, laidKinds := [.data, .data], laidTests := true, laidLooks := .later }
def FnNarrowAllUptoCardSaid : Prop := Claim7.holds Tryz.pinned (.plain (OpenSpec.upto fnNarrowAllSpec)) fnNarrowAllUptoCard

/-- THE SECOND FORM's CARD OF 'laws.FnNarrowMore'. -/
def fnNarrowMoreUptoCard : Claim7 := { stood := { row := fnNarrowMoreUptoRow, standIns := [], harness := (true, "3ea4f9f0c869d704c22a3dd60d34734c08a3e37329e53f13edb14b88109a1cdc"), looks := false }, kinds := [], alts := [], laidByText := true, laidKinds := [.data, .data], laidTests := true, laidLooks := .later }
def FnNarrowMoreUptoCardSaid : Prop := Claim7.holds Tryz.pinned (.plain (OpenSpec.upto fnNarrowMoreSpec)) fnNarrowMoreUptoCard

/-- THE SECOND FORM's CARD OF 'laws.FnGradePuzzle'. -/
def fnGradePuzzleUptoCard : Claim7 := { stood := { row := fnGradePuzzleUptoRow, standIns := [], harness := (true, "3ea4f9f0c869d704c22a3dd60d34734c08a3e37329e53f13edb14b88109a1cdc"), looks := false }, kinds := [], alts := [], laidByText := true, laidKinds := [.data, .data], laidTests := true, laidLooks := .later }
def FnGradePuzzleUptoCardSaid : Prop := Claim7.holds Tryz.pinned (.plain (OpenSpec.upto fnGradePuzzleSpec)) fnGradePuzzleUptoCard

/-- THE SECOND FORM's CARD OF 'laws.FnExactGradePuzzle'. -/
def fnExactGradePuzzleUptoCard : Claim7 := { stood := { row := fnExactGradePuzzleUptoRow, standIns := [], harness := (true, "3ea4f9f0c869d704c22a3dd60d34734c08a3e37329e53f13edb14b88109a1cdc"), looks := false }, kinds := [], alts := [], laidByText := true, laidKinds := [.data, .data], laidTests := true, laidLooks := .later }
def FnExactGradePuzzleUptoCardSaid : Prop := Claim7.holds Tryz.pinned (.plain (OpenSpec.upto fnExactGradePuzzleSpec)) fnExactGradePuzzleUptoCard
end Rows
end Go.Proofs.YtcjdjcpappfkgaaGreatDoor
