/-
  DERIVED. GIVEN WITH THE SEED: THE CARDS: each row of YtjdhfknoldginaaGreatDoorRows.lean that lists a variable, with what it lists TIED to the program's text (the seventh form; the later family's looks); each row that meets fmt, with fmt's text TOLD by the authors' own Lean function (tested against real Go, not proved from fmt's source: count such statements apart). THE CARD IS WHAT COUNTS. Prove the row's statement (the work); the ties are given (YtjdhfknoldginaaGreatDoorTie.lean); close each card by the builder's one call (the guide's Derived/Test/ToyasCard.lean, 'card_holds'). Laid BY PROGRAM, IN A SANDBOX (cutbox-door.mjs). By AI agents, Wed Nov 11 2026. No macro, syntax, notation, axiom, sorry.
-/
import Derived.Test.YtjdhfknoldginaaGreatDoorRows
import GoSem.ClaimSeven
namespace Go.Proofs.YtjdhfknoldginaaGreatDoor
namespace Rows

/-- THE TIED CARD OF 'laws.FnSolveFirst'. -/
def fnSolveFirstCard : Claim7 := { stood := { row := fnSolveFirstRow, standIns := [], harness := (true, "1c7931714c0406b0d12e18efe0680f3084c41caf1db40bf246485afa666dc6aa"), looks := false }, kinds := [], alts := [], laidByText := true, laidKinds := [.data], laidTests := true, laidLooks := .later }
def FnSolveFirstCardSaid : Prop := Claim7.holds Tryz.pinned (.plain (OpenSpec.ofChange fnSolveFirstSpec)) fnSolveFirstCard

/-- THE TIED CARD OF 'laws.FnCountSolutions'. -/
def fnCountSolutionsCard : Claim7 := { stood := { row := fnCountSolutionsRow, standIns := [], harness := (true, "1c7931714c0406b0d12e18efe0680f3084c41caf1db40bf246485afa666dc6aa"), looks := false }, kinds := [], alts := [], laidByText := true, laidKinds := [.data], laidTests := true, laidLooks := .later }
def FnCountSolutionsCardSaid : Prop := Claim7.holds Tryz.pinned (.plain (OpenSpec.ofChange fnCountSolutionsSpec)) fnCountSolutionsCard

/-- THE TIED CARD OF 'laws.FnNarrowRules'. -/
def fnNarrowRulesCard : Claim7 := { stood := { row := fnNarrowRulesRow, standIns := [], harness := (true, "1c7931714c0406b0d12e18efe0680f3084c41caf1db40bf246485afa666dc6aa"), looks := false }, kinds := [], alts := [], laidByText := true, laidKinds := [.data, .data], laidTests := true, laidLooks := .later }
def FnNarrowRulesCardSaid : Prop := Claim7.holds Tryz.pinned (.plain (OpenSpec.ofChange fnNarrowRulesSpec)) fnNarrowRulesCard

/-- THE TIED CARD OF 'laws.FnNarrowBy'. -/
def fnNarrowByCard : Claim7 := { stood := { row := fnNarrowByRow, standIns := [], harness := (true, "1c7931714c0406b0d12e18efe0680f3084c41caf1db40bf246485afa666dc6aa"), looks := false }, kinds := [], alts := [], laidByText := true, laidKinds := [.data, .data], laidTests := true, laidLooks := .later }
def FnNarrowByCardSaid : Prop := Claim7.holds Tryz.pinned (.plain (OpenSpec.ofChange fnNarrowBySpec)) fnNarrowByCard

/-- THE TIED CARD OF 'laws.FnNarrowAll'. -/
def fnNarrowAllCard : Claim7 := { stood := { row := fnNarrowAllRow, standIns := [], harness := (true, "1c7931714c0406b0d12e18efe0680f3084c41caf1db40bf246485afa666dc6aa"), looks := false }, kinds := [], alts := [], laidByText := true, laidKinds := [.data, .data], laidTests := true, laidLooks := .later }
def FnNarrowAllCardSaid : Prop := Claim7.holds Tryz.pinned (.plain (OpenSpec.ofChange fnNarrowAllSpec)) fnNarrowAllCard

/-- THE TIED CARD OF 'laws.FnHiddenLines'. -/
def fnHiddenLinesCard : Claim7 := { stood := { row := fnHiddenLinesRow, standIns := [], harness := (true, "1c7931714c0406b0d12e18efe0680f3084c41caf1db40bf246485afa666dc6aa"), looks := false }, kinds := [], alts := [], laidByText := true, laidKinds := [.data, .data], laidTests := true, laidLooks := .later }
def FnHiddenLinesCardSaid : Prop := Claim7.holds Tryz.pinned (.plain (OpenSpec.ofChange fnHiddenLinesSpec)) fnHiddenLinesCard

/-- THE SECOND FORM's CARD OF 'laws.FnSolveFirst'. -/
def fnSolveFirstUptoCard : Claim7 := { stood := { row := fnSolveFirstUptoRow, standIns := [], harness := (true, "1c7931714c0406b0d12e18efe0680f3084c41caf1db40bf246485afa666dc6aa"), looks := false }, kinds := [], alts := [], laidByText := true, laidKinds := [.data], laidTests := true, laidLooks := .later }
def FnSolveFirstUptoCardSaid : Prop := Claim7.holds Tryz.pinned (.plain (OpenSpec.upto fnSolveFirstSpec)) fnSolveFirstUptoCard

/-- THE SECOND FORM's CARD OF 'laws.FnCountSolutions'. -/
def fnCountSolutionsUptoCard : Claim7 := { stood := { row := fnCountSolutionsUptoRow, standIns := [], harness := (true, "1c7931714c0406b0d12e18efe0680f3084c41caf1db40bf246485afa666dc6aa"), looks := false }, kinds := [], alts := [], laidByText := true, laidKinds := [.data], laidTests := true, laidLooks := .later }
def FnCountSolutionsUptoCardSaid : Prop := Claim7.holds Tryz.pinned (.plain (OpenSpec.upto fnCountSolutionsSpec)) fnCountSolutionsUptoCard

/-- THE SECOND FORM's CARD OF 'laws.FnNarrowRules'. -/
def fnNarrowRulesUptoCard : Claim7 := { stood := { row := fnNarrowRulesUptoRow, standIns := [], harness := (true, "1c7931714c0406b0d12e18efe0680f3084c41caf1db40bf246485afa666dc6aa"), looks := false }, kinds := [], alts := [], laidByText := true, laidKinds := [.data, .data], laidTests := true, laidLooks := .later }
def FnNarrowRulesUptoCardSaid : Prop := Claim7.holds Tryz.pinned (.plain (OpenSpec.upto fnNarrowRulesSpec)) fnNarrowRulesUptoCard

/-- THE SECOND FORM's CARD OF 'laws.FnNarrowBy'. -/
def fnNarrowByUptoCard : Claim7 := { stood := { row := fnNarrowByUptoRow, standIns := [], harness := (true, "1c7931714c0406b0d12e18efe0680f3084c41caf1db40bf246485afa666dc6aa"), looks := false }, kinds := [], alts := [], laidByText := true, laidKinds := [.data, .data], laidTests := true, laidLooks := .later }
def FnNarrowByUptoCardSaid : Prop := Claim7.holds Tryz.pinned (.plain (OpenSpec.upto fnNarrowBySpec)) fnNarrowByUptoCard

/-- THE SECOND FORM's CARD OF 'laws.FnNarrowAll'. -/
def fnNarrowAllUptoCard : Claim7 := { stood := { row := fnNarrowAllUptoRow, standIns := [], harness := (true, "1c7931714c0406b0d12e18efe0680f3084c41caf1db40bf246485afa666dc6aa"), looks := false }, kinds := [], alts := [], laidByText := true, laidKinds := [.data, .data], laidTests := true, laidLooks := .later }
def FnNarrowAllUptoCardSaid : Prop := Claim7.holds Tryz.pinned (.plain (OpenSpec.upto fnNarrowAllSpec)) fnNarrowAllUptoCard

/-- THE SECOND FORM's CARD OF 'laws.FnHiddenLines'. -/
def fnHiddenLinesUptoCard : Claim7 := { stood := { row := fnHiddenLinesUptoRow, standIns := [], harness := (true, "1c7931714c0406b0d12e18efe0680f3084c41caf1db40bf246485afa666dc6aa"), looks := false }, kinds := [], alts := [], laidByText := true, laidKinds := [.data, .data], laidTests := true, laidLooks := .later }
def FnHiddenLinesUptoCardSaid : Prop := Claim7.holds Tryz.pinned (.plain (OpenSpec.upto fnHiddenLinesSpec)) fnHiddenLinesUptoCard
end Rows
end Go.Proofs.YtjdhfknoldginaaGreatDoor
