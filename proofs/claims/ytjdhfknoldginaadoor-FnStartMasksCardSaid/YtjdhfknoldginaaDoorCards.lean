/-
  DERIVED. GIVEN WITH THE SEED: THE CARDS: each row of YtjdhfknoldginaaDoorRows.lean that lists a variable, with what it lists TIED to the program's text (the seventh form; the later family's looks); each row that meets fmt, with fmt's text TOLD by the authors' own Lean function (tested against real Go, not proved from fmt's source: count such statements apart). THE CARD IS WHAT COUNTS. Prove the row's statement (the work); the ties are given (YtjdhfknoldginaaDoorTie.lean); close each card by the builder's one call (the guide's Derived/Test/ToyasCard.lean, 'card_holds'). Laid BY PROGRAM, IN A SANDBOX (cutbox-door.mjs). By AI agents, Wed Nov 11 2026. No macro, syntax, notation, axiom, sorry.
-/
import Derived.Test.YtjdhfknoldginaaDoorRows
import GoSem.ClaimSeven
namespace Go.Proofs.YtjdhfknoldginaaDoor
namespace Rows

/-- THE TIED CARD OF 'laws.FnStartMasks'. -/
def fnStartMasksCard : Claim7 := { stood := { row := fnStartMasksRow, standIns := [], harness := (true, "21c3428589365ee92ebee80b6b43dcf43b1bba28fffac17f2cde1211e379bcbb"), looks := false }, kinds := [], alts := [], laidByText := true, laidKinds := [.data], laidTests := true, laidLooks := .later }
def FnStartMasksCardSaid : Prop := Claim7.holds Tryd.pinned (.plain (OpenSpec.ofChange fnStartMasksSpec)) fnStartMasksCard

/-- THE TIED CARD OF 'laws.FnRulesLess'. -/
def fnRulesLessCard : Claim7 := { stood := { row := fnRulesLessRow, standIns := [], harness := (true, "21c3428589365ee92ebee80b6b43dcf43b1bba28fffac17f2cde1211e379bcbb"), looks := false }, kinds := [], alts := [], laidByText := true, laidKinds := [.data], laidTests := true, laidLooks := .later }
def FnRulesLessCardSaid : Prop := Claim7.holds Tryd.pinned (.plain (OpenSpec.ofChange fnRulesLessSpec)) fnRulesLessCard

/-- THE TIED CARD OF 'laws.FnExactSolveFirst'. -/
def fnExactSolveFirstCard : Claim7 := { stood := { row := fnExactSolveFirstRow, standIns := [], harness := (true, "21c3428589365ee92ebee80b6b43dcf43b1bba28fffac17f2cde1211e379bcbb"), looks := false }, kinds := [], alts := [], laidByText := true, laidKinds := [.data], laidTests := true, laidLooks := .later }
def FnExactSolveFirstCardSaid : Prop := Claim7.holds Tryd.pinned (.plain (OpenSpec.ofChange fnExactSolveFirstSpec)) fnExactSolveFirstCard

/-- THE TIED CARD OF 'laws.FnExactCountSolutions'. -/
def fnExactCountSolutionsCard : Claim7 := { stood := { row := fnExactCountSolutionsRow, standIns := [], harness := (true, "21c3428589365ee92ebee80b6b43dcf43b1bba28fffac17f2cde1211e379bcbb"), looks := false }, kinds := [], alts := [], laidByText := true, laidKinds := [.data], laidTests := true, laidLooks := .later }
def FnExactCountSolutionsCardSaid : Prop := Claim7.holds Tryd.pinned (.plain (OpenSpec.ofChange fnExactCountSolutionsSpec)) fnExactCountSolutionsCard

/-- THE TIED CARD OF 'laws.FnExactNarrowRules'. -/
def fnExactNarrowRulesCard : Claim7 := { stood := { row := fnExactNarrowRulesRow, standIns := [], harness := (true, "21c3428589365ee92ebee80b6b43dcf43b1bba28fffac17f2cde1211e379bcbb"), looks := false }, kinds := [], alts := [], laidByText := true, laidKinds := [.data, .data], laidTests := true, laidLooks := .later }
def FnExactNarrowRulesCardSaid : Prop := Claim7.holds Tryd.pinned (.plain (OpenSpec.ofChange fnExactNarrowRulesSpec)) fnExactNarrowRulesCard

/-- THE TIED CARD OF 'laws.FnExactNarrowBy'. -/
def fnExactNarrowByCard : Claim7 := { stood := { row := fnExactNarrowByRow, standIns := [], harness := (true, "21c3428589365ee92ebee80b6b43dcf43b1bba28fffac17f2cde1211e379bcbb"), looks := false }, kinds := [], alts := [], laidByText := true, laidKinds := [.data, .data], laidTests := true, laidLooks := .later }
def FnExactNarrowByCardSaid : Prop := Claim7.holds Tryd.pinned (.plain (OpenSpec.ofChange fnExactNarrowBySpec)) fnExactNarrowByCard

/-- THE TIED CARD OF 'laws.FnExactNarrowAll'. -/
def fnExactNarrowAllCard : Claim7 := { stood := { row := fnExactNarrowAllRow, standIns := [], harness := (true, "21c3428589365ee92ebee80b6b43dcf43b1bba28fffac17f2cde1211e379bcbb"), looks := false }, kinds := [], alts := [], laidByText := true, laidKinds := [.data, .data], laidTests := true, laidLooks := .later }
def FnExactNarrowAllCardSaid : Prop := Claim7.holds Tryd.pinned (.plain (OpenSpec.ofChange fnExactNarrowAllSpec)) fnExactNarrowAllCard

/-- THE SECOND FORM's CARD OF 'laws.FnStartMasks'. -/
def fnStartMasksUptoCard : Claim7 := { stood := { row := fnStartMasksUptoRow, standIns := [], harness := (true, "21c3428589365ee92ebee80b6b43dcf43b1bba28fffac17f2cde1211e379bcbb"), looks := false }, kinds := [], alts := [], laidByText := true, laidKinds := [.data], laidTests := true, laidLooks := .later }
def FnStartMasksUptoCardSaid : Prop := Claim7.holds Tryd.pinned (.plain (OpenSpec.upto fnStartMasksSpec)) fnStartMasksUptoCard

/-- THE SECOND FORM's CARD OF 'laws.FnRulesLess'. -/
def fnRulesLessUptoCard : Claim7 := { stood := { row := fnRulesLessUptoRow, standIns := [], harness := (true, "21c3428589365ee92ebee80b6b43dcf43b1bba28fffac17f2cde1211e379bcbb"), looks := false }, kinds := [], alts := [], laidByText := true, laidKinds := [.data], laidTests := true, laidLooks := .later }
def FnRulesLessUptoCardSaid : Prop := Claim7.holds Tryd.pinned (.plain (OpenSpec.upto fnRulesLessSpec)) fnRulesLessUptoCard

/-- THE SECOND FORM's CARD OF 'laws.FnExactSolveFirst'. -/
def fnExactSolveFirstUptoCard : Claim7 := { stood := { row := fnExactSolveFirstUptoRow, standIns := [], harness := (true, "21c3428589365ee92ebee80b6b43dcf43b1bba28fffac17f2cde1211e379bcbb"), looks := false }, kinds := [], alts := [], laidByText := true, laidKinds := [.data], laidTests := true, laidLooks := .later }
def FnExactSolveFirstUptoCardSaid : Prop := Claim7.holds Tryd.pinned (.plain (OpenSpec.upto fnExactSolveFirstSpec)) fnExactSolveFirstUptoCard

/-- THE SECOND FORM's CARD OF 'laws.FnExactCountSolutions'. -/
def fnExactCountSolutionsUptoCard : Claim7 := { stood := { row := fnExactCountSolutionsUptoRow, standIns := [], harness := (true, "21c3428589365ee92ebee80b6b43dcf43b1bba28fffac17f2cde1211e379bcbb"), looks := false }, kinds := [], alts := [], laidByText := true, laidKinds := [.data], laidTests := true, laidLooks := .later }
def FnExactCountSolutionsUptoCardSaid : Prop := Claim7.holds Tryd.pinned (.plain (OpenSpec.upto fnExactCountSolutionsSpec)) fnExactCountSolutionsUptoCard

/-- THE SECOND FORM's CARD OF 'laws.FnExactNarrowRules'. -/
def fnExactNarrowRulesUptoCard : Claim7 := { stood := { row := fnExactNarrowRulesUptoRow, standIns := [], harness := (true, "21c3428589365ee92ebee80b6b43dcf43b1bba28fffac17f2cde1211e379bcbb"), looks := false }, kinds := [], alts := [], laidByText := true, laidKinds := [.data, .data], laidTests := true, laidLooks := .later }
def FnExactNarrowRulesUptoCardSaid : Prop := Claim7.holds Tryd.pinned (.plain (OpenSpec.upto fnExactNarrowRulesSpec)) fnExactNarrowRulesUptoCard

/-- THE SECOND FORM's CARD OF 'laws.FnExactNarrowBy'. -/
def fnExactNarrowByUptoCard : Claim7 := { stood := { row := fnExactNarrowByUptoRow, standIns := [], harness := (true, "21c3428589365ee92ebee80b6b43dcf43b1bba28fffac17f2cde1211e379bcbb"), looks := false }, kinds := [], alts := [], laidByText := true, laidKinds := [.data, .data], laidTests := true, laidLooks := .later }
def FnExactNarrowByUptoCardSaid : Prop := Claim7.holds Tryd.pinned (.plain (OpenSpec.upto fnExactNarrowBySpec)) fnExactNarrowByUptoCard

/-- THE SECOND FORM's CARD OF 'laws.FnExactNarrowAll'. -/
def fnExactNarrowAllUptoCard : Claim7 := { stood := { row := fnExactNarrowAllUptoRow, standIns := [], harness := (true, "21c3428589365ee92ebee80b6b43dcf43b1bba28fffac17f2cde1211e379bcbb"), looks := false }, kinds := [], alts := [], laidByText := true, laidKinds := [.data, .data], laidTests := true, laidLooks := .later }
def FnExactNarrowAllUptoCardSaid : Prop := Claim7.holds Tryd.pinned (.plain (OpenSpec.upto fnExactNarrowAllSpec)) fnExactNarrowAllUptoCard
end Rows
end Go.Proofs.YtjdhfknoldginaaDoor
