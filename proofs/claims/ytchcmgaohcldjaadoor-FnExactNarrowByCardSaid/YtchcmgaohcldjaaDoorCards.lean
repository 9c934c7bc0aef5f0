/-
  DERIVED. GIVEN WITH THE SEED: THE CARDS: each row of YtchcmgaohcldjaaDoorRows.lean that lists a variable, with what it lists TIED to the program's text (the seventh form; the later family's looks); each row that meets fmt, with fmt's text TOLD by the authors' own Lean function (tested against real Go, not proved from fmt's source: count such statements apart). THE CARD IS WHAT COUNTS. Prove the row's statement (the work); the ties are given (YtchcmgaohcldjaaDoorTie.lean); close each card by the builder's one call (the guide's Derived/Test/ToyasCard.lean, 'card_holds'). Laid BY PROGRAM, IN A SANDBOX (cutbox-door.mjs). By AI agents, Wed Nov 11 2026. No macro, syntax, notation, axiom, sorry.
-/
import Derived.Test.YtchcmgaohcldjaaDoorRows
import GoSem.ClaimSeven
namespace Go.Proofs.YtchcmgaohcldjaaDoor
namespace Rows

/-- THE TIED CARD OF 'laws.FnExactNarrowRules'. -/
def fnExactNarrowRulesCard : Claim7 := { stood := { row := fnExactNarrowRulesRow, standIns := [], harness := (true, "4224746dddaf517151a2d861fcf7a85021ede4223e2676dd42e4c1f655169f90"), looks := false }, kinds := [], alts := [], laidByText := true, laidKinds := [.data, .data], laidTests := true, laidLooks := .later }
def FnExactNarrowRulesCardSaid : Prop := Claim7.holds Tryd.pinned (.plain (OpenSpec.ofChange fnExactNarrowRulesSpec)) fnExactNarrowRulesCard

/-- THE TIED CARD OF 'laws.FnExactNarrowBy'. -/
def fnExactNarrowByCard : Claim7 := { stood := { row := fnExactNarrowByRow, standIns := [], harness := (true, "4224746dddaf517151a2d861fcf7a85021ede4223e2676dd42e4c1f655169f90"), looks := false }, kinds := [], alts := [], laidByText := true, laidKinds := [.data, .data], laidTests := true, laidLooks := .later }
def FnExactNarrowByCardSaid : Prop := Claim7.holds Tryd.pinned (.plain (OpenSpec.ofChange fnExactNarrowBySpec)) fnExactNarrowByCard

/-- THE SECOND FORM's CARD OF 'laws.FnExactNarrowRules'. -/
def fnExactNarrowRulesUptoCard : Claim7 := { stood := { row := fnExactNarrowRulesUptoRow, standIns := [], harness := (true, "4224746dddaf517151a2d861fcf7a85021ede4223e2676dd42e4c1f655169f90"), looks := false }, kinds := [], alts := [], laidByText := true, laidKinds := [.data, .data], laidTests := true, laidLooks := .later }
def FnExactNarrowRulesUptoCardSaid : Prop := Claim7.holds Tryd.pinned (.plain (OpenSpec.upto fnExactNarrowRulesSpec)) fnExactNarrowRulesUptoCard

/-- THE SECOND FORM's CARD OF 'laws.FnExactNarrowBy'. -/
def fnExactNarrowByUptoCard : Claim7 := { stood := { row := fnExactNarrowByUptoRow, standIns := [], harness := (true, "4224746dddaf517151a2d861fcf7a85021ede4223e2676dd42e4c1f655169f90"), looks := false }, kinds := [], alts := [], laidByText := true, laidKinds := [.data, .data], laidTests := true, laidLooks := .later }
def FnExactNarrowByUptoCardSaid : Prop := Claim7.holds Tryd.pinned (.plain (OpenSpec.upto fnExactNarrowBySpec)) fnExactNarrowByUptoCard
end Rows
end Go.Proofs.YtchcmgaohcldjaaDoor
