/-
  DERIVED. GIVEN WITH THE SEED: THE CARDS: each row of YtmnacejmkjhpnaaDoorRows.lean that lists a variable, with what it lists TIED to the program's text (the seventh form; the later family's looks); each row that meets fmt, with fmt's text TOLD by the authors' own Lean function (tested against real Go, not proved from fmt's source: count such statements apart). THE CARD IS WHAT COUNTS. Prove the row's statement (the work); the ties are given (YtmnacejmkjhpnaaDoorTie.lean); close each card by the builder's one call (the guide's Derived/Test/ToyasCard.lean, 'card_holds'). Laid BY PROGRAM, IN A SANDBOX (cutbox-door.mjs). By AI agents, Wed Nov 11 2026. No macro, syntax, notation, axiom, sorry.
-/
import Derived.Test.YtmnacejmkjhpnaaDoorRows
import GoSem.ClaimSeven
namespace Go.Proofs.YtmnacejmkjhpnaaDoor
namespace Rows

/-- THE TIED CARD OF 'laws.FnExactMasksGrid'. -/
def fnExactMasksGridCard : Claim7 := { stood := { row := fnExactMasksGridRow, standIns := [], harness := (true, "45fda4e9bc12965eafb2e8c3db38e36b84ba44447e9f84682ebe67ff439e2467"), looks := false }, kinds := [], alts := [], laidByText := true, laidKinds := [.data, .data], laidTests := true, laidLooks := .later }
def FnExactMasksGridCardSaid : Prop := Claim7.holds Tryd.pinned (.plain (OpenSpec.ofChange fnExactMasksGridSpec)) fnExactMasksGridCard

/-- THE SECOND FORM's CARD OF 'laws.FnExactMasksGrid'. -/
def fnExactMasksGridUptoCard : Claim7 := { stood := { row := fnExactMasksGridUptoRow, standIns := [], harness := (true, "45fda4e9bc12965eafb2e8c3db38e36b84ba44447e9f84682ebe67ff439e2467"), looks := false }, kinds := [], alts := [], laidByText := true, laidKinds := [.data, .data], laidTests := true, laidLooks := .later }
def FnExactMasksGridUptoCardSaid : Prop := Claim7.holds Tryd.pinned (.plain (OpenSpec.upto fnExactMasksGridSpec)) fnExactMasksGridUptoCard
end Rows
end Go.Proofs.YtmnacejmkjhpnaaDoor
