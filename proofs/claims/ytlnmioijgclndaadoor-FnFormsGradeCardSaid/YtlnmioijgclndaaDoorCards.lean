/-
  DERIVED. GIVEN WITH THE SEED: THE CARDS: each row of YtlnmioijgclndaaDoorRows.lean that lists a variable, with what it lists TIED to the program's text (the seventh form; the later family's looks); each row that meets fmt, with fmt's text TOLD by the authors' own Lean function (tested against real Go, not proved from fmt's source: count such statements apart). THE CARD IS WHAT COUNTS. Prove the row's statement (the work); the ties are given (YtlnmioijgclndaaDoorTie.lean); close each card by the builder's one call (the guide's Derived/Test/ToyasCard.lean, 'card_holds'). Laid BY PROGRAM, IN A SANDBOX (cutbox-door.mjs). By AI agents, Wed Nov 11 2026. No macro, syntax, notation, axiom, sorry.
-/
import Derived.Test.YtlnmioijgclndaaDoorRows
import GoSem.ClaimSeven
namespace Go.Proofs.YtlnmioijgclndaaDoor
namespace Rows

/-- THE TIED CARD OF 'laws.FnFormsGrade'. -/
def fnFormsGradeCard : Claim7 := { stood := { row := fnFormsGradeRow, standIns := [], harness := (true, "2312c2f06f3dcedbd2c9fa49b8dba438c2d86fd86ebec930fcdb00675d7d97da"), looks := false }, kinds := [], alts := [], laidByText := true, laidKinds := [.data], laidTests := true, laidLooks := .later }
def FnFormsGradeCardSaid : Prop := Claim7.holds Tryd.pinned (.plain (OpenSpec.ofChange fnFormsGradeSpec)) fnFormsGradeCard

/-- THE SECOND FORM's CARD OF 'laws.FnFormsGrade'. -/
def fnFormsGradeUptoCard : Claim7 := { stood := { row := fnFormsGradeUptoRow, standIns := [], harness := (true, "2312c2f06f3dcedbd2c9fa49b8dba438c2d86fd86ebec930fcdb00675d7d97da"), looks := false }, kinds := [], alts := [], laidByText := true, laidKinds := [.data], laidTests := true, laidLooks := .later }
def FnFormsGradeUptoCardSaid : Prop := Claim7.holds Tryd.pinned (.plain (OpenSpec.upto fnFormsGradeSpec)) fnFormsGradeUptoCard
end Rows
end Go.Proofs.YtlnmioijgclndaaDoor
