/-
  NARROWER THAN 'FOR EVERY INPUT', by the rows' own cells (each row's printed sentence says how): FnCountSolutions: laid · FnSolveFirst: laid · FnGradePuzzle: laid · FnExactGradePuzzle: laid · FnPuzzleOf: laid · FnSolveSteps: laid · FnStepMasks: laid · FnTechniqueCounts: laid · FnEasySteps: laid · FnExactSolveSteps: laid · FnExactStepMasks: laid · FnExactTechniqueCounts: laid.
  DERIVED. THE GIVEN ROWS OF THIS SEAT. 12 by the template 'for every input the law returns true; each argument reads behind the call as it read before'; 0 by the template 'total and deterministic' (their statements: YtkeoflnmbcdmfaaGreatDoorTotals.lean).
  GIVEN WITH THE SEED: the statements are not yours to turn. If you find one false, say at which input.
  Laid BY PROGRAM, IN A SANDBOX (cutbox-rows.mjs): the forced cells as the released guide's own fill.sh prints them over the translation e72329b5ed0c2aec… (all of the seat's roots in one cut). By AI agents, Wed Nov 11 2026. No macro, syntax, notation, axiom, sorry.
-/
import Derived.Test.YtkeoflnmbcdmfaaGreatDoorChecked
import GoSem.Claim
import GoSem.ClaimJoined
import GoSem.ClaimMapViews
import Derived.JoinedTies
import Derived.KernelRfl
namespace Go.Proofs.YtkeoflnmbcdmfaaGreatDoor
/- THE CELL 'sum', in the pinned program and in every row, IS THE sha256 OF THE DUMP (.gsa) THAT YtkeoflnmbcdmfaaGreatDoorProg.lean LOADS. Nothing in Lean hashes anything: it is a label: what it is worth is what the hold of that sum in a sandbox is worth. -/
noncomputable def Tryz.pinned : Pinned := { name := "ytkeoflnmbcdmfaagreatdoor", sum := "e72329b5ed0c2aec1498d2ca8fc2fa1c822281b8b2a9106f78f9154b8775fecd", checked := Tryz.checked }
namespace Rows
def none {H : Type} : Left H := { results := [], args := [] }

/- WHAT THE LISTED PACKAGE-LEVEL VARIABLES READ AS WHEN THE CALL BEGINS. Each datum BY PROGRAM (the guide's laid-datum.mjs) off the statement by which the dump's own 'gosem.cut.vars' lays the variable. In a bare row this is a premise. The card (YtkeoflnmbcdmfaaGreatDoorCards.lean) ties it to the program's text. -/
def laid_math_bits_deBruijn64tab {H : Type} : DataW H := .agg [.lit (.int .u8 0), .lit (.int .u8 1), .lit (.int .u8 56), .lit (.int .u8 2), .lit (.int .u8 57), .lit (.int .u8 49), .lit (.int .u8 28), .lit (.int .u8 3), .lit (.int .u8 61), .lit (.int .u8 58), .lit (.int .u8 42), .lit (.int .u8 50), .lit (.int .u8 38), .lit (.int .u8 29), .lit (.int .u8 17), .lit (.int .u8 4), .lit (.int .u8 62), .lit (.int .u8 47), .lit (.int .u8 59), .lit (.int .u8 36), .lit (.int .u8 45), .lit (.int .u8 43), .lit (.int .u8 51), .lit (.int .u8 22), .lit (.int .u8 53), .lit (.int .u8 39), .lit (.int .u8 33), .lit (.int .u8 30), .lit (.int .u8 24), .lit (.int .u8 18), .lit (.int .u8 12), .lit (.int .u8 5), .lit (.int .u8 63), .lit (.int .u8 55), .lit (.int .u8 48), .lit (.int .u8 27), .lit (.int .u8 60), .lit (.int .u8 41), .lit (.int .u8 37), .lit (.int .u8 16), .lit (.int .u8 46), .lit (.int .u8 35), .lit (.int .u8 44), .lit (.int .u8 21), .lit (.int .u8 52), .lit (.int .u8 32), .lit (.int .u8 23), .lit (.int .u8 11), .lit (.int .u8 54), .lit (.int .u8 26), .lit (.int .u8 40), .lit (.int .u8 15), .lit (.int .u8 34), .lit (.int .u8 20), .lit (.int .u8 31), .lit (.int .u8 10), .lit (.int .u8 25), .lit (.int .u8 14), .lit (.int .u8 19), .lit (.int .u8 9), .lit (.int .u8 13), .lit (.int .u8 8), .lit (.int .u8 7), .lit (.int .u8 6)]
def laid_math_bits_deBruijn32tab {H : Type} : DataW H := .agg [.lit (.int .u8 0), .lit (.int .u8 1), .lit (.int .u8 28), .lit (.int .u8 2), .lit (.int .u8 29), .lit (.int .u8 14), .lit (.int .u8 24), .lit (.int .u8 3), .lit (.int .u8 30), .lit (.int .u8 22), .lit (.int .u8 20), .lit (.int .u8 15), .lit (.int .u8 25), .lit (.int .u8 17), .lit (.int .u8 4), .lit (.int .u8 8), .lit (.int .u8 31), .lit (.int .u8 27), .lit (.int .u8 13), .lit (.int .u8 23), .lit (.int .u8 21), .lit (.int .u8 19), .lit (.int .u8 16), .lit (.int .u8 7), .lit (.int .u8 26), .lit (.int .u8 12), .lit (.int .u8 18), .lit (.int .u8 6), .lit (.int .u8 11), .lit (.int .u8 5), .lit (.int .u8 10), .lit (.int .u8 9)]

/-- 'laws.FnCountSolutions': WHATEVER THE INPUT: true; the input reads as it did. -/
def fnCountSolutionsSpec : ChangeSpec := { name := "fnCountSolutions", fn := fun _ => fun
  | [d] => { results := [.lit (.bool true)], args := [d] }
  | _ => none }
def fnCountSolutionsRow : OpenClaim := { program := "ytkeoflnmbcdmfaagreatdoor", sum := "e72329b5ed0c2aec1498d2ca8fc2fa1c822281b8b2a9106f78f9154b8775fecd", func := "loop.example/gridpuzzles/laws.FnCountSolutions", spec := "fnCountSolutions", unfollowed := true, recurses := true, named := ["math/bits.deBruijn64tab"], apart := false, laid := [("math/bits.deBruijn64tab", laid_math_bits_deBruijn64tab)] }
def FnCountSolutionsSaid : Prop := fnCountSolutionsRow.holds Tryz.pinned (OpenSpec.ofChange fnCountSolutionsSpec)

/-- ITS FALSE NEIGHBOUR: 'it returns false'. Refute it at one input. -/
def fnCountSolutionsWrong : ChangeSpec := { name := "fnCountSolutions", fn := fun _ => fun
  | [d] => { results := [.lit (.bool false)], args := [d] }
  | _ => none }
def FnCountSolutionsWrongFalsely : Prop := fnCountSolutionsRow.holds Tryz.pinned (OpenSpec.ofChange fnCountSolutionsWrong)

/-- 'laws.FnSolveFirst': WHATEVER THE INPUT: true; the input reads as it did. -/
def fnSolveFirstSpec : ChangeSpec := { name := "fnSolveFirst", fn := fun _ => fun
  | [d] => { results := [.lit (.bool true)], args := [d] }
  | _ => none }
def fnSolveFirstRow : OpenClaim := { program := "ytkeoflnmbcdmfaagreatdoor", sum := "e72329b5ed0c2aec1498d2ca8fc2fa1c822281b8b2a9106f78f9154b8775fecd", func := "loop.example/gridpuzzles/laws.FnSolveFirst", spec := "fnSolveFirst", unfollowed := true, recurses := true, named := ["math/bits.deBruijn64tab"], apart := false, laid := [("math/bits.deBruijn64tab", laid_math_bits_deBruijn64tab)] }
def FnSolveFirstSaid : Prop := fnSolveFirstRow.holds Tryz.pinned (OpenSpec.ofChange fnSolveFirstSpec)

/-- ITS FALSE NEIGHBOUR: 'it returns false'. Refute it at one input. -/
def fnSolveFirstWrong : ChangeSpec := { name := "fnSolveFirst", fn := fun _ => fun
  | [d] => { results := [.lit (.bool false)], args := [d] }
  | _ => none }
def FnSolveFirstWrongFalsely : Prop := fnSolveFirstRow.holds Tryz.pinned (OpenSpec.ofChange fnSolveFirstWrong)

/-- 'laws.FnGradePuzzle': WHATEVER THE INPUT: true; the input reads as it did. -/
def fnGradePuzzleSpec : ChangeSpec := { name := "fnGradePuzzle", fn := fun _ => fun
  | [d] => { results := [.lit (.bool true)], args := [d] }
  | _ => none }
def fnGradePuzzleRow : OpenClaim := { program := "ytkeoflnmbcdmfaagreatdoor", sum := "e72329b5ed0c2aec1498d2ca8fc2fa1c822281b8b2a9106f78f9154b8775fecd", func := "loop.example/gridpuzzles/laws.FnGradePuzzle", spec := "fnGradePuzzle", unfollowed := true, recurses := true, named := ["math/bits.deBruijn64tab", "math/bits.deBruijn32tab"], apart := false, laid := [("math/bits.deBruijn32tab", laid_math_bits_deBruijn32tab), ("math/bits.deBruijn64tab", laid_math_bits_deBruijn64tab)] }
def FnGradePuzzleSaid : Prop := fnGradePuzzleRow.holds Tryz.pinned (OpenSpec.ofChange fnGradePuzzleSpec)

/-- ITS FALSE NEIGHBOUR: 'it returns false'. Refute it at one input. -/
def fnGradePuzzleWrong : ChangeSpec := { name := "fnGradePuzzle", fn := fun _ => fun
  | [d] => { results := [.lit (.bool false)], args := [d] }
  | _ => none }
def FnGradePuzzleWrongFalsely : Prop := fnGradePuzzleRow.holds Tryz.pinned (OpenSpec.ofChange fnGradePuzzleWrong)

/-- 'laws.FnExactGradePuzzle': WHATEVER THE INPUT: true; the input reads as it did. -/
def fnExactGradePuzzleSpec : ChangeSpec := { name := "fnExactGradePuzzle", fn := fun _ => fun
  | [d] => { results := [.lit (.bool true)], args := [d] }
  | _ => none }
def fnExactGradePuzzleRow : OpenClaim := { program := "ytkeoflnmbcdmfaagreatdoor", sum := "e72329b5ed0c2aec1498d2ca8fc2fa1c822281b8b2a9106f78f9154b8775fecd", func := "loop.example/gridpuzzles/laws.FnExactGradePuzzle", spec := "fnExactGradePuzzle", unfollowed := true, recurses := true, named := ["math/bits.deBruijn64tab", "math/bits.deBruijn32tab"], apart := false, laid := [("math/bits.deBruijn32tab", laid_math_bits_deBruijn32tab), ("math/bits.deBruijn64tab", laid_math_bits_deBruijn64tab)] }
def FnExactGradePuzzleSaid : Prop := fnExactGradePuzzleRow.holds Tryz.pinned (OpenSpec.ofChange fnExactGradePuzzleSpec)

/-- ITS FALSE NEIGHBOUR: 'it returns false'. Refute it at one input. -/
def fnExactGradePuzzleWrong : ChangeSpec := { name := "fnExactGradePuzzle", fn := fun _ => fun
  | [d] => { results := [.lit (.bool false)], args := [d] }
  | _ => none }
def FnExactGradePuzzleWrongFalsely : Prop := fnExactGradePuzzleRow.holds Tryz.pinned (OpenSpec.ofChange fnExactGradePuzzleWrong)

/-- 'laws.FnPuzzleOf': WHATEVER THE INPUT: true; the input reads as it did. -/
def fnPuzzleOfSpec : ChangeSpec := { name := "fnPuzzleOf", fn := fun _ => fun
  | [d] => { results := [.lit (.bool true)], args := [d] }
  | _ => none }
def fnPuzzleOfRow : OpenClaim := { program := "ytkeoflnmbcdmfaagreatdoor", sum := "e72329b5ed0c2aec1498d2ca8fc2fa1c822281b8b2a9106f78f9154b8775fecd", func := "loop.example/gridpuzzles/laws.FnPuzzleOf", spec := "fnPuzzleOf", unfollowed := true, recurses := true, named := ["math/bits.deBruijn64tab", "math/bits.deBruijn32tab"], apart := false, laid := [("math/bits.deBruijn32tab", laid_math_bits_deBruijn32tab), ("math/bits.deBruijn64tab", laid_math_bits_deBruijn64tab)] }
def FnPuzzleOfSaid : Prop := fnPuzzleOfRow.holds Tryz.pinned (OpenSpec.ofChange fnPuzzleOfSpec)

/-- ITS FALSE NEIGHBOUR: 'it returns false'. Refute it at one input. -/
def fnPuzzleOfWrong : ChangeSpec := { name := "fnPuzzleOf", fn := fun _ => fun
  | [d] => { results := [.lit (.bool false)], args := [d] }
  | _ => none }
def FnPuzzleOfWrongFalsely : Prop := fnPuzzleOfRow.holds Tryz.pinned (OpenSpec.ofChange fnPuzzleOfWrong)

/-- 'laws.FnSolveSteps': WHATEVER THE INPUT: true; the input reads as it did. -/
def fnSolveStepsSpec : ChangeSpec := { name := "fnSolveSteps", fn := fun _ => fun
  | [d] => { results := [.lit (.bool true)], args := [d] }
  | _ => none }
def fnSolveStepsRow : OpenClaim := { program := "ytkeoflnmbcdmfaagreatdoor", sum := "e72329b5ed0c2aec1498d2ca8fc2fa1c822281b8b2a9106f78f9154b8775fecd", func := "loop.example/gridpuzzles/laws.FnSolveSteps", spec := "fnSolveSteps", unfollowed := true, recurses := true, named := ["math/bits.deBruijn32tab", "math/bits.deBruijn64tab"], apart := false, laid := [("math/bits.deBruijn32tab", laid_math_bits_deBruijn32tab), ("math/bits.deBruijn64tab", laid_math_bits_deBruijn64tab)] }
def FnSolveStepsSaid : Prop := fnSolveStepsRow.holds Tryz.pinned (OpenSpec.ofChange fnSolveStepsSpec)

/-- ITS FALSE NEIGHBOUR: 'it returns false'. Refute it at one input. -/
def fnSolveStepsWrong : ChangeSpec := { name := "fnSolveSteps", fn := fun _ => fun
  | [d] => { results := [.lit (.bool false)], args := [d] }
  | _ => none }
def FnSolveStepsWrongFalsely : Prop := fnSolveStepsRow.holds Tryz.pinned (OpenSpec.ofChange fnSolveStepsWrong)

/-- 'laws.FnStepMasks': WHATEVER THE INPUT: true; the input reads as it did. -/
def fnStepMasksSpec : ChangeSpec := { name := "fnStepMasks", fn := fun _ => fun
  | [d] => { results := [.lit (.bool true)], args := [d] }
  | _ => none }
def fnStepMasksRow : OpenClaim := { program := "ytkeoflnmbcdmfaagreatdoor", sum := "e72329b5ed0c2aec1498d2ca8fc2fa1c822281b8b2a9106f78f9154b8775fecd", func := "loop.example/gridpuzzles/laws.FnStepMasks", spec := "fnStepMasks", unfollowed := true, recurses := true, named := ["math/bits.deBruijn32tab", "math/bits.deBruijn64tab"], apart := false, laid := [("math/bits.deBruijn32tab", laid_math_bits_deBruijn32tab), ("math/bits.deBruijn64tab", laid_math_bits_deBruijn64tab)] }
def FnStepMasksSaid : Prop := fnStepMasksRow.holds Tryz.pinned (OpenSpec.ofChange fnStepMasksSpec)

/-- ITS FALSE NEIGHBOUR: 'it returns false'. Refute it at one input. -/
def fnStepMasksWrong : ChangeSpec := { name := "fnStepMasks", fn := fun _ => fun
  | [d] => { results := [.lit (.bool false)], args := [d] }
  | _ => none }
def FnStepMasksWrongFalsely : Prop := fnStepMasksRow.holds Tryz.pinned (OpenSpec.ofChange fnStepMasksWrong)

/-- 'laws.FnTechniqueCounts': WHATEVER THE INPUT: true; the input reads as it did. -/
def fnTechniqueCountsSpec : ChangeSpec := { name := "fnTechniqueCounts", fn := fun _ => fun
  | [d] => { results := [.lit (.bool true)], args := [d] }
  | _ => none }
def fnTechniqueCountsRow : OpenClaim := { program := "ytkeoflnmbcdmfaagreatdoor", sum := "e72329b5ed0c2aec1498d2ca8fc2fa1c822281b8b2a9106f78f9154b8775fecd", func := "loop.example/gridpuzzles/laws.FnTechniqueCounts", spec := "fnTechniqueCounts", unfollowed := true, recurses := true, named := ["math/bits.deBruijn32tab", "math/bits.deBruijn64tab"], apart := false, laid := [("math/bits.deBruijn32tab", laid_math_bits_deBruijn32tab), ("math/bits.deBruijn64tab", laid_math_bits_deBruijn64tab)] }
def FnTechniqueCountsSaid : Prop := fnTechniqueCountsRow.holds Tryz.pinned (OpenSpec.ofChange fnTechniqueCountsSpec)

/-- ITS FALSE NEIGHBOUR: 'it returns false'. Refute it at one input. -/
def fnTechniqueCountsWrong : ChangeSpec := { name := "fnTechniqueCounts", fn := fun _ => fun
  | [d] => { results := [.lit (.bool false)], args := [d] }
  | _ => none }
def FnTechniqueCountsWrongFalsely : Prop := fnTechniqueCountsRow.holds Tryz.pinned (OpenSpec.ofChange fnTechniqueCountsWrong)

/-- 'laws.FnEasySteps': WHATEVER THE INPUT: true; the input reads as it did. -/
def fnEasyStepsSpec : ChangeSpec := { name := "fnEasySteps", fn := fun _ => fun
  | [d] => { results := [.lit (.bool true)], args := [d] }
  | _ => none }
def fnEasyStepsRow : OpenClaim := { program := "ytkeoflnmbcdmfaagreatdoor", sum := "e72329b5ed0c2aec1498d2ca8fc2fa1c822281b8b2a9106f78f9154b8775fecd", func := "loop.example/gridpuzzles/laws.FnEasySteps", spec := "fnEasySteps", unfollowed := true, recurses := true, named := ["math/bits.deBruijn32tab", "math/bits.deBruijn64tab"], apart := false, laid := [("math/bits.deBruijn32tab", laid_math_bits_deBruijn32tab), ("math/bits.deBruijn64tab", laid_math_bits_deBruijn64tab)] }
def FnEasyStepsSaid : Prop := fnEasyStepsRow.holds Tryz.pinned (OpenSpec.ofChange fnEasyStepsSpec)

/-- ITS FALSE NEIGHBOUR: 'it returns false'. Refute it at one input. -/
def fnEasyStepsWrong : ChangeSpec := { name := "fnEasySteps", fn := fun _ => fun
  | [d] => { results := [.lit (.bool false)], args := [d] }
  | _ => none }
def FnEasyStepsWrongFalsely : Prop := fnEasyStepsRow.holds Tryz.pinned (OpenSpec.ofChange fnEasyStepsWrong)

/-- 'laws.FnExactSolveSteps': WHATEVER THE INPUT: true; the input reads as it did. -/
def fnExactSolveStepsSpec : ChangeSpec := { name := "fnExactSolveSteps", fn := fun _ => fun
  | [d1, d2] => { results := [.lit (.bool true)], args := [d1, d2] }
  | _ => none }
def fnExactSolveStepsRow : OpenClaim := { program := "ytkeoflnmbcdmfaagreatdoor", sum := "e72329b5ed0c2aec1498d2ca8fc2fa1c822281b8b2a9106f78f9154b8775fecd", func := "loop.example/gridpuzzles/laws.FnExactSolveSteps", spec := "fnExactSolveSteps", unfollowed := true, recurses := true, named := ["math/bits.deBruijn32tab", "math/bits.deBruijn64tab"], apart := false, laid := [("math/bits.deBruijn32tab", laid_math_bits_deBruijn32tab), ("math/bits.deBruijn64tab", laid_math_bits_deBruijn64tab)] }
def FnExactSolveStepsSaid : Prop := fnExactSolveStepsRow.holds Tryz.pinned (OpenSpec.ofChange fnExactSolveStepsSpec)

/-- ITS FALSE NEIGHBOUR: 'it returns false'. Refute it at one input. -/
def fnExactSolveStepsWrong : ChangeSpec := { name := "fnExactSolveSteps", fn := fun _ => fun
  | [d1, d2] => { results := [.lit (.bool false)], args := [d1, d2] }
  | _ => none }
def FnExactSolveStepsWrongFalsely : Prop := fnExactSolveStepsRow.holds Tryz.pinned (OpenSpec.ofChange fnExactSolveStepsWrong)

/-- 'laws.FnExactStepMasks': WHATEVER THE INPUT: true; the input reads as it did. -/
def fnExactStepMasksSpec : ChangeSpec := { name := "fnExactStepMasks", fn := fun _ => fun
  | [d1, d2] => { results := [.lit (.bool true)], args := [d1, d2] }
  | _ => none }
def fnExactStepMasksRow : OpenClaim := { program := "ytkeoflnmbcdmfaagreatdoor", sum := "e72329b5ed0c2aec1498d2ca8fc2fa1c822281b8b2a9106f78f9154b8775fecd", func := "loop.example/gridpuzzles/laws.FnExactStepMasks", spec := "fnExactStepMasks", unfollowed := true, recurses := true, named := ["math/bits.deBruijn32tab", "math/bits.deBruijn64tab"], apart := false, laid := [("math/bits.deBruijn32tab", laid_math_bits_deBruijn32tab), ("math/bits.deBruijn64tab", laid_math_bits_deBruijn64tab)] }
def FnExactStepMasksSaid : Prop := fnExactStepMasksRow.holds Tryz.pinned (OpenSpec.ofChange fnExactStepMasksSpec)

/-- ITS FALSE NEIGHBOUR: 'it returns false'. Refute it at one input. -/
def fnExactStepMasksWrong : ChangeSpec := { name := "fnExactStepMasks", fn := fun _ => fun
  | [d1, d2] => { results := [.lit (.bool false)], args := [d1, d2] }
  | _ => none }
def FnExactStepMasksWrongFalsely : Prop := fnExactStepMasksRow.holds Tryz.pinned (OpenSpec.ofChange fnExactStepMasksWrong)

/-- 'laws.FnExactTechniqueCounts': WHATEVER THE INPUT: true; the input reads as it did. -/
def fnExactTechniqueCountsSpec : ChangeSpec := { name := "fnExactTechniqueCounts", fn := fun _ => fun
  | [d] => { results := [.lit (.bool true)], args := [d] }
  | _ => none }
def fnExactTechniqueCountsRow : OpenClaim := { program := "ytkeoflnmbcdmfaagreatdoor", sum := "e72329b5ed0c2aec1498d2ca8fc2fa1c822281b8b2a9106f78f9154b8775fecd", func := "loop.example/gridpuzzles/laws.FnExactTechniqueCounts", spec := "fnExactTechniqueCounts", unfollowed := true, recurses := true, named := ["math/bits.deBruijn32tab", "math/bits.deBruijn64tab"], apart := false, laid := [("math/bits.deBruijn32tab", laid_math_bits_deBruijn32tab), ("math/bits.deBruijn64tab", laid_math_bits_deBruijn64tab)] }
def FnExactTechniqueCountsSaid : Prop := fnExactTechniqueCountsRow.holds Tryz.pinned (OpenSpec.ofChange fnExactTechniqueCountsSpec)

/-- ITS FALSE NEIGHBOUR: 'it returns false'. Refute it at one input. -/
def fnExactTechniqueCountsWrong : ChangeSpec := { name := "fnExactTechniqueCounts", fn := fun _ => fun
  | [d] => { results := [.lit (.bool false)], args := [d] }
  | _ => none }
def FnExactTechniqueCountsWrongFalsely : Prop := fnExactTechniqueCountsRow.holds Tryz.pinned (OpenSpec.ofChange fnExactTechniqueCountsWrong)

/- THE SECOND FORM. 'bulk': how many values and letters a reading holds, each counted each time it is reached (what is shared counts as often as it is met; a slice's spare places count too). A statement '..UptoSaid' is the law's where the arguments, and the package variables that the reading takes, are together of bulk at most 1048576: NARROWER than '..Said'. Prove '..Said' where nothing that the law and all that it calls make is longer than what came in: it says more and counts as full. Else prove '..UptoSaid'. A law counts once. -/
mutual
def uptoBulk {H : Type} : DataW H → Nat
  | .lit (.string bytes) => bytes.length + 1
  | .lit _ => 1
  | .nil => 1
  | .ptr d => uptoBulk d + 1
  | .slice elems spare => uptoBulkAll elems + uptoBulkAll spare + 1
  | .agg parts => uptoBulkAll parts + 1
  | .iface _ d => uptoBulk d + 1
  | .map entries => uptoBulkEntries entries + 1
  | .held _ => 1
def uptoBulkAll {H : Type} : List (DataW H) → Nat
  | [] => 0
  | d :: r => uptoBulk d + uptoBulkAll r
def uptoBulkEntries {H : Type} : List (Lit × DataW H) → Nat
  | [] => 0
  | x :: r => uptoBulkEntry x + uptoBulkEntries r
def uptoBulkEntry {H : Type} : Lit × DataW H → Nat
  | (.string bytes, d) => bytes.length + uptoBulk d + 1
  | (_, d) => uptoBulk d + 1
 end
def uptoSmall : (H : Type) → List (DataW H) → Bool := fun _ ds => decide (uptoBulkAll ds ≤ 1048576)
def OpenSpec.upto (s : _root_.Go.ChangeSpec) : _root_.Go.OpenSpec := { _root_.Go.OpenSpec.ofChange s with cond := some uptoSmall }

/-- 'laws.FnCountSolutions', WHERE WHAT IT READS IS OF BULK AT MOST 1048576: true; the input reads as it did. -/
def fnCountSolutionsUptoRow : OpenClaim := { program := "ytkeoflnmbcdmfaagreatdoor", sum := "e72329b5ed0c2aec1498d2ca8fc2fa1c822281b8b2a9106f78f9154b8775fecd", func := "loop.example/gridpuzzles/laws.FnCountSolutions", spec := "fnCountSolutions", unfollowed := true, recurses := true, named := ["math/bits.deBruijn64tab"], apart := false, laid := [("math/bits.deBruijn64tab", laid_math_bits_deBruijn64tab)], narrowed := true }
def FnCountSolutionsUptoSaid : Prop := fnCountSolutionsUptoRow.holds Tryz.pinned (OpenSpec.upto fnCountSolutionsSpec)

/-- 'laws.FnSolveFirst', WHERE WHAT IT READS IS OF BULK AT MOST 1048576: true; the input reads as it did. -/
def fnSolveFirstUptoRow : OpenClaim := { program := "ytkeoflnmbcdmfaagreatdoor", sum := "e72329b5ed0c2aec1498d2ca8fc2fa1c822281b8b2a9106f78f9154b8775fecd", func := "loop.example/gridpuzzles/laws.FnSolveFirst", spec := "fnSolveFirst", unfollowed := true, recurses := true, named := ["math/bits.deBruijn64tab"], apart := false, laid := [("math/bits.deBruijn64tab", laid_math_bits_deBruijn64tab)], narrowed := true }
def FnSolveFirstUptoSaid : Prop := fnSolveFirstUptoRow.holds Tryz.pinned (OpenSpec.upto fnSolveFirstSpec)

/-- 'laws.FnGradePuzzle', WHERE WHAT IT READS IS OF BULK AT MOST 1048576: true; the input reads as it did. -/
def fnGradePuzzleUptoRow : OpenClaim := { program := "ytkeoflnmbcdmfaagreatdoor", sum := "e72329b5ed0c2aec1498d2ca8fc2fa1c822281b8b2a9106f78f9154b8775fecd", func := "loop.example/gridpuzzles/laws.FnGradePuzzle", spec := "fnGradePuzzle", unfollowed := true, recurses := true, named := ["math/bits.deBruijn64tab", "math/bits.deBruijn32tab"], apart := false, laid := [("math/bits.deBruijn32tab", laid_math_bits_deBruijn32tab), ("math/bits.deBruijn64tab", laid_math_bits_deBruijn64tab)], narrowed := true }
def FnGradePuzzleUptoSaid : Prop := fnGradePuzzleUptoRow.holds Tryz.pinned (OpenSpec.upto fnGradePuzzleSpec)

/-- 'laws.FnExactGradePuzzle', WHERE WHAT IT READS IS OF BULK AT MOST 1048576: true; the input reads as it did. -/
def fnExactGradePuzzleUptoRow : OpenClaim := { program := "ytkeoflnmbcdmfaagreatdoor", sum := "e72329b5ed0c2aec1498d2ca8fc2fa1c822281b8b2a9106f78f9154b8775fecd", func := "loop.example/gridpuzzles/laws.FnExactGradePuzzle", spec := "fnExactGradePuzzle", unfollowed := true, recurses := true, named := ["math/bits.deBruijn64tab", "math/bits.deBruijn32tab"], apart := false, laid := [("math/bits.deBruijn32tab", laid_math_bits_deBruijn32tab), ("math/bits.deBruijn64tab", laid_math_bits_deBruijn64tab)], narrowed := true }
def FnExactGradePuzzleUptoSaid : Prop := fnExactGradePuzzleUptoRow.holds Tryz.pinned (OpenSpec.upto fnExactGradePuzzleSpec)

/-- 'laws.FnPuzzleOf', WHERE WHAT IT READS IS OF BULK AT MOST 1048576: true; the input reads as it did. -/
def fnPuzzleOfUptoRow : OpenClaim := { program := "ytkeoflnmbcdmfaagreatdoor", sum := "e72329b5ed0c2aec1498d2ca8fc2fa1c822281b8b2a9106f78f9154b8775fecd", func := "loop.example/gridpuzzles/laws.FnPuzzleOf", spec := "fnPuzzleOf", unfollowed := true, recurses := true, named := ["math/bits.deBruijn64tab", "math/bits.deBruijn32tab"], apart := false, laid := [("math/bits.deBruijn32tab", laid_math_bits_deBruijn32tab), ("math/bits.deBruijn64tab", laid_math_bits_deBruijn64tab)], narrowed := true }
def FnPuzzleOfUptoSaid : Prop := fnPuzzleOfUptoRow.holds Tryz.pinned (OpenSpec.upto fnPuzzleOfSpec)

/-- 'laws.FnSolveSteps', WHERE WHAT IT READS IS OF BULK AT MOST 1048576: true; the input reads as it did. -/
def fnSolveStepsUptoRow : OpenClaim := { program := "ytkeoflnmbcdmfaagreatdoor", sum := "e72329b5ed0c2aec1498d2ca8fc2fa1c822281b8b2a9106f78f9154b8775fecd", func := "loop.example/gridpuzzles/laws.FnSolveSteps", spec := "fnSolveSteps", unfollowed := true, recurses := true, named := ["math/bits.deBruijn32tab", "math/bits.deBruijn64tab"], apart := false, laid := [("math/bits.deBruijn32tab", laid_math_bits_deBruijn32tab), ("math/bits.deBruijn64tab", laid_math_bits_deBruijn64tab)], narrowed := true }
def FnSolveStepsUptoSaid : Prop := fnSolveStepsUptoRow.holds Tryz.pinned (OpenSpec.upto fnSolveStepsSpec)

/-- 'laws.FnStepMasks', WHERE WHAT IT READS IS OF BULK AT MOST 1048576: true; the input reads as it did. -/
def fnStepMasksUptoRow : OpenClaim := { program := "ytkeoflnmbcdmfaagreatdoor", sum := "e72329b5ed0c2aec1498d2ca8fc2fa1c822281b8b2a9106f78f9154b8775fecd", func := "loop.example/gridpuzzles/laws.FnStepMasks", spec := "fnStepMasks", unfollowed := true, recurses := true, named := ["math/bits.deBruijn32tab", "math/bits.deBruijn64tab"], apart := false, laid := [("math/bits.deBruijn32tab", laid_math_bits_deBruijn32tab), ("math/bits.deBruijn64tab", laid_math_bits_deBruijn64tab)], narrowed := true }
def FnStepMasksUptoSaid : Prop := fnStepMasksUptoRow.holds Tryz.pinned (OpenSpec.upto fnStepMasksSpec)

/-- 'laws.FnTechniqueCounts', WHERE WHAT IT READS IS OF BULK AT MOST 1048576: true; the input reads as it did. -/
def fnTechniqueCountsUptoRow : OpenClaim := { program := "ytkeoflnmbcdmfaagreatdoor", sum := "e72329b5ed0c2aec1498d2ca8fc2fa1c822281b8b2a9106f78f9154b8775fecd", func := "loop.example/gridpuzzles/laws.FnTechniqueCounts", spec := "fnTechniqueCounts", unfollowed := true, recurses := true, named := ["math/bits.deBruijn32tab", "math/bits.deBruijn64tab"], apart := false, laid := [("math/bits.deBruijn32tab", laid_math_bits_deBruijn32tab), ("math/bits.deBruijn64tab", laid_math_bits_deBruijn64tab)], narrowed := true }
def FnTechniqueCountsUptoSaid : Prop := fnTechniqueCountsUptoRow.holds Tryz.pinned (OpenSpec.upto fnTechniqueCountsSpec)

/-- 'laws.FnEasySteps', WHERE WHAT IT READS IS OF BULK AT MOST 1048576: true; the input reads as it did. -/
def fnEasyStepsUptoRow : OpenClaim := { program := "ytkeoflnmbcdmfaagreatdoor", sum := "e72329b5ed0c2aec1498d2ca8fc2fa1c822281b8b2a9106f78f9154b8775fecd", func := "loop.example/gridpuzzles/laws.FnEasySteps", spec := "fnEasySteps", unfollowed := true, recurses := true, named := ["math/bits.deBruijn32tab", "math/bits.deBruijn64tab"], apart := false, laid := [("math/bits.deBruijn32tab", laid_math_bits_deBruijn32tab), ("math/bits.deBruijn64tab", laid_math_bits_deBruijn64tab)], narrowed := true }
def FnEasyStepsUptoSaid : Prop := fnEasyStepsUptoRow.holds Tryz.pinned (OpenSpec.upto fnEasyStepsSpec)

/-- 'laws.FnExactSolveSteps', WHERE WHAT IT READS IS OF BULK AT MOST 1048576: true; the input reads as it did. -/
def fnExactSolveStepsUptoRow : OpenClaim := { program := "ytkeoflnmbcdmfaagreatdoor", sum := "e72329b5ed0c2aec1498d2ca8fc2fa1c822281b8b2a9106f78f9154b8775fecd", func := "loop.example/gridpuzzles/laws.FnExactSolveSteps", spec := "fnExactSolveSteps", unfollowed := true, recurses := true, named := ["math/bits.deBruijn32tab", "math/bits.deBruijn64tab"], apart := false, laid := [("math/bits.deBruijn32tab", laid_math_bits_deBruijn32tab), ("math/bits.deBruijn64tab", laid_math_bits_deBruijn64tab)], narrowed := true }
def FnExactSolveStepsUptoSaid : Prop := fnExactSolveStepsUptoRow.holds Tryz.pinned (OpenSpec.upto fnExactSolveStepsSpec)

/-- 'laws.FnExactStepMasks', WHERE WHAT IT READS IS OF BULK AT MOST 1048576: true; the input reads as it did. -/
def fnExactStepMasksUptoRow : OpenClaim := { program := "ytkeoflnmbcdmfaagreatdoor", sum := "e72329b5ed0c2aec1498d2ca8fc2fa1c822281b8b2a9106f78f9154b8775fecd", func := "loop.example/gridpuzzles/laws.FnExactStepMasks", spec := "fnExactStepMasks", unfollowed := true, recurses := true, named := ["math/bits.deBruijn32tab", "math/bits.deBruijn64tab"], apart := false, laid := [("math/bits.deBruijn32tab", laid_math_bits_deBruijn32tab), ("math/bits.deBruijn64tab", laid_math_bits_deBruijn64tab)], narrowed := true }
def FnExactStepMasksUptoSaid : Prop := fnExactStepMasksUptoRow.holds Tryz.pinned (OpenSpec.upto fnExactStepMasksSpec)

/-- 'laws.FnExactTechniqueCounts', WHERE WHAT IT READS IS OF BULK AT MOST 1048576: true; the input reads as it did. -/
def fnExactTechniqueCountsUptoRow : OpenClaim := { program := "ytkeoflnmbcdmfaagreatdoor", sum := "e72329b5ed0c2aec1498d2ca8fc2fa1c822281b8b2a9106f78f9154b8775fecd", func := "loop.example/gridpuzzles/laws.FnExactTechniqueCounts", spec := "fnExactTechniqueCounts", unfollowed := true, recurses := true, named := ["math/bits.deBruijn32tab", "math/bits.deBruijn64tab"], apart := false, laid := [("math/bits.deBruijn32tab", laid_math_bits_deBruijn32tab), ("math/bits.deBruijn64tab", laid_math_bits_deBruijn64tab)], narrowed := true }
def FnExactTechniqueCountsUptoSaid : Prop := fnExactTechniqueCountsUptoRow.holds Tryz.pinned (OpenSpec.upto fnExactTechniqueCountsSpec)

end Rows
end Go.Proofs.YtkeoflnmbcdmfaaGreatDoor
