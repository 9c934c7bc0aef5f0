/-
  NARROWER THAN 'FOR EVERY INPUT', by the rows' own cells (each row's printed sentence says how): FnNarrowRules: laid · FnNarrowBy: laid · FnNarrowAll: laid · FnSolveSteps: laid · FnStepMasks: laid · FnGradePuzzle: laid · FnTechniqueCounts: laid · FnNarrowMore: laid · FnHiddenLines: laid · FnEasySteps: laid · FnExactNarrowAll: laid · FnExactSolveSteps: laid · FnExactStepMasks: laid · FnExactGradePuzzle: laid · FnExactTechniqueCounts: laid.
  DERIVED. THE GIVEN ROWS OF THIS SEAT. 15 by the template 'for every input the law returns true; each argument reads behind the call as it read before'; 0 by the template 'total and deterministic' (their statements: YtchcmgaohcldjaaGreatDoorTotals.lean).
  GIVEN WITH THE SEED: the statements are not yours to turn. If you find one false, say at which input.
  Laid BY PROGRAM, IN A SANDBOX (cutbox-rows.mjs): the forced cells as the released guide's own fill.sh prints them over the translation 7818f6daad8ff90c… (all of the seat's roots in one cut). By AI agents, Wed Nov 11 2026. No macro, syntax, notation, axiom, sorry.
-/
import Derived.Test.YtchcmgaohcldjaaGreatDoorChecked
import GoSem.Claim
import GoSem.ClaimJoined
import GoSem.ClaimMapViews
import Derived.JoinedTies
import Derived.KernelRfl
namespace Go.Proofs.YtchcmgaohcldjaaGreatDoor
/- THE CELL 'sum', in the pinned program and in every row, IS THE sha256 OF THE DUMP (.gsa) THAT YtchcmgaohcldjaaGreatDoorProg.lean LOADS. Nothing in Lean hashes anything: it is a label: what it is worth is what the hold of that sum in a sandbox is worth. -/
noncomputable def Tryz.pinned : Pinned := { name := "ytchcmgaohcldjaagreatdoor", sum := "7818f6daad8ff90cbd71a0e5de3f9511a1ad73ef639e4133e386ee80ae33ca93", checked := Tryz.checked }
namespace Rows
def none {H : Type} : Left H := { results := [], args := [] }

/- WHAT THE LISTED PACKAGE-LEVEL VARIABLES READ AS WHEN THE CALL BEGINS. Each datum BY PROGRAM (the guide's laid-datum.mjs) off the statement by which the dump's own 'gosem.cut.vars' lays the variable. In a bare row this is a premise. The card (YtchcmgaohcldjaaGreatDoorCards.lean) ties it to the program's text. -/
def laid_math_bits_deBruijn32tab {H : Type} : DataW H := .agg [.lit (.int .u8 0), .lit (.int .u8 1), .lit (.int .u8 28), .lit (.int .u8 2), .lit (.int .u8 29), .lit (.int .u8 14), .lit (.int .u8 24), .lit (.int .u8 3), .lit (.int .u8 30), .lit (.int .u8 22), .lit (.int .u8 20), .lit (.int .u8 15), .lit (.int .u8 25), .lit (.int .u8 17), .lit (.int .u8 4), .lit (.int .u8 8), .lit (.int .u8 31), .lit (.int .u8 27), .lit (.int .u8 13), .lit (.int .u8 23), .lit (.int .u8 21), .lit (.int .u8 19), .lit (.int .u8 16), .lit (.int .u8 7), .lit (.int .u8 26), .lit (.int .u8 12), .lit (.int .u8 18), .lit (.int .u8 6), .lit (.int .u8 11), .lit (.int .u8 5), .lit (.int .u8 10), .lit (.int .u8 9)]
def laid_math_bits_deBruijn64tab {H : Type} : DataW H := .agg [.lit (.int .u8 0), .lit (.int .u8 1), .lit (.int .u8 56), .lit (.int .u8 2), .lit (.int .u8 57), .lit (.int .u8 49), .lit (.int .u8 28), .lit (.int .u8 3), .lit (.int .u8 61), .lit (.int .u8 58), .lit (.int .u8 42), .lit (.int .u8 50), .lit (.int .u8 38), .lit (.int .u8 29), .lit (.int .u8 17), .lit (.int .u8 4), .lit (.int .u8 62), .lit (.int .u8 47), .lit (.int .u8 59), .lit (.int .u8 36), .lit (.int .u8 45), .lit (.int .u8 43), .lit (.int .u8 51), .lit (.int .u8 22), .lit (.int .u8 53), .lit (.int .u8 39), .lit (.int .u8 33), .lit (.int .u8 30), .lit (.int .u8 24), .lit (.int .u8 18), .lit (.int .u8 12), .lit (.int .u8 5), .lit (.int .u8 63), .lit (.int .u8 55), .lit (.int .u8 48), .lit (.int .u8 27), .lit (.int .u8 60), .lit (.int .u8 41), .lit (.int .u8 37), .lit (.int .u8 16), .lit (.int .u8 46), .lit (.int .u8 35), .lit (.int .u8 44), .lit (.int .u8 21), .lit (.int .u8 52), .lit (.int .u8 32), .lit (.int .u8 23), .lit (.int .u8 11), .lit (.int .u8 54), .lit (.int .u8 26), .lit (.int .u8 40), .lit (.int .u8 15), .lit (.int .u8 34), .lit (.int .u8 20), .lit (.int .u8 31), .lit (.int .u8 10), .lit (.int .u8 25), .lit (.int .u8 14), .lit (.int .u8 19), .lit (.int .u8 9), .lit (.int .u8 13), .lit (.int .u8 8), .lit (.int .u8 7), .lit (.int .u8 6)]

/-- 'laws.FnNarrowRules': WHATEVER THE INPUT: true; the input reads as it did. -/
def fnNarrowRulesSpec : ChangeSpec := { name := "fnNarrowRules", fn := fun _ => fun
  | [d] => { results := [.lit (.bool true)], args := [d] }
  | _ => none }
def fnNarrowRulesRow : OpenClaim := { program := "ytchcmgaohcldjaagreatdoor", sum := "7818f6daad8ff90cbd71a0e5de3f9511a1ad73ef639e4133e386ee80ae33ca93", func := "loop.example/gridpuzzles/laws.FnNarrowRules", spec := "fnNarrowRules", unfollowed := true, recurses := true, named := ["math/bits.deBruijn32tab", "math/bits.deBruijn64tab"], apart := false, laid := [("math/bits.deBruijn32tab", laid_math_bits_deBruijn32tab), ("math/bits.deBruijn64tab", laid_math_bits_deBruijn64tab)] }
def FnNarrowRulesSaid : Prop := fnNarrowRulesRow.holds Tryz.pinned (OpenSpec.ofChange fnNarrowRulesSpec)

/-- ITS FALSE NEIGHBOUR: 'it returns false'. Refute it at one input. -/
def fnNarrowRulesWrong : ChangeSpec := { name := "fnNarrowRules", fn := fun _ => fun
  | [d] => { results := [.lit (.bool false)], args := [d] }
  | _ => none }
def FnNarrowRulesWrongFalsely : Prop := fnNarrowRulesRow.holds Tryz.pinned (OpenSpec.ofChange fnNarrowRulesWrong)

/-- 'laws.FnNarrowBy': WHATEVER THE INPUT: true; the input reads as it did. -/
def fnNarrowBySpec : ChangeSpec := { name := "fnNarrowBy", fn := fun _ => fun
  | [d] => { results := [.lit (.bool true)], args := [d] }
  | _ => none }
def fnNarrowByRow : OpenClaim := { program := "ytchcmgaohcldjaagreatdoor", sum := "7818f6daad8ff90cbd71a0e5de3f9511a1ad73ef639e4133e386ee80ae33ca93", func := "loop.example/gridpuzzles/laws.FnNarrowBy", spec := "fnNarrowBy", unfollowed := true, recurses := true, named := ["math/bits.deBruijn32tab", "math/bits.deBruijn64tab"], apart := false, laid := [("math/bits.deBruijn32tab", laid_math_bits_deBruijn32tab), ("math/bits.deBruijn64tab", laid_math_bits_deBruijn64tab)] }
def FnNarrowBySaid : Prop := fnNarrowByRow.holds Tryz.pinned (OpenSpec.ofChange fnNarrowBySpec)

/-- ITS FALSE NEIGHBOUR: 'it returns false'. Refute it at one input. -/
def fnNarrowByWrong : ChangeSpec := { name := "fnNarrowBy", fn := fun _ => fun
  | [d] => { results := [.lit (.bool false)], args := [d] }
  | _ => none }
def FnNarrowByWrongFalsely : Prop := fnNarrowByRow.holds Tryz.pinned (OpenSpec.ofChange fnNarrowByWrong)

/-- 'laws.FnNarrowAll': WHATEVER THE INPUT: true; the input reads as it did. -/
def fnNarrowAllSpec : ChangeSpec := { name := "fnNarrowAll", fn := fun _ => fun
  | [d] => { results := [.lit (.bool true)], args := [d] }
  | _ => none }
def fnNarrowAllRow : OpenClaim := { program := "ytchcmgaohcldjaagreatdoor", sum := "7818f6daad8ff90cbd71a0e5de3f9511a1ad73ef639e4133e386ee80ae33ca93", func := "loop.example/gridpuzzles/laws.FnNarrowAll", spec := "fnNarrowAll", unfollowed := true, recurses := true, named := ["math/bits.deBruijn32tab", "math/bits.deBruijn64tab"], apart := false, laid := [("math/bits.deBruijn32tab", laid_math_bits_deBruijn32tab), ("math/bits.deBruijn64tab", laid_math_bits_deBruijn64tab)] }
def FnNarrowAllSaid : Prop := fnNarrowAllRow.holds Tryz.pinned (OpenSpec.ofChange fnNarrowAllSpec)

/-- ITS FALSE NEIGHBOUR: 'it returns false'. Refute it at one input. -/
def fnNarrowAllWrong : ChangeSpec := { name := "fnNarrowAll", fn := fun _ => fun
  | [d] => { results := [.lit (.bool false)], args := [d] }
  | _ => none }
def FnNarrowAllWrongFalsely : Prop := fnNarrowAllRow.holds Tryz.pinned (OpenSpec.ofChange fnNarrowAllWrong)

/-- 'laws.FnSolveSteps': WHATEVER THE INPUT: true; the input reads as it did. -/
def fnSolveStepsSpec : ChangeSpec := { name := "fnSolveSteps", fn := fun _ => fun
  | [d] => { results := [.lit (.bool true)], args := [d] }
  | _ => none }
def fnSolveStepsRow : OpenClaim := { program := "ytchcmgaohcldjaagreatdoor", sum := "7818f6daad8ff90cbd71a0e5de3f9511a1ad73ef639e4133e386ee80ae33ca93", func := "loop.example/gridpuzzles/laws.FnSolveSteps", spec := "fnSolveSteps", unfollowed := true, recurses := true, named := ["math/bits.deBruijn32tab", "math/bits.deBruijn64tab"], apart := false, laid := [("math/bits.deBruijn32tab", laid_math_bits_deBruijn32tab), ("math/bits.deBruijn64tab", laid_math_bits_deBruijn64tab)] }
def FnSolveStepsSaid : Prop := fnSolveStepsRow.holds Tryz.pinned (OpenSpec.ofChange fnSolveStepsSpec)

/-- ITS FALSE NEIGHBOUR: 'it returns false'. Refute it at one input. -/
def fnSolveStepsWrong : ChangeSpec := { name := "fnSolveSteps", fn := fun _ => fun
  | [d] => { results := [.lit (.bool false)], args := [d] }
  | _ => none }
def FnSolveStepsWrongFalsely : Prop := fnSolveStepsRow.holds Tryz.pinned (OpenSpec.ofChange fnSolveStepsWrong)

/-- 'laws.FnStepMasks': WHATEVER THE INPUT: true; the input reads as it did. -/
def fnStepMasksSpec : ChangeSpec := { name := "fnStepMasks", fn := fun _ => fun
  | [d] => { results := [.lit (.bool true)], args := [d] }
  | _ => none }
def fnStepMasksRow : OpenClaim := { program := "ytchcmgaohcldjaagreatdoor", sum := "7818f6daad8ff90cbd71a0e5de3f9511a1ad73ef639e4133e386ee80ae33ca93", func := "loop.example/gridpuzzles/laws.FnStepMasks", spec := "fnStepMasks", unfollowed := true, recurses := true, named := ["math/bits.deBruijn32tab", "math/bits.deBruijn64tab"], apart := false, laid := [("math/bits.deBruijn32tab", laid_math_bits_deBruijn32tab), ("math/bits.deBruijn64tab", laid_math_bits_deBruijn64tab)] }
def FnStepMasksSaid : Prop := fnStepMasksRow.holds Tryz.pinned (OpenSpec.ofChange fnStepMasksSpec)

/-- ITS FALSE NEIGHBOUR: 'it returns false'. Refute it at one input. -/
def fnStepMasksWrong : ChangeSpec := { name := "fnStepMasks", fn := fun _ => fun
  | [d] => { results := [.lit (.bool false)], args := [d] }
  | _ => none }
def FnStepMasksWrongFalsely : Prop := fnStepMasksRow.holds Tryz.pinned (OpenSpec.ofChange fnStepMasksWrong)

/-- 'laws.FnGradePuzzle': WHATEVER THE INPUT: true; the input reads as it did. -/
def fnGradePuzzleSpec : ChangeSpec := { name := "fnGradePuzzle", fn := fun _ => fun
  | [d] => { results := [.lit (.bool true)], args := [d] }
  | _ => none }
def fnGradePuzzleRow : OpenClaim := { program := "ytchcmgaohcldjaagreatdoor", sum := "7818f6daad8ff90cbd71a0e5de3f9511a1ad73ef639e4133e386ee80ae33ca93", func := "loop.example/gridpuzzles/laws.FnGradePuzzle", spec := "fnGradePuzzle", unfollowed := true, recurses := true, named := ["math/bits.deBruijn64tab", "math/bits.deBruijn32tab"], apart := false, laid := [("math/bits.deBruijn32tab", laid_math_bits_deBruijn32tab), ("math/bits.deBruijn64tab", laid_math_bits_deBruijn64tab)] }
def FnGradePuzzleSaid : Prop := fnGradePuzzleRow.holds Tryz.pinned (OpenSpec.ofChange fnGradePuzzleSpec)

/-- ITS FALSE NEIGHBOUR: 'it returns false'. Refute it at one input. -/
def fnGradePuzzleWrong : ChangeSpec := { name := "fnGradePuzzle", fn := fun _ => fun
  | [d] => { results := [.lit (.bool false)], args := [d] }
  | _ => none }
def FnGradePuzzleWrongFalsely : Prop := fnGradePuzzleRow.holds Tryz.pinned (OpenSpec.ofChange fnGradePuzzleWrong)

/-- 'laws.FnTechniqueCounts': WHATEVER THE INPUT: true; the input reads as it did. -/
def fnTechniqueCountsSpec : ChangeSpec := { name := "fnTechniqueCounts", fn := fun _ => fun
  | [d] => { results := [.lit (.bool true)], args := [d] }
  | _ => none }
def fnTechniqueCountsRow : OpenClaim := { program := "ytchcmgaohcldjaagreatdoor", sum := "7818f6daad8ff90cbd71a0e5de3f9511a1ad73ef639e4133e386ee80ae33ca93", func := "loop.example/gridpuzzles/laws.FnTechniqueCounts", spec := "fnTechniqueCounts", unfollowed := true, recurses := true, named := ["math/bits.deBruijn32tab", "math/bits.deBruijn64tab"], apart := false, laid := [("math/bits.deBruijn32tab", laid_math_bits_deBruijn32tab), ("math/bits.deBruijn64tab", laid_math_bits_deBruijn64tab)] }
def FnTechniqueCountsSaid : Prop := fnTechniqueCountsRow.holds Tryz.pinned (OpenSpec.ofChange fnTechniqueCountsSpec)

/-- ITS FALSE NEIGHBOUR: 'it returns false'. Refute it at one input. -/
def fnTechniqueCountsWrong : ChangeSpec := { name := "fnTechniqueCounts", fn := fun _ => fun
  | [d] => { results := [.lit (.bool false)], args := [d] }
  | _ => none }
def FnTechniqueCountsWrongFalsely : Prop := fnTechniqueCountsRow.holds Tryz.pinned (OpenSpec.ofChange fnTechniqueCountsWrong)

/-- 'laws.FnNarrowMore': WHATEVER THE INPUT: true; the input reads as it did. -/
def fnNarrowMoreSpec : ChangeSpec := { name := "fnNarrowMore", fn := fun _ => fun
  | [d] => { results := [.lit (.bool true)], args := [d] }
  | _ => none }
def fnNarrowMoreRow : OpenClaim := { program := "ytchcmgaohcldjaagreatdoor", sum := "7818f6daad8ff90cbd71a0e5de3f9511a1ad73ef639e4133e386ee80ae33ca93", func := "loop.example/gridpuzzles/laws.FnNarrowMore", spec := "fnNarrowMore", unfollowed := true, recurses := true, named := ["math/bits.deBruijn64tab", "math/bits.deBruijn32tab"], apart := false, laid := [("math/bits.deBruijn32tab", laid_math_bits_deBruijn32tab), ("math/bits.deBruijn64tab", laid_math_bits_deBruijn64tab)] }
def FnNarrowMoreSaid : Prop := fnNarrowMoreRow.holds Tryz.pinned (OpenSpec.ofChange fnNarrowMoreSpec)

/-- ITS FALSE NEIGHBOUR: 'it returns false'. Refute it at one input. -/
def fnNarrowMoreWrong : ChangeSpec := { name := "fnNarrowMore", fn := fun _ => fun
  | [d] => { results := [.lit (.bool false)], args := [d] }
  | _ => none }
def FnNarrowMoreWrongFalsely : Prop := fnNarrowMoreRow.holds Tryz.pinned (OpenSpec.ofChange fnNarrowMoreWrong)

/-- 'laws.FnHiddenLines': WHATEVER THE INPUT: true; the input reads as it did. -/
def fnHiddenLinesSpec : ChangeSpec := { name := "fnHiddenLines", fn := fun _ => fun
  | [d] => { results := [.lit (.bool true)], args := [d] }
  | _ => none }
def fnHiddenLinesRow : OpenClaim := { program := "ytchcmgaohcldjaagreatdoor", sum := "7818f6daad8ff90cbd71a0e5de3f9511a1ad73ef639e4133e386ee80ae33ca93", func := "loop.example/gridpuzzles/laws.FnHiddenLines", spec := "fnHiddenLines", unfollowed := true, recurses := true, named := ["math/bits.deBruijn64tab", "math/bits.deBruijn32tab"], apart := false, laid := [("math/bits.deBruijn32tab", laid_math_bits_deBruijn32tab), ("math/bits.deBruijn64tab", laid_math_bits_deBruijn64tab)] }
def FnHiddenLinesSaid : Prop := fnHiddenLinesRow.holds Tryz.pinned (OpenSpec.ofChange fnHiddenLinesSpec)

/-- ITS FALSE NEIGHBOUR: 'it returns false'. Refute it at one input. -/
def fnHiddenLinesWrong : ChangeSpec := { name := "fnHiddenLines", fn := fun _ => fun
  | [d] => { results := [.lit (.bool false)], args := [d] }
  | _ => none }
def FnHiddenLinesWrongFalsely : Prop := fnHiddenLinesRow.holds Tryz.pinned (OpenSpec.ofChange fnHiddenLinesWrong)

/-- 'laws.FnEasySteps': WHATEVER THE INPUT: true; the input reads as it did. -/
def fnEasyStepsSpec : ChangeSpec := { name := "fnEasySteps", fn := fun _ => fun
  | [d] => { results := [.lit (.bool true)], args := [d] }
  | _ => none }
def fnEasyStepsRow : OpenClaim := { program := "ytchcmgaohcldjaagreatdoor", sum := "7818f6daad8ff90cbd71a0e5de3f9511a1ad73ef639e4133e386ee80ae33ca93", func := "loop.example/gridpuzzles/laws.FnEasySteps", spec := "fnEasySteps", unfollowed := true, recurses := true, named := ["math/bits.deBruijn32tab", "math/bits.deBruijn64tab"], apart := false, laid := [("math/bits.deBruijn32tab", laid_math_bits_deBruijn32tab), ("math/bits.deBruijn64tab", laid_math_bits_deBruijn64tab)] }
def FnEasyStepsSaid : Prop := fnEasyStepsRow.holds Tryz.pinned (OpenSpec.ofChange fnEasyStepsSpec)

/-- ITS FALSE NEIGHBOUR: 'it returns false'. Refute it at one input. -/
def fnEasyStepsWrong : ChangeSpec := { name := "fnEasySteps", fn := fun _ => fun
  | [d] => { results := [.lit (.bool false)], args := [d] }
  | _ => none }
def FnEasyStepsWrongFalsely : Prop := fnEasyStepsRow.holds Tryz.pinned (OpenSpec.ofChange fnEasyStepsWrong)

/-- 'laws.FnExactNarrowAll': WHATEVER THE INPUT: true; the input reads as it did. -/
def fnExactNarrowAllSpec : ChangeSpec := { name := "fnExactNarrowAll", fn := fun _ => fun
  | [d1, d2, d3] => { results := [.lit (.bool true)], args := [d1, d2, d3] }
  | _ => none }
def fnExactNarrowAllRow : OpenClaim := { program := "ytchcmgaohcldjaagreatdoor", sum := "7818f6daad8ff90cbd71a0e5de3f9511a1ad73ef639e4133e386ee80ae33ca93", func := "loop.example/gridpuzzles/laws.FnExactNarrowAll", spec := "fnExactNarrowAll", unfollowed := true, recurses := true, named := ["math/bits.deBruijn32tab", "math/bits.deBruijn64tab"], apart := false, laid := [("math/bits.deBruijn32tab", laid_math_bits_deBruijn32tab), ("math/bits.deBruijn64tab", laid_math_bits_deBruijn64tab)] }
def FnExactNarrowAllSaid : Prop := fnExactNarrowAllRow.holds Tryz.pinned (OpenSpec.ofChange fnExactNarrowAllSpec)

/-- ITS FALSE NEIGHBOUR: 'it returns false'. Refute it at one input. -/
def fnExactNarrowAllWrong : ChangeSpec := { name := "fnExactNarrowAll", fn := fun _ => fun
  | [d1, d2, d3] => { results := [.lit (.bool false)], args := [d1, d2, d3] }
  | _ => none }
def FnExactNarrowAllWrongFalsely : Prop := fnExactNarrowAllRow.holds Tryz.pinned (OpenSpec.ofChange fnExactNarrowAllWrong)

/-- 'laws.FnExactSolveSteps': WHATEVER THE INPUT: true; the input reads as it did. -/
def fnExactSolveStepsSpec : ChangeSpec := { name := "fnExactSolveSteps", fn := fun _ => fun
  | [d1, d2] => { results := [.lit (.bool true)], args := [d1, d2] }
  | _ => none }
def fnExactSolveStepsRow : OpenClaim := { program := "ytchcmgaohcldjaagreatdoor", sum := "7818f6daad8ff90cbd71a0e5de3f9511a1ad73ef639e4133e386ee80ae33ca93", func := "loop.example/gridpuzzles/laws.FnExactSolveSteps", spec := "fnExactSolveSteps", unfollowed := true, recurses := true, named := ["math/bits.deBruijn32tab", "math/bits.deBruijn64tab"], apart := false, laid := [("math/bits.deBruijn32tab", laid_math_bits_deBruijn32tab), ("math/bits.deBruijn64tab", laid_math_bits_deBruijn64tab)] }
def FnExactSolveStepsSaid : Prop := fnExactSolveStepsRow.holds Tryz.pinned (OpenSpec.ofChange fnExactSolveStepsSpec)

/-- ITS FALSE NEIGHBOUR: 'it returns false'. Refute it at one input. -/
def fnExactSolveStepsWrong : ChangeSpec := { name := "fnExactSolveSteps", fn := fun _ => fun
  | [d1, d2] => { results := [.lit (.bool false)], args := [d1, d2] }
  | _ => none }
def FnExactSolveStepsWrongFalsely : Prop := fnExactSolveStepsRow.holds Tryz.pinned (OpenSpec.ofChange fnExactSolveStepsWrong)

/-- 'laws.FnExactStepMasks': WHATEVER THE INPUT: true; the input reads as it did. -/
def fnExactStepMasksSpec : ChangeSpec := { name := "fnExactStepMasks", fn := fun _ => fun
  | [d1, d2] => { results := [.lit (.bool true)], args := [d1, d2] }
  | _ => none }
def fnExactStepMasksRow : OpenClaim := { program := "ytchcmgaohcldjaagreatdoor", sum := "7818f6daad8ff90cbd71a0e5de3f9511a1ad73ef639e4133e386ee80ae33ca93", func := "loop.example/gridpuzzles/laws.FnExactStepMasks", spec := "fnExactStepMasks", unfollowed := true, recurses := true, named := ["math/bits.deBruijn32tab", "math/bits.deBruijn64tab"], apart := false, laid := [("math/bits.deBruijn32tab", laid_math_bits_deBruijn32tab), ("math/bits.deBruijn64tab", laid_math_bits_deBruijn64tab)] }
def FnExactStepMasksSaid : Prop := fnExactStepMasksRow.holds Tryz.pinned (OpenSpec.ofChange fnExactStepMasksSpec)

/-- ITS FALSE NEIGHBOUR: 'it returns false'. Refute it at one input. -/
def fnExactStepMasksWrong : ChangeSpec := { name := "fnExactStepMasks", fn := fun _ => fun
  | [d1, d2] => { results := [.lit (.bool false)], args := [d1, d2] }
  | _ => none }
def FnExactStepMasksWrongFalsely : Prop := fnExactStepMasksRow.holds Tryz.pinned (OpenSpec.ofChange fnExactStepMasksWrong)

/-- 'laws.FnExactGradePuzzle': WHATEVER THE INPUT: true; the input reads as it did. -/
def fnExactGradePuzzleSpec : ChangeSpec := { name := "fnExactGradePuzzle", fn := fun _ => fun
  | [d] => { results := [.lit (.bool true)], args := [d] }
  | _ => none }
def fnExactGradePuzzleRow : OpenClaim := { program := "ytchcmgaohcldjaagreatdoor", sum := "7818f6daad8ff90cbd71a0e5de3f9511a1ad73ef639e4133e386ee80ae33ca93", func := "loop.example/gridpuzzles/laws.FnExactGradePuzzle", spec := "fnExactGradePuzzle", unfollowed := true, recurses := true, named := ["math/bits.deBruijn64tab", "math/bits.deBruijn32tab"], apart := false, laid := [("math/bits.deBruijn32tab", laid_math_bits_deBruijn32tab), ("math/bits.deBruijn64tab", laid_math_bits_deBruijn64tab)] }
def FnExactGradePuzzleSaid : Prop := fnExactGradePuzzleRow.holds Tryz.pinned (OpenSpec.ofChange fnExactGradePuzzleSpec)

/-- ITS FALSE NEIGHBOUR: 'it returns false'. Refute it at one input. -/
def fnExactGradePuzzleWrong : ChangeSpec := { name := "fnExactGradePuzzle", fn := fun _ => fun
  | [d] => { results := [.lit (.bool false)], args := [d] }
  | _ => none }
def FnExactGradePuzzleWrongFalsely : Prop := fnExactGradePuzzleRow.holds Tryz.pinned (OpenSpec.ofChange fnExactGradePuzzleWrong)

/-- 'laws.FnExactTechniqueCounts': WHATEVER THE INPUT: true; the input reads as it did. -/
def fnExactTechniqueCountsSpec : ChangeSpec := { name := "fnExactTechniqueCounts", fn := fun _ => fun
  | [d] => { results := [.lit (.bool true)], args := [d] }
  | _ => none }
def fnExactTechniqueCountsRow : OpenClaim := { program := "ytchcmgaohcldjaagreatdoor", sum := "7818f6daad8ff90cbd71a0e5de3f9511a1ad73ef639e4133e386ee80ae33ca93", func := "loop.example/gridpuzzles/laws.FnExactTechniqueCounts", spec := "fnExactTechniqueCounts", unfollowed := true, recurses := true, named := ["math/bits.deBruijn32tab", "math/bits.deBruijn64tab"], apart := false, laid := [("math/bits.deBruijn32tab", laid_math_bits_deBruijn32tab), ("math/bits.deBruijn64tab", laid_math_bits_deBruijn64tab)] }
def FnExactTechniqueCountsSaid : Prop := fnExactTechniqueCountsRow.holds Tryz.pinned (OpenSpec.ofChange fnExactTechniqueCountsSpec)

/-- ITS FALSE NEIGHBOUR: 'it returns false'. Refute it at one input. -/
def fnExactTechniqueCountsWrong : ChangeSpec := { name := "fnExactTechniqueCounts", fn := fun _ => fun
  | [d] => { results := [.lit (.bool false)], args := [d] }
  | _ => none }
def FnExactTechniqueCountsWrongFalsely : Prop := fnExactTechniqueCountsRow.holds Tryz.pinned (OpenSpec.ofChange fnExactTechniqueCountsWrong)

/- THE SECOND FORM. 'bulk': how many values and letters a reading holds, each counted each time it is reached (what is shared counts as often as it is met; a slice's spare places count too). A statement '..UptoSaid' is the law's where the arguments, and the package variables that the reading takes, are together of bulk at most 1048576: NARROWER than '..Said'. Prove '..Said' where nothing that the law and all that it calls make is longer than what came in: it says more and counts as full. Else prove '..UptoSaid'. A law counts once. -/
mutual
def uptoBulk {H : Type} : DataW H → Nat
  | .lit (.string bytes) => bytes.length + 1
  | .lit _ => 1
  | .nil => 1
  | .ptr d => uptoBulk d + 1
  | .slice elems spare => uptoBulkAll elems + uptoBulkAll spare + 1
  | .agg parts => uptoBulkAll parts + 1
  | .iface _ d => uptoBulk d + 1
  | .map entries => uptoBulkEntries entries + 1
  | .held _ => 1
def uptoBulkAll {H : Type} : List (DataW H) → Nat
  | [] => 0
  | d :: r => uptoBulk d + uptoBulkAll r
def uptoBulkEntries {H : Type} : List (Lit × DataW H) → Nat
  | [] => 0
  | x :: r => uptoBulkEntry x + uptoBulkEntries r
def uptoBulkEntry {H : Type} : Lit × DataW H → Nat
  | (.string bytes, d) => bytes.length + uptoBulk d + 1
  | (_, d) => uptoBulk d + 1
 end
def uptoSmall : (H : Type) → List (DataW H) → Bool := fun _ ds => decide (uptoBulkAll ds ≤ 1048576)
def OpenSpec.upto (s : _root_.Go.ChangeSpec) : _root_.Go.OpenSpec := { _root_.Go.OpenSpec.ofChange s with cond := some uptoSmall }

/-- 'laws.FnNarrowRules', WHERE WHAT IT READS IS OF BULK AT MOST 1048576: true; the input reads as it did. -/
def fnNarrowRulesUptoRow : OpenClaim := { program := "ytchcmgaohcldjaagreatdoor", sum := "7818f6daad8ff90cbd71a0e5de3f9511a1ad73ef639e4133e386ee80ae33ca93", func := "loop.example/gridpuzzles/laws.FnNarrowRules", spec := "fnNarrowRules", unfollowed := true, recurses := true, named := ["math/bits.deBruijn32tab", "math/bits.deBruijn64tab"], apart := false, laid := [("math/bits.deBruijn32tab", laid_math_bits_deBruijn32tab), ("math/bits.deBruijn64tab", laid_math_bits_deBruijn64tab)], narrowed := true }
def FnNarrowRulesUptoSaid : Prop := fnNarrowRulesUptoRow.holds Tryz.pinned (OpenSpec.upto fnNarrowRulesSpec)

/-- 'laws.FnNarrowBy', WHERE WHAT IT READS IS OF BULK AT MOST 1048576: true; the input reads as it did. -/
def fnNarrowByUptoRow : OpenClaim := { program := "ytchcmgaohcldjaagreatdoor", sum := "7818f6daad8ff90cbd71a0e5de3f9511a1ad73ef639e4133e386ee80ae33ca93", func := "loop.example/gridpuzzles/laws.FnNarrowBy", spec := "fnNarrowBy", unfollowed := true, recurses := true, named := ["math/bits.deBruijn32tab", "math/bits.deBruijn64tab"], apart := false, laid := [("math/bits.deBruijn32tab", laid_math_bits_deBruijn32tab), ("math/bits.deBruijn64tab", laid_math_bits_deBruijn64tab)], narrowed := true }
def FnNarrowByUptoSaid : Prop := fnNarrowByUptoRow.holds Tryz.pinned (OpenSpec.upto fnNarrowBySpec)

/-- 'laws.FnNarrowAll', WHERE WHAT IT READS IS OF BULK AT MOST 1048576: true; the input reads as it did. -/
def fnNarrowAllUptoRow : OpenClaim := { program := "ytchcmgaohcldjaagreatdoor", sum := "7818f6daad8ff90cbd71a0e5de3f9511a1ad73ef639e4133e386ee80ae33ca93", func := "loop.example/gridpuzzles/laws.FnNarrowAll", spec := "fnNarrowAll", unfollowed := true, recurses := true, named := ["math/bits.deBruijn32tab", "math/bits.deBruijn64tab"], apart := false, laid := [("math/bits.deBruijn32tab", laid_math_bits_deBruijn32tab), ("math/bits.deBruijn64tab", laid_math_bits_deBruijn64tab)], narrowed := true }
def FnNarrowAllUptoSaid : Prop := fnNarrowAllUptoRow.holds Tryz.pinned (OpenSpec.upto fnNarrowAllSpec)

/-- 'laws.FnSolveSteps', WHERE WHAT IT READS IS OF BULK AT MOST 1048576: true; the input reads as it did. -/
def fnSolveStepsUptoRow : OpenClaim := { program := "ytchcmgaohcldjaagreatdoor", sum := "7818f6daad8ff90cbd71a0e5de3f9511a1ad73ef639e4133e386ee80ae33ca93", func := "loop.example/gridpuzzles/laws.FnSolveSteps", spec := "fnSolveSteps", unfollowed := true, recurses := true, named := ["math/bits.deBruijn32tab", "math/bits.deBruijn64tab"], apart := false, laid := [("math/bits.deBruijn32tab", laid_math_bits_deBruijn32tab), ("math/bits.deBruijn64tab", laid_math_bits_deBruijn64tab)], narrowed := true }
def FnSolveStepsUptoSaid : Prop := fnSolveStepsUptoRow.holds Tryz.pinned (OpenSpec.upto fnSolveStepsSpec)

/-- 'laws.FnStepMasks', WHERE WHAT IT READS IS OF BULK AT MOST 1048576: true; the input reads as it did. -/
def fnStepMasksUptoRow : OpenClaim := { program := "ytchcmgaohcldjaagreatdoor", sum := "7818f6daad8ff90cbd71a0e5de3f9511a1ad73ef639e4133e386ee80ae33ca93", func := "loop.example/gridpuzzles/laws.FnStepMasks", spec := "fnStepMasks", unfollowed := true, recurses := true, named := ["math/bits.deBruijn32tab", "math/bits.deBruijn64tab"], apart := false, laid := [("math/bits.deBruijn32tab", laid_math_bits_deBruijn32tab), ("math/bits.deBruijn64tab", laid_math_bits_deBruijn64tab)], narrowed := true }
def FnStepMasksUptoSaid : Prop := fnStepMasksUptoRow.holds Tryz.pinned (OpenSpec.upto fnStepMasksSpec)

/-- 'laws.FnGradePuzzle', WHERE WHAT IT READS IS OF BULK AT MOST 1048576: true; the input reads as it did. -/
def fnGradePuzzleUptoRow : OpenClaim := { program := "ytchcmgaohcldjaagreatdoor", sum := "7818f6daad8ff90cbd71a0e5de3f9511a1ad73ef639e4133e386ee80ae33ca93", func := "loop.example/gridpuzzles/laws.FnGradePuzzle", spec := "fnGradePuzzle", unfollowed := true, recurses := true, named := ["math/bits.deBruijn64tab", "math/bits.deBruijn32tab"], apart := false, laid := [("math/bits.deBruijn32tab", laid_math_bits_deBruijn32tab), ("math/bits.deBruijn64tab", laid_math_bits_deBruijn64tab)], narrowed := true }
def FnGradePuzzleUptoSaid : Prop := fnGradePuzzleUptoRow.holds Tryz.pinned (OpenSpec.upto fnGradePuzzleSpec)

/-- 'laws.FnTechniqueCounts', WHERE WHAT IT READS IS OF BULK AT MOST 1048576: true; the input reads as it did. -/
def fnTechniqueCountsUptoRow : OpenClaim := { program := "ytchcmgaohcldjaagreatdoor", sum := "7818f6daad8ff90cbd71a0e5de3f9511a1ad73ef639e4133e386ee80ae33ca93", func := "loop.example/gridpuzzles/laws.FnTechniqueCounts", spec := "fnTechniqueCounts", unfollowed := true, recurses := true, named := ["math/bits.deBruijn32tab", "math/bits.deBruijn64tab"], apart := false, laid := [("math/bits.deBruijn32tab", laid_math_bits_deBruijn32tab), ("math/bits.deBruijn64tab", laid_math_bits_deBruijn64tab)], narrowed := true }
def FnTechniqueCountsUptoSaid : Prop := fnTechniqueCountsUptoRow.holds Tryz.pinned (OpenSpec.upto fnTechniqueCountsSpec)

/-- 'laws.FnNarrowMore', WHERE WHAT IT READS IS OF BULK AT MOST 1048576: true; the input reads as it did. -/
def fnNarrowMoreUptoRow : OpenClaim := { program := "ytchcmgaohcldjaagreatdoor", sum := "7818f6daad8ff90cbd71a0e5de3f9511a1ad73ef639e4133e386ee80ae33ca93", func := "loop.example/gridpuzzles/laws.FnNarrowMore", spec := "fnNarrowMore", unfollowed := true, recurses := true, named := ["math/bits.deBruijn64tab", "math/bits.deBruijn32tab"], apart := false, laid := [("math/bits.deBruijn32tab", laid_math_bits_deBruijn32tab), ("math/bits.deBruijn64tab", laid_math_bits_deBruijn64tab)], narrowed := true }
def FnNarrowMoreUptoSaid : Prop := fnNarrowMoreUptoRow.holds Tryz.pinned (OpenSpec.upto fnNarrowMoreSpec)

/-- 'laws.FnHiddenLines', WHERE WHAT IT READS IS OF BULK AT MOST 1048576: true; the input reads as it did. -/
def fnHiddenLinesUptoRow : OpenClaim := { program := "ytchcmgaohcldjaagreatdoor", sum := "7818f6daad8ff90cbd71a0e5de3f9511a1ad73ef639e4133e386ee80ae33ca93", func := "loop.example/gridpuzzles/laws.FnHiddenLines", spec := "fnHiddenLines", unfollowed := true, recurses := true, named := ["math/bits.deBruijn64tab", "math/bits.deBruijn32tab"], apart := false, laid := [("math/bits.deBruijn32tab", laid_math_bits_deBruijn32tab), ("math/bits.deBruijn64tab", laid_math_bits_deBruijn64tab)], narrowed := true }
def FnHiddenLinesUptoSaid : Prop := fnHiddenLinesUptoRow.holds Tryz.pinned (OpenSpec.upto fnHiddenLinesSpec)

/-- 'laws.FnEasySteps', WHERE WHAT IT READS IS OF BULK AT MOST 1048576: true; the input reads as it did. -/
def fnEasyStepsUptoRow : OpenClaim := { program := "ytchcmgaohcldjaagreatdoor", sum := "7818f6daad8ff90cbd71a0e5de3f9511a1ad73ef639e4133e386ee80ae33ca93", func := "loop.example/gridpuzzles/laws.FnEasySteps", spec := "fnEasySteps", unfollowed := true, recurses := true, named := ["math/bits.deBruijn32tab", "math/bits.deBruijn64tab"], apart := false, laid := [("math/bits.deBruijn32tab", laid_math_bits_deBruijn32tab), ("math/bits.deBruijn64tab", laid_math_bits_deBruijn64tab)], narrowed := true }
def FnEasyStepsUptoSaid : Prop := fnEasyStepsUptoRow.holds Tryz.pinned (OpenSpec.upto fnEasyStepsSpec)

/-- 'laws.FnExactNarrowAll', WHERE WHAT IT READS IS OF BULK AT MOST 1048576: true; the input reads as it did. -/
def fnExactNarrowAllUptoRow : OpenClaim := { program := "ytchcmgaohcldjaagreatdoor", sum := "7818f6daad8ff90cbd71a0e5de3f9511a1ad73ef639e4133e386ee80ae33ca93", func := "loop.example/gridpuzzles/laws.FnExactNarrowAll", spec := "fnExactNarrowAll", unfollowed := true, recurses := true, named := ["math/bits.deBruijn32tab", "math/bits.deBruijn64tab"], apart := false, laid := [("math/bits.deBruijn32tab", laid_math_bits_deBruijn32tab), ("math/bits.deBruijn64tab", laid_math_bits_deBruijn64tab)], narrowed := true }
def FnExactNarrowAllUptoSaid : Prop := fnExactNarrowAllUptoRow.holds Tryz.pinned (OpenSpec.upto fnExactNarrowAllSpec)

/-- 'laws.FnExactSolveSteps', WHERE WHAT IT READS IS OF BULK AT MOST 1048576: true; the input reads as it did. -/
def fnExactSolveStepsUptoRow : OpenClaim := { program := "ytchcmgaohcldjaagreatdoor", sum := "7818f6daad8ff90cbd71a0e5de3f9511a1ad73ef639e4133e386ee80ae33ca93", func := "loop.example/gridpuzzles/laws.FnExactSolveSteps", spec := "fnExactSolveSteps", unfollowed := true, recurses := true, named := ["math/bits.deBruijn32tab", "math/bits.deBruijn64tab"], apart := false, laid := [("math/bits.deBruijn32tab", laid_math_bits_deBruijn32tab), ("math/bits.deBruijn64tab", laid_math_bits_deBruijn64tab)], narrowed := true }
def FnExactSolveStepsUptoSaid : Prop := fnExactSolveStepsUptoRow.holds Tryz.pinned (OpenSpec.upto fnExactSolveStepsSpec)

/-- 'laws.FnExactStepMasks', WHERE WHAT IT READS IS OF BULK AT MOST 1048576: true; the input reads as it did. -/
def fnExactStepMasksUptoRow : OpenClaim := { program := "ytchcmgaohcldjaagreatdoor", sum := "7818f6daad8ff90cbd71a0e5de3f9511a1ad73ef639e4133e386ee80ae33ca93", func := "loop.example/gridpuzzles/laws.FnExactStepMasks", spec := "fnExactStepMasks", unfollowed := true, recurses := true, named := ["math/bits.deBruijn32tab", "math/bits.deBruijn64tab"], apart := false, laid := [("math/bits.deBruijn32tab", laid_math_bits_deBruijn32tab), ("math/bits.deBruijn64tab", laid_math_bits_deBruijn64tab)], narrowed := true }
def FnExactStepMasksUptoSaid : Prop := fnExactStepMasksUptoRow.holds Tryz.pinned (OpenSpec.upto fnExactStepMasksSpec)

/-- 'laws.FnExactGradePuzzle', WHERE WHAT IT READS IS OF BULK AT MOST 1048576: true; the input reads as it did. -/
def fnExactGradePuzzleUptoRow : OpenClaim := { program := "ytchcmgaohcldjaagreatdoor", sum := "7818f6daad8ff90cbd71a0e5de3f9511a1ad73ef639e4133e386ee80ae33ca93", func := "loop.example/gridpuzzles/laws.FnExactGradePuzzle", spec := "fnExactGradePuzzle", unfollowed := true, recurses := true, named := ["math/bits.deBruijn64tab", "math/bits.deBruijn32tab"], apart := false, laid := [("math/bits.deBruijn32tab", laid_math_bits_deBruijn32tab), ("math/bits.deBruijn64tab", laid_math_bits_deBruijn64tab)], narrowed := true }
def FnExactGradePuzzleUptoSaid : Prop := fnExactGradePuzzleUptoRow.holds Tryz.pinned (OpenSpec.upto fnExactGradePuzzleSpec)

/-- 'laws.FnExactTechniqueCounts', WHERE WHAT IT READS IS OF BULK AT MOST 1048576: true; the input reads as it did. -/
def fnExactTechniqueCountsUptoRow : OpenClaim := { program := "ytchcmgaohcldjaagreatdoor", sum := "7818f6daad8ff90cbd71a0e5de3f9511a1ad73ef639e4133e386ee80ae33ca93", func := "loop.example/gridpuzzles/laws.FnExactTechniqueCounts", spec := "fnExactTechniqueCounts", unfollowed := true, recurses := true, named := ["math/bits.deBruijn32tab", "math/bits.deBruijn64tab"], apart := false, laid := [("math/bits.deBruijn32tab", laid_math_bits_deBruijn32tab), ("math/bits.deBruijn64tab", laid_math_bits_deBruijn64tab)], narrowed := true }
def FnExactTechniqueCountsUptoSaid : Prop := fnExactTechniqueCountsUptoRow.holds Tryz.pinned (OpenSpec.upto fnExactTechniqueCountsSpec)

end Rows
end Go.Proofs.YtchcmgaohcldjaaGreatDoor
