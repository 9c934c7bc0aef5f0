/-
  NARROWER THAN 'FOR EVERY INPUT', by the rows' own cells (each row's printed sentence says how): FnRulesLess: laid · FnExactCountSolutions: laid · FnIsRedundant: laid · FnIsMinimal: laid · FnMakeMinimal: laid · FnMakeEven: laid · FnExactIsRedundant: laid · FnExactIsMinimal: laid · FnExactMakeMinimal: laid · FnExactMakeEven: laid · FnMinimalAgain: laid · FnEvenMinimal: laid · FnFormsGrade: laid.
  DERIVED. THE GIVEN ROWS OF THIS SEAT. 13 by the template 'for every input the law returns true; each argument reads behind the call as it read before'; 0 by the template 'total and deterministic' (their statements: YtkeoflnmbcdmfaaDoorTotals.lean).
  GIVEN WITH THE SEED: the statements are not yours to turn. If you find one false, say at which input.
  Laid BY PROGRAM, IN A SANDBOX (cutbox-rows.mjs): the forced cells as the released guide's own fill.sh prints them over the translation 8cd40872b6d7198c… (all of the seat's roots in one cut). By AI agents, Wed Nov 11 2026. No macro, syntax, notation, axiom, sorry.
-/
import Derived.Test.YtkeoflnmbcdmfaaDoorChecked
import GoSem.Claim
import GoSem.ClaimJoined
import GoSem.ClaimMapViews
import Derived.JoinedTies
import Derived.KernelRfl
namespace Go.Proofs.YtkeoflnmbcdmfaaDoor
/- THE CELL 'sum', in the pinned program and in every row, IS THE sha256 OF THE DUMP (.gsa) THAT YtkeoflnmbcdmfaaDoorProg.lean LOADS. Nothing in Lean hashes anything: it is a label: what it is worth is what the hold of that sum in a sandbox is worth. -/
noncomputable def Tryd.pinned : Pinned := { name := "ytkeoflnmbcdmfaadoor", sum := "8cd40872b6d7198c261277277089841de10b0002b5a7c7aaf4748ea4b2da88ac", checked := Tryd.checked }
namespace Rows
def none {H : Type} : Left H := { results := [], args := [] }

/- WHAT THE LISTED PACKAGE-LEVEL VARIABLES READ AS WHEN THE CALL BEGINS. Each datum BY PROGRAM (the guide's laid-datum.mjs) off the statement by which the dump's own 'gosem.cut.vars' lays the variable. In a bare row this is a premise. The card (YtkeoflnmbcdmfaaDoorCards.lean) ties it to the program's text. -/
def laid_math_bits_deBruijn64tab {H : Type} : DataW H := .agg [.lit (.int .u8 0), .lit (.int .u8 1), .lit (.int .u8 56), .lit (.int .u8 2), .lit (.int .u8 57), .lit (.int .u8 49), .lit (.int .u8 28), .lit (.int .u8 3), .lit (.int .u8 61), .lit (.int .u8 58), .lit (.int .u8 42), .lit (.int .u8 50), .lit (.int .u8 38), .lit (.int .u8 29), .lit (.int .u8 17), .lit (.int .u8 4), .lit (.int .u8 62), .lit (.int .u8 47), .lit (.int .u8 59), .lit (.int .u8 36), .lit (.int .u8 45), .lit (.int .u8 43), .lit (.int .u8 51), .lit (.int .u8 22), .lit (.int .u8 53), .lit (.int .u8 39), .lit (.int .u8 33), .lit (.int .u8 30), .lit (.int .u8 24), .lit (.int .u8 18), .lit (.int .u8 12), .lit (.int .u8 5), .lit (.int .u8 63), .lit (.int .u8 55), .lit (.int .u8 48), .lit (.int .u8 27), .lit (.int .u8 60), .lit (.int .u8 41), .lit (.int .u8 37), .lit (.int .u8 16), .lit (.int .u8 46), .lit (.int .u8 35), .lit (.int .u8 44), .lit (.int .u8 21), .lit (.int .u8 52), .lit (.int .u8 32), .lit (.int .u8 23), .lit (.int .u8 11), .lit (.int .u8 54), .lit (.int .u8 26), .lit (.int .u8 40), .lit (.int .u8 15), .lit (.int .u8 34), .lit (.int .u8 20), .lit (.int .u8 31), .lit (.int .u8 10), .lit (.int .u8 25), .lit (.int .u8 14), .lit (.int .u8 19), .lit (.int .u8 9), .lit (.int .u8 13), .lit (.int .u8 8), .lit (.int .u8 7), .lit (.int .u8 6)]

/-- 'laws.FnRulesLess': WHATEVER THE INPUT: true; the input reads as it did. -/
def fnRulesLessSpec : ChangeSpec := { name := "fnRulesLess", fn := fun _ => fun
  | [d] => { results := [.lit (.bool true)], args := [d] }
  | _ => none }
def fnRulesLessRow : OpenClaim := { program := "ytkeoflnmbcdmfaadoor", sum := "8cd40872b6d7198c261277277089841de10b0002b5a7c7aaf4748ea4b2da88ac", func := "loop.example/gridpuzzles/laws.FnRulesLess", spec := "fnRulesLess", unfollowed := true, recurses := true, named := ["math/bits.deBruijn64tab"], apart := false, laid := [("math/bits.deBruijn64tab", laid_math_bits_deBruijn64tab)] }
def FnRulesLessSaid : Prop := fnRulesLessRow.holds Tryd.pinned (OpenSpec.ofChange fnRulesLessSpec)

/-- ITS FALSE NEIGHBOUR: 'it returns false'. Refute it at one input. -/
def fnRulesLessWrong : ChangeSpec := { name := "fnRulesLess", fn := fun _ => fun
  | [d] => { results := [.lit (.bool false)], args := [d] }
  | _ => none }
def FnRulesLessWrongFalsely : Prop := fnRulesLessRow.holds Tryd.pinned (OpenSpec.ofChange fnRulesLessWrong)

/-- 'laws.FnExactCountSolutions': WHATEVER THE INPUT: true; the input reads as it did. -/
def fnExactCountSolutionsSpec : ChangeSpec := { name := "fnExactCountSolutions", fn := fun _ => fun
  | [d1, d2] => { results := [.lit (.bool true)], args := [d1, d2] }
  | _ => none }
def fnExactCountSolutionsRow : OpenClaim := { program := "ytkeoflnmbcdmfaadoor", sum := "8cd40872b6d7198c261277277089841de10b0002b5a7c7aaf4748ea4b2da88ac", func := "loop.example/gridpuzzles/laws.FnExactCountSolutions", spec := "fnExactCountSolutions", unfollowed := true, recurses := true, named := ["math/bits.deBruijn64tab"], apart := false, laid := [("math/bits.deBruijn64tab", laid_math_bits_deBruijn64tab)] }
def FnExactCountSolutionsSaid : Prop := fnExactCountSolutionsRow.holds Tryd.pinned (OpenSpec.ofChange fnExactCountSolutionsSpec)

/-- ITS FALSE NEIGHBOUR: 'it returns false'. Refute it at one input. -/
def fnExactCountSolutionsWrong : ChangeSpec := { name := "fnExactCountSolutions", fn := fun _ => fun
  | [d1, d2] => { results := [.lit (.bool false)], args := [d1, d2] }
  | _ => none }
def FnExactCountSolutionsWrongFalsely : Prop := fnExactCountSolutionsRow.holds Tryd.pinned (OpenSpec.ofChange fnExactCountSolutionsWrong)

/-- 'laws.FnIsRedundant': WHATEVER THE INPUT: true; the input reads as it did. -/
def fnIsRedundantSpec : ChangeSpec := { name := "fnIsRedundant", fn := fun _ => fun
  | [d] => { results := [.lit (.bool true)], args := [d] }
  | _ => none }
def fnIsRedundantRow : OpenClaim := { program := "ytkeoflnmbcdmfaadoor", sum := "8cd40872b6d7198c261277277089841de10b0002b5a7c7aaf4748ea4b2da88ac", func := "loop.example/gridpuzzles/laws.FnIsRedundant", spec := "fnIsRedundant", unfollowed := true, recurses := true, named := ["math/bits.deBruijn64tab"], apart := false, laid := [("math/bits.deBruijn64tab", laid_math_bits_deBruijn64tab)] }
def FnIsRedundantSaid : Prop := fnIsRedundantRow.holds Tryd.pinned (OpenSpec.ofChange fnIsRedundantSpec)

/-- ITS FALSE NEIGHBOUR: 'it returns false'. Refute it at one input. -/
def fnIsRedundantWrong : ChangeSpec := { name := "fnIsRedundant", fn := fun _ => fun
  | [d] => { results := [.lit (.bool false)], args := [d] }
  | _ => none }
def FnIsRedundantWrongFalsely : Prop := fnIsRedundantRow.holds Tryd.pinned (OpenSpec.ofChange fnIsRedundantWrong)

/-- 'laws.FnIsMinimal': WHATEVER THE INPUT: true; the input reads as it did. -/
def fnIsMinimalSpec : ChangeSpec := { name := "fnIsMinimal", fn := fun _ => fun
  | [d] => { results := [.lit (.bool true)], args := [d] }
  | _ => none }
def fnIsMinimalRow : OpenClaim := { program := "ytkeoflnmbcdmfaadoor", sum := "8cd40872b6d7198c261277277089841de10b0002b5a7c7aaf4748ea4b2da88ac", func := "loop.example/gridpuzzles/laws.FnIsMinimal", spec := "fnIsMinimal", unfollowed := true, recurses := true, named := ["math/bits.deBruijn64tab"], apart := false, laid := [("math/bits.deBruijn64tab", laid_math_bits_deBruijn64tab)] }
def FnIsMinimalSaid : Prop := fnIsMinimalRow.holds Tryd.pinned (OpenSpec.ofChange fnIsMinimalSpec)

/-- ITS FALSE NEIGHBOUR: 'it returns false'. Refute it at one input. -/
def fnIsMinimalWrong : ChangeSpec := { name := "fnIsMinimal", fn := fun _ => fun
  | [d] => { results := [.lit (.bool false)], args := [d] }
  | _ => none }
def FnIsMinimalWrongFalsely : Prop := fnIsMinimalRow.holds Tryd.pinned (OpenSpec.ofChange fnIsMinimalWrong)

/-- 'laws.FnMakeMinimal': WHATEVER THE INPUT: true; the input reads as it did. -/
def fnMakeMinimalSpec : ChangeSpec := { name := "fnMakeMinimal", fn := fun _ => fun
  | [d] => { results := [.lit (.bool true)], args := [d] }
  | _ => none }
def fnMakeMinimalRow : OpenClaim := { program := "ytkeoflnmbcdmfaadoor", sum := "8cd40872b6d7198c261277277089841de10b0002b5a7c7aaf4748ea4b2da88ac", func := "loop.example/gridpuzzles/laws.FnMakeMinimal", spec := "fnMakeMinimal", unfollowed := true, recurses := true, named := ["math/bits.deBruijn64tab"], apart := false, laid := [("math/bits.deBruijn64tab", laid_math_bits_deBruijn64tab)] }
def FnMakeMinimalSaid : Prop := fnMakeMinimalRow.holds Tryd.pinned (OpenSpec.ofChange fnMakeMinimalSpec)

/-- ITS FALSE NEIGHBOUR: 'it returns false'. Refute it at one input. -/
def fnMakeMinimalWrong : ChangeSpec := { name := "fnMakeMinimal", fn := fun _ => fun
  | [d] => { results := [.lit (.bool false)], args := [d] }
  | _ => none }
def FnMakeMinimalWrongFalsely : Prop := fnMakeMinimalRow.holds Tryd.pinned (OpenSpec.ofChange fnMakeMinimalWrong)

/-- 'laws.FnMakeEven': WHATEVER THE INPUT: true; the input reads as it did. -/
def fnMakeEvenSpec : ChangeSpec := { name := "fnMakeEven", fn := fun _ => fun
  | [d] => { results := [.lit (.bool true)], args := [d] }
  | _ => none }
def fnMakeEvenRow : OpenClaim := { program := "ytkeoflnmbcdmfaadoor", sum := "8cd40872b6d7198c261277277089841de10b0002b5a7c7aaf4748ea4b2da88ac", func := "loop.example/gridpuzzles/laws.FnMakeEven", spec := "fnMakeEven", unfollowed := true, recurses := true, named := ["math/bits.deBruijn64tab"], apart := false, laid := [("math/bits.deBruijn64tab", laid_math_bits_deBruijn64tab)] }
def FnMakeEvenSaid : Prop := fnMakeEvenRow.holds Tryd.pinned (OpenSpec.ofChange fnMakeEvenSpec)

/-- ITS FALSE NEIGHBOUR: 'it returns false'. Refute it at one input. -/
def fnMakeEvenWrong : ChangeSpec := { name := "fnMakeEven", fn := fun _ => fun
  | [d] => { results := [.lit (.bool false)], args := [d] }
  | _ => none }
def FnMakeEvenWrongFalsely : Prop := fnMakeEvenRow.holds Tryd.pinned (OpenSpec.ofChange fnMakeEvenWrong)

/-- 'laws.FnExactIsRedundant': WHATEVER THE INPUT: true; the input reads as it did. -/
def fnExactIsRedundantSpec : ChangeSpec := { name := "fnExactIsRedundant", fn := fun _ => fun
  | [d1, d2] => { results := [.lit (.bool true)], args := [d1, d2] }
  | _ => none }
def fnExactIsRedundantRow : OpenClaim := { program := "ytkeoflnmbcdmfaadoor", sum := "8cd40872b6d7198c261277277089841de10b0002b5a7c7aaf4748ea4b2da88ac", func := "loop.example/gridpuzzles/laws.FnExactIsRedundant", spec := "fnExactIsRedundant", unfollowed := true, recurses := true, named := ["math/bits.deBruijn64tab"], apart := false, laid := [("math/bits.deBruijn64tab", laid_math_bits_deBruijn64tab)] }
def FnExactIsRedundantSaid : Prop := fnExactIsRedundantRow.holds Tryd.pinned (OpenSpec.ofChange fnExactIsRedundantSpec)

/-- ITS FALSE NEIGHBOUR: 'it returns false'. Refute it at one input. -/
def fnExactIsRedundantWrong : ChangeSpec := { name := "fnExactIsRedundant", fn := fun _ => fun
  | [d1, d2] => { results := [.lit (.bool false)], args := [d1, d2] }
  | _ => none }
def FnExactIsRedundantWrongFalsely : Prop := fnExactIsRedundantRow.holds Tryd.pinned (OpenSpec.ofChange fnExactIsRedundantWrong)

/-- 'laws.FnExactIsMinimal': WHATEVER THE INPUT: true; the input reads as it did. -/
def fnExactIsMinimalSpec : ChangeSpec := { name := "fnExactIsMinimal", fn := fun _ => fun
  | [d] => { results := [.lit (.bool true)], args := [d] }
  | _ => none }
def fnExactIsMinimalRow : OpenClaim := { program := "ytkeoflnmbcdmfaadoor", sum := "8cd40872b6d7198c261277277089841de10b0002b5a7c7aaf4748ea4b2da88ac", func := "loop.example/gridpuzzles/laws.FnExactIsMinimal", spec := "fnExactIsMinimal", unfollowed := true, recurses := true, named := ["math/bits.deBruijn64tab"], apart := false, laid := [("math/bits.deBruijn64tab", laid_math_bits_deBruijn64tab)] }
def FnExactIsMinimalSaid : Prop := fnExactIsMinimalRow.holds Tryd.pinned (OpenSpec.ofChange fnExactIsMinimalSpec)

/-- ITS FALSE NEIGHBOUR: 'it returns false'. Refute it at one input. -/
def fnExactIsMinimalWrong : ChangeSpec := { name := "fnExactIsMinimal", fn := fun _ => fun
  | [d] => { results := [.lit (.bool false)], args := [d] }
  | _ => none }
def FnExactIsMinimalWrongFalsely : Prop := fnExactIsMinimalRow.holds Tryd.pinned (OpenSpec.ofChange fnExactIsMinimalWrong)

/-- 'laws.FnExactMakeMinimal': WHATEVER THE INPUT: true; the input reads as it did. -/
def fnExactMakeMinimalSpec : ChangeSpec := { name := "fnExactMakeMinimal", fn := fun _ => fun
  | [d] => { results := [.lit (.bool true)], args := [d] }
  | _ => none }
def fnExactMakeMinimalRow : OpenClaim := { program := "ytkeoflnmbcdmfaadoor", sum := "8cd40872b6d7198c261277277089841de10b0002b5a7c7aaf4748ea4b2da88ac", func := "loop.example/gridpuzzles/laws.FnExactMakeMinimal", spec := "fnExactMakeMinimal", unfollowed := true, recurses := true, named := ["math/bits.deBruijn64tab"], apart := false, laid := [("math/bits.deBruijn64tab", laid_math_bits_deBruijn64tab)] }
def FnExactMakeMinimalSaid : Prop := fnExactMakeMinimalRow.holds Tryd.pinned (OpenSpec.ofChange fnExactMakeMinimalSpec)

/-- ITS FALSE NEIGHBOUR: 'it returns false'. Refute it at one input. -/
def fnExactMakeMinimalWrong : ChangeSpec := { name := "fnExactMakeMinimal", fn := fun _ => fun
  | [d] => { results := [.lit (.bool false)], args := [d] }
  | _ => none }
def FnExactMakeMinimalWrongFalsely : Prop := fnExactMakeMinimalRow.holds Tryd.pinned (OpenSpec.ofChange fnExactMakeMinimalWrong)

/-- 'laws.FnExactMakeEven': WHATEVER THE INPUT: true; the input reads as it did. -/
def fnExactMakeEvenSpec : ChangeSpec := { name := "fnExactMakeEven", fn := fun _ => fun
  | [d] => { results := [.lit (.bool true)], args := [d] }
  | _ => none }
def fnExactMakeEvenRow : OpenClaim := { program := "ytkeoflnmbcdmfaadoor", sum := "8cd40872b6d7198c261277277089841de10b0002b5a7c7aaf4748ea4b2da88ac", func := "loop.example/gridpuzzles/laws.FnExactMakeEven", spec := "fnExactMakeEven", unfollowed := true, recurses := true, named := ["math/bits.deBruijn64tab"], apart := false, laid := [("math/bits.deBruijn64tab", laid_math_bits_deBruijn64tab)] }
def FnExactMakeEvenSaid : Prop := fnExactMakeEvenRow.holds Tryd.pinned (OpenSpec.ofChange fnExactMakeEvenSpec)

/-- ITS FALSE NEIGHBOUR: 'it returns false'. Refute it at one input. -/
def fnExactMakeEvenWrong : ChangeSpec := { name := "fnExactMakeEven", fn := fun _ => fun
  | [d] => { results := [.lit (.bool false)], args := [d] }
  | _ => none }
def FnExactMakeEvenWrongFalsely : Prop := fnExactMakeEvenRow.holds Tryd.pinned (OpenSpec.ofChange fnExactMakeEvenWrong)

/-- 'laws.FnMinimalAgain': WHATEVER THE INPUT: true; the input reads as it did. -/
def fnMinimalAgainSpec : ChangeSpec := { name := "fnMinimalAgain", fn := fun _ => fun
  | [d] => { results := [.lit (.bool true)], args := [d] }
  | _ => none }
def fnMinimalAgainRow : OpenClaim := { program := "ytkeoflnmbcdmfaadoor", sum := "8cd40872b6d7198c261277277089841de10b0002b5a7c7aaf4748ea4b2da88ac", func := "loop.example/gridpuzzles/laws.FnMinimalAgain", spec := "fnMinimalAgain", unfollowed := true, recurses := true, named := ["math/bits.deBruijn64tab"], apart := false, laid := [("math/bits.deBruijn64tab", laid_math_bits_deBruijn64tab)] }
def FnMinimalAgainSaid : Prop := fnMinimalAgainRow.holds Tryd.pinned (OpenSpec.ofChange fnMinimalAgainSpec)

/-- ITS FALSE NEIGHBOUR: 'it returns false'. Refute it at one input. -/
def fnMinimalAgainWrong : ChangeSpec := { name := "fnMinimalAgain", fn := fun _ => fun
  | [d] => { results := [.lit (.bool false)], args := [d] }
  | _ => none }
def FnMinimalAgainWrongFalsely : Prop := fnMinimalAgainRow.holds Tryd.pinned (OpenSpec.ofChange fnMinimalAgainWrong)

/-- 'laws.FnEvenMinimal': WHATEVER THE INPUT: true; the input reads as it did. -/
def fnEvenMinimalSpec : ChangeSpec := { name := "fnEvenMinimal", fn := fun _ => fun
  | [d] => { results := [.lit (.bool true)], args := [d] }
  | _ => none }
def fnEvenMinimalRow : OpenClaim := { program := "ytkeoflnmbcdmfaadoor", sum := "8cd40872b6d7198c261277277089841de10b0002b5a7c7aaf4748ea4b2da88ac", func := "loop.example/gridpuzzles/laws.FnEvenMinimal", spec := "fnEvenMinimal", unfollowed := true, recurses := true, named := ["math/bits.deBruijn64tab"], apart := false, laid := [("math/bits.deBruijn64tab", laid_math_bits_deBruijn64tab)] }
def FnEvenMinimalSaid : Prop := fnEvenMinimalRow.holds Tryd.pinned (OpenSpec.ofChange fnEvenMinimalSpec)

/-- ITS FALSE NEIGHBOUR: 'it returns false'. Refute it at one input. -/
def fnEvenMinimalWrong : ChangeSpec := { name := "fnEvenMinimal", fn := fun _ => fun
  | [d] => { results := [.lit (.bool false)], args := [d] }
  | _ => none }
def FnEvenMinimalWrongFalsely : Prop := fnEvenMinimalRow.holds Tryd.pinned (OpenSpec.ofChange fnEvenMinimalWrong)

/-- 'laws.FnFormsGrade': WHATEVER THE INPUT: true; the input reads as it did. -/
def fnFormsGradeSpec : ChangeSpec := { name := "fnFormsGrade", fn := fun _ => fun
  | [d] => { results := [.lit (.bool true)], args := [d] }
  | _ => none }
def fnFormsGradeRow : OpenClaim := { program := "ytkeoflnmbcdmfaadoor", sum := "8cd40872b6d7198c261277277089841de10b0002b5a7c7aaf4748ea4b2da88ac", func := "loop.example/gridpuzzles/laws.FnFormsGrade", spec := "fnFormsGrade", unfollowed := true, recurses := true, named := ["math/bits.deBruijn64tab"], apart := false, laid := [("math/bits.deBruijn64tab", laid_math_bits_deBruijn64tab)] }
def FnFormsGradeSaid : Prop := fnFormsGradeRow.holds Tryd.pinned (OpenSpec.ofChange fnFormsGradeSpec)

/-- ITS FALSE NEIGHBOUR: 'it returns false'. Refute it at one input. -/
def fnFormsGradeWrong : ChangeSpec := { name := "fnFormsGrade", fn := fun _ => fun
  | [d] => { results := [.lit (.bool false)], args := [d] }
  | _ => none }
def FnFormsGradeWrongFalsely : Prop := fnFormsGradeRow.holds Tryd.pinned (OpenSpec.ofChange fnFormsGradeWrong)

/- THE SECOND FORM. 'bulk': how many values and letters a reading holds, each counted each time it is reached (what is shared counts as often as it is met; a slice's spare places count too). A statement '..UptoSaid' is the law's where the arguments, and the package variables that the reading takes, are together of bulk at most 1048576: NARROWER than '..Said'. Prove '..Said' where nothing that the law and all that it calls make is longer than what came in: it says more and counts as full. Else prove '..UptoSaid'. A law counts once. -/
mutual
def uptoBulk {H : Type} : DataW H → Nat
  | .lit (.string bytes) => bytes.length + 1
  | .lit _ => 1
  | .nil => 1
  | .ptr d => uptoBulk d + 1
  | .slice elems spare => uptoBulkAll elems + uptoBulkAll spare + 1
  | .agg parts => uptoBulkAll parts + 1
  | .iface _ d => uptoBulk d + 1
  | .map entries => uptoBulkEntries entries + 1
  | .held _ => 1
def uptoBulkAll {H : Type} : List (DataW H) → Nat
  | [] => 0
  | d :: r => uptoBulk d + uptoBulkAll r
def uptoBulkEntries {H : Type} : List (Lit × DataW H) → Nat
  | [] => 0
  | x :: r => uptoBulkEntry x + uptoBulkEntries r
def uptoBulkEntry {H : Type} : Lit × DataW H → Nat
  | (.string bytes, d) => bytes.length + uptoBulk d + 1
  | (_, d) => uptoBulk d + 1
 end
def uptoSmall : (H : Type) → List (DataW H) → Bool := fun _ ds => decide (uptoBulkAll ds ≤ 1048576)
def OpenSpec.upto (s : _root_.Go.ChangeSpec) : _root_.Go.OpenSpec := { _root_.Go.OpenSpec.ofChange s with cond := some uptoSmall }

/-- 'laws.FnRulesLess', WHERE WHAT IT READS IS OF BULK AT MOST 1048576: true; the input reads as it did. -/
def fnRulesLessUptoRow : OpenClaim := { program := "ytkeoflnmbcdmfaadoor", sum := "8cd40872b6d7198c261277277089841de10b0002b5a7c7aaf4748ea4b2da88ac", func := "loop.example/gridpuzzles/laws.FnRulesLess", spec := "fnRulesLess", unfollowed := true, recurses := true, named := ["math/bits.deBruijn64tab"], apart := false, laid := [("math/bits.deBruijn64tab", laid_math_bits_deBruijn64tab)], narrowed := true }
def FnRulesLessUptoSaid : Prop := fnRulesLessUptoRow.holds Tryd.pinned (OpenSpec.upto fnRulesLessSpec)

/-- 'laws.FnExactCountSolutions', WHERE WHAT IT READS IS OF BULK AT MOST 1048576: true; the input reads as it did. -/
def fnExactCountSolutionsUptoRow : OpenClaim := { program := "ytkeoflnmbcdmfaadoor", sum := "8cd40872b6d7198c261277277089841de10b0002b5a7c7aaf4748ea4b2da88ac", func := "loop.example/gridpuzzles/laws.FnExactCountSolutions", spec := "fnExactCountSolutions", unfollowed := true, recurses := true, named := ["math/bits.deBruijn64tab"], apart := false, laid := [("math/bits.deBruijn64tab", laid_math_bits_deBruijn64tab)], narrowed := true }
def FnExactCountSolutionsUptoSaid : Prop := fnExactCountSolutionsUptoRow.holds Tryd.pinned (OpenSpec.upto fnExactCountSolutionsSpec)

/-- 'laws.FnIsRedundant', WHERE WHAT IT READS IS OF BULK AT MOST 1048576: true; the input reads as it did. -/
def fnIsRedundantUptoRow : OpenClaim := { program := "ytkeoflnmbcdmfaadoor", sum := "8cd40872b6d7198c261277277089841de10b0002b5a7c7aaf4748ea4b2da88ac", func := "loop.example/gridpuzzles/laws.FnIsRedundant", spec := "fnIsRedundant", unfollowed := true, recurses := true, named := ["math/bits.deBruijn64tab"], apart := false, laid := [("math/bits.deBruijn64tab", laid_math_bits_deBruijn64tab)], narrowed := true }
def FnIsRedundantUptoSaid : Prop := fnIsRedundantUptoRow.holds Tryd.pinned (OpenSpec.upto fnIsRedundantSpec)

/-- 'laws.FnIsMinimal', WHERE WHAT IT READS IS OF BULK AT MOST 1048576: true; the input reads as it did. -/
def fnIsMinimalUptoRow : OpenClaim := { program := "ytkeoflnmbcdmfaadoor", sum := "8cd40872b6d7198c261277277089841de10b0002b5a7c7aaf4748ea4b2da88ac", func := "loop.example/gridpuzzles/laws.FnIsMinimal", spec := "fnIsMinimal", unfollowed := true, recurses := true, named := ["math/bits.deBruijn64tab"], apart := false, laid := [("math/bits.deBruijn64tab", laid_math_bits_deBruijn64tab)], narrowed := true }
def FnIsMinimalUptoSaid : Prop := fnIsMinimalUptoRow.holds Tryd.pinned (OpenSpec.upto fnIsMinimalSpec)

/-- 'laws.FnMakeMinimal', WHERE WHAT IT READS IS OF BULK AT MOST 1048576: true; the input reads as it did. -/
def fnMakeMinimalUptoRow : OpenClaim := { program := "ytkeoflnmbcdmfaadoor", sum := "8cd40872b6d7198c261277277089841de10b0002b5a7c7aaf4748ea4b2da88ac", func := "loop.example/gridpuzzles/laws.FnMakeMinimal", spec := "fnMakeMinimal", unfollowed := true, recurses := true, named := ["math/bits.deBruijn64tab"], apart := false, laid := [("math/bits.deBruijn64tab", laid_math_bits_deBruijn64tab)], narrowed := true }
def FnMakeMinimalUptoSaid : Prop := fnMakeMinimalUptoRow.holds Tryd.pinned (OpenSpec.upto fnMakeMinimalSpec)

/-- 'laws.FnMakeEven', WHERE WHAT IT READS IS OF BULK AT MOST 1048576: true; the input reads as it did. -/
def fnMakeEvenUptoRow : OpenClaim := { program := "ytkeoflnmbcdmfaadoor", sum := "8cd40872b6d7198c261277277089841de10b0002b5a7c7aaf4748ea4b2da88ac", func := "loop.example/gridpuzzles/laws.FnMakeEven", spec := "fnMakeEven", unfollowed := true, recurses := true, named := ["math/bits.deBruijn64tab"], apart := false, laid := [("math/bits.deBruijn64tab", laid_math_bits_deBruijn64tab)], narrowed := true }
def FnMakeEvenUptoSaid : Prop := fnMakeEvenUptoRow.holds Tryd.pinned (OpenSpec.upto fnMakeEvenSpec)

/-- 'laws.FnExactIsRedundant', WHERE WHAT IT READS IS OF BULK AT MOST 1048576: true; the input reads as it did. -/
def fnExactIsRedundantUptoRow : OpenClaim := { program := "ytkeoflnmbcdmfaadoor", sum := "8cd40872b6d7198c261277277089841de10b0002b5a7c7aaf4748ea4b2da88ac", func := "loop.example/gridpuzzles/laws.FnExactIsRedundant", spec := "fnExactIsRedundant", unfollowed := true, recurses := true, named := ["math/bits.deBruijn64tab"], apart := false, laid := [("math/bits.deBruijn64tab", laid_math_bits_deBruijn64tab)], narrowed := true }
def FnExactIsRedundantUptoSaid : Prop := fnExactIsRedundantUptoRow.holds Tryd.pinned (OpenSpec.upto fnExactIsRedundantSpec)

/-- 'laws.FnExactIsMinimal', WHERE WHAT IT READS IS OF BULK AT MOST 1048576: true; the input reads as it did. -/
def fnExactIsMinimalUptoRow : OpenClaim := { program := "ytkeoflnmbcdmfaadoor", sum := "8cd40872b6d7198c261277277089841de10b0002b5a7c7aaf4748ea4b2da88ac", func := "loop.example/gridpuzzles/laws.FnExactIsMinimal", spec := "fnExactIsMinimal", unfollowed := true, recurses := true, named := ["math/bits.deBruijn64tab"], apart := false, laid := [("math/bits.deBruijn64tab", laid_math_bits_deBruijn64tab)], narrowed := true }
def FnExactIsMinimalUptoSaid : Prop := fnExactIsMinimalUptoRow.holds Tryd.pinned (OpenSpec.upto fnExactIsMinimalSpec)

/-- 'laws.FnExactMakeMinimal', WHERE WHAT IT READS IS OF BULK AT MOST 1048576: true; the input reads as it did. -/
def fnExactMakeMinimalUptoRow : OpenClaim := { program := "ytkeoflnmbcdmfaadoor", sum := "8cd40872b6d7198c261277277089841de10b0002b5a7c7aaf4748ea4b2da88ac", func := "loop.example/gridpuzzles/laws.FnExactMakeMinimal", spec := "fnExactMakeMinimal", unfollowed := true, recurses := true, named := ["math/bits.deBruijn64tab"], apart := false, laid := [("math/bits.deBruijn64tab", laid_math_bits_deBruijn64tab)], narrowed := true }
def FnExactMakeMinimalUptoSaid : Prop := fnExactMakeMinimalUptoRow.holds Tryd.pinned (OpenSpec.upto fnExactMakeMinimalSpec)

/-- 'laws.FnExactMakeEven', WHERE WHAT IT READS IS OF BULK AT MOST 1048576: true; the input reads as it did. -/
def fnExactMakeEvenUptoRow : OpenClaim := { program := "ytkeoflnmbcdmfaadoor", sum := "8cd40872b6d7198c261277277089841de10b0002b5a7c7aaf4748ea4b2da88ac", func := "loop.example/gridpuzzles/laws.FnExactMakeEven", spec := "fnExactMakeEven", unfollowed := true, recurses := true, named := ["math/bits.deBruijn64tab"], apart := false, laid := [("math/bits.deBruijn64tab", laid_math_bits_deBruijn64tab)], narrowed := true }
def FnExactMakeEvenUptoSaid : Prop := fnExactMakeEvenUptoRow.holds Tryd.pinned (OpenSpec.upto fnExactMakeEvenSpec)

/-- 'laws.FnMinimalAgain', WHERE WHAT IT READS IS OF BULK AT MOST 1048576: true; the input reads as it did. -/
def fnMinimalAgainUptoRow : OpenClaim := { program := "ytkeoflnmbcdmfaadoor", sum := "8cd40872b6d7198c261277277089841de10b0002b5a7c7aaf4748ea4b2da88ac", func := "loop.example/gridpuzzles/laws.FnMinimalAgain", spec := "fnMinimalAgain", unfollowed := true, recurses := true, named := ["math/bits.deBruijn64tab"], apart := false, laid := [("math/bits.deBruijn64tab", laid_math_bits_deBruijn64tab)], narrowed := true }
def FnMinimalAgainUptoSaid : Prop := fnMinimalAgainUptoRow.holds Tryd.pinned (OpenSpec.upto fnMinimalAgainSpec)

/-- 'laws.FnEvenMinimal', WHERE WHAT IT READS IS OF BULK AT MOST 1048576: true; the input reads as it did. -/
def fnEvenMinimalUptoRow : OpenClaim := { program := "ytkeoflnmbcdmfaadoor", sum := "8cd40872b6d7198c261277277089841de10b0002b5a7c7aaf4748ea4b2da88ac", func := "loop.example/gridpuzzles/laws.FnEvenMinimal", spec := "fnEvenMinimal", unfollowed := true, recurses := true, named := ["math/bits.deBruijn64tab"], apart := false, laid := [("math/bits.deBruijn64tab", laid_math_bits_deBruijn64tab)], narrowed := true }
def FnEvenMinimalUptoSaid : Prop := fnEvenMinimalUptoRow.holds Tryd.pinned (OpenSpec.upto fnEvenMinimalSpec)

/-- 'laws.FnFormsGrade', WHERE WHAT IT READS IS OF BULK AT MOST 1048576: true; the input reads as it did. -/
def fnFormsGradeUptoRow : OpenClaim := { program := "ytkeoflnmbcdmfaadoor", sum := "8cd40872b6d7198c261277277089841de10b0002b5a7c7aaf4748ea4b2da88ac", func := "loop.example/gridpuzzles/laws.FnFormsGrade", spec := "fnFormsGrade", unfollowed := true, recurses := true, named := ["math/bits.deBruijn64tab"], apart := false, laid := [("math/bits.deBruijn64tab", laid_math_bits_deBruijn64tab)], narrowed := true }
def FnFormsGradeUptoSaid : Prop := fnFormsGradeUptoRow.holds Tryd.pinned (OpenSpec.upto fnFormsGradeSpec)

end Rows
end Go.Proofs.YtkeoflnmbcdmfaaDoor
