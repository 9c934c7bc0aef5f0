/-
  NARROWER THAN 'FOR EVERY INPUT', by the rows' own cells (each row's printed sentence says how): FnStartMasks: laid · FnRulesLess: laid · FnExactSolveFirst: laid · FnExactCountSolutions: laid · FnExactNarrowRules: laid · FnExactNarrowBy: laid · FnExactNarrowAll: laid.
  DERIVED. THE GIVEN ROWS OF THIS SEAT. 7 by the template 'for every input the law returns true; each argument reads behind the call as it read before'; 0 by the template 'total and deterministic' (their statements: YtjdhfknoldginaaDoorTotals.lean).
  GIVEN WITH THE SEED: the statements are not yours to turn. If you find one false, say at which input.
  Laid BY PROGRAM, IN A SANDBOX (cutbox-rows.mjs): the forced cells as the released guide's own fill.sh prints them over the translation 6ea9b03c8f86a5d3… (all of the seat's roots in one cut). By AI agents, Wed Nov 11 2026. No macro, syntax, notation, axiom, sorry.
-/
import Derived.Test.YtjdhfknoldginaaDoorChecked
import GoSem.Claim
import GoSem.ClaimJoined
import GoSem.ClaimMapViews
import Derived.JoinedTies
import Derived.KernelRfl
namespace Go.Proofs.YtjdhfknoldginaaDoor
/- THE CELL 'sum', in the pinned program and in every row, IS THE sha256 OF THE DUMP (.gsa) THAT YtjdhfknoldginaaDoorProg.lean LOADS. Nothing in Lean hashes anything: it is a label: what it is worth is what the hold of that sum in a sandbox is worth. -/
noncomputable def Tryd.pinned : Pinned := { name := "ytjdhfknoldginaadoor", sum := "6ea9b03c8f86a5d360a551d018c4602bca8c38599ca9cca946eabfdd57ecaa9b", checked := Tryd.checked }
namespace Rows
def none {H : Type} : Left H := { results := [], args := [] }

/- WHAT THE LISTED PACKAGE-LEVEL VARIABLES READ AS WHEN THE CALL BEGINS. Each datum BY PROGRAM (the guide's laid-datum.mjs) off the statement by which the dump's own 'gosem.cut.vars' lays the variable. In a bare row this is a premise. The card (YtjdhfknoldginaaDoorCards.lean) ties it to the program's text. -/
def laid_math_bits_deBruijn64tab {H : Type} : DataW H := .agg [.lit (.int .u8 0), .lit (.int .u8 1), .lit (.int .u8 56), .lit (.int .u8 2), .lit (.int .u8 57), .lit (.int .u8 49), .lit (.int .u8 28), .lit (.int .u8 3), .lit (.int .u8 61), .lit (.int .u8 58), .lit (.int .u8 42), .lit (.int .u8 50), .lit (.int .u8 38), .lit (.int .u8 29), .lit (.int .u8 17), .lit (.int .u8 4), .lit (.int .u8 62), .lit (.int .u8 47), .lit (.int .u8 59), .lit (.int .u8 36), .lit (.int .u8 45), .lit (.int .u8 43), .lit (.int .u8 51), .lit (.int .u8 22), .lit (.int .u8 53), .lit (.int .u8 39), .lit (.int .u8 33), .lit (.int .u8 30), .lit (.int .u8 24), .lit (.int .u8 18), .lit (.int .u8 12), .lit (.int .u8 5), .lit (.int .u8 63), .lit (.int .u8 55), .lit (.int .u8 48), .lit (.int .u8 27), .lit (.int .u8 60), .lit (.int .u8 41), .lit (.int .u8 37), .lit (.int .u8 16), .lit (.int .u8 46), .lit (.int .u8 35), .lit (.int .u8 44), .lit (.int .u8 21), .lit (.int .u8 52), .lit (.int .u8 32), .lit (.int .u8 23), .lit (.int .u8 11), .lit (.int .u8 54), .lit (.int .u8 26), .lit (.int .u8 40), .lit (.int .u8 15), .lit (.int .u8 34), .lit (.int .u8 20), .lit (.int .u8 31), .lit (.int .u8 10), .lit (.int .u8 25), .lit (.int .u8 14), .lit (.int .u8 19), .lit (.int .u8 9), .lit (.int .u8 13), .lit (.int .u8 8), .lit (.int .u8 7), .lit (.int .u8 6)]
def laid_math_bits_deBruijn32tab {H : Type} : DataW H := .agg [.lit (.int .u8 0), .lit (.int .u8 1), .lit (.int .u8 28), .lit (.int .u8 2), .lit (.int .u8 29), .lit (.int .u8 14), .lit (.int .u8 24), .lit (.int .u8 3), .lit (.int .u8 30), .lit (.int .u8 22), .lit (.int .u8 20), .lit (.int .u8 15), .lit (.int .u8 25), .lit (.int .u8 17), .lit (.int .u8 4), .lit (.int .u8 8), .lit (.int .u8 31), .lit (.int .u8 27), .lit (.int .u8 13), .lit (.int .u8 23), .lit (.int .u8 21), .lit (.int .u8 19), .lit (.int .u8 16), .lit (.int .u8 7), .lit (.int .u8 26), .lit (.int .u8 12), .lit (.int .u8 18), .lit (.int .u8 6), .lit (.int .u8 11), .lit (.int .u8 5), .lit (.int .u8 10), .lit (.int .u8 9)]

/-- 'laws.FnStartMasks': WHATEVER THE INPUT: true; the input reads as it did. -/
def fnStartMasksSpec : ChangeSpec := { name := "fnStartMasks", fn := fun _ => fun
  | [d] => { results := [.lit (.bool true)], args := [d] }
  | _ => none }
def fnStartMasksRow : OpenClaim := { program := "ytjdhfknoldginaadoor", sum := "6ea9b03c8f86a5d360a551d018c4602bca8c38599ca9cca946eabfdd57ecaa9b", func := "loop.example/gridpuzzles/laws.FnStartMasks", spec := "fnStartMasks", unfollowed := true, recurses := true, named := ["math/bits.deBruijn64tab"], apart := false, laid := [("math/bits.deBruijn64tab", laid_math_bits_deBruijn64tab)] }
def FnStartMasksSaid : Prop := fnStartMasksRow.holds Tryd.pinned (OpenSpec.ofChange fnStartMasksSpec)

/-- ITS FALSE NEIGHBOUR: 'it returns false'. Refute it at one input. -/
def fnStartMasksWrong : ChangeSpec := { name := "fnStartMasks", fn := fun _ => fun
  | [d] => { results := [.lit (.bool false)], args := [d] }
  | _ => none }
def FnStartMasksWrongFalsely : Prop := fnStartMasksRow.holds Tryd.pinned (OpenSpec.ofChange fnStartMasksWrong)

/-- 'laws.FnRulesLess': WHATEVER THE INPUT: true; the input reads as it did. -/
def fnRulesLessSpec : ChangeSpec := { name := "fnRulesLess", fn := fun _ => fun
  | [d] => { results := [.lit (.bool true)], args := [d] }
  | _ => none }
def fnRulesLessRow : OpenClaim := { program := "ytjdhfknoldginaadoor", sum := "6ea9b03c8f86a5d360a551d018c4602bca8c38599ca9cca946eabfdd57ecaa9b", func := "loop.example/gridpuzzles/laws.FnRulesLess", spec := "fnRulesLess", unfollowed := true, recurses := true, named := ["math/bits.deBruijn64tab"], apart := false, laid := [("math/bits.deBruijn64tab", laid_math_bits_deBruijn64tab)] }
def FnRulesLessSaid : Prop := fnRulesLessRow.holds Tryd.pinned (OpenSpec.ofChange fnRulesLessSpec)

/-- ITS FALSE NEIGHBOUR: 'it returns false'. Refute it at one input. -/
def fnRulesLessWrong : ChangeSpec := { name := "fnRulesLess", fn := fun _ => fun
  | [d] => { results := [.lit (.bool false)], args := [d] }
  | _ => none }
def FnRulesLessWrongFalsely : Prop := fnRulesLessRow.holds Tryd.pinned (OpenSpec.ofChange fnRulesLessWrong)

/-- 'laws.FnExactSolveFirst': WHATEVER THE INPUT: true; the input reads as it did. -/
def fnExactSolveFirstSpec : ChangeSpec := { name := "fnExactSolveFirst", fn := fun _ => fun
  | [d] => { results := [.lit (.bool true)], args := [d] }
  | _ => none }
def fnExactSolveFirstRow : OpenClaim := { program := "ytjdhfknoldginaadoor", sum := "6ea9b03c8f86a5d360a551d018c4602bca8c38599ca9cca946eabfdd57ecaa9b", func := "loop.example/gridpuzzles/laws.FnExactSolveFirst", spec := "fnExactSolveFirst", unfollowed := true, recurses := true, named := ["math/bits.deBruijn64tab"], apart := false, laid := [("math/bits.deBruijn64tab", laid_math_bits_deBruijn64tab)] }
def FnExactSolveFirstSaid : Prop := fnExactSolveFirstRow.holds Tryd.pinned (OpenSpec.ofChange fnExactSolveFirstSpec)

/-- ITS FALSE NEIGHBOUR: 'it returns false'. Refute it at one input. -/
def fnExactSolveFirstWrong : ChangeSpec := { name := "fnExactSolveFirst", fn := fun _ => fun
  | [d] => { results := [.lit (.bool false)], args := [d] }
  | _ => none }
def FnExactSolveFirstWrongFalsely : Prop := fnExactSolveFirstRow.holds Tryd.pinned (OpenSpec.ofChange fnExactSolveFirstWrong)

/-- 'laws.FnExactCountSolutions': WHATEVER THE INPUT: true; the input reads as it did. -/
def fnExactCountSolutionsSpec : ChangeSpec := { name := "fnExactCountSolutions", fn := fun _ => fun
  | [d1, d2] => { results := [.lit (.bool true)], args := [d1, d2] }
  | _ => none }
def fnExactCountSolutionsRow : OpenClaim := { program := "ytjdhfknoldginaadoor", sum := "6ea9b03c8f86a5d360a551d018c4602bca8c38599ca9cca946eabfdd57ecaa9b", func := "loop.example/gridpuzzles/laws.FnExactCountSolutions", spec := "fnExactCountSolutions", unfollowed := true, recurses := true, named := ["math/bits.deBruijn64tab"], apart := false, laid := [("math/bits.deBruijn64tab", laid_math_bits_deBruijn64tab)] }
def FnExactCountSolutionsSaid : Prop := fnExactCountSolutionsRow.holds Tryd.pinned (OpenSpec.ofChange fnExactCountSolutionsSpec)

/-- ITS FALSE NEIGHBOUR: 'it returns false'. Refute it at one input. -/
def fnExactCountSolutionsWrong : ChangeSpec := { name := "fnExactCountSolutions", fn := fun _ => fun
  | [d1, d2] => { results := [.lit (.bool false)], args := [d1, d2] }
  | _ => none }
def FnExactCountSolutionsWrongFalsely : Prop := fnExactCountSolutionsRow.holds Tryd.pinned (OpenSpec.ofChange fnExactCountSolutionsWrong)

/-- 'laws.FnExactNarrowRules': WHATEVER THE INPUT: true; the input reads as it did. -/
def fnExactNarrowRulesSpec : ChangeSpec := { name := "fnExactNarrowRules", fn := fun _ => fun
  | [d1, d2] => { results := [.lit (.bool true)], args := [d1, d2] }
  | _ => none }
def fnExactNarrowRulesRow : OpenClaim := { program := "ytjdhfknoldginaadoor", sum := "6ea9b03c8f86a5d360a551d018c4602bca8c38599ca9cca946eabfdd57ecaa9b", func := "loop.example/gridpuzzles/laws.FnExactNarrowRules", spec := "fnExactNarrowRules", unfollowed := true, recurses := true, named := ["math/bits.deBruijn32tab", "math/bits.deBruijn64tab"], apart := false, laid := [("math/bits.deBruijn32tab", laid_math_bits_deBruijn32tab), ("math/bits.deBruijn64tab", laid_math_bits_deBruijn64tab)] }
def FnExactNarrowRulesSaid : Prop := fnExactNarrowRulesRow.holds Tryd.pinned (OpenSpec.ofChange fnExactNarrowRulesSpec)

/-- ITS FALSE NEIGHBOUR: 'it returns false'. Refute it at one input. -/
def fnExactNarrowRulesWrong : ChangeSpec := { name := "fnExactNarrowRules", fn := fun _ => fun
  | [d1, d2] => { results := [.lit (.bool false)], args := [d1, d2] }
  | _ => none }
def FnExactNarrowRulesWrongFalsely : Prop := fnExactNarrowRulesRow.holds Tryd.pinned (OpenSpec.ofChange fnExactNarrowRulesWrong)

/-- 'laws.FnExactNarrowBy': WHATEVER THE INPUT: true; the input reads as it did. -/
def fnExactNarrowBySpec : ChangeSpec := { name := "fnExactNarrowBy", fn := fun _ => fun
  | [d1, d2, d3] => { results := [.lit (.bool true)], args := [d1, d2, d3] }
  | _ => none }
def fnExactNarrowByRow : OpenClaim := { program := "ytjdhfknoldginaadoor", sum := "6ea9b03c8f86a5d360a551d018c4602bca8c38599ca9cca946eabfdd57ecaa9b", func := "loop.example/gridpuzzles/laws.FnExactNarrowBy", spec := "fnExactNarrowBy", unfollowed := true, recurses := true, named := ["math/bits.deBruijn32tab", "math/bits.deBruijn64tab"], apart := false, laid := [("math/bits.deBruijn32tab", laid_math_bits_deBruijn32tab), ("math/bits.deBruijn64tab", laid_math_bits_deBruijn64tab)] }
def FnExactNarrowBySaid : Prop := fnExactNarrowByRow.holds Tryd.pinned (OpenSpec.ofChange fnExactNarrowBySpec)

/-- ITS FALSE NEIGHBOUR: 'it returns false'. Refute it at one input. -/
def fnExactNarrowByWrong : ChangeSpec := { name := "fnExactNarrowBy", fn := fun _ => fun
  | [d1, d2, d3] => { results := [.lit (.bool false)], args := [d1, d2, d3] }
  | _ => none }
def FnExactNarrowByWrongFalsely : Prop := fnExactNarrowByRow.holds Tryd.pinned (OpenSpec.ofChange fnExactNarrowByWrong)

/-- 'laws.FnExactNarrowAll': WHATEVER THE INPUT: true; the input reads as it did. -/
def fnExactNarrowAllSpec : ChangeSpec := { name := "fnExactNarrowAll", fn := fun _ => fun
  | [d1, d2, d3] => { results := [.lit (.bool true)], args := [d1, d2, d3] }
  | _ => none }
def fnExactNarrowAllRow : OpenClaim := { program := "ytjdhfknoldginaadoor", sum := "6ea9b03c8f86a5d360a551d018c4602bca8c38599ca9cca946eabfdd57ecaa9b", func := "loop.example/gridpuzzles/laws.FnExactNarrowAll", spec := "fnExactNarrowAll", unfollowed := true, recurses := true, named := ["math/bits.deBruijn32tab", "math/bits.deBruijn64tab"], apart := false, laid := [("math/bits.deBruijn32tab", laid_math_bits_deBruijn32tab), ("math/bits.deBruijn64tab", laid_math_bits_deBruijn64tab)] }
def FnExactNarrowAllSaid : Prop := fnExactNarrowAllRow.holds Tryd.pinned (OpenSpec.ofChange fnExactNarrowAllSpec)

/-- ITS FALSE NEIGHBOUR: 'it returns false'. Refute it at one input. -/
def fnExactNarrowAllWrong : ChangeSpec := { name := "fnExactNarrowAll", fn := fun _ => fun
  | [d1, d2, d3] => { results := [.lit (.bool false)], args := [d1, d2, d3] }
  | _ => none }
def FnExactNarrowAllWrongFalsely : Prop := fnExactNarrowAllRow.holds Tryd.pinned (OpenSpec.ofChange fnExactNarrowAllWrong)

/- THE SECOND FORM. 'bulk': how many values and letters a reading holds, each counted each time it is reached (what is shared counts as often as it is met; a slice's spare places count too). A statement '..UptoSaid' is the law's where the arguments, and the package variables that the reading takes, are together of bulk at most 1048576: NARROWER than '..Said'. Prove '..Said' where nothing that the law and all that it calls make is longer than what came in: it says more and counts as full. Else prove '..UptoSaid'. A law counts once. -/
mutual
def uptoBulk {H : Type} : DataW H → Nat
  | .lit (.string bytes) => bytes.length + 1
  | .lit _ => 1
  | .nil => 1
  | .ptr d => uptoBulk d + 1
  | .slice elems spare => uptoBulkAll elems + uptoBulkAll spare + 1
  | .agg parts => uptoBulkAll parts + 1
  | .iface _ d => uptoBulk d + 1
  | .map entries => uptoBulkEntries entries + 1
  | .held _ => 1
def uptoBulkAll {H : Type} : List (DataW H) → Nat
  | [] => 0
  | d :: r => uptoBulk d + uptoBulkAll r
def uptoBulkEntries {H : Type} : List (Lit × DataW H) → Nat
  | [] => 0
  | x :: r => uptoBulkEntry x + uptoBulkEntries r
def uptoBulkEntry {H : Type} : Lit × DataW H → Nat
  | (.string bytes, d) => bytes.length + uptoBulk d + 1
  | (_, d) => uptoBulk d + 1
 end
def uptoSmall : (H : Type) → List (DataW H) → Bool := fun _ ds => decide (uptoBulkAll ds ≤ 1048576)
def OpenSpec.upto (s : _root_.Go.ChangeSpec) : _root_.Go.OpenSpec := { _root_.Go.OpenSpec.ofChange s with cond := some uptoSmall }

/-- 'laws.FnStartMasks', WHERE WHAT IT READS IS OF BULK AT MOST 1048576: true; the input reads as it did. -/
def fnStartMasksUptoRow : OpenClaim := { program := "ytjdhfknoldginaadoor", sum := "6ea9b03c8f86a5d360a551d018c4602bca8c38599ca9cca946eabfdd57ecaa9b", func := "loop.example/gridpuzzles/laws.FnStartMasks", spec := "fnStartMasks", unfollowed := true, recurses := true, named := ["math/bits.deBruijn64tab"], apart := false, laid := [("math/bits.deBruijn64tab", laid_math_bits_deBruijn64tab)], narrowed := true }
def FnStartMasksUptoSaid : Prop := fnStartMasksUptoRow.holds Tryd.pinned (OpenSpec.upto fnStartMasksSpec)

/-- 'laws.FnRulesLess', WHERE WHAT IT READS IS OF BULK AT MOST 1048576: true; the input reads as it did. -/
def fnRulesLessUptoRow : OpenClaim := { program := "ytjdhfknoldginaadoor", sum := "6ea9b03c8f86a5d360a551d018c4602bca8c38599ca9cca946eabfdd57ecaa9b", func := "loop.example/gridpuzzles/laws.FnRulesLess", spec := "fnRulesLess", unfollowed := true, recurses := true, named := ["math/bits.deBruijn64tab"], apart := false, laid := [("math/bits.deBruijn64tab", laid_math_bits_deBruijn64tab)], narrowed := true }
def FnRulesLessUptoSaid : Prop := fnRulesLessUptoRow.holds Tryd.pinned (OpenSpec.upto fnRulesLessSpec)

/-- 'laws.FnExactSolveFirst', WHERE WHAT IT READS IS OF BULK AT MOST 1048576: true; the input reads as it did. -/
def fnExactSolveFirstUptoRow : OpenClaim := { program := "ytjdhfknoldginaadoor", sum := "6ea9b03c8f86a5d360a551d018c4602bca8c38599ca9cca946eabfdd57ecaa9b", func := "loop.example/gridpuzzles/laws.FnExactSolveFirst", spec := "fnExactSolveFirst", unfollowed := true, recurses := true, named := ["math/bits.deBruijn64tab"], apart := false, laid := [("math/bits.deBruijn64tab", laid_math_bits_deBruijn64tab)], narrowed := true }
def FnExactSolveFirstUptoSaid : Prop := fnExactSolveFirstUptoRow.holds Tryd.pinned (OpenSpec.upto fnExactSolveFirstSpec)

/-- 'laws.FnExactCountSolutions', WHERE WHAT IT READS IS OF BULK AT MOST 1048576: true; the input reads as it did. -/
def fnExactCountSolutionsUptoRow : OpenClaim := { program := "ytjdhfknoldginaadoor", sum := "6ea9b03c8f86a5d360a551d018c4602bca8c38599ca9cca946eabfdd57ecaa9b", func := "loop.example/gridpuzzles/laws.FnExactCountSolutions", spec := "fnExactCountSolutions", unfollowed := true, recurses := true, named := ["math/bits.deBruijn64tab"], apart := false, laid := [("math/bits.deBruijn64tab", laid_math_bits_deBruijn64tab)], narrowed := true }
def FnExactCountSolutionsUptoSaid : Prop := fnExactCountSolutionsUptoRow.holds Tryd.pinned (OpenSpec.upto fnExactCountSolutionsSpec)

/-- 'laws.FnExactNarrowRules', WHERE WHAT IT READS IS OF BULK AT MOST 1048576: true; the input reads as it did. -/
def fnExactNarrowRulesUptoRow : OpenClaim := { program := "ytjdhfknoldginaadoor", sum := "6ea9b03c8f86a5d360a551d018c4602bca8c38599ca9cca946eabfdd57ecaa9b", func := "loop.example/gridpuzzles/laws.FnExactNarrowRules", spec := "fnExactNarrowRules", unfollowed := true, recurses := true, named := ["math/bits.deBruijn32tab", "math/bits.deBruijn64tab"], apart := false, laid := [("math/bits.deBruijn32tab", laid_math_bits_deBruijn32tab), ("math/bits.deBruijn64tab", laid_math_bits_deBruijn64tab)], narrowed := true }
def FnExactNarrowRulesUptoSaid : Prop := fnExactNarrowRulesUptoRow.holds Tryd.pinned (OpenSpec.upto fnExactNarrowRulesSpec)

/-- 'laws.FnExactNarrowBy', WHERE WHAT IT READS IS OF BULK AT MOST 1048576: true; the input reads as it did. -/
def fnExactNarrowByUptoRow : OpenClaim := { program := "ytjdhfknoldginaadoor", sum := "6ea9b03c8f86a5d360a551d018c4602bca8c38599ca9cca946eabfdd57ecaa9b", func := "loop.example/gridpuzzles/laws.FnExactNarrowBy", spec := "fnExactNarrowBy", unfollowed := true, recurses := true, named := ["math/bits.deBruijn32tab", "math/bits.deBruijn64tab"], apart := false, laid := [("math/bits.deBruijn32tab", laid_math_bits_deBruijn32tab), ("math/bits.deBruijn64tab", laid_math_bits_deBruijn64tab)], narrowed := true }
def FnExactNarrowByUptoSaid : Prop := fnExactNarrowByUptoRow.holds Tryd.pinned (OpenSpec.upto fnExactNarrowBySpec)

/-- 'laws.FnExactNarrowAll', WHERE WHAT IT READS IS OF BULK AT MOST 1048576: true; the input reads as it did. -/
def fnExactNarrowAllUptoRow : OpenClaim := { program := "ytjdhfknoldginaadoor", sum := "6ea9b03c8f86a5d360a551d018c4602bca8c38599ca9cca946eabfdd57ecaa9b", func := "loop.example/gridpuzzles/laws.FnExactNarrowAll", spec := "fnExactNarrowAll", unfollowed := true, recurses := true, named := ["math/bits.deBruijn32tab", "math/bits.deBruijn64tab"], apart := false, laid := [("math/bits.deBruijn32tab", laid_math_bits_deBruijn32tab), ("math/bits.deBruijn64tab", laid_math_bits_deBruijn64tab)], narrowed := true }
def FnExactNarrowAllUptoSaid : Prop := fnExactNarrowAllUptoRow.holds Tryd.pinned (OpenSpec.upto fnExactNarrowAllSpec)

end Rows
end Go.Proofs.YtjdhfknoldginaaDoor
