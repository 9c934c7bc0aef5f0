/-
  NARROWER THAN 'FOR EVERY INPUT', by the rows' own cells (each row's printed sentence says how): FnCountSolutions: laid · FnSolveFirst: laid · FnPuzzleOf: laid · FnNarrowRules: laid · FnNarrowAll: laid · FnNarrowMore: laid · FnGradePuzzle: laid · FnExactGradePuzzle: laid.
  DERIVED. THE GIVEN ROWS OF THIS SEAT. 8 by the template 'for every input the law returns true; each argument reads behind the call as it read before'; 0 by the template 'total and deterministic' (their statements: YtcjdjcpappfkgaaGreatDoorTotals.lean).
  GIVEN WITH THE SEED: the statements are not yours to turn. If you find one false, say at which input.
  Laid BY PROGRAM, IN A SANDBOX (cutbox-rows.mjs): the forced cells as the released guide's own fill.sh prints them over the translation 5ac157303a0b537b… (all of the seat's roots in one cut). By AI agents, Wed Nov 11 2026. No macro, syntax, notation, axiom, sorry.
-/
import Derived.Test.YtcjdjcpappfkgaaGreatDoorChecked
import GoSem.Claim
import GoSem.ClaimJoined
import GoSem.ClaimMapViews
import Derived.JoinedTies
import Derived.KernelRfl
namespace Go.Proofs.YtcjdjcpappfkgaaGreatDoor
/- THE CELL 'sum', in the pinned program and in every row, IS THE sha256 OF THE DUMP (.gsa) THAT YtcjdjcpappfkgaaGreatDoorProg.lean LOADS. Nothing in Lean hashes anything: it is a label: what it is worth is what the hold of that sum in a sandbox is worth. -/
noncomputable def Tryz.pinned : Pinned := { name := "ytcjdjcpappfkgaagreatdoor", sum := "5ac157303a0b537b1210518fdab678c91ff8127dfbffb256126f9d38ae1fa4b3", checked := Tryz.checked }
namespace Rows
def none {H : Type} : Left H := { results := [], args := [] }

/- WHAT THE LISTED PACKAGE-LEVEL VARIABLES READ AS WHEN THE CALL BEGINS. Each datum BY PROGRAM (the guide's laid-datum.mjs) off the statement by which the dump's own 'gosem.cut.vars' lays the variable. In a bare row this is a premise. The card (YtcjdjcpappfkgaaGreatDoorCards.lean) ties it to the program's text. -/
def laid_math_bits_deBruijn64tab {H : Type} : DataW H := .agg [.lit (.int .u8 0), .lit (.int .u8 1), .lit (.int .u8 56), .lit (.int .u8 2), .lit (.int .u8 57), .lit (.int .u8 49), .lit (.int .u8 28), .lit (.int .u8 3), .lit (.int .u8 61), .lit (.int .u8 58), .lit (.int .u8 42), .lit (.int .u8 50), .lit (.int .u8 38), .lit (.int .u8 29), .lit (.int .u8 17), .lit (.int .u8 4), .lit (.int .u8 62), .lit (.int .u8 47), .lit (.int .u8 59), .lit (.int .u8 36), .lit (.int .u8 45), .lit (.int .u8 43), .lit (.int .u8 51), .lit (.int .u8 22), .lit (.int .u8 53), .lit (.int .u8 39), .lit (.int .u8 33), .lit (.int .u8 30), .lit (.int .u8 24), .lit (.int .u8 18), .lit (.int .u8 12), .lit (.int .u8 5), .lit (.int .u8 63), .lit (.int .u8 55), .lit (.int .u8 48), .lit (.int .u8 27), .lit (.int .u8 60), .lit (.int .u8 41), .lit (.int .u8 37), .lit (.int .u8 16), .lit (.int .u8 46), .lit (.int .u8 35), .lit (.int .u8 44), .lit (.int .u8 21), .lit (.int .u8 52), .lit (.int .u8 32), .lit (.int .u8 23), .lit (.int .u8 11), .lit (.int .u8 54), .lit (.int .u8 26), .lit (.int .u8 40), .lit (.int .u8 15), .lit (.int .u8 34), .lit (.int .u8 20), .lit (.int .u8 31), .lit (.int .u8 10), .lit (.int .u8 25), .lit (.int .u8 14), .lit (.int .u8 19), .lit (.int .u8 9), .lit (.int .u8 13), .lit (.int .u8 8), .lit (.int .u8 7), .lit (.int .u8 6)]
def laid_math_bits_deBruijn32tab {H : Type} : DataW H := .agg [.lit (.int .u8 0), .lit (.int .u8 1), .lit (.int .u8 28), .lit (.int .u8 2), .lit (.int .u8 29), .lit (.int .u8 14), .lit (.int .u8 24), .lit (.int .u8 3), .lit (.int .u8 30), .lit (.int .u8 22), .lit (.int .u8 20), .lit (.int .u8 15), .lit (.int .u8 25), .lit (.int .u8 17), .lit (.int .u8 4), .lit (.int .u8 8), .lit (.int .u8 31), .lit (.int .u8 27), .lit (.int .u8 13), .lit (.int .u8 23), .lit (.int .u8 21), .lit (.int .u8 19), .lit (.int .u8 16), .lit (.int .u8 7), .lit (.int .u8 26), .lit (.int .u8 12), .lit (.int .u8 18), .lit (.int .u8 6), .lit (.int .u8 11), .lit (.int .u8 5), .lit (.int .u8 10), .lit (.int .u8 9)]

/-- 'laws.FnCountSolutions': WHATEVER THE INPUT: true; the input reads as it did. -/
def fnCountSolutionsSpec : ChangeSpec := { name := "fnCountSolutions", fn := fun _ => fun
  | [d] => { results := [.lit (.bool true)], args := [d] }
  | _ => none }
def fnCountSolutionsRow : OpenClaim := { program := "ytcjdjcpappfkgaagreatdoor", sum := "5ac157303a0b537b1210518fdab678c91ff8127dfbffb256126f9d38ae1fa4b3", func := "loop.example/gridpuzzles/laws.FnCountSolutions", spec := "fnCountSolutions", unfollowed := true, recurses := true, named := ["math/bits.deBruijn64tab"], apart := false, laid := [("math/bits.deBruijn64tab", laid_math_bits_deBruijn64tab)] }
def FnCountSolutionsSaid : Prop := fnCountSolutionsRow.holds Tryz.pinned (OpenSpec.ofChange fnCountSolutionsSpec)

/-- ITS FALSE NEIGHBOUR: 'it returns false'. Refute it at one input. -/
def fnCountSolutionsWrong : ChangeSpec := { name := "fnCountSolutions", fn := fun _ => fun
  | [d] => { results := [.lit (.bool false)], args := [d] }
  | _ => none }
def FnCountSolutionsWrongFalsely : Prop := fnCountSolutionsRow.holds Tryz.pinned (OpenSpec.ofChange fnCountSolutionsWrong)

/-- 'laws.FnSolveFirst': WHATEVER THE INPUT: true; the input reads as it did. -/
def fnSolveFirstSpec : ChangeSpec := { name := "fnSolveFirst", fn := fun _ => fun
  | [d] => { results := [.lit (.bool true)], args := [d] }
  | _ => none }
def fnSolveFirstRow : OpenClaim := { program := "ytcjdjcpappfkgaagreatdoor", sum := "5ac157303a0b537b1210518fdab678c91ff8127dfbffb256126f9d38ae1fa4b3", func := "loop.example/gridpuzzles/laws.FnSolveFirst", spec := "fnSolveFirst", unfollowed := true, recurses := true, named := ["math/bits.deBruijn64tab"], apart := false, laid := [("math/bits.deBruijn64tab", laid_math_bits_deBruijn64tab)] }
def FnSolveFirstSaid : Prop := fnSolveFirstRow.holds Tryz.pinned (OpenSpec.ofChange fnSolveFirstSpec)

/-- ITS FALSE NEIGHBOUR: 'it returns false'. Refute it at one input. -/
def fnSolveFirstWrong : ChangeSpec := { name := "fnSolveFirst", fn := fun _ => fun
  | [d] => { results := [.lit (.bool false)], args := [d] }
  | _ => none }
def FnSolveFirstWrongFalsely : Prop := fnSolveFirstRow.holds Tryz.pinned (OpenSpec.ofChange fnSolveFirstWrong)

/-- 'laws.FnPuzzleOf': WHATEVER THE INPUT: true; the input reads as it did. -/
def fnPuzzleOfSpec : ChangeSpec := { name := "fnPuzzleOf", fn := fun _ => fun
  | [d] => { results := [.lit (.bool true)], args := [d] }
  | _ => none }
def fnPuzzleOfRow : OpenClaim := { program := "ytcjdjcpappfkgaagreatdoor", sum := "5ac157303a0b537b1210518fdab678c91ff8127dfbffb256126f9d38ae1fa4b3", func := "loop.example/gridpuzzles/laws.FnPuzzleOf", spec := "fnPuzzleOf", unfollowed := true, recurses := true, named := ["math/bits.deBruijn64tab", "math/bits.deBruijn32tab"], apart := false, laid := [("math/bits.deBruijn32tab", laid_math_bits_deBruijn32tab), ("math/bits.deBruijn64tab", laid_math_bits_deBruijn64tab)] }
def FnPuzzleOfSaid : Prop := fnPuzzleOfRow.holds Tryz.pinned (OpenSpec.ofChange fnPuzzleOfSpec)

/-- ITS FALSE NEIGHBOUR: 'it returns false'. Refute it at one input. -/
def fnPuzzleOfWrong : ChangeSpec := { name := "fnPuzzleOf", fn := fun _ => fun
  | [d] => { results := [.lit (.bool false)], args := [d] }
  | _ => none }
def FnPuzzleOfWrongFalsely : Prop := fnPuzzleOfRow.holds Tryz.pinned (OpenSpec.ofChange fnPuzzleOfWrong)

/-- 'laws.FnNarrowRules': WHATEVER THE INPUT: true; the input reads as it did. -/
def fnNarrowRulesSpec : ChangeSpec := { name := "fnNarrowRules", fn := fun _ => fun
  | [d] => { results := [.lit (.bool true)], args := [d] }
  | _ => none }
def fnNarrowRulesRow : OpenClaim := { program := "ytcjdjcpappfkgaagreatdoor", sum := "5ac157303a0b537b1210518fdab678c91ff8127dfbffb256126f9d38ae1fa4b3", func := "loop.example/gridpuzzles/laws.FnNarrowRules", spec := "fnNarrowRules", unfollowed := true, recurses := true, named := ["math/bits.deBruijn32tab", "math/bits.deBruijn64tab"], apart := false, laid := [("math/bits.deBruijn32tab", laid_math_bits_deBruijn32tab), ("math/bits.deBruijn64tab", laid_math_bits_deBruijn64tab)] }
def FnNarrowRulesSaid : Prop := fnNarrowRulesRow.holds Tryz.pinned (OpenSpec.ofChange fnNarrowRulesSpec)

/-- ITS FALSE NEIGHBOUR: 'it returns false'. Refute it at one input. -/
def fnNarrowRulesWrong : ChangeSpec := { name := "fnNarrowRules", fn := fun _ => fun
  | [d] => { results := [.lit (.bool false)], args := [d] }
  | _ => none }
def FnNarrowRulesWrongFalsely : Prop := fnNarrowRulesRow.holds Tryz.pinned (OpenSpec.ofChange fnNarrowRulesWrong)

/-- 'laws.FnNarrowAll': WHATEVER THE INPUT: true; the input reads as it did. -/
def fnNarrowAllSpec : ChangeSpec := { name := "fnNarrowAll", fn := fun _ => fun
  | [d] => { results := [.lit (.bool true)], args := [d] }
  | _ => none }
def fnNarrowAllRow : OpenClaim := { program := "ytcjdjcpappfkgaagreatdoor", sum := "5ac157303a0b537b1210518fdab678c91ff8127dfbffb256126f9d38ae1fa4b3", func := "loop.example/gridpuzzles/laws.FnNarrowAll", spec := "fnNarrowAll", unfollowed := true, recurses := true, named := ["math/bits.deBruijn32tab", "math/bits.deBruijn64tab"], apart := false, laid := [("math/bits.deBruijn32tab", laid_math_bits_deBruijn32tab), ("math/bits.deBruijn64tab", laid_math_bits_deBruijn64tab)] }
def FnNarrowAllSaid : Prop := fnNarrowAllRow.holds Tryz.pinned (OpenSpec.ofChange fnNarrowAllSpec)

/-- ITS FALSE NEIGHBOUR: 'it returns false'. Refute it at one input. -/
def fnNarrowAllWrong : ChangeSpec := { name := "fnNarrowAll", fn := fun _ => fun
  | [d] => { results := [.lit (.bool false)], args := [d] }
  | _ => none }
def FnNarrowAllWrongFalsely : Prop := fnNarrowAllRow.holds Tryz.pinned (OpenSpec.ofChange fnNarrowAllWrong)

/-- 'laws.FnNarrowMore': WHATEVER THE INPUT: true; the input reads as it did. -/
def fnNarrowMoreSpec : ChangeSpec := { name := "fnNarrowMore", fn := fun _ => fun
  | [d] => { results := [.lit (.bool true)], args := [d] }
  | _ => none }
def fnNarrowMoreRow : OpenClaim := { program := "ytcjdjcpappfkgaagreatdoor", sum := "5ac157303a0b537b1210518fdab678c91ff8127dfbffb256126f9d38ae1fa4b3", func := "loop.example/gridpuzzles/laws.FnNarrowMore", spec := "fnNarrowMore", unfollowed := true, recurses := true, named := ["math/bits.deBruijn64tab", "math/bits.deBruijn32tab"], apart := false, laid := [("math/bits.deBruijn32tab", laid_math_bits_deBruijn32tab), ("math/bits.deBruijn64tab", laid_math_bits_deBruijn64tab)] }
def FnNarrowMoreSaid : Prop := fnNarrowMoreRow.holds Tryz.pinned (OpenSpec.ofChange fnNarrowMoreSpec)

/-- ITS FALSE NEIGHBOUR: 'it returns false'. Refute it at one input. -/
def fnNarrowMoreWrong : ChangeSpec := { name := "fnNarrowMore", fn := fun _ => fun
  | [d] => { results := [.lit (.bool false)], args := [d] }
  | _ => none }
def FnNarrowMoreWrongFalsely : Prop := fnNarrowMoreRow.holds Tryz.pinned (OpenSpec.ofChange fnNarrowMoreWrong)

/-- 'laws.FnGradePuzzle': WHATEVER THE INPUT: true; the input reads as it did. -/
def fnGradePuzzleSpec : ChangeSpec := { name := "fnGradePuzzle", fn := fun _ => fun
  | [d] => { results := [.lit (.bool true)], args := [d] }
  | _ => none }
def fnGradePuzzleRow : OpenClaim := { program := "ytcjdjcpappfkgaagreatdoor", sum := "5ac157303a0b537b1210518fdab678c91ff8127dfbffb256126f9d38ae1fa4b3", func := "loop.example/gridpuzzles/laws.FnGradePuzzle", spec := "fnGradePuzzle", unfollowed := true, recurses := true, named := ["math/bits.deBruijn64tab", "math/bits.deBruijn32tab"], apart := false, laid := [("math/bits.deBruijn32tab", laid_math_bits_deBruijn32tab), ("math/bits.deBruijn64tab", laid_math_bits_deBruijn64tab)] }
def FnGradePuzzleSaid : Prop := fnGradePuzzleRow.holds Tryz.pinned (OpenSpec.ofChange fnGradePuzzleSpec)

/-- ITS FALSE NEIGHBOUR: 'it returns false'. Refute it at one input. -/
def fnGradePuzzleWrong : ChangeSpec := { name := "fnGradePuzzle", fn := fun _ => fun
  | [d] => { results := [.lit (.bool false)], args := [d] }
  | _ => none }
def FnGradePuzzleWrongFalsely : Prop := fnGradePuzzleRow.holds Tryz.pinned (OpenSpec.ofChange fnGradePuzzleWrong)

/-- 'laws.FnExactGradePuzzle': WHATEVER THE INPUT: true; the input reads as it did. -/
def fnExactGradePuzzleSpec : ChangeSpec := { name := "fnExactGradePuzzle", fn := fun _ => fun
  | [d] => { results := [.lit (.bool true)], args := [d] }
  | _ => none }
def fnExactGradePuzzleRow : OpenClaim := { program := "ytcjdjcpappfkgaagreatdoor", sum := "5ac157303a0b537b1210518fdab678c91ff8127dfbffb256126f9d38ae1fa4b3", func := "loop.example/gridpuzzles/laws.FnExactGradePuzzle", spec := "fnExactGradePuzzle", unfollowed := true, recurses := true, named := ["math/bits.deBruijn64tab", "math/bits.deBruijn32tab"], apart := false, laid := [("math/bits.deBruijn32tab", laid_math_bits_deBruijn32tab), ("math/bits.deBruijn64tab", laid_math_bits_deBruijn64tab)] }
def FnExactGradePuzzleSaid : Prop := fnExactGradePuzzleRow.holds Tryz.pinned (OpenSpec.ofChange fnExactGradePuzzleSpec)

/-- ITS FALSE NEIGHBOUR: 'it returns false'. Refute it at one input. -/
def fnExactGradePuzzleWrong : ChangeSpec := { name := "fnExactGradePuzzle", fn := fun _ => fun
  | [d] => { results := [.lit (.bool false)], args := [d] }
  | _ => none }
def FnExactGradePuzzleWrongFalsely : Prop := fnExactGradePuzzleRow.holds Tryz.pinned (OpenSpec.ofChange fnExactGradePuzzleWrong)

/- THE SECOND FORM. 'bulk': how many values and letters a reading holds, each counted each time it is reached (what is shared counts as often as it is met; a slice's spare places count too). A statement '..UptoSaid' is the law's where the arguments, and the package variables that the reading takes, are together of bulk at most 1048576: NARROWER than '..Said'. Prove '..Said' where nothing that the law and all that it calls make is longer than what came in: it says more and counts as full. Else prove '..UptoSaid'. A law counts once. -/
mutual
def uptoBulk {H : Type} : DataW H → Nat
  | .lit (.string bytes) => bytes.length + 1
  | .lit _ => 1
  | .nil => 1
  | .ptr d => uptoBulk d + 1
  | .slice elems spare => uptoBulkAll elems + uptoBulkAll spare + 1
  | .agg parts => uptoBulkAll parts + 1
  | .iface _ d => uptoBulk d + 1
  | .map entries => uptoBulkEntries entries + 1
  | .held _ => 1
def uptoBulkAll {H : Type} : List (DataW H) → Nat
  | [] => 0
  | d :: r => uptoBulk d + uptoBulkAll r
def uptoBulkEntries {H : Type} : List (Lit × DataW H) → Nat
  | [] => 0
  | x :: r => uptoBulkEntry x + uptoBulkEntries r
def uptoBulkEntry {H : Type} : Lit × DataW H → Nat
  | (.string bytes, d) => bytes.length + uptoBulk d + 1
  | (_, d) => uptoBulk d + 1
 end
def uptoSmall : (H : Type) → List (DataW H) → Bool := fun _ ds => decide (uptoBulkAll ds ≤ 1048576)
def OpenSpec.upto (s : _root_.Go.ChangeSpec) : _root_.Go.OpenSpec := { _root_.Go.OpenSpec.ofChange s with cond := some uptoSmall }

/-- 'laws.FnCountSolutions', WHERE WHAT IT READS IS OF BULK AT MOST 1048576: true; the input reads as it did. -/
def fnCountSolutionsUptoRow : OpenClaim := { program := "ytcjdjcpappfkgaagreatdoor", sum := "5ac157303a0b537b1210518fdab678c91ff8127dfbffb256126f9d38ae1fa4b3", func := "loop.example/gridpuzzles/laws.FnCountSolutions", spec := "fnCountSolutions", unfollowed := true, recurses := true, named := ["math/bits.deBruijn64tab"], apart := false, laid := [("math/bits.deBruijn64tab", laid_math_bits_deBruijn64tab)], narrowed := true }
def FnCountSolutionsUptoSaid : Prop := fnCountSolutionsUptoRow.holds Tryz.pinned (OpenSpec.upto fnCountSolutionsSpec)

/-- 'laws.FnSolveFirst', WHERE WHAT IT READS IS OF BULK AT MOST 1048576: true; the input reads as it did. -/
def fnSolveFirstUptoRow : OpenClaim := { program := "ytcjdjcpappfkgaagreatdoor", sum := "5ac157303a0b537b1210518fdab678c91ff8127dfbffb256126f9d38ae1fa4b3", func := "loop.example/gridpuzzles/laws.FnSolveFirst", spec := "fnSolveFirst", unfollowed := true, recurses := true, named := ["math/bits.deBruijn64tab"], apart := false, laid := [("math/bits.deBruijn64tab", laid_math_bits_deBruijn64tab)], narrowed := true }
def FnSolveFirstUptoSaid : Prop := fnSolveFirstUptoRow.holds Tryz.pinned (OpenSpec.upto fnSolveFirstSpec)

/-- 'laws.FnPuzzleOf', WHERE WHAT IT READS IS OF BULK AT MOST 1048576: true; the input reads as it did. -/
def fnPuzzleOfUptoRow : OpenClaim := { program := "ytcjdjcpappfkgaagreatdoor", sum := "5ac157303a0b537b1210518fdab678c91ff8127dfbffb256126f9d38ae1fa4b3", func := "loop.example/gridpuzzles/laws.FnPuzzleOf", spec := "fnPuzzleOf", unfollowed := true, recurses := true, named := ["math/bits.deBruijn64tab", "math/bits.deBruijn32tab"], apart := false, laid := [("math/bits.deBruijn32tab", laid_math_bits_deBruijn32tab), ("math/bits.deBruijn64tab", laid_math_bits_deBruijn64tab)], narrowed := true }
def FnPuzzleOfUptoSaid : Prop := fnPuzzleOfUptoRow.holds Tryz.pinned (OpenSpec.upto fnPuzzleOfSpec)

/-- 'laws.FnNarrowRules', WHERE WHAT IT READS IS OF BULK AT MOST 1048576: true; the input reads as it did. -/
def fnNarrowRulesUptoRow : OpenClaim := { program := "ytcjdjcpappfkgaagreatdoor", sum := "5ac157303a0b537b1210518fdab678c91ff8127dfbffb256126f9d38ae1fa4b3", func := "loop.example/gridpuzzles/laws.FnNarrowRules", spec := "fnNarrowRules", unfollowed := true, recurses := true, named := ["math/bits.deBruijn32tab", "math/bits.deBruijn64tab"], apart := false, laid := [("math/bits.deBruijn32tab", laid_math_bits_deBruijn32tab), ("math/bits.deBruijn64tab", laid_math_bits_deBruijn64tab)], narrowed := true }
def FnNarrowRulesUptoSaid : Prop := fnNarrowRulesUptoRow.holds Tryz.pinned (OpenSpec.upto fnNarrowRulesSpec)

/-- 'laws.FnNarrowAll', WHERE WHAT IT READS IS OF BULK AT MOST 1048576: true; the input reads as it did. -/
def fnNarrowAllUptoRow : OpenClaim := { program := "ytcjdjcpappfkgaagreatdoor", sum := "5ac157303a0b537b1210518fdab678c91ff8127dfbffb256126f9d38ae1fa4b3", func := "loop.example/gridpuzzles/laws.FnNarrowAll", spec := "fnNarrowAll", unfollowed := true, recurses := true, named := ["math/bits.deBruijn32tab", "math/bits.deBruijn64tab"], apart := false, laid := [("math/bits.deBruijn32tab", laid_math_bits_deBruijn32tab), ("math/bits.deBruijn64tab", laid_math_bits_deBruijn64tab)], narrowed := true }
def FnNarrowAllUptoSaid : Prop := fnNarrowAllUptoRow.holds Tryz.pinned (OpenSpec.upto fnNarrowAllSpec)

/-- 'laws.FnNarrowMore', WHERE WHAT IT READS IS OF BULK AT MOST 1048576: true; the input reads as it did. -/
def fnNarrowMoreUptoRow : OpenClaim := { program := "ytcjdjcpappfkgaagreatdoor", sum := "5ac157303a0b537b1210518fdab678c91ff8127dfbffb256126f9d38ae1fa4b3", func := "loop.example/gridpuzzles/laws.FnNarrowMore", spec := "fnNarrowMore", unfollowed := true, recurses := true, named := ["math/bits.deBruijn64tab", "math/bits.deBruijn32tab"], apart := false, laid := [("math/bits.deBruijn32tab", laid_math_bits_deBruijn32tab), ("math/bits.deBruijn64tab", laid_math_bits_deBruijn64tab)], narrowed := true }
def FnNarrowMoreUptoSaid : Prop := fnNarrowMoreUptoRow.holds Tryz.pinned (OpenSpec.upto fnNarrowMoreSpec)

/-- 'laws.FnGradePuzzle', WHERE WHAT IT READS IS OF BULK AT MOST 1048576: true; the input reads as it did. -/
def fnGradePuzzleUptoRow : OpenClaim := { program := "ytcjdjcpappfkgaagreatdoor", sum := "5ac157303a0b537b1210518fdab678c91ff8127dfbffb256126f9d38ae1fa4b3", func := "loop.example/gridpuzzles/laws.FnGradePuzzle", spec := "fnGradePuzzle", unfollowed := true, recurses := true, named := ["math/bits.deBruijn64tab", "math/bits.deBruijn32tab"], apart := false, laid := [("math/bits.deBruijn32tab", laid_math_bits_deBruijn32tab), ("math/bits.deBruijn64tab", laid_math_bits_deBruijn64tab)], narrowed := true }
def FnGradePuzzleUptoSaid : Prop := fnGradePuzzleUptoRow.holds Tryz.pinned (OpenSpec.upto fnGradePuzzleSpec)

/-- 'laws.FnExactGradePuzzle', WHERE WHAT IT READS IS OF BULK AT MOST 1048576: true; the input reads as it did. -/
def fnExactGradePuzzleUptoRow : OpenClaim := { program := "ytcjdjcpappfkgaagreatdoor", sum := "5ac157303a0b537b1210518fdab678c91ff8127dfbffb256126f9d38ae1fa4b3", func := "loop.example/gridpuzzles/laws.FnExactGradePuzzle", spec := "fnExactGradePuzzle", unfollowed := true, recurses := true, named := ["math/bits.deBruijn64tab", "math/bits.deBruijn32tab"], apart := false, laid := [("math/bits.deBruijn32tab", laid_math_bits_deBruijn32tab), ("math/bits.deBruijn64tab", laid_math_bits_deBruijn64tab)], narrowed := true }
def FnExactGradePuzzleUptoSaid : Prop := fnExactGradePuzzleUptoRow.holds Tryz.pinned (OpenSpec.upto fnExactGradePuzzleSpec)

end Rows
end Go.Proofs.YtcjdjcpappfkgaaGreatDoor
