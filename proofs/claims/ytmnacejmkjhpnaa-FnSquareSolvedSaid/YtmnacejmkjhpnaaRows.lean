/-
  No cell of these rows narrows 'for every input' (looked for: loops, veiled, ifaces, maps, wideKeys, modest, calm, conditions, laid).
  DERIVED. THE GIVEN ROWS OF THIS SEAT. 17 by the template 'for every input the law returns true; each argument reads behind the call as it read before'; 0 by the template 'total and deterministic' (their statements: YtmnacejmkjhpnaaTotals.lean).
  GIVEN WITH THE SEED: the statements are not yours to turn. If you find one false, say at which input.
  Laid BY PROGRAM, IN A SANDBOX (cutbox-rows.mjs): the forced cells as the released guide's own fill.sh prints them over the translation acdb12dce1a56771… (all of the seat's roots in one cut). By AI agents, Wed Nov 11 2026. No macro, syntax, notation, axiom, sorry.
-/
import Derived.Test.YtmnacejmkjhpnaaChecked
import GoSem.Claim
import GoSem.ClaimJoined
import GoSem.ClaimMapViews
import Derived.JoinedTies
import Derived.KernelRfl
namespace Go.Proofs.Ytmnacejmkjhpnaa
/- THE CELL 'sum', in the pinned program and in every row, IS THE sha256 OF THE DUMP (.gsa) THAT YtmnacejmkjhpnaaProg.lean LOADS. Nothing in Lean hashes anything: it is a label: what it is worth is what the hold of that sum in a sandbox is worth. -/
noncomputable def Try.pinned : Pinned := { name := "ytmnacejmkjhpnaa", sum := "acdb12dce1a56771fb5d5e783e1ca474cb8d1a07157dc78a13d7a4cca392db15", checked := Try.checked }
namespace Rows
def none {H : Type} : Left H := { results := [], args := [] }

/-- 'laws.FnSquareFits': WHATEVER THE INPUT: true; the input reads as it did. -/
def fnSquareFitsSpec : ChangeSpec := { name := "fnSquareFits", fn := fun _ => fun
  | [d] => { results := [.lit (.bool true)], args := [d] }
  | _ => none }
def fnSquareFitsRow : OpenClaim := { program := "ytmnacejmkjhpnaa", sum := "acdb12dce1a56771fb5d5e783e1ca474cb8d1a07157dc78a13d7a4cca392db15", func := "loop.example/gridpuzzles/laws.FnSquareFits", spec := "fnSquareFits", unfollowed := true, recurses := true, apart := false }
def FnSquareFitsSaid : Prop := fnSquareFitsRow.holds Try.pinned (OpenSpec.ofChange fnSquareFitsSpec)

/-- ITS FALSE NEIGHBOUR: 'it returns false'. Refute it at one input. -/
def fnSquareFitsWrong : ChangeSpec := { name := "fnSquareFits", fn := fun _ => fun
  | [d] => { results := [.lit (.bool false)], args := [d] }
  | _ => none }
def FnSquareFitsWrongFalsely : Prop := fnSquareFitsRow.holds Try.pinned (OpenSpec.ofChange fnSquareFitsWrong)

/-- 'laws.FnSquareSolved': WHATEVER THE INPUT: true; the input reads as it did. -/
def fnSquareSolvedSpec : ChangeSpec := { name := "fnSquareSolved", fn := fun _ => fun
  | [d] => { results := [.lit (.bool true)], args := [d] }
  | _ => none }
def fnSquareSolvedRow : OpenClaim := { program := "ytmnacejmkjhpnaa", sum := "acdb12dce1a56771fb5d5e783e1ca474cb8d1a07157dc78a13d7a4cca392db15", func := "loop.example/gridpuzzles/laws.FnSquareSolved", spec := "fnSquareSolved", unfollowed := true, recurses := true, apart := false }
def FnSquareSolvedSaid : Prop := fnSquareSolvedRow.holds Try.pinned (OpenSpec.ofChange fnSquareSolvedSpec)

/-- ITS FALSE NEIGHBOUR: 'it returns false'. Refute it at one input. -/
def fnSquareSolvedWrong : ChangeSpec := { name := "fnSquareSolved", fn := fun _ => fun
  | [d] => { results := [.lit (.bool false)], args := [d] }
  | _ => none }
def FnSquareSolvedWrongFalsely : Prop := fnSquareSolvedRow.holds Try.pinned (OpenSpec.ofChange fnSquareSolvedWrong)

/-- 'laws.FnSquareOf': WHATEVER THE INPUT: true; the input reads as it did. -/
def fnSquareOfSpec : ChangeSpec := { name := "fnSquareOf", fn := fun _ => fun
  | [d] => { results := [.lit (.bool true)], args := [d] }
  | _ => none }
def fnSquareOfRow : OpenClaim := { program := "ytmnacejmkjhpnaa", sum := "acdb12dce1a56771fb5d5e783e1ca474cb8d1a07157dc78a13d7a4cca392db15", func := "loop.example/gridpuzzles/laws.FnSquareOf", spec := "fnSquareOf", apart := false }
def FnSquareOfSaid : Prop := fnSquareOfRow.holds Try.pinned (OpenSpec.ofChange fnSquareOfSpec)

/-- ITS FALSE NEIGHBOUR: 'it returns false'. Refute it at one input. -/
def fnSquareOfWrong : ChangeSpec := { name := "fnSquareOf", fn := fun _ => fun
  | [d] => { results := [.lit (.bool false)], args := [d] }
  | _ => none }
def FnSquareOfWrongFalsely : Prop := fnSquareOfRow.holds Try.pinned (OpenSpec.ofChange fnSquareOfWrong)

/-- 'laws.FnSquareNumber': WHATEVER THE INPUT: true; the input reads as it did. -/
def fnSquareNumberSpec : ChangeSpec := { name := "fnSquareNumber", fn := fun _ => fun
  | [d] => { results := [.lit (.bool true)], args := [d] }
  | _ => none }
def fnSquareNumberRow : OpenClaim := { program := "ytmnacejmkjhpnaa", sum := "acdb12dce1a56771fb5d5e783e1ca474cb8d1a07157dc78a13d7a4cca392db15", func := "loop.example/gridpuzzles/laws.FnSquareNumber", spec := "fnSquareNumber", recurses := true, apart := false }
def FnSquareNumberSaid : Prop := fnSquareNumberRow.holds Try.pinned (OpenSpec.ofChange fnSquareNumberSpec)

/-- ITS FALSE NEIGHBOUR: 'it returns false'. Refute it at one input. -/
def fnSquareNumberWrong : ChangeSpec := { name := "fnSquareNumber", fn := fun _ => fun
  | [d] => { results := [.lit (.bool false)], args := [d] }
  | _ => none }
def FnSquareNumberWrongFalsely : Prop := fnSquareNumberRow.holds Try.pinned (OpenSpec.ofChange fnSquareNumberWrong)

/-- 'laws.FnMissingIn': WHATEVER THE INPUT: true; the input reads as it did. -/
def fnMissingInSpec : ChangeSpec := { name := "fnMissingIn", fn := fun _ => fun
  | [d] => { results := [.lit (.bool true)], args := [d] }
  | _ => none }
def fnMissingInRow : OpenClaim := { program := "ytmnacejmkjhpnaa", sum := "acdb12dce1a56771fb5d5e783e1ca474cb8d1a07157dc78a13d7a4cca392db15", func := "loop.example/gridpuzzles/laws.FnMissingIn", spec := "fnMissingIn", recurses := true, apart := false }
def FnMissingInSaid : Prop := fnMissingInRow.holds Try.pinned (OpenSpec.ofChange fnMissingInSpec)

/-- ITS FALSE NEIGHBOUR: 'it returns false'. Refute it at one input. -/
def fnMissingInWrong : ChangeSpec := { name := "fnMissingIn", fn := fun _ => fun
  | [d] => { results := [.lit (.bool false)], args := [d] }
  | _ => none }
def FnMissingInWrongFalsely : Prop := fnMissingInRow.holds Try.pinned (OpenSpec.ofChange fnMissingInWrong)

/-- 'laws.FnGridSwap': WHATEVER THE INPUT: true; the input reads as it did. -/
def fnGridSwapSpec : ChangeSpec := { name := "fnGridSwap", fn := fun _ => fun
  | [d] => { results := [.lit (.bool true)], args := [d] }
  | _ => none }
def fnGridSwapRow : OpenClaim := { program := "ytmnacejmkjhpnaa", sum := "acdb12dce1a56771fb5d5e783e1ca474cb8d1a07157dc78a13d7a4cca392db15", func := "loop.example/gridpuzzles/laws.FnGridSwap", spec := "fnGridSwap", unfollowed := true, recurses := true, apart := false }
def FnGridSwapSaid : Prop := fnGridSwapRow.holds Try.pinned (OpenSpec.ofChange fnGridSwapSpec)

/-- ITS FALSE NEIGHBOUR: 'it returns false'. Refute it at one input. -/
def fnGridSwapWrong : ChangeSpec := { name := "fnGridSwap", fn := fun _ => fun
  | [d] => { results := [.lit (.bool false)], args := [d] }
  | _ => none }
def FnGridSwapWrongFalsely : Prop := fnGridSwapRow.holds Try.pinned (OpenSpec.ofChange fnGridSwapWrong)

/-- 'laws.FnSwapMissing': WHATEVER THE INPUT: true; the input reads as it did. -/
def fnSwapMissingSpec : ChangeSpec := { name := "fnSwapMissing", fn := fun _ => fun
  | [d] => { results := [.lit (.bool true)], args := [d] }
  | _ => none }
def fnSwapMissingRow : OpenClaim := { program := "ytmnacejmkjhpnaa", sum := "acdb12dce1a56771fb5d5e783e1ca474cb8d1a07157dc78a13d7a4cca392db15", func := "loop.example/gridpuzzles/laws.FnSwapMissing", spec := "fnSwapMissing", unfollowed := true, recurses := true, apart := false }
def FnSwapMissingSaid : Prop := fnSwapMissingRow.holds Try.pinned (OpenSpec.ofChange fnSwapMissingSpec)

/-- ITS FALSE NEIGHBOUR: 'it returns false'. Refute it at one input. -/
def fnSwapMissingWrong : ChangeSpec := { name := "fnSwapMissing", fn := fun _ => fun
  | [d] => { results := [.lit (.bool false)], args := [d] }
  | _ => none }
def FnSwapMissingWrongFalsely : Prop := fnSwapMissingRow.holds Try.pinned (OpenSpec.ofChange fnSwapMissingWrong)

/-- 'laws.FnExactSquareFits': WHATEVER THE INPUT: true; the input reads as it did. -/
def fnExactSquareFitsSpec : ChangeSpec := { name := "fnExactSquareFits", fn := fun _ => fun
  | [d1, d2] => { results := [.lit (.bool true)], args := [d1, d2] }
  | _ => none }
def fnExactSquareFitsRow : OpenClaim := { program := "ytmnacejmkjhpnaa", sum := "acdb12dce1a56771fb5d5e783e1ca474cb8d1a07157dc78a13d7a4cca392db15", func := "loop.example/gridpuzzles/laws.FnExactSquareFits", spec := "fnExactSquareFits", apart := false }
def FnExactSquareFitsSaid : Prop := fnExactSquareFitsRow.holds Try.pinned (OpenSpec.ofChange fnExactSquareFitsSpec)

/-- ITS FALSE NEIGHBOUR: 'it returns false'. Refute it at one input. -/
def fnExactSquareFitsWrong : ChangeSpec := { name := "fnExactSquareFits", fn := fun _ => fun
  | [d1, d2] => { results := [.lit (.bool false)], args := [d1, d2] }
  | _ => none }
def FnExactSquareFitsWrongFalsely : Prop := fnExactSquareFitsRow.holds Try.pinned (OpenSpec.ofChange fnExactSquareFitsWrong)

/-- 'laws.FnExactSquareSolved': WHATEVER THE INPUT: true; the input reads as it did. -/
def fnExactSquareSolvedSpec : ChangeSpec := { name := "fnExactSquareSolved", fn := fun _ => fun
  | [d1, d2] => { results := [.lit (.bool true)], args := [d1, d2] }
  | _ => none }
def fnExactSquareSolvedRow : OpenClaim := { program := "ytmnacejmkjhpnaa", sum := "acdb12dce1a56771fb5d5e783e1ca474cb8d1a07157dc78a13d7a4cca392db15", func := "loop.example/gridpuzzles/laws.FnExactSquareSolved", spec := "fnExactSquareSolved", apart := false }
def FnExactSquareSolvedSaid : Prop := fnExactSquareSolvedRow.holds Try.pinned (OpenSpec.ofChange fnExactSquareSolvedSpec)

/-- ITS FALSE NEIGHBOUR: 'it returns false'. Refute it at one input. -/
def fnExactSquareSolvedWrong : ChangeSpec := { name := "fnExactSquareSolved", fn := fun _ => fun
  | [d1, d2] => { results := [.lit (.bool false)], args := [d1, d2] }
  | _ => none }
def FnExactSquareSolvedWrongFalsely : Prop := fnExactSquareSolvedRow.holds Try.pinned (OpenSpec.ofChange fnExactSquareSolvedWrong)

/-- 'laws.FnExactSquareNumber': WHATEVER THE INPUT: true; the input reads as it did. -/
def fnExactSquareNumberSpec : ChangeSpec := { name := "fnExactSquareNumber", fn := fun _ => fun
  | [d1, d2] => { results := [.lit (.bool true)], args := [d1, d2] }
  | _ => none }
def fnExactSquareNumberRow : OpenClaim := { program := "ytmnacejmkjhpnaa", sum := "acdb12dce1a56771fb5d5e783e1ca474cb8d1a07157dc78a13d7a4cca392db15", func := "loop.example/gridpuzzles/laws.FnExactSquareNumber", spec := "fnExactSquareNumber", recurses := true, apart := false }
def FnExactSquareNumberSaid : Prop := fnExactSquareNumberRow.holds Try.pinned (OpenSpec.ofChange fnExactSquareNumberSpec)

/-- ITS FALSE NEIGHBOUR: 'it returns false'. Refute it at one input. -/
def fnExactSquareNumberWrong : ChangeSpec := { name := "fnExactSquareNumber", fn := fun _ => fun
  | [d1, d2] => { results := [.lit (.bool false)], args := [d1, d2] }
  | _ => none }
def FnExactSquareNumberWrongFalsely : Prop := fnExactSquareNumberRow.holds Try.pinned (OpenSpec.ofChange fnExactSquareNumberWrong)

/-- 'laws.FnExactMissingIn': WHATEVER THE INPUT: true; the input reads as it did. -/
def fnExactMissingInSpec : ChangeSpec := { name := "fnExactMissingIn", fn := fun _ => fun
  | [d1, d2, d3] => { results := [.lit (.bool true)], args := [d1, d2, d3] }
  | _ => none }
def fnExactMissingInRow : OpenClaim := { program := "ytmnacejmkjhpnaa", sum := "acdb12dce1a56771fb5d5e783e1ca474cb8d1a07157dc78a13d7a4cca392db15", func := "loop.example/gridpuzzles/laws.FnExactMissingIn", spec := "fnExactMissingIn", apart := false }
def FnExactMissingInSaid : Prop := fnExactMissingInRow.holds Try.pinned (OpenSpec.ofChange fnExactMissingInSpec)

/-- ITS FALSE NEIGHBOUR: 'it returns false'. Refute it at one input. -/
def fnExactMissingInWrong : ChangeSpec := { name := "fnExactMissingIn", fn := fun _ => fun
  | [d1, d2, d3] => { results := [.lit (.bool false)], args := [d1, d2, d3] }
  | _ => none }
def FnExactMissingInWrongFalsely : Prop := fnExactMissingInRow.holds Try.pinned (OpenSpec.ofChange fnExactMissingInWrong)

/-- 'laws.FnCandidatesOf': WHATEVER THE INPUT: true; the input reads as it did. -/
def fnCandidatesOfSpec : ChangeSpec := { name := "fnCandidatesOf", fn := fun _ => fun
  | [d] => { results := [.lit (.bool true)], args := [d] }
  | _ => none }
def fnCandidatesOfRow : OpenClaim := { program := "ytmnacejmkjhpnaa", sum := "acdb12dce1a56771fb5d5e783e1ca474cb8d1a07157dc78a13d7a4cca392db15", func := "loop.example/gridpuzzles/laws.FnCandidatesOf", spec := "fnCandidatesOf", recurses := true, apart := false }
def FnCandidatesOfSaid : Prop := fnCandidatesOfRow.holds Try.pinned (OpenSpec.ofChange fnCandidatesOfSpec)

/-- ITS FALSE NEIGHBOUR: 'it returns false'. Refute it at one input. -/
def fnCandidatesOfWrong : ChangeSpec := { name := "fnCandidatesOf", fn := fun _ => fun
  | [d] => { results := [.lit (.bool false)], args := [d] }
  | _ => none }
def FnCandidatesOfWrongFalsely : Prop := fnCandidatesOfRow.holds Try.pinned (OpenSpec.ofChange fnCandidatesOfWrong)

/-- 'laws.FnMaskValues': WHATEVER THE INPUT: true; the input reads as it did. -/
def fnMaskValuesSpec : ChangeSpec := { name := "fnMaskValues", fn := fun _ => fun
  | [d] => { results := [.lit (.bool true)], args := [d] }
  | _ => none }
def fnMaskValuesRow : OpenClaim := { program := "ytmnacejmkjhpnaa", sum := "acdb12dce1a56771fb5d5e783e1ca474cb8d1a07157dc78a13d7a4cca392db15", func := "loop.example/gridpuzzles/laws.FnMaskValues", spec := "fnMaskValues", apart := false }
def FnMaskValuesSaid : Prop := fnMaskValuesRow.holds Try.pinned (OpenSpec.ofChange fnMaskValuesSpec)

/-- ITS FALSE NEIGHBOUR: 'it returns false'. Refute it at one input. -/
def fnMaskValuesWrong : ChangeSpec := { name := "fnMaskValues", fn := fun _ => fun
  | [d] => { results := [.lit (.bool false)], args := [d] }
  | _ => none }
def FnMaskValuesWrongFalsely : Prop := fnMaskValuesRow.holds Try.pinned (OpenSpec.ofChange fnMaskValuesWrong)

/-- 'laws.FnTurnCandidates': WHATEVER THE INPUT: true; the input reads as it did. -/
def fnTurnCandidatesSpec : ChangeSpec := { name := "fnTurnCandidates", fn := fun _ => fun
  | [d] => { results := [.lit (.bool true)], args := [d] }
  | _ => none }
def fnTurnCandidatesRow : OpenClaim := { program := "ytmnacejmkjhpnaa", sum := "acdb12dce1a56771fb5d5e783e1ca474cb8d1a07157dc78a13d7a4cca392db15", func := "loop.example/gridpuzzles/laws.FnTurnCandidates", spec := "fnTurnCandidates", unfollowed := true, recurses := true, apart := false }
def FnTurnCandidatesSaid : Prop := fnTurnCandidatesRow.holds Try.pinned (OpenSpec.ofChange fnTurnCandidatesSpec)

/-- ITS FALSE NEIGHBOUR: 'it returns false'. Refute it at one input. -/
def fnTurnCandidatesWrong : ChangeSpec := { name := "fnTurnCandidates", fn := fun _ => fun
  | [d] => { results := [.lit (.bool false)], args := [d] }
  | _ => none }
def FnTurnCandidatesWrongFalsely : Prop := fnTurnCandidatesRow.holds Try.pinned (OpenSpec.ofChange fnTurnCandidatesWrong)

/-- 'laws.FnExactCandidatesOf': WHATEVER THE INPUT: true; the input reads as it did. -/
def fnExactCandidatesOfSpec : ChangeSpec := { name := "fnExactCandidatesOf", fn := fun _ => fun
  | [d1, d2] => { results := [.lit (.bool true)], args := [d1, d2] }
  | _ => none }
def fnExactCandidatesOfRow : OpenClaim := { program := "ytmnacejmkjhpnaa", sum := "acdb12dce1a56771fb5d5e783e1ca474cb8d1a07157dc78a13d7a4cca392db15", func := "loop.example/gridpuzzles/laws.FnExactCandidatesOf", spec := "fnExactCandidatesOf", apart := false }
def FnExactCandidatesOfSaid : Prop := fnExactCandidatesOfRow.holds Try.pinned (OpenSpec.ofChange fnExactCandidatesOfSpec)

/-- ITS FALSE NEIGHBOUR: 'it returns false'. Refute it at one input. -/
def fnExactCandidatesOfWrong : ChangeSpec := { name := "fnExactCandidatesOf", fn := fun _ => fun
  | [d1, d2] => { results := [.lit (.bool false)], args := [d1, d2] }
  | _ => none }
def FnExactCandidatesOfWrongFalsely : Prop := fnExactCandidatesOfRow.holds Try.pinned (OpenSpec.ofChange fnExactCandidatesOfWrong)

/-- 'laws.FnExactMasksValid': WHATEVER THE INPUT: true; the input reads as it did. -/
def fnExactMasksValidSpec : ChangeSpec := { name := "fnExactMasksValid", fn := fun _ => fun
  | [d1, d2] => { results := [.lit (.bool true)], args := [d1, d2] }
  | _ => none }
def fnExactMasksValidRow : OpenClaim := { program := "ytmnacejmkjhpnaa", sum := "acdb12dce1a56771fb5d5e783e1ca474cb8d1a07157dc78a13d7a4cca392db15", func := "loop.example/gridpuzzles/laws.FnExactMasksValid", spec := "fnExactMasksValid", apart := false }
def FnExactMasksValidSaid : Prop := fnExactMasksValidRow.holds Try.pinned (OpenSpec.ofChange fnExactMasksValidSpec)

/-- ITS FALSE NEIGHBOUR: 'it returns false'. Refute it at one input. -/
def fnExactMasksValidWrong : ChangeSpec := { name := "fnExactMasksValid", fn := fun _ => fun
  | [d1, d2] => { results := [.lit (.bool false)], args := [d1, d2] }
  | _ => none }
def FnExactMasksValidWrongFalsely : Prop := fnExactMasksValidRow.holds Try.pinned (OpenSpec.ofChange fnExactMasksValidWrong)

/-- 'laws.FnExactMaskValues': WHATEVER THE INPUT: true; the input reads as it did. -/
def fnExactMaskValuesSpec : ChangeSpec := { name := "fnExactMaskValues", fn := fun _ => fun
  | [d] => { results := [.lit (.bool true)], args := [d] }
  | _ => none }
def fnExactMaskValuesRow : OpenClaim := { program := "ytmnacejmkjhpnaa", sum := "acdb12dce1a56771fb5d5e783e1ca474cb8d1a07157dc78a13d7a4cca392db15", func := "loop.example/gridpuzzles/laws.FnExactMaskValues", spec := "fnExactMaskValues", apart := false }
def FnExactMaskValuesSaid : Prop := fnExactMaskValuesRow.holds Try.pinned (OpenSpec.ofChange fnExactMaskValuesSpec)

/-- ITS FALSE NEIGHBOUR: 'it returns false'. Refute it at one input. -/
def fnExactMaskValuesWrong : ChangeSpec := { name := "fnExactMaskValues", fn := fun _ => fun
  | [d] => { results := [.lit (.bool false)], args := [d] }
  | _ => none }
def FnExactMaskValuesWrongFalsely : Prop := fnExactMaskValuesRow.holds Try.pinned (OpenSpec.ofChange fnExactMaskValuesWrong)

/- THE SECOND FORM. 'bulk': how many values and letters a reading holds, each counted each time it is reached (what is shared counts as often as it is met; a slice's spare places count too). A statement '..UptoSaid' is the law's where the arguments, and the package variables that the reading takes, are together of bulk at most 1048576: NARROWER than '..Said'. Prove '..Said' where nothing that the law and all that it calls make is longer than what came in: it says more and counts as full. Else prove '..UptoSaid'. A law counts once. -/
mutual
def uptoBulk {H : Type} : DataW H → Nat
  | .lit (.string bytes) => bytes.length + 1
  | .lit _ => 1
  | .nil => 1
  | .ptr d => uptoBulk d + 1
  | .slice elems spare => uptoBulkAll elems + uptoBulkAll spare + 1
  | .agg parts => uptoBulkAll parts + 1
  | .iface _ d => uptoBulk d + 1
  | .map entries => uptoBulkEntries entries + 1
  | .held _ => 1
def uptoBulkAll {H : Type} : List (DataW H) → Nat
  | [] => 0
  | d :: r => uptoBulk d + uptoBulkAll r
def uptoBulkEntries {H : Type} : List (Lit × DataW H) → Nat
  | [] => 0
  | x :: r => uptoBulkEntry x + uptoBulkEntries r
def uptoBulkEntry {H : Type} : Lit × DataW H → Nat
  | (.string bytes, d) => bytes.length + uptoBulk d + 1
  | (_, d) => uptoBulk d + 1
 end
def uptoSmall : (H : Type) → List (DataW H) → Bool := fun _ ds => decide (uptoBulkAll ds ≤ 1048576)
def OpenSpec.upto (s : _root_.Go.ChangeSpec) : _root_.Go.OpenSpec := { _root_.Go.OpenSpec.ofChange s with cond := some uptoSmall }

/-- 'laws.FnSquareFits', WHERE WHAT IT READS IS OF BULK AT MOST 1048576: true; the input reads as it did. -/
def fnSquareFitsUptoRow : OpenClaim := { program := "ytmnacejmkjhpnaa", sum := "acdb12dce1a56771fb5d5e783e1ca474cb8d1a07157dc78a13d7a4cca392db15", func := "loop.example/gridpuzzles/laws.FnSquareFits", spec := "fnSquareFits", unfollowed := true, recurses := true, apart := false, narrowed := true }
def FnSquareFitsUptoSaid : Prop := fnSquareFitsUptoRow.holds Try.pinned (OpenSpec.upto fnSquareFitsSpec)

/-- 'laws.FnSquareSolved', WHERE WHAT IT READS IS OF BULK AT MOST 1048576: true; the input reads as it did. -/
def fnSquareSolvedUptoRow : OpenClaim := { program := "ytmnacejmkjhpnaa", sum := "acdb12dce1a56771fb5d5e783e1ca474cb8d1a07157dc78a13d7a4cca392db15", func := "loop.example/gridpuzzles/laws.FnSquareSolved", spec := "fnSquareSolved", unfollowed := true, recurses := true, apart := false, narrowed := true }
def FnSquareSolvedUptoSaid : Prop := fnSquareSolvedUptoRow.holds Try.pinned (OpenSpec.upto fnSquareSolvedSpec)

/-- 'laws.FnSquareOf', WHERE WHAT IT READS IS OF BULK AT MOST 1048576: true; the input reads as it did. -/
def fnSquareOfUptoRow : OpenClaim := { program := "ytmnacejmkjhpnaa", sum := "acdb12dce1a56771fb5d5e783e1ca474cb8d1a07157dc78a13d7a4cca392db15", func := "loop.example/gridpuzzles/laws.FnSquareOf", spec := "fnSquareOf", apart := false, narrowed := true }
def FnSquareOfUptoSaid : Prop := fnSquareOfUptoRow.holds Try.pinned (OpenSpec.upto fnSquareOfSpec)

/-- 'laws.FnSquareNumber', WHERE WHAT IT READS IS OF BULK AT MOST 1048576: true; the input reads as it did. -/
def fnSquareNumberUptoRow : OpenClaim := { program := "ytmnacejmkjhpnaa", sum := "acdb12dce1a56771fb5d5e783e1ca474cb8d1a07157dc78a13d7a4cca392db15", func := "loop.example/gridpuzzles/laws.FnSquareNumber", spec := "fnSquareNumber", recurses := true, apart := false, narrowed := true }
def FnSquareNumberUptoSaid : Prop := fnSquareNumberUptoRow.holds Try.pinned (OpenSpec.upto fnSquareNumberSpec)

/-- 'laws.FnMissingIn', WHERE WHAT IT READS IS OF BULK AT MOST 1048576: true; the input reads as it did. -/
def fnMissingInUptoRow : OpenClaim := { program := "ytmnacejmkjhpnaa", sum := "acdb12dce1a56771fb5d5e783e1ca474cb8d1a07157dc78a13d7a4cca392db15", func := "loop.example/gridpuzzles/laws.FnMissingIn", spec := "fnMissingIn", recurses := true, apart := false, narrowed := true }
def FnMissingInUptoSaid : Prop := fnMissingInUptoRow.holds Try.pinned (OpenSpec.upto fnMissingInSpec)

/-- 'laws.FnGridSwap', WHERE WHAT IT READS IS OF BULK AT MOST 1048576: true; the input reads as it did. -/
def fnGridSwapUptoRow : OpenClaim := { program := "ytmnacejmkjhpnaa", sum := "acdb12dce1a56771fb5d5e783e1ca474cb8d1a07157dc78a13d7a4cca392db15", func := "loop.example/gridpuzzles/laws.FnGridSwap", spec := "fnGridSwap", unfollowed := true, recurses := true, apart := false, narrowed := true }
def FnGridSwapUptoSaid : Prop := fnGridSwapUptoRow.holds Try.pinned (OpenSpec.upto fnGridSwapSpec)

/-- 'laws.FnSwapMissing', WHERE WHAT IT READS IS OF BULK AT MOST 1048576: true; the input reads as it did. -/
def fnSwapMissingUptoRow : OpenClaim := { program := "ytmnacejmkjhpnaa", sum := "acdb12dce1a56771fb5d5e783e1ca474cb8d1a07157dc78a13d7a4cca392db15", func := "loop.example/gridpuzzles/laws.FnSwapMissing", spec := "fnSwapMissing", unfollowed := true, recurses := true, apart := false, narrowed := true }
def FnSwapMissingUptoSaid : Prop := fnSwapMissingUptoRow.holds Try.pinned (OpenSpec.upto fnSwapMissingSpec)

/-- 'laws.FnExactSquareFits', WHERE WHAT IT READS IS OF BULK AT MOST 1048576: true; the input reads as it did. -/
def fnExactSquareFitsUptoRow : OpenClaim := { program := "ytmnacejmkjhpnaa", sum := "acdb12dce1a56771fb5d5e783e1ca474cb8d1a07157dc78a13d7a4cca392db15", func := "loop.example/gridpuzzles/laws.FnExactSquareFits", spec := "fnExactSquareFits", apart := false, narrowed := true }
def FnExactSquareFitsUptoSaid : Prop := fnExactSquareFitsUptoRow.holds Try.pinned (OpenSpec.upto fnExactSquareFitsSpec)

/-- 'laws.FnExactSquareSolved', WHERE WHAT IT READS IS OF BULK AT MOST 1048576: true; the input reads as it did. -/
def fnExactSquareSolvedUptoRow : OpenClaim := { program := "ytmnacejmkjhpnaa", sum := "acdb12dce1a56771fb5d5e783e1ca474cb8d1a07157dc78a13d7a4cca392db15", func := "loop.example/gridpuzzles/laws.FnExactSquareSolved", spec := "fnExactSquareSolved", apart := false, narrowed := true }
def FnExactSquareSolvedUptoSaid : Prop := fnExactSquareSolvedUptoRow.holds Try.pinned (OpenSpec.upto fnExactSquareSolvedSpec)

/-- 'laws.FnExactSquareNumber', WHERE WHAT IT READS IS OF BULK AT MOST 1048576: true; the input reads as it did. -/
def fnExactSquareNumberUptoRow : OpenClaim := { program := "ytmnacejmkjhpnaa", sum := "acdb12dce1a56771fb5d5e783e1ca474cb8d1a07157dc78a13d7a4cca392db15", func := "loop.example/gridpuzzles/laws.FnExactSquareNumber", spec := "fnExactSquareNumber", recurses := true, apart := false, narrowed := true }
def FnExactSquareNumberUptoSaid : Prop := fnExactSquareNumberUptoRow.holds Try.pinned (OpenSpec.upto fnExactSquareNumberSpec)

/-- 'laws.FnExactMissingIn', WHERE WHAT IT READS IS OF BULK AT MOST 1048576: true; the input reads as it did. -/
def fnExactMissingInUptoRow : OpenClaim := { program := "ytmnacejmkjhpnaa", sum := "acdb12dce1a56771fb5d5e783e1ca474cb8d1a07157dc78a13d7a4cca392db15", func := "loop.example/gridpuzzles/laws.FnExactMissingIn", spec := "fnExactMissingIn", apart := false, narrowed := true }
def FnExactMissingInUptoSaid : Prop := fnExactMissingInUptoRow.holds Try.pinned (OpenSpec.upto fnExactMissingInSpec)

/-- 'laws.FnCandidatesOf', WHERE WHAT IT READS IS OF BULK AT MOST 1048576: true; the input reads as it did. -/
def fnCandidatesOfUptoRow : OpenClaim := { program := "ytmnacejmkjhpnaa", sum := "acdb12dce1a56771fb5d5e783e1ca474cb8d1a07157dc78a13d7a4cca392db15", func := "loop.example/gridpuzzles/laws.FnCandidatesOf", spec := "fnCandidatesOf", recurses := true, apart := false, narrowed := true }
def FnCandidatesOfUptoSaid : Prop := fnCandidatesOfUptoRow.holds Try.pinned (OpenSpec.upto fnCandidatesOfSpec)

/-- 'laws.FnMaskValues', WHERE WHAT IT READS IS OF BULK AT MOST 1048576: true; the input reads as it did. -/
def fnMaskValuesUptoRow : OpenClaim := { program := "ytmnacejmkjhpnaa", sum := "acdb12dce1a56771fb5d5e783e1ca474cb8d1a07157dc78a13d7a4cca392db15", func := "loop.example/gridpuzzles/laws.FnMaskValues", spec := "fnMaskValues", apart := false, narrowed := true }
def FnMaskValuesUptoSaid : Prop := fnMaskValuesUptoRow.holds Try.pinned (OpenSpec.upto fnMaskValuesSpec)

/-- 'laws.FnTurnCandidates', WHERE WHAT IT READS IS OF BULK AT MOST 1048576: true; the input reads as it did. -/
def fnTurnCandidatesUptoRow : OpenClaim := { program := "ytmnacejmkjhpnaa", sum := "acdb12dce1a56771fb5d5e783e1ca474cb8d1a07157dc78a13d7a4cca392db15", func := "loop.example/gridpuzzles/laws.FnTurnCandidates", spec := "fnTurnCandidates", unfollowed := true, recurses := true, apart := false, narrowed := true }
def FnTurnCandidatesUptoSaid : Prop := fnTurnCandidatesUptoRow.holds Try.pinned (OpenSpec.upto fnTurnCandidatesSpec)

/-- 'laws.FnExactCandidatesOf', WHERE WHAT IT READS IS OF BULK AT MOST 1048576: true; the input reads as it did. -/
def fnExactCandidatesOfUptoRow : OpenClaim := { program := "ytmnacejmkjhpnaa", sum := "acdb12dce1a56771fb5d5e783e1ca474cb8d1a07157dc78a13d7a4cca392db15", func := "loop.example/gridpuzzles/laws.FnExactCandidatesOf", spec := "fnExactCandidatesOf", apart := false, narrowed := true }
def FnExactCandidatesOfUptoSaid : Prop := fnExactCandidatesOfUptoRow.holds Try.pinned (OpenSpec.upto fnExactCandidatesOfSpec)

/-- 'laws.FnExactMasksValid', WHERE WHAT IT READS IS OF BULK AT MOST 1048576: true; the input reads as it did. -/
def fnExactMasksValidUptoRow : OpenClaim := { program := "ytmnacejmkjhpnaa", sum := "acdb12dce1a56771fb5d5e783e1ca474cb8d1a07157dc78a13d7a4cca392db15", func := "loop.example/gridpuzzles/laws.FnExactMasksValid", spec := "fnExactMasksValid", apart := false, narrowed := true }
def FnExactMasksValidUptoSaid : Prop := fnExactMasksValidUptoRow.holds Try.pinned (OpenSpec.upto fnExactMasksValidSpec)

/-- 'laws.FnExactMaskValues', WHERE WHAT IT READS IS OF BULK AT MOST 1048576: true; the input reads as it did. -/
def fnExactMaskValuesUptoRow : OpenClaim := { program := "ytmnacejmkjhpnaa", sum := "acdb12dce1a56771fb5d5e783e1ca474cb8d1a07157dc78a13d7a4cca392db15", func := "loop.example/gridpuzzles/laws.FnExactMaskValues", spec := "fnExactMaskValues", apart := false, narrowed := true }
def FnExactMaskValuesUptoSaid : Prop := fnExactMaskValuesUptoRow.holds Try.pinned (OpenSpec.upto fnExactMaskValuesSpec)

end Rows
end Go.Proofs.Ytmnacejmkjhpnaa
