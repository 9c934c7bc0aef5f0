/-
  No cell of these rows narrows 'for every input' (looked for: loops, veiled, ifaces, maps, wideKeys, modest, calm, conditions, laid).
  DERIVED. THE GIVEN ROWS OF THIS SEAT. 16 by the template 'for every input the law returns true; each argument reads behind the call as it read before'; 0 by the template 'total and deterministic' (their statements: YtoejpodchlepiaaTotals.lean).
  GIVEN WITH THE SEED: the statements are not yours to turn. If you find one false, say at which input.
  Laid BY PROGRAM, IN A SANDBOX (cutbox-rows.mjs): the forced cells as the released guide's own fill.sh prints them over the translation 5184f373e80ab709… (all of the seat's roots in one cut). By AI agents, Wed Nov 11 2026. No macro, syntax, notation, axiom, sorry.
-/
import Derived.Test.YtoejpodchlepiaaChecked
import GoSem.Claim
import GoSem.ClaimJoined
import GoSem.ClaimMapViews
import Derived.JoinedTies
import Derived.KernelRfl
namespace Go.Proofs.Ytoejpodchlepiaa
/- THE CELL 'sum', in the pinned program and in every row, IS THE sha256 OF THE DUMP (.gsa) THAT YtoejpodchlepiaaProg.lean LOADS. Nothing in Lean hashes anything: it is a label: what it is worth is what the hold of that sum in a sandbox is worth. -/
noncomputable def Try.pinned : Pinned := { name := "ytoejpodchlepiaa", sum := "5184f373e80ab709d501bff39f0fd3ea2052d57580c174be98bb3233cdc58b0f", checked := Try.checked }
namespace Rows
def none {H : Type} : Left H := { results := [], args := [] }

/-- 'laws.FnRuleHolds': WHATEVER THE INPUT: true; the input reads as it did. -/
def fnRuleHoldsSpec : ChangeSpec := { name := "fnRuleHolds", fn := fun _ => fun
  | [d] => { results := [.lit (.bool true)], args := [d] }
  | _ => none }
def fnRuleHoldsRow : OpenClaim := { program := "ytoejpodchlepiaa", sum := "5184f373e80ab709d501bff39f0fd3ea2052d57580c174be98bb3233cdc58b0f", func := "loop.example/gridpuzzles/laws.FnRuleHolds", spec := "fnRuleHolds", unfollowed := true, recurses := true, apart := false }
def FnRuleHoldsSaid : Prop := fnRuleHoldsRow.holds Try.pinned (OpenSpec.ofChange fnRuleHoldsSpec)

/-- ITS FALSE NEIGHBOUR: 'it returns false'. Refute it at one input. -/
def fnRuleHoldsWrong : ChangeSpec := { name := "fnRuleHolds", fn := fun _ => fun
  | [d] => { results := [.lit (.bool false)], args := [d] }
  | _ => none }
def FnRuleHoldsWrongFalsely : Prop := fnRuleHoldsRow.holds Try.pinned (OpenSpec.ofChange fnRuleHoldsWrong)

/-- 'laws.FnRulePossible': WHATEVER THE INPUT: true; the input reads as it did. -/
def fnRulePossibleSpec : ChangeSpec := { name := "fnRulePossible", fn := fun _ => fun
  | [d] => { results := [.lit (.bool true)], args := [d] }
  | _ => none }
def fnRulePossibleRow : OpenClaim := { program := "ytoejpodchlepiaa", sum := "5184f373e80ab709d501bff39f0fd3ea2052d57580c174be98bb3233cdc58b0f", func := "loop.example/gridpuzzles/laws.FnRulePossible", spec := "fnRulePossible", unfollowed := true, recurses := true, apart := false }
def FnRulePossibleSaid : Prop := fnRulePossibleRow.holds Try.pinned (OpenSpec.ofChange fnRulePossibleSpec)

/-- ITS FALSE NEIGHBOUR: 'it returns false'. Refute it at one input. -/
def fnRulePossibleWrong : ChangeSpec := { name := "fnRulePossible", fn := fun _ => fun
  | [d] => { results := [.lit (.bool false)], args := [d] }
  | _ => none }
def FnRulePossibleWrongFalsely : Prop := fnRulePossibleRow.holds Try.pinned (OpenSpec.ofChange fnRulePossibleWrong)

/-- 'laws.FnExactRulePossible': WHATEVER THE INPUT: true; the input reads as it did. -/
def fnExactRulePossibleSpec : ChangeSpec := { name := "fnExactRulePossible", fn := fun _ => fun
  | [d1, d2, d3] => { results := [.lit (.bool true)], args := [d1, d2, d3] }
  | _ => none }
def fnExactRulePossibleRow : OpenClaim := { program := "ytoejpodchlepiaa", sum := "5184f373e80ab709d501bff39f0fd3ea2052d57580c174be98bb3233cdc58b0f", func := "loop.example/gridpuzzles/laws.FnExactRulePossible", spec := "fnExactRulePossible", unfollowed := true, recurses := true, apart := false }
def FnExactRulePossibleSaid : Prop := fnExactRulePossibleRow.holds Try.pinned (OpenSpec.ofChange fnExactRulePossibleSpec)

/-- ITS FALSE NEIGHBOUR: 'it returns false'. Refute it at one input. -/
def fnExactRulePossibleWrong : ChangeSpec := { name := "fnExactRulePossible", fn := fun _ => fun
  | [d1, d2, d3] => { results := [.lit (.bool false)], args := [d1, d2, d3] }
  | _ => none }
def FnExactRulePossibleWrongFalsely : Prop := fnExactRulePossibleRow.holds Try.pinned (OpenSpec.ofChange fnExactRulePossibleWrong)

/-- 'laws.FnExactPuzzleFits': WHATEVER THE INPUT: true; the input reads as it did. -/
def fnExactPuzzleFitsSpec : ChangeSpec := { name := "fnExactPuzzleFits", fn := fun _ => fun
  | [d1, d2] => { results := [.lit (.bool true)], args := [d1, d2] }
  | _ => none }
def fnExactPuzzleFitsRow : OpenClaim := { program := "ytoejpodchlepiaa", sum := "5184f373e80ab709d501bff39f0fd3ea2052d57580c174be98bb3233cdc58b0f", func := "loop.example/gridpuzzles/laws.FnExactPuzzleFits", spec := "fnExactPuzzleFits", unfollowed := true, recurses := true, apart := false }
def FnExactPuzzleFitsSaid : Prop := fnExactPuzzleFitsRow.holds Try.pinned (OpenSpec.ofChange fnExactPuzzleFitsSpec)

/-- ITS FALSE NEIGHBOUR: 'it returns false'. Refute it at one input. -/
def fnExactPuzzleFitsWrong : ChangeSpec := { name := "fnExactPuzzleFits", fn := fun _ => fun
  | [d1, d2] => { results := [.lit (.bool false)], args := [d1, d2] }
  | _ => none }
def FnExactPuzzleFitsWrongFalsely : Prop := fnExactPuzzleFitsRow.holds Try.pinned (OpenSpec.ofChange fnExactPuzzleFitsWrong)

/-- 'laws.FnExactPuzzleSolved': WHATEVER THE INPUT: true; the input reads as it did. -/
def fnExactPuzzleSolvedSpec : ChangeSpec := { name := "fnExactPuzzleSolved", fn := fun _ => fun
  | [d1, d2] => { results := [.lit (.bool true)], args := [d1, d2] }
  | _ => none }
def fnExactPuzzleSolvedRow : OpenClaim := { program := "ytoejpodchlepiaa", sum := "5184f373e80ab709d501bff39f0fd3ea2052d57580c174be98bb3233cdc58b0f", func := "loop.example/gridpuzzles/laws.FnExactPuzzleSolved", spec := "fnExactPuzzleSolved", unfollowed := true, recurses := true, apart := false }
def FnExactPuzzleSolvedSaid : Prop := fnExactPuzzleSolvedRow.holds Try.pinned (OpenSpec.ofChange fnExactPuzzleSolvedSpec)

/-- ITS FALSE NEIGHBOUR: 'it returns false'. Refute it at one input. -/
def fnExactPuzzleSolvedWrong : ChangeSpec := { name := "fnExactPuzzleSolved", fn := fun _ => fun
  | [d1, d2] => { results := [.lit (.bool false)], args := [d1, d2] }
  | _ => none }
def FnExactPuzzleSolvedWrongFalsely : Prop := fnExactPuzzleSolvedRow.holds Try.pinned (OpenSpec.ofChange fnExactPuzzleSolvedWrong)

/-- 'laws.FnExactStartMasks': WHATEVER THE INPUT: true; the input reads as it did. -/
def fnExactStartMasksSpec : ChangeSpec := { name := "fnExactStartMasks", fn := fun _ => fun
  | [d] => { results := [.lit (.bool true)], args := [d] }
  | _ => none }
def fnExactStartMasksRow : OpenClaim := { program := "ytoejpodchlepiaa", sum := "5184f373e80ab709d501bff39f0fd3ea2052d57580c174be98bb3233cdc58b0f", func := "loop.example/gridpuzzles/laws.FnExactStartMasks", spec := "fnExactStartMasks", unfollowed := true, recurses := true, apart := false }
def FnExactStartMasksSaid : Prop := fnExactStartMasksRow.holds Try.pinned (OpenSpec.ofChange fnExactStartMasksSpec)

/-- ITS FALSE NEIGHBOUR: 'it returns false'. Refute it at one input. -/
def fnExactStartMasksWrong : ChangeSpec := { name := "fnExactStartMasks", fn := fun _ => fun
  | [d] => { results := [.lit (.bool false)], args := [d] }
  | _ => none }
def FnExactStartMasksWrongFalsely : Prop := fnExactStartMasksRow.holds Try.pinned (OpenSpec.ofChange fnExactStartMasksWrong)

/-- 'laws.FnExactNarrowHidden': WHATEVER THE INPUT: true; the input reads as it did. -/
def fnExactNarrowHiddenSpec : ChangeSpec := { name := "fnExactNarrowHidden", fn := fun _ => fun
  | [d1, d2] => { results := [.lit (.bool true)], args := [d1, d2] }
  | _ => none }
def fnExactNarrowHiddenRow : OpenClaim := { program := "ytoejpodchlepiaa", sum := "5184f373e80ab709d501bff39f0fd3ea2052d57580c174be98bb3233cdc58b0f", func := "loop.example/gridpuzzles/laws.FnExactNarrowHidden", spec := "fnExactNarrowHidden", apart := false }
def FnExactNarrowHiddenSaid : Prop := fnExactNarrowHiddenRow.holds Try.pinned (OpenSpec.ofChange fnExactNarrowHiddenSpec)

/-- ITS FALSE NEIGHBOUR: 'it returns false'. Refute it at one input. -/
def fnExactNarrowHiddenWrong : ChangeSpec := { name := "fnExactNarrowHidden", fn := fun _ => fun
  | [d1, d2] => { results := [.lit (.bool false)], args := [d1, d2] }
  | _ => none }
def FnExactNarrowHiddenWrongFalsely : Prop := fnExactNarrowHiddenRow.holds Try.pinned (OpenSpec.ofChange fnExactNarrowHiddenWrong)

/-- 'laws.FnExactMasksCount': WHATEVER THE INPUT: true; the input reads as it did. -/
def fnExactMasksCountSpec : ChangeSpec := { name := "fnExactMasksCount", fn := fun _ => fun
  | [d1, d2] => { results := [.lit (.bool true)], args := [d1, d2] }
  | _ => none }
def fnExactMasksCountRow : OpenClaim := { program := "ytoejpodchlepiaa", sum := "5184f373e80ab709d501bff39f0fd3ea2052d57580c174be98bb3233cdc58b0f", func := "loop.example/gridpuzzles/laws.FnExactMasksCount", spec := "fnExactMasksCount", apart := false }
def FnExactMasksCountSaid : Prop := fnExactMasksCountRow.holds Try.pinned (OpenSpec.ofChange fnExactMasksCountSpec)

/-- ITS FALSE NEIGHBOUR: 'it returns false'. Refute it at one input. -/
def fnExactMasksCountWrong : ChangeSpec := { name := "fnExactMasksCount", fn := fun _ => fun
  | [d1, d2] => { results := [.lit (.bool false)], args := [d1, d2] }
  | _ => none }
def FnExactMasksCountWrongFalsely : Prop := fnExactMasksCountRow.holds Try.pinned (OpenSpec.ofChange fnExactMasksCountWrong)

/-- 'laws.FnExactMasksHave': WHATEVER THE INPUT: true; the input reads as it did. -/
def fnExactMasksHaveSpec : ChangeSpec := { name := "fnExactMasksHave", fn := fun _ => fun
  | [d1, d2, d3] => { results := [.lit (.bool true)], args := [d1, d2, d3] }
  | _ => none }
def fnExactMasksHaveRow : OpenClaim := { program := "ytoejpodchlepiaa", sum := "5184f373e80ab709d501bff39f0fd3ea2052d57580c174be98bb3233cdc58b0f", func := "loop.example/gridpuzzles/laws.FnExactMasksHave", spec := "fnExactMasksHave", apart := false }
def FnExactMasksHaveSaid : Prop := fnExactMasksHaveRow.holds Try.pinned (OpenSpec.ofChange fnExactMasksHaveSpec)

/-- ITS FALSE NEIGHBOUR: 'it returns false'. Refute it at one input. -/
def fnExactMasksHaveWrong : ChangeSpec := { name := "fnExactMasksHave", fn := fun _ => fun
  | [d1, d2, d3] => { results := [.lit (.bool false)], args := [d1, d2, d3] }
  | _ => none }
def FnExactMasksHaveWrongFalsely : Prop := fnExactMasksHaveRow.holds Try.pinned (OpenSpec.ofChange fnExactMasksHaveWrong)

/-- 'laws.FnPuzzleValid': WHATEVER THE INPUT: true; the input reads as it did. -/
def fnPuzzleValidSpec : ChangeSpec := { name := "fnPuzzleValid", fn := fun _ => fun
  | [d] => { results := [.lit (.bool true)], args := [d] }
  | _ => none }
def fnPuzzleValidRow : OpenClaim := { program := "ytoejpodchlepiaa", sum := "5184f373e80ab709d501bff39f0fd3ea2052d57580c174be98bb3233cdc58b0f", func := "loop.example/gridpuzzles/laws.FnPuzzleValid", spec := "fnPuzzleValid", unfollowed := true, recurses := true, apart := false }
def FnPuzzleValidSaid : Prop := fnPuzzleValidRow.holds Try.pinned (OpenSpec.ofChange fnPuzzleValidSpec)

/-- ITS FALSE NEIGHBOUR: 'it returns false'. Refute it at one input. -/
def fnPuzzleValidWrong : ChangeSpec := { name := "fnPuzzleValid", fn := fun _ => fun
  | [d] => { results := [.lit (.bool false)], args := [d] }
  | _ => none }
def FnPuzzleValidWrongFalsely : Prop := fnPuzzleValidRow.holds Try.pinned (OpenSpec.ofChange fnPuzzleValidWrong)

/-- 'laws.FnPuzzleFits': WHATEVER THE INPUT: true; the input reads as it did. -/
def fnPuzzleFitsSpec : ChangeSpec := { name := "fnPuzzleFits", fn := fun _ => fun
  | [d] => { results := [.lit (.bool true)], args := [d] }
  | _ => none }
def fnPuzzleFitsRow : OpenClaim := { program := "ytoejpodchlepiaa", sum := "5184f373e80ab709d501bff39f0fd3ea2052d57580c174be98bb3233cdc58b0f", func := "loop.example/gridpuzzles/laws.FnPuzzleFits", spec := "fnPuzzleFits", unfollowed := true, recurses := true, apart := false }
def FnPuzzleFitsSaid : Prop := fnPuzzleFitsRow.holds Try.pinned (OpenSpec.ofChange fnPuzzleFitsSpec)

/-- ITS FALSE NEIGHBOUR: 'it returns false'. Refute it at one input. -/
def fnPuzzleFitsWrong : ChangeSpec := { name := "fnPuzzleFits", fn := fun _ => fun
  | [d] => { results := [.lit (.bool false)], args := [d] }
  | _ => none }
def FnPuzzleFitsWrongFalsely : Prop := fnPuzzleFitsRow.holds Try.pinned (OpenSpec.ofChange fnPuzzleFitsWrong)

/-- 'laws.FnPuzzleSolved': WHATEVER THE INPUT: true; the input reads as it did. -/
def fnPuzzleSolvedSpec : ChangeSpec := { name := "fnPuzzleSolved", fn := fun _ => fun
  | [d] => { results := [.lit (.bool true)], args := [d] }
  | _ => none }
def fnPuzzleSolvedRow : OpenClaim := { program := "ytoejpodchlepiaa", sum := "5184f373e80ab709d501bff39f0fd3ea2052d57580c174be98bb3233cdc58b0f", func := "loop.example/gridpuzzles/laws.FnPuzzleSolved", spec := "fnPuzzleSolved", unfollowed := true, recurses := true, apart := false }
def FnPuzzleSolvedSaid : Prop := fnPuzzleSolvedRow.holds Try.pinned (OpenSpec.ofChange fnPuzzleSolvedSpec)

/-- ITS FALSE NEIGHBOUR: 'it returns false'. Refute it at one input. -/
def fnPuzzleSolvedWrong : ChangeSpec := { name := "fnPuzzleSolved", fn := fun _ => fun
  | [d] => { results := [.lit (.bool false)], args := [d] }
  | _ => none }
def FnPuzzleSolvedWrongFalsely : Prop := fnPuzzleSolvedRow.holds Try.pinned (OpenSpec.ofChange fnPuzzleSolvedWrong)

/-- 'laws.FnRuleMasks': WHATEVER THE INPUT: true; the input reads as it did. -/
def fnRuleMasksSpec : ChangeSpec := { name := "fnRuleMasks", fn := fun _ => fun
  | [d] => { results := [.lit (.bool true)], args := [d] }
  | _ => none }
def fnRuleMasksRow : OpenClaim := { program := "ytoejpodchlepiaa", sum := "5184f373e80ab709d501bff39f0fd3ea2052d57580c174be98bb3233cdc58b0f", func := "loop.example/gridpuzzles/laws.FnRuleMasks", spec := "fnRuleMasks", unfollowed := true, recurses := true, apart := false }
def FnRuleMasksSaid : Prop := fnRuleMasksRow.holds Try.pinned (OpenSpec.ofChange fnRuleMasksSpec)

/-- ITS FALSE NEIGHBOUR: 'it returns false'. Refute it at one input. -/
def fnRuleMasksWrong : ChangeSpec := { name := "fnRuleMasks", fn := fun _ => fun
  | [d] => { results := [.lit (.bool false)], args := [d] }
  | _ => none }
def FnRuleMasksWrongFalsely : Prop := fnRuleMasksRow.holds Try.pinned (OpenSpec.ofChange fnRuleMasksWrong)

/-- 'laws.FnMasksValid': WHATEVER THE INPUT: true; the input reads as it did. -/
def fnMasksValidSpec : ChangeSpec := { name := "fnMasksValid", fn := fun _ => fun
  | [d] => { results := [.lit (.bool true)], args := [d] }
  | _ => none }
def fnMasksValidRow : OpenClaim := { program := "ytoejpodchlepiaa", sum := "5184f373e80ab709d501bff39f0fd3ea2052d57580c174be98bb3233cdc58b0f", func := "loop.example/gridpuzzles/laws.FnMasksValid", spec := "fnMasksValid", recurses := true, apart := false }
def FnMasksValidSaid : Prop := fnMasksValidRow.holds Try.pinned (OpenSpec.ofChange fnMasksValidSpec)

/-- ITS FALSE NEIGHBOUR: 'it returns false'. Refute it at one input. -/
def fnMasksValidWrong : ChangeSpec := { name := "fnMasksValid", fn := fun _ => fun
  | [d] => { results := [.lit (.bool false)], args := [d] }
  | _ => none }
def FnMasksValidWrongFalsely : Prop := fnMasksValidRow.holds Try.pinned (OpenSpec.ofChange fnMasksValidWrong)

/-- 'laws.FnNarrowHidden': WHATEVER THE INPUT: true; the input reads as it did. -/
def fnNarrowHiddenSpec : ChangeSpec := { name := "fnNarrowHidden", fn := fun _ => fun
  | [d] => { results := [.lit (.bool true)], args := [d] }
  | _ => none }
def fnNarrowHiddenRow : OpenClaim := { program := "ytoejpodchlepiaa", sum := "5184f373e80ab709d501bff39f0fd3ea2052d57580c174be98bb3233cdc58b0f", func := "loop.example/gridpuzzles/laws.FnNarrowHidden", spec := "fnNarrowHidden", recurses := true, apart := false }
def FnNarrowHiddenSaid : Prop := fnNarrowHiddenRow.holds Try.pinned (OpenSpec.ofChange fnNarrowHiddenSpec)

/-- ITS FALSE NEIGHBOUR: 'it returns false'. Refute it at one input. -/
def fnNarrowHiddenWrong : ChangeSpec := { name := "fnNarrowHidden", fn := fun _ => fun
  | [d] => { results := [.lit (.bool false)], args := [d] }
  | _ => none }
def FnNarrowHiddenWrongFalsely : Prop := fnNarrowHiddenRow.holds Try.pinned (OpenSpec.ofChange fnNarrowHiddenWrong)

/-- 'laws.FnMasksHave': WHATEVER THE INPUT: true; the input reads as it did. -/
def fnMasksHaveSpec : ChangeSpec := { name := "fnMasksHave", fn := fun _ => fun
  | [d] => { results := [.lit (.bool true)], args := [d] }
  | _ => none }
def fnMasksHaveRow : OpenClaim := { program := "ytoejpodchlepiaa", sum := "5184f373e80ab709d501bff39f0fd3ea2052d57580c174be98bb3233cdc58b0f", func := "loop.example/gridpuzzles/laws.FnMasksHave", spec := "fnMasksHave", recurses := true, apart := false }
def FnMasksHaveSaid : Prop := fnMasksHaveRow.holds Try.pinned (OpenSpec.ofChange fnMasksHaveSpec)

/-- ITS FALSE NEIGHBOUR: 'it returns false'. Refute it at one input. -/
def fnMasksHaveWrong : ChangeSpec := { name := "fnMasksHave", fn := fun _ => fun
  | [d] => { results := [.lit (.bool false)], args := [d] }
  | _ => none }
def FnMasksHaveWrongFalsely : Prop := fnMasksHaveRow.holds Try.pinned (OpenSpec.ofChange fnMasksHaveWrong)

/- THE SECOND FORM. 'bulk': how many values and letters a reading holds, each counted each time it is reached (what is shared counts as often as it is met; a slice's spare places count too). A statement '..UptoSaid' is the law's where the arguments, and the package variables that the reading takes, are together of bulk at most 1048576: NARROWER than '..Said'. Prove '..Said' where nothing that the law and all that it calls make is longer than what came in: it says more and counts as full. Else prove '..UptoSaid'. A law counts once. -/
mutual
def uptoBulk {H : Type} : DataW H → Nat
  | .lit (.string bytes) => bytes.length + 1
  | .lit _ => 1
  | .nil => 1
  | .ptr d => uptoBulk d + 1
  | .slice elems spare => uptoBulkAll elems + uptoBulkAll spare + 1
  | .agg parts => uptoBulkAll parts + 1
  | .iface _ d => uptoBulk d + 1
  | .map entries => uptoBulkEntries entries + 1
  | .held _ => 1
def uptoBulkAll {H : Type} : List (DataW H) → Nat
  | [] => 0
  | d :: r => uptoBulk d + uptoBulkAll r
def uptoBulkEntries {H : Type} : List (Lit × DataW H) → Nat
  | [] => 0
  | x :: r => uptoBulkEntry x + uptoBulkEntries r
def uptoBulkEntry {H : Type} : Lit × DataW H → Nat
  | (.string bytes, d) => bytes.length + uptoBulk d + 1
  | (_, d) => uptoBulk d + 1
 end
def uptoSmall : (H : Type) → List (DataW H) → Bool := fun _ ds => decide (uptoBulkAll ds ≤ 1048576)
def OpenSpec.upto (s : _root_.Go.ChangeSpec) : _root_.Go.OpenSpec := { _root_.Go.OpenSpec.ofChange s with cond := some uptoSmall }

/-- 'laws.FnRuleHolds', WHERE WHAT IT READS IS OF BULK AT MOST 1048576: true; the input reads as it did. -/
def fnRuleHoldsUptoRow : OpenClaim := { program := "ytoejpodchlepiaa", sum := "5184f373e80ab709d501bff39f0fd3ea2052d57580c174be98bb3233cdc58b0f", func := "loop.example/gridpuzzles/laws.FnRuleHolds", spec := "fnRuleHolds", unfollowed := true, recurses := true, apart := false, narrowed := true }
def FnRuleHoldsUptoSaid : Prop := fnRuleHoldsUptoRow.holds Try.pinned (OpenSpec.upto fnRuleHoldsSpec)

/-- 'laws.FnRulePossible', WHERE WHAT IT READS IS OF BULK AT MOST 1048576: true; the input reads as it did. -/
def fnRulePossibleUptoRow : OpenClaim := { program := "ytoejpodchlepiaa", sum := "5184f373e80ab709d501bff39f0fd3ea2052d57580c174be98bb3233cdc58b0f", func := "loop.example/gridpuzzles/laws.FnRulePossible", spec := "fnRulePossible", unfollowed := true, recurses := true, apart := false, narrowed := true }
def FnRulePossibleUptoSaid : Prop := fnRulePossibleUptoRow.holds Try.pinned (OpenSpec.upto fnRulePossibleSpec)

/-- 'laws.FnExactRulePossible', WHERE WHAT IT READS IS OF BULK AT MOST 1048576: true; the input reads as it did. -/
def fnExactRulePossibleUptoRow : OpenClaim := { program := "ytoejpodchlepiaa", sum := "5184f373e80ab709d501bff39f0fd3ea2052d57580c174be98bb3233cdc58b0f", func := "loop.example/gridpuzzles/laws.FnExactRulePossible", spec := "fnExactRulePossible", unfollowed := true, recurses := true, apart := false, narrowed := true }
def FnExactRulePossibleUptoSaid : Prop := fnExactRulePossibleUptoRow.holds Try.pinned (OpenSpec.upto fnExactRulePossibleSpec)

/-- 'laws.FnExactPuzzleFits', WHERE WHAT IT READS IS OF BULK AT MOST 1048576: true; the input reads as it did. -/
def fnExactPuzzleFitsUptoRow : OpenClaim := { program := "ytoejpodchlepiaa", sum := "5184f373e80ab709d501bff39f0fd3ea2052d57580c174be98bb3233cdc58b0f", func := "loop.example/gridpuzzles/laws.FnExactPuzzleFits", spec := "fnExactPuzzleFits", unfollowed := true, recurses := true, apart := false, narrowed := true }
def FnExactPuzzleFitsUptoSaid : Prop := fnExactPuzzleFitsUptoRow.holds Try.pinned (OpenSpec.upto fnExactPuzzleFitsSpec)

/-- 'laws.FnExactPuzzleSolved', WHERE WHAT IT READS IS OF BULK AT MOST 1048576: true; the input reads as it did. -/
def fnExactPuzzleSolvedUptoRow : OpenClaim := { program := "ytoejpodchlepiaa", sum := "5184f373e80ab709d501bff39f0fd3ea2052d57580c174be98bb3233cdc58b0f", func := "loop.example/gridpuzzles/laws.FnExactPuzzleSolved", spec := "fnExactPuzzleSolved", unfollowed := true, recurses := true, apart := false, narrowed := true }
def FnExactPuzzleSolvedUptoSaid : Prop := fnExactPuzzleSolvedUptoRow.holds Try.pinned (OpenSpec.upto fnExactPuzzleSolvedSpec)

/-- 'laws.FnExactStartMasks', WHERE WHAT IT READS IS OF BULK AT MOST 1048576: true; the input reads as it did. -/
def fnExactStartMasksUptoRow : OpenClaim := { program := "ytoejpodchlepiaa", sum := "5184f373e80ab709d501bff39f0fd3ea2052d57580c174be98bb3233cdc58b0f", func := "loop.example/gridpuzzles/laws.FnExactStartMasks", spec := "fnExactStartMasks", unfollowed := true, recurses := true, apart := false, narrowed := true }
def FnExactStartMasksUptoSaid : Prop := fnExactStartMasksUptoRow.holds Try.pinned (OpenSpec.upto fnExactStartMasksSpec)

/-- 'laws.FnExactNarrowHidden', WHERE WHAT IT READS IS OF BULK AT MOST 1048576: true; the input reads as it did. -/
def fnExactNarrowHiddenUptoRow : OpenClaim := { program := "ytoejpodchlepiaa", sum := "5184f373e80ab709d501bff39f0fd3ea2052d57580c174be98bb3233cdc58b0f", func := "loop.example/gridpuzzles/laws.FnExactNarrowHidden", spec := "fnExactNarrowHidden", apart := false, narrowed := true }
def FnExactNarrowHiddenUptoSaid : Prop := fnExactNarrowHiddenUptoRow.holds Try.pinned (OpenSpec.upto fnExactNarrowHiddenSpec)

/-- 'laws.FnExactMasksCount', WHERE WHAT IT READS IS OF BULK AT MOST 1048576: true; the input reads as it did. -/
def fnExactMasksCountUptoRow : OpenClaim := { program := "ytoejpodchlepiaa", sum := "5184f373e80ab709d501bff39f0fd3ea2052d57580c174be98bb3233cdc58b0f", func := "loop.example/gridpuzzles/laws.FnExactMasksCount", spec := "fnExactMasksCount", apart := false, narrowed := true }
def FnExactMasksCountUptoSaid : Prop := fnExactMasksCountUptoRow.holds Try.pinned (OpenSpec.upto fnExactMasksCountSpec)

/-- 'laws.FnExactMasksHave', WHERE WHAT IT READS IS OF BULK AT MOST 1048576: true; the input reads as it did. -/
def fnExactMasksHaveUptoRow : OpenClaim := { program := "ytoejpodchlepiaa", sum := "5184f373e80ab709d501bff39f0fd3ea2052d57580c174be98bb3233cdc58b0f", func := "loop.example/gridpuzzles/laws.FnExactMasksHave", spec := "fnExactMasksHave", apart := false, narrowed := true }
def FnExactMasksHaveUptoSaid : Prop := fnExactMasksHaveUptoRow.holds Try.pinned (OpenSpec.upto fnExactMasksHaveSpec)

/-- 'laws.FnPuzzleValid', WHERE WHAT IT READS IS OF BULK AT MOST 1048576: true; the input reads as it did. -/
def fnPuzzleValidUptoRow : OpenClaim := { program := "ytoejpodchlepiaa", sum := "5184f373e80ab709d501bff39f0fd3ea2052d57580c174be98bb3233cdc58b0f", func := "loop.example/gridpuzzles/laws.FnPuzzleValid", spec := "fnPuzzleValid", unfollowed := true, recurses := true, apart := false, narrowed := true }
def FnPuzzleValidUptoSaid : Prop := fnPuzzleValidUptoRow.holds Try.pinned (OpenSpec.upto fnPuzzleValidSpec)

/-- 'laws.FnPuzzleFits', WHERE WHAT IT READS IS OF BULK AT MOST 1048576: true; the input reads as it did. -/
def fnPuzzleFitsUptoRow : OpenClaim := { program := "ytoejpodchlepiaa", sum := "5184f373e80ab709d501bff39f0fd3ea2052d57580c174be98bb3233cdc58b0f", func := "loop.example/gridpuzzles/laws.FnPuzzleFits", spec := "fnPuzzleFits", unfollowed := true, recurses := true, apart := false, narrowed := true }
def FnPuzzleFitsUptoSaid : Prop := fnPuzzleFitsUptoRow.holds Try.pinned (OpenSpec.upto fnPuzzleFitsSpec)

/-- 'laws.FnPuzzleSolved', WHERE WHAT IT READS IS OF BULK AT MOST 1048576: true; the input reads as it did. -/
def fnPuzzleSolvedUptoRow : OpenClaim := { program := "ytoejpodchlepiaa", sum := "5184f373e80ab709d501bff39f0fd3ea2052d57580c174be98bb3233cdc58b0f", func := "loop.example/gridpuzzles/laws.FnPuzzleSolved", spec := "fnPuzzleSolved", unfollowed := true, recurses := true, apart := false, narrowed := true }
def FnPuzzleSolvedUptoSaid : Prop := fnPuzzleSolvedUptoRow.holds Try.pinned (OpenSpec.upto fnPuzzleSolvedSpec)

/-- 'laws.FnRuleMasks', WHERE WHAT IT READS IS OF BULK AT MOST 1048576: true; the input reads as it did. -/
def fnRuleMasksUptoRow : OpenClaim := { program := "ytoejpodchlepiaa", sum := "5184f373e80ab709d501bff39f0fd3ea2052d57580c174be98bb3233cdc58b0f", func := "loop.example/gridpuzzles/laws.FnRuleMasks", spec := "fnRuleMasks", unfollowed := true, recurses := true, apart := false, narrowed := true }
def FnRuleMasksUptoSaid : Prop := fnRuleMasksUptoRow.holds Try.pinned (OpenSpec.upto fnRuleMasksSpec)

/-- 'laws.FnMasksValid', WHERE WHAT IT READS IS OF BULK AT MOST 1048576: true; the input reads as it did. -/
def fnMasksValidUptoRow : OpenClaim := { program := "ytoejpodchlepiaa", sum := "5184f373e80ab709d501bff39f0fd3ea2052d57580c174be98bb3233cdc58b0f", func := "loop.example/gridpuzzles/laws.FnMasksValid", spec := "fnMasksValid", recurses := true, apart := false, narrowed := true }
def FnMasksValidUptoSaid : Prop := fnMasksValidUptoRow.holds Try.pinned (OpenSpec.upto fnMasksValidSpec)

/-- 'laws.FnNarrowHidden', WHERE WHAT IT READS IS OF BULK AT MOST 1048576: true; the input reads as it did. -/
def fnNarrowHiddenUptoRow : OpenClaim := { program := "ytoejpodchlepiaa", sum := "5184f373e80ab709d501bff39f0fd3ea2052d57580c174be98bb3233cdc58b0f", func := "loop.example/gridpuzzles/laws.FnNarrowHidden", spec := "fnNarrowHidden", recurses := true, apart := false, narrowed := true }
def FnNarrowHiddenUptoSaid : Prop := fnNarrowHiddenUptoRow.holds Try.pinned (OpenSpec.upto fnNarrowHiddenSpec)

/-- 'laws.FnMasksHave', WHERE WHAT IT READS IS OF BULK AT MOST 1048576: true; the input reads as it did. -/
def fnMasksHaveUptoRow : OpenClaim := { program := "ytoejpodchlepiaa", sum := "5184f373e80ab709d501bff39f0fd3ea2052d57580c174be98bb3233cdc58b0f", func := "loop.example/gridpuzzles/laws.FnMasksHave", spec := "fnMasksHave", recurses := true, apart := false, narrowed := true }
def FnMasksHaveUptoSaid : Prop := fnMasksHaveUptoRow.holds Try.pinned (OpenSpec.upto fnMasksHaveSpec)

end Rows
end Go.Proofs.Ytoejpodchlepiaa
