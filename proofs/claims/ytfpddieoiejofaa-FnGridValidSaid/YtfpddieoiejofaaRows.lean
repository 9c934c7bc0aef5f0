/-
  No cell of these rows narrows 'for every input' (looked for: loops, veiled, ifaces, maps, wideKeys, modest, calm, conditions, laid).
  DERIVED. THE GIVEN ROWS OF THIS SEAT. 11 by the template 'for every input the law returns true; each argument reads behind the call as it read before'; 0 by the template 'total and deterministic' (their statements: YtfpddieoiejofaaTotals.lean).
  GIVEN WITH THE SEED: the statements are not yours to turn. If you find one false, say at which input.
  Laid BY PROGRAM, IN A SANDBOX (cutbox-rows.mjs): the forced cells as the released guide's own fill.sh prints them over the translation 12d64b976ea730eb… (all of the seat's roots in one cut). By AI agents, Wed Nov 11 2026. No macro, syntax, notation, axiom, sorry.
-/
import Derived.Test.YtfpddieoiejofaaChecked
import GoSem.Claim
import GoSem.ClaimJoined
import GoSem.ClaimMapViews
import Derived.JoinedTies
import Derived.KernelRfl
namespace Go.Proofs.Ytfpddieoiejofaa
/- THE CELL 'sum', in the pinned program and in every row, IS THE sha256 OF THE DUMP (.gsa) THAT YtfpddieoiejofaaProg.lean LOADS. Nothing in Lean hashes anything: it is a label: what it is worth is what the hold of that sum in a sandbox is worth. -/
noncomputable def Try.pinned : Pinned := { name := "ytfpddieoiejofaa", sum := "12d64b976ea730eb8aa57a3be0fc28a947dec4702e9c6ad3166684bd359d968f", checked := Try.checked }
namespace Rows
def none {H : Type} : Left H := { results := [], args := [] }

/-- 'laws.FnGridValid': WHATEVER THE INPUT: true; the input reads as it did. -/
def fnGridValidSpec : ChangeSpec := { name := "fnGridValid", fn := fun _ => fun
  | [d] => { results := [.lit (.bool true)], args := [d] }
  | _ => none }
def fnGridValidRow : OpenClaim := { program := "ytfpddieoiejofaa", sum := "12d64b976ea730eb8aa57a3be0fc28a947dec4702e9c6ad3166684bd359d968f", func := "loop.example/gridpuzzles/laws.FnGridValid", spec := "fnGridValid", recurses := true, apart := false }
def FnGridValidSaid : Prop := fnGridValidRow.holds Try.pinned (OpenSpec.ofChange fnGridValidSpec)

/-- ITS FALSE NEIGHBOUR: 'it returns false'. Refute it at one input. -/
def fnGridValidWrong : ChangeSpec := { name := "fnGridValid", fn := fun _ => fun
  | [d] => { results := [.lit (.bool false)], args := [d] }
  | _ => none }
def FnGridValidWrongFalsely : Prop := fnGridValidRow.holds Try.pinned (OpenSpec.ofChange fnGridValidWrong)

/-- 'laws.FnGridFilled': WHATEVER THE INPUT: true; the input reads as it did. -/
def fnGridFilledSpec : ChangeSpec := { name := "fnGridFilled", fn := fun _ => fun
  | [d] => { results := [.lit (.bool true)], args := [d] }
  | _ => none }
def fnGridFilledRow : OpenClaim := { program := "ytfpddieoiejofaa", sum := "12d64b976ea730eb8aa57a3be0fc28a947dec4702e9c6ad3166684bd359d968f", func := "loop.example/gridpuzzles/laws.FnGridFilled", spec := "fnGridFilled", recurses := true, apart := false }
def FnGridFilledSaid : Prop := fnGridFilledRow.holds Try.pinned (OpenSpec.ofChange fnGridFilledSpec)

/-- ITS FALSE NEIGHBOUR: 'it returns false'. Refute it at one input. -/
def fnGridFilledWrong : ChangeSpec := { name := "fnGridFilled", fn := fun _ => fun
  | [d] => { results := [.lit (.bool false)], args := [d] }
  | _ => none }
def FnGridFilledWrongFalsely : Prop := fnGridFilledRow.holds Try.pinned (OpenSpec.ofChange fnGridFilledWrong)

/-- 'laws.FnGridTurn': WHATEVER THE INPUT: true; the input reads as it did. -/
def fnGridTurnSpec : ChangeSpec := { name := "fnGridTurn", fn := fun _ => fun
  | [d] => { results := [.lit (.bool true)], args := [d] }
  | _ => none }
def fnGridTurnRow : OpenClaim := { program := "ytfpddieoiejofaa", sum := "12d64b976ea730eb8aa57a3be0fc28a947dec4702e9c6ad3166684bd359d968f", func := "loop.example/gridpuzzles/laws.FnGridTurn", spec := "fnGridTurn", unfollowed := true, recurses := true, apart := false }
def FnGridTurnSaid : Prop := fnGridTurnRow.holds Try.pinned (OpenSpec.ofChange fnGridTurnSpec)

/-- ITS FALSE NEIGHBOUR: 'it returns false'. Refute it at one input. -/
def fnGridTurnWrong : ChangeSpec := { name := "fnGridTurn", fn := fun _ => fun
  | [d] => { results := [.lit (.bool false)], args := [d] }
  | _ => none }
def FnGridTurnWrongFalsely : Prop := fnGridTurnRow.holds Try.pinned (OpenSpec.ofChange fnGridTurnWrong)

/-- 'laws.FnGridMirror': WHATEVER THE INPUT: true; the input reads as it did. -/
def fnGridMirrorSpec : ChangeSpec := { name := "fnGridMirror", fn := fun _ => fun
  | [d] => { results := [.lit (.bool true)], args := [d] }
  | _ => none }
def fnGridMirrorRow : OpenClaim := { program := "ytfpddieoiejofaa", sum := "12d64b976ea730eb8aa57a3be0fc28a947dec4702e9c6ad3166684bd359d968f", func := "loop.example/gridpuzzles/laws.FnGridMirror", spec := "fnGridMirror", unfollowed := true, recurses := true, apart := false }
def FnGridMirrorSaid : Prop := fnGridMirrorRow.holds Try.pinned (OpenSpec.ofChange fnGridMirrorSpec)

/-- ITS FALSE NEIGHBOUR: 'it returns false'. Refute it at one input. -/
def fnGridMirrorWrong : ChangeSpec := { name := "fnGridMirror", fn := fun _ => fun
  | [d] => { results := [.lit (.bool false)], args := [d] }
  | _ => none }
def FnGridMirrorWrongFalsely : Prop := fnGridMirrorRow.holds Try.pinned (OpenSpec.ofChange fnGridMirrorWrong)

/-- 'laws.FnLineCells': WHATEVER THE INPUT: true; the input reads as it did. -/
def fnLineCellsSpec : ChangeSpec := { name := "fnLineCells", fn := fun _ => fun
  | [d] => { results := [.lit (.bool true)], args := [d] }
  | _ => none }
def fnLineCellsRow : OpenClaim := { program := "ytfpddieoiejofaa", sum := "12d64b976ea730eb8aa57a3be0fc28a947dec4702e9c6ad3166684bd359d968f", func := "loop.example/gridpuzzles/laws.FnLineCells", spec := "fnLineCells", apart := false }
def FnLineCellsSaid : Prop := fnLineCellsRow.holds Try.pinned (OpenSpec.ofChange fnLineCellsSpec)

/-- ITS FALSE NEIGHBOUR: 'it returns false'. Refute it at one input. -/
def fnLineCellsWrong : ChangeSpec := { name := "fnLineCells", fn := fun _ => fun
  | [d] => { results := [.lit (.bool false)], args := [d] }
  | _ => none }
def FnLineCellsWrongFalsely : Prop := fnLineCellsRow.holds Try.pinned (OpenSpec.ofChange fnLineCellsWrong)

/-- 'laws.FnExactGridValid': WHATEVER THE INPUT: true; the input reads as it did. -/
def fnExactGridValidSpec : ChangeSpec := { name := "fnExactGridValid", fn := fun _ => fun
  | [d1, d2] => { results := [.lit (.bool true)], args := [d1, d2] }
  | _ => none }
def fnExactGridValidRow : OpenClaim := { program := "ytfpddieoiejofaa", sum := "12d64b976ea730eb8aa57a3be0fc28a947dec4702e9c6ad3166684bd359d968f", func := "loop.example/gridpuzzles/laws.FnExactGridValid", spec := "fnExactGridValid", apart := false }
def FnExactGridValidSaid : Prop := fnExactGridValidRow.holds Try.pinned (OpenSpec.ofChange fnExactGridValidSpec)

/-- ITS FALSE NEIGHBOUR: 'it returns false'. Refute it at one input. -/
def fnExactGridValidWrong : ChangeSpec := { name := "fnExactGridValid", fn := fun _ => fun
  | [d1, d2] => { results := [.lit (.bool false)], args := [d1, d2] }
  | _ => none }
def FnExactGridValidWrongFalsely : Prop := fnExactGridValidRow.holds Try.pinned (OpenSpec.ofChange fnExactGridValidWrong)

/-- 'laws.FnExactGridFilled': WHATEVER THE INPUT: true; the input reads as it did. -/
def fnExactGridFilledSpec : ChangeSpec := { name := "fnExactGridFilled", fn := fun _ => fun
  | [d1, d2] => { results := [.lit (.bool true)], args := [d1, d2] }
  | _ => none }
def fnExactGridFilledRow : OpenClaim := { program := "ytfpddieoiejofaa", sum := "12d64b976ea730eb8aa57a3be0fc28a947dec4702e9c6ad3166684bd359d968f", func := "loop.example/gridpuzzles/laws.FnExactGridFilled", spec := "fnExactGridFilled", apart := false }
def FnExactGridFilledSaid : Prop := fnExactGridFilledRow.holds Try.pinned (OpenSpec.ofChange fnExactGridFilledSpec)

/-- ITS FALSE NEIGHBOUR: 'it returns false'. Refute it at one input. -/
def fnExactGridFilledWrong : ChangeSpec := { name := "fnExactGridFilled", fn := fun _ => fun
  | [d1, d2] => { results := [.lit (.bool false)], args := [d1, d2] }
  | _ => none }
def FnExactGridFilledWrongFalsely : Prop := fnExactGridFilledRow.holds Try.pinned (OpenSpec.ofChange fnExactGridFilledWrong)

/-- 'laws.FnExactGridTurn': WHATEVER THE INPUT: true; the input reads as it did. -/
def fnExactGridTurnSpec : ChangeSpec := { name := "fnExactGridTurn", fn := fun _ => fun
  | [d1, d2] => { results := [.lit (.bool true)], args := [d1, d2] }
  | _ => none }
def fnExactGridTurnRow : OpenClaim := { program := "ytfpddieoiejofaa", sum := "12d64b976ea730eb8aa57a3be0fc28a947dec4702e9c6ad3166684bd359d968f", func := "loop.example/gridpuzzles/laws.FnExactGridTurn", spec := "fnExactGridTurn", unfollowed := true, recurses := true, apart := false }
def FnExactGridTurnSaid : Prop := fnExactGridTurnRow.holds Try.pinned (OpenSpec.ofChange fnExactGridTurnSpec)

/-- ITS FALSE NEIGHBOUR: 'it returns false'. Refute it at one input. -/
def fnExactGridTurnWrong : ChangeSpec := { name := "fnExactGridTurn", fn := fun _ => fun
  | [d1, d2] => { results := [.lit (.bool false)], args := [d1, d2] }
  | _ => none }
def FnExactGridTurnWrongFalsely : Prop := fnExactGridTurnRow.holds Try.pinned (OpenSpec.ofChange fnExactGridTurnWrong)

/-- 'laws.FnExactGridMirror': WHATEVER THE INPUT: true; the input reads as it did. -/
def fnExactGridMirrorSpec : ChangeSpec := { name := "fnExactGridMirror", fn := fun _ => fun
  | [d1, d2] => { results := [.lit (.bool true)], args := [d1, d2] }
  | _ => none }
def fnExactGridMirrorRow : OpenClaim := { program := "ytfpddieoiejofaa", sum := "12d64b976ea730eb8aa57a3be0fc28a947dec4702e9c6ad3166684bd359d968f", func := "loop.example/gridpuzzles/laws.FnExactGridMirror", spec := "fnExactGridMirror", unfollowed := true, recurses := true, apart := false }
def FnExactGridMirrorSaid : Prop := fnExactGridMirrorRow.holds Try.pinned (OpenSpec.ofChange fnExactGridMirrorSpec)

/-- ITS FALSE NEIGHBOUR: 'it returns false'. Refute it at one input. -/
def fnExactGridMirrorWrong : ChangeSpec := { name := "fnExactGridMirror", fn := fun _ => fun
  | [d1, d2] => { results := [.lit (.bool false)], args := [d1, d2] }
  | _ => none }
def FnExactGridMirrorWrongFalsely : Prop := fnExactGridMirrorRow.holds Try.pinned (OpenSpec.ofChange fnExactGridMirrorWrong)

/-- 'laws.FnExactGridSwap': WHATEVER THE INPUT: true; the input reads as it did. -/
def fnExactGridSwapSpec : ChangeSpec := { name := "fnExactGridSwap", fn := fun _ => fun
  | [d1, d2, d3, d4] => { results := [.lit (.bool true)], args := [d1, d2, d3, d4] }
  | _ => none }
def fnExactGridSwapRow : OpenClaim := { program := "ytfpddieoiejofaa", sum := "12d64b976ea730eb8aa57a3be0fc28a947dec4702e9c6ad3166684bd359d968f", func := "loop.example/gridpuzzles/laws.FnExactGridSwap", spec := "fnExactGridSwap", unfollowed := true, recurses := true, apart := false }
def FnExactGridSwapSaid : Prop := fnExactGridSwapRow.holds Try.pinned (OpenSpec.ofChange fnExactGridSwapSpec)

/-- ITS FALSE NEIGHBOUR: 'it returns false'. Refute it at one input. -/
def fnExactGridSwapWrong : ChangeSpec := { name := "fnExactGridSwap", fn := fun _ => fun
  | [d1, d2, d3, d4] => { results := [.lit (.bool false)], args := [d1, d2, d3, d4] }
  | _ => none }
def FnExactGridSwapWrongFalsely : Prop := fnExactGridSwapRow.holds Try.pinned (OpenSpec.ofChange fnExactGridSwapWrong)

/-- 'laws.FnExactLineCells': WHATEVER THE INPUT: true; the input reads as it did. -/
def fnExactLineCellsSpec : ChangeSpec := { name := "fnExactLineCells", fn := fun _ => fun
  | [d1, d2] => { results := [.lit (.bool true)], args := [d1, d2] }
  | _ => none }
def fnExactLineCellsRow : OpenClaim := { program := "ytfpddieoiejofaa", sum := "12d64b976ea730eb8aa57a3be0fc28a947dec4702e9c6ad3166684bd359d968f", func := "loop.example/gridpuzzles/laws.FnExactLineCells", spec := "fnExactLineCells", apart := false }
def FnExactLineCellsSaid : Prop := fnExactLineCellsRow.holds Try.pinned (OpenSpec.ofChange fnExactLineCellsSpec)

/-- ITS FALSE NEIGHBOUR: 'it returns false'. Refute it at one input. -/
def fnExactLineCellsWrong : ChangeSpec := { name := "fnExactLineCells", fn := fun _ => fun
  | [d1, d2] => { results := [.lit (.bool false)], args := [d1, d2] }
  | _ => none }
def FnExactLineCellsWrongFalsely : Prop := fnExactLineCellsRow.holds Try.pinned (OpenSpec.ofChange fnExactLineCellsWrong)

/- THE SECOND FORM. 'bulk': how many values and letters a reading holds, each counted each time it is reached (what is shared counts as often as it is met; a slice's spare places count too). A statement '..UptoSaid' is the law's where the arguments, and the package variables that the reading takes, are together of bulk at most 1048576: NARROWER than '..Said'. Prove '..Said' where nothing that the law and all that it calls make is longer than what came in: it says more and counts as full. Else prove '..UptoSaid'. A law counts once. -/
mutual
def uptoBulk {H : Type} : DataW H → Nat
  | .lit (.string bytes) => bytes.length + 1
  | .lit _ => 1
  | .nil => 1
  | .ptr d => uptoBulk d + 1
  | .slice elems spare => uptoBulkAll elems + uptoBulkAll spare + 1
  | .agg parts => uptoBulkAll parts + 1
  | .iface _ d => uptoBulk d + 1
  | .map entries => uptoBulkEntries entries + 1
  | .held _ => 1
def uptoBulkAll {H : Type} : List (DataW H) → Nat
  | [] => 0
  | d :: r => uptoBulk d + uptoBulkAll r
def uptoBulkEntries {H : Type} : List (Lit × DataW H) → Nat
  | [] => 0
  | x :: r => uptoBulkEntry x + uptoBulkEntries r
def uptoBulkEntry {H : Type} : Lit × DataW H → Nat
  | (.string bytes, d) => bytes.length + uptoBulk d + 1
  | (_, d) => uptoBulk d + 1
 end
def uptoSmall : (H : Type) → List (DataW H) → Bool := fun _ ds => decide (uptoBulkAll ds ≤ 1048576)
def OpenSpec.upto (s : _root_.Go.ChangeSpec) : _root_.Go.OpenSpec := { _root_.Go.OpenSpec.ofChange s with cond := some uptoSmall }

/-- 'laws.FnGridValid', WHERE WHAT IT READS IS OF BULK AT MOST 1048576: true; the input reads as it did. -/
def fnGridValidUptoRow : OpenClaim := { program := "ytfpddieoiejofaa", sum := "12d64b976ea730eb8aa57a3be0fc28a947dec4702e9c6ad3166684bd359d968f", func := "loop.example/gridpuzzles/laws.FnGridValid", spec := "fnGridValid", recurses := true, apart := false, narrowed := true }
def FnGridValidUptoSaid : Prop := fnGridValidUptoRow.holds Try.pinned (OpenSpec.upto fnGridValidSpec)

/-- 'laws.FnGridFilled', WHERE WHAT IT READS IS OF BULK AT MOST 1048576: true; the input reads as it did. -/
def fnGridFilledUptoRow : OpenClaim := { program := "ytfpddieoiejofaa", sum := "12d64b976ea730eb8aa57a3be0fc28a947dec4702e9c6ad3166684bd359d968f", func := "loop.example/gridpuzzles/laws.FnGridFilled", spec := "fnGridFilled", recurses := true, apart := false, narrowed := true }
def FnGridFilledUptoSaid : Prop := fnGridFilledUptoRow.holds Try.pinned (OpenSpec.upto fnGridFilledSpec)

/-- 'laws.FnGridTurn', WHERE WHAT IT READS IS OF BULK AT MOST 1048576: true; the input reads as it did. -/
def fnGridTurnUptoRow : OpenClaim := { program := "ytfpddieoiejofaa", sum := "12d64b976ea730eb8aa57a3be0fc28a947dec4702e9c6ad3166684bd359d968f", func := "loop.example/gridpuzzles/laws.FnGridTurn", spec := "fnGridTurn", unfollowed := true, recurses := true, apart := false, narrowed := true }
def FnGridTurnUptoSaid : Prop := fnGridTurnUptoRow.holds Try.pinned (OpenSpec.upto fnGridTurnSpec)

/-- 'laws.FnGridMirror', WHERE WHAT IT READS IS OF BULK AT MOST 1048576: true; the input reads as it did. -/
def fnGridMirrorUptoRow : OpenClaim := { program := "ytfpddieoiejofaa", sum := "12d64b976ea730eb8aa57a3be0fc28a947dec4702e9c6ad3166684bd359d968f", func := "loop.example/gridpuzzles/laws.FnGridMirror", spec := "fnGridMirror", unfollowed := true, recurses := true, apart := false, narrowed := true }
def FnGridMirrorUptoSaid : Prop := fnGridMirrorUptoRow.holds Try.pinned (OpenSpec.upto fnGridMirrorSpec)

/-- 'laws.FnLineCells', WHERE WHAT IT READS IS OF BULK AT MOST 1048576: true; the input reads as it did. -/
def fnLineCellsUptoRow : OpenClaim := { program := "ytfpddieoiejofaa", sum := "12d64b976ea730eb8aa57a3be0fc28a947dec4702e9c6ad3166684bd359d968f", func := "loop.example/gridpuzzles/laws.FnLineCells", spec := "fnLineCells", apart := false, narrowed := true }
def FnLineCellsUptoSaid : Prop := fnLineCellsUptoRow.holds Try.pinned (OpenSpec.upto fnLineCellsSpec)

/-- 'laws.FnExactGridValid', WHERE WHAT IT READS IS OF BULK AT MOST 1048576: true; the input reads as it did. -/
def fnExactGridValidUptoRow : OpenClaim := { program := "ytfpddieoiejofaa", sum := "12d64b976ea730eb8aa57a3be0fc28a947dec4702e9c6ad3166684bd359d968f", func := "loop.example/gridpuzzles/laws.FnExactGridValid", spec := "fnExactGridValid", apart := false, narrowed := true }
def FnExactGridValidUptoSaid : Prop := fnExactGridValidUptoRow.holds Try.pinned (OpenSpec.upto fnExactGridValidSpec)

/-- 'laws.FnExactGridFilled', WHERE WHAT IT READS IS OF BULK AT MOST 1048576: true; the input reads as it did. -/
def fnExactGridFilledUptoRow : OpenClaim := { program := "ytfpddieoiejofaa", sum := "12d64b976ea730eb8aa57a3be0fc28a947dec4702e9c6ad3166684bd359d968f", func := "loop.example/gridpuzzles/laws.FnExactGridFilled", spec := "fnExactGridFilled", apart := false, narrowed := true }
def FnExactGridFilledUptoSaid : Prop := fnExactGridFilledUptoRow.holds Try.pinned (OpenSpec.upto fnExactGridFilledSpec)

/-- 'laws.FnExactGridTurn', WHERE WHAT IT READS IS OF BULK AT MOST 1048576: true; the input reads as it did. -/
def fnExactGridTurnUptoRow : OpenClaim := { program := "ytfpddieoiejofaa", sum := "12d64b976ea730eb8aa57a3be0fc28a947dec4702e9c6ad3166684bd359d968f", func := "loop.example/gridpuzzles/laws.FnExactGridTurn", spec := "fnExactGridTurn", unfollowed := true, recurses := true, apart := false, narrowed := true }
def FnExactGridTurnUptoSaid : Prop := fnExactGridTurnUptoRow.holds Try.pinned (OpenSpec.upto fnExactGridTurnSpec)

/-- 'laws.FnExactGridMirror', WHERE WHAT IT READS IS OF BULK AT MOST 1048576: true; the input reads as it did. -/
def fnExactGridMirrorUptoRow : OpenClaim := { program := "ytfpddieoiejofaa", sum := "12d64b976ea730eb8aa57a3be0fc28a947dec4702e9c6ad3166684bd359d968f", func := "loop.example/gridpuzzles/laws.FnExactGridMirror", spec := "fnExactGridMirror", unfollowed := true, recurses := true, apart := false, narrowed := true }
def FnExactGridMirrorUptoSaid : Prop := fnExactGridMirrorUptoRow.holds Try.pinned (OpenSpec.upto fnExactGridMirrorSpec)

/-- 'laws.FnExactGridSwap', WHERE WHAT IT READS IS OF BULK AT MOST 1048576: true; the input reads as it did. -/
def fnExactGridSwapUptoRow : OpenClaim := { program := "ytfpddieoiejofaa", sum := "12d64b976ea730eb8aa57a3be0fc28a947dec4702e9c6ad3166684bd359d968f", func := "loop.example/gridpuzzles/laws.FnExactGridSwap", spec := "fnExactGridSwap", unfollowed := true, recurses := true, apart := false, narrowed := true }
def FnExactGridSwapUptoSaid : Prop := fnExactGridSwapUptoRow.holds Try.pinned (OpenSpec.upto fnExactGridSwapSpec)

/-- 'laws.FnExactLineCells', WHERE WHAT IT READS IS OF BULK AT MOST 1048576: true; the input reads as it did. -/
def fnExactLineCellsUptoRow : OpenClaim := { program := "ytfpddieoiejofaa", sum := "12d64b976ea730eb8aa57a3be0fc28a947dec4702e9c6ad3166684bd359d968f", func := "loop.example/gridpuzzles/laws.FnExactLineCells", spec := "fnExactLineCells", apart := false, narrowed := true }
def FnExactLineCellsUptoSaid : Prop := fnExactLineCellsUptoRow.holds Try.pinned (OpenSpec.upto fnExactLineCellsSpec)

end Rows
end Go.Proofs.Ytfpddieoiejofaa
