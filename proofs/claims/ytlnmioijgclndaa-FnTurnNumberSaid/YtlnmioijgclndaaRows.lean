/-
  No cell of these rows narrows 'for every input' (looked for: loops, veiled, ifaces, maps, wideKeys, modest, calm, conditions, laid).
  DERIVED. THE GIVEN ROWS OF THIS SEAT. 10 by the template 'for every input the law returns true; each argument reads behind the call as it read before'; 0 by the template 'total and deterministic' (their statements: YtlnmioijgclndaaTotals.lean).
  GIVEN WITH THE SEED: the statements are not yours to turn. If you find one false, say at which input.
  Laid BY PROGRAM, IN A SANDBOX (cutbox-rows.mjs): the forced cells as the released guide's own fill.sh prints them over the translation f83818faa941cd7e… (all of the seat's roots in one cut). By AI agents, Wed Nov 11 2026. No macro, syntax, notation, axiom, sorry.
-/
import Derived.Test.YtlnmioijgclndaaChecked
import GoSem.Claim
import GoSem.ClaimJoined
import GoSem.ClaimMapViews
import Derived.JoinedTies
import Derived.KernelRfl
namespace Go.Proofs.Ytlnmioijgclndaa
/- THE CELL 'sum', in the pinned program and in every row, IS THE sha256 OF THE DUMP (.gsa) THAT YtlnmioijgclndaaProg.lean LOADS. Nothing in Lean hashes anything: it is a label: what it is worth is what the hold of that sum in a sandbox is worth. -/
noncomputable def Try.pinned : Pinned := { name := "ytlnmioijgclndaa", sum := "f83818faa941cd7ed97818f7215c1697d906e3891264f289f8ebf2ceb09bc99b", checked := Try.checked }
namespace Rows
def none {H : Type} : Left H := { results := [], args := [] }

/-- 'laws.FnCanonicalGrid': WHATEVER THE INPUT: true; the input reads as it did. -/
def fnCanonicalGridSpec : ChangeSpec := { name := "fnCanonicalGrid", fn := fun _ => fun
  | [d] => { results := [.lit (.bool true)], args := [d] }
  | _ => none }
def fnCanonicalGridRow : OpenClaim := { program := "ytlnmioijgclndaa", sum := "f83818faa941cd7ed97818f7215c1697d906e3891264f289f8ebf2ceb09bc99b", func := "loop.example/gridpuzzles/laws.FnCanonicalGrid", spec := "fnCanonicalGrid", unfollowed := true, recurses := true, apart := false }
def FnCanonicalGridSaid : Prop := fnCanonicalGridRow.holds Try.pinned (OpenSpec.ofChange fnCanonicalGridSpec)

/-- ITS FALSE NEIGHBOUR: 'it returns false'. Refute it at one input. -/
def fnCanonicalGridWrong : ChangeSpec := { name := "fnCanonicalGrid", fn := fun _ => fun
  | [d] => { results := [.lit (.bool false)], args := [d] }
  | _ => none }
def FnCanonicalGridWrongFalsely : Prop := fnCanonicalGridRow.holds Try.pinned (OpenSpec.ofChange fnCanonicalGridWrong)

/-- 'laws.FnGridForms': WHATEVER THE INPUT: true; the input reads as it did. -/
def fnGridFormsSpec : ChangeSpec := { name := "fnGridForms", fn := fun _ => fun
  | [d] => { results := [.lit (.bool true)], args := [d] }
  | _ => none }
def fnGridFormsRow : OpenClaim := { program := "ytlnmioijgclndaa", sum := "f83818faa941cd7ed97818f7215c1697d906e3891264f289f8ebf2ceb09bc99b", func := "loop.example/gridpuzzles/laws.FnGridForms", spec := "fnGridForms", unfollowed := true, recurses := true, apart := false }
def FnGridFormsSaid : Prop := fnGridFormsRow.holds Try.pinned (OpenSpec.ofChange fnGridFormsSpec)

/-- ITS FALSE NEIGHBOUR: 'it returns false'. Refute it at one input. -/
def fnGridFormsWrong : ChangeSpec := { name := "fnGridForms", fn := fun _ => fun
  | [d] => { results := [.lit (.bool false)], args := [d] }
  | _ => none }
def FnGridFormsWrongFalsely : Prop := fnGridFormsRow.holds Try.pinned (OpenSpec.ofChange fnGridFormsWrong)

/-- 'laws.FnRenameGrid': WHATEVER THE INPUT: true; the input reads as it did. -/
def fnRenameGridSpec : ChangeSpec := { name := "fnRenameGrid", fn := fun _ => fun
  | [d] => { results := [.lit (.bool true)], args := [d] }
  | _ => none }
def fnRenameGridRow : OpenClaim := { program := "ytlnmioijgclndaa", sum := "f83818faa941cd7ed97818f7215c1697d906e3891264f289f8ebf2ceb09bc99b", func := "loop.example/gridpuzzles/laws.FnRenameGrid", spec := "fnRenameGrid", unfollowed := true, recurses := true, apart := false }
def FnRenameGridSaid : Prop := fnRenameGridRow.holds Try.pinned (OpenSpec.ofChange fnRenameGridSpec)

/-- ITS FALSE NEIGHBOUR: 'it returns false'. Refute it at one input. -/
def fnRenameGridWrong : ChangeSpec := { name := "fnRenameGrid", fn := fun _ => fun
  | [d] => { results := [.lit (.bool false)], args := [d] }
  | _ => none }
def FnRenameGridWrongFalsely : Prop := fnRenameGridRow.holds Try.pinned (OpenSpec.ofChange fnRenameGridWrong)

/-- 'laws.FnFormCount': WHATEVER THE INPUT: true; the input reads as it did. -/
def fnFormCountSpec : ChangeSpec := { name := "fnFormCount", fn := fun _ => fun
  | [d] => { results := [.lit (.bool true)], args := [d] }
  | _ => none }
def fnFormCountRow : OpenClaim := { program := "ytlnmioijgclndaa", sum := "f83818faa941cd7ed97818f7215c1697d906e3891264f289f8ebf2ceb09bc99b", func := "loop.example/gridpuzzles/laws.FnFormCount", spec := "fnFormCount", unfollowed := true, recurses := true, apart := false }
def FnFormCountSaid : Prop := fnFormCountRow.holds Try.pinned (OpenSpec.ofChange fnFormCountSpec)

/-- ITS FALSE NEIGHBOUR: 'it returns false'. Refute it at one input. -/
def fnFormCountWrong : ChangeSpec := { name := "fnFormCount", fn := fun _ => fun
  | [d] => { results := [.lit (.bool false)], args := [d] }
  | _ => none }
def FnFormCountWrongFalsely : Prop := fnFormCountRow.holds Try.pinned (OpenSpec.ofChange fnFormCountWrong)

/-- 'laws.FnTurnNumber': WHATEVER THE INPUT: true; the input reads as it did. -/
def fnTurnNumberSpec : ChangeSpec := { name := "fnTurnNumber", fn := fun _ => fun
  | [d] => { results := [.lit (.bool true)], args := [d] }
  | _ => none }
def fnTurnNumberRow : OpenClaim := { program := "ytlnmioijgclndaa", sum := "f83818faa941cd7ed97818f7215c1697d906e3891264f289f8ebf2ceb09bc99b", func := "loop.example/gridpuzzles/laws.FnTurnNumber", spec := "fnTurnNumber", unfollowed := true, recurses := true, apart := false }
def FnTurnNumberSaid : Prop := fnTurnNumberRow.holds Try.pinned (OpenSpec.ofChange fnTurnNumberSpec)

/-- ITS FALSE NEIGHBOUR: 'it returns false'. Refute it at one input. -/
def fnTurnNumberWrong : ChangeSpec := { name := "fnTurnNumber", fn := fun _ => fun
  | [d] => { results := [.lit (.bool false)], args := [d] }
  | _ => none }
def FnTurnNumberWrongFalsely : Prop := fnTurnNumberRow.holds Try.pinned (OpenSpec.ofChange fnTurnNumberWrong)

/-- 'laws.FnRenameForms': WHATEVER THE INPUT: true; the input reads as it did. -/
def fnRenameFormsSpec : ChangeSpec := { name := "fnRenameForms", fn := fun _ => fun
  | [d] => { results := [.lit (.bool true)], args := [d] }
  | _ => none }
def fnRenameFormsRow : OpenClaim := { program := "ytlnmioijgclndaa", sum := "f83818faa941cd7ed97818f7215c1697d906e3891264f289f8ebf2ceb09bc99b", func := "loop.example/gridpuzzles/laws.FnRenameForms", spec := "fnRenameForms", unfollowed := true, recurses := true, apart := false }
def FnRenameFormsSaid : Prop := fnRenameFormsRow.holds Try.pinned (OpenSpec.ofChange fnRenameFormsSpec)

/-- ITS FALSE NEIGHBOUR: 'it returns false'. Refute it at one input. -/
def fnRenameFormsWrong : ChangeSpec := { name := "fnRenameForms", fn := fun _ => fun
  | [d] => { results := [.lit (.bool false)], args := [d] }
  | _ => none }
def FnRenameFormsWrongFalsely : Prop := fnRenameFormsRow.holds Try.pinned (OpenSpec.ofChange fnRenameFormsWrong)

/-- 'laws.FnExactGridForms': WHATEVER THE INPUT: true; the input reads as it did. -/
def fnExactGridFormsSpec : ChangeSpec := { name := "fnExactGridForms", fn := fun _ => fun
  | [d1, d2] => { results := [.lit (.bool true)], args := [d1, d2] }
  | _ => none }
def fnExactGridFormsRow : OpenClaim := { program := "ytlnmioijgclndaa", sum := "f83818faa941cd7ed97818f7215c1697d906e3891264f289f8ebf2ceb09bc99b", func := "loop.example/gridpuzzles/laws.FnExactGridForms", spec := "fnExactGridForms", unfollowed := true, recurses := true, apart := false }
def FnExactGridFormsSaid : Prop := fnExactGridFormsRow.holds Try.pinned (OpenSpec.ofChange fnExactGridFormsSpec)

/-- ITS FALSE NEIGHBOUR: 'it returns false'. Refute it at one input. -/
def fnExactGridFormsWrong : ChangeSpec := { name := "fnExactGridForms", fn := fun _ => fun
  | [d1, d2] => { results := [.lit (.bool false)], args := [d1, d2] }
  | _ => none }
def FnExactGridFormsWrongFalsely : Prop := fnExactGridFormsRow.holds Try.pinned (OpenSpec.ofChange fnExactGridFormsWrong)

/-- 'laws.FnExactRenameGrid': WHATEVER THE INPUT: true; the input reads as it did. -/
def fnExactRenameGridSpec : ChangeSpec := { name := "fnExactRenameGrid", fn := fun _ => fun
  | [d1, d2] => { results := [.lit (.bool true)], args := [d1, d2] }
  | _ => none }
def fnExactRenameGridRow : OpenClaim := { program := "ytlnmioijgclndaa", sum := "f83818faa941cd7ed97818f7215c1697d906e3891264f289f8ebf2ceb09bc99b", func := "loop.example/gridpuzzles/laws.FnExactRenameGrid", spec := "fnExactRenameGrid", apart := false }
def FnExactRenameGridSaid : Prop := fnExactRenameGridRow.holds Try.pinned (OpenSpec.ofChange fnExactRenameGridSpec)

/-- ITS FALSE NEIGHBOUR: 'it returns false'. Refute it at one input. -/
def fnExactRenameGridWrong : ChangeSpec := { name := "fnExactRenameGrid", fn := fun _ => fun
  | [d1, d2] => { results := [.lit (.bool false)], args := [d1, d2] }
  | _ => none }
def FnExactRenameGridWrongFalsely : Prop := fnExactRenameGridRow.holds Try.pinned (OpenSpec.ofChange fnExactRenameGridWrong)

/-- 'laws.FnExactCanonicalGrid': WHATEVER THE INPUT: true; the input reads as it did. -/
def fnExactCanonicalGridSpec : ChangeSpec := { name := "fnExactCanonicalGrid", fn := fun _ => fun
  | [d1, d2] => { results := [.lit (.bool true)], args := [d1, d2] }
  | _ => none }
def fnExactCanonicalGridRow : OpenClaim := { program := "ytlnmioijgclndaa", sum := "f83818faa941cd7ed97818f7215c1697d906e3891264f289f8ebf2ceb09bc99b", func := "loop.example/gridpuzzles/laws.FnExactCanonicalGrid", spec := "fnExactCanonicalGrid", unfollowed := true, recurses := true, apart := false }
def FnExactCanonicalGridSaid : Prop := fnExactCanonicalGridRow.holds Try.pinned (OpenSpec.ofChange fnExactCanonicalGridSpec)

/-- ITS FALSE NEIGHBOUR: 'it returns false'. Refute it at one input. -/
def fnExactCanonicalGridWrong : ChangeSpec := { name := "fnExactCanonicalGrid", fn := fun _ => fun
  | [d1, d2] => { results := [.lit (.bool false)], args := [d1, d2] }
  | _ => none }
def FnExactCanonicalGridWrongFalsely : Prop := fnExactCanonicalGridRow.holds Try.pinned (OpenSpec.ofChange fnExactCanonicalGridWrong)

/-- 'laws.FnExactFormCount': WHATEVER THE INPUT: true; the input reads as it did. -/
def fnExactFormCountSpec : ChangeSpec := { name := "fnExactFormCount", fn := fun _ => fun
  | [d1, d2] => { results := [.lit (.bool true)], args := [d1, d2] }
  | _ => none }
def fnExactFormCountRow : OpenClaim := { program := "ytlnmioijgclndaa", sum := "f83818faa941cd7ed97818f7215c1697d906e3891264f289f8ebf2ceb09bc99b", func := "loop.example/gridpuzzles/laws.FnExactFormCount", spec := "fnExactFormCount", unfollowed := true, recurses := true, apart := false }
def FnExactFormCountSaid : Prop := fnExactFormCountRow.holds Try.pinned (OpenSpec.ofChange fnExactFormCountSpec)

/-- ITS FALSE NEIGHBOUR: 'it returns false'. Refute it at one input. -/
def fnExactFormCountWrong : ChangeSpec := { name := "fnExactFormCount", fn := fun _ => fun
  | [d1, d2] => { results := [.lit (.bool false)], args := [d1, d2] }
  | _ => none }
def FnExactFormCountWrongFalsely : Prop := fnExactFormCountRow.holds Try.pinned (OpenSpec.ofChange fnExactFormCountWrong)

/- THE SECOND FORM. 'bulk': how many values and letters a reading holds, each counted each time it is reached (what is shared counts as often as it is met; a slice's spare places count too). A statement '..UptoSaid' is the law's where the arguments, and the package variables that the reading takes, are together of bulk at most 1048576: NARROWER than '..Said'. Prove '..Said' where nothing that the law and all that it calls make is longer than what came in: it says more and counts as full. Else prove '..UptoSaid'. A law counts once. -/
mutual
def uptoBulk {H : Type} : DataW H → Nat
  | .lit (.string bytes) => bytes.length + 1
  | .lit _ => 1
  | .nil => 1
  | .ptr d => uptoBulk d + 1
  | .slice elems spare => uptoBulkAll elems + uptoBulkAll spare + 1
  | .agg parts => uptoBulkAll parts + 1
  | .iface _ d => uptoBulk d + 1
  | .map entries => uptoBulkEntries entries + 1
  | .held _ => 1
def uptoBulkAll {H : Type} : List (DataW H) → Nat
  | [] => 0
  | d :: r => uptoBulk d + uptoBulkAll r
def uptoBulkEntries {H : Type} : List (Lit × DataW H) → Nat
  | [] => 0
  | x :: r => uptoBulkEntry x + uptoBulkEntries r
def uptoBulkEntry {H : Type} : Lit × DataW H → Nat
  | (.string bytes, d) => bytes.length + uptoBulk d + 1
  | (_, d) => uptoBulk d + 1
 end
def uptoSmall : (H : Type) → List (DataW H) → Bool := fun _ ds => decide (uptoBulkAll ds ≤ 1048576)
def OpenSpec.upto (s : _root_.Go.ChangeSpec) : _root_.Go.OpenSpec := { _root_.Go.OpenSpec.ofChange s with cond := some uptoSmall }

/-- 'laws.FnCanonicalGrid', WHERE WHAT IT READS IS OF BULK AT MOST 1048576: true; the input reads as it did. -/
def fnCanonicalGridUptoRow : OpenClaim := { program := "ytlnmioijgclndaa", sum := "f83818faa941cd7ed97818f7215c1697d906e3891264f289f8ebf2ceb09bc99b", func := "loop.example/gridpuzzles/laws.FnCanonicalGrid", spec := "fnCanonicalGrid", unfollowed := true, recurses := true, apart := false, narrowed := true }
def FnCanonicalGridUptoSaid : Prop := fnCanonicalGridUptoRow.holds Try.pinned (OpenSpec.upto fnCanonicalGridSpec)

/-- 'laws.FnGridForms', WHERE WHAT IT READS IS OF BULK AT MOST 1048576: true; the input reads as it did. -/
def fnGridFormsUptoRow : OpenClaim := { program := "ytlnmioijgclndaa", sum := "f83818faa941cd7ed97818f7215c1697d906e3891264f289f8ebf2ceb09bc99b", func := "loop.example/gridpuzzles/laws.FnGridForms", spec := "fnGridForms", unfollowed := true, recurses := true, apart := false, narrowed := true }
def FnGridFormsUptoSaid : Prop := fnGridFormsUptoRow.holds Try.pinned (OpenSpec.upto fnGridFormsSpec)

/-- 'laws.FnRenameGrid', WHERE WHAT IT READS IS OF BULK AT MOST 1048576: true; the input reads as it did. -/
def fnRenameGridUptoRow : OpenClaim := { program := "ytlnmioijgclndaa", sum := "f83818faa941cd7ed97818f7215c1697d906e3891264f289f8ebf2ceb09bc99b", func := "loop.example/gridpuzzles/laws.FnRenameGrid", spec := "fnRenameGrid", unfollowed := true, recurses := true, apart := false, narrowed := true }
def FnRenameGridUptoSaid : Prop := fnRenameGridUptoRow.holds Try.pinned (OpenSpec.upto fnRenameGridSpec)

/-- 'laws.FnFormCount', WHERE WHAT IT READS IS OF BULK AT MOST 1048576: true; the input reads as it did. -/
def fnFormCountUptoRow : OpenClaim := { program := "ytlnmioijgclndaa", sum := "f83818faa941cd7ed97818f7215c1697d906e3891264f289f8ebf2ceb09bc99b", func := "loop.example/gridpuzzles/laws.FnFormCount", spec := "fnFormCount", unfollowed := true, recurses := true, apart := false, narrowed := true }
def FnFormCountUptoSaid : Prop := fnFormCountUptoRow.holds Try.pinned (OpenSpec.upto fnFormCountSpec)

/-- 'laws.FnTurnNumber', WHERE WHAT IT READS IS OF BULK AT MOST 1048576: true; the input reads as it did. -/
def fnTurnNumberUptoRow : OpenClaim := { program := "ytlnmioijgclndaa", sum := "f83818faa941cd7ed97818f7215c1697d906e3891264f289f8ebf2ceb09bc99b", func := "loop.example/gridpuzzles/laws.FnTurnNumber", spec := "fnTurnNumber", unfollowed := true, recurses := true, apart := false, narrowed := true }
def FnTurnNumberUptoSaid : Prop := fnTurnNumberUptoRow.holds Try.pinned (OpenSpec.upto fnTurnNumberSpec)

/-- 'laws.FnRenameForms', WHERE WHAT IT READS IS OF BULK AT MOST 1048576: true; the input reads as it did. -/
def fnRenameFormsUptoRow : OpenClaim := { program := "ytlnmioijgclndaa", sum := "f83818faa941cd7ed97818f7215c1697d906e3891264f289f8ebf2ceb09bc99b", func := "loop.example/gridpuzzles/laws.FnRenameForms", spec := "fnRenameForms", unfollowed := true, recurses := true, apart := false, narrowed := true }
def FnRenameFormsUptoSaid : Prop := fnRenameFormsUptoRow.holds Try.pinned (OpenSpec.upto fnRenameFormsSpec)

/-- 'laws.FnExactGridForms', WHERE WHAT IT READS IS OF BULK AT MOST 1048576: true; the input reads as it did. -/
def fnExactGridFormsUptoRow : OpenClaim := { program := "ytlnmioijgclndaa", sum := "f83818faa941cd7ed97818f7215c1697d906e3891264f289f8ebf2ceb09bc99b", func := "loop.example/gridpuzzles/laws.FnExactGridForms", spec := "fnExactGridForms", unfollowed := true, recurses := true, apart := false, narrowed := true }
def FnExactGridFormsUptoSaid : Prop := fnExactGridFormsUptoRow.holds Try.pinned (OpenSpec.upto fnExactGridFormsSpec)

/-- 'laws.FnExactRenameGrid', WHERE WHAT IT READS IS OF BULK AT MOST 1048576: true; the input reads as it did. -/
def fnExactRenameGridUptoRow : OpenClaim := { program := "ytlnmioijgclndaa", sum := "f83818faa941cd7ed97818f7215c1697d906e3891264f289f8ebf2ceb09bc99b", func := "loop.example/gridpuzzles/laws.FnExactRenameGrid", spec := "fnExactRenameGrid", apart := false, narrowed := true }
def FnExactRenameGridUptoSaid : Prop := fnExactRenameGridUptoRow.holds Try.pinned (OpenSpec.upto fnExactRenameGridSpec)

/-- 'laws.FnExactCanonicalGrid', WHERE WHAT IT READS IS OF BULK AT MOST 1048576: true; the input reads as it did. -/
def fnExactCanonicalGridUptoRow : OpenClaim := { program := "ytlnmioijgclndaa", sum := "f83818faa941cd7ed97818f7215c1697d906e3891264f289f8ebf2ceb09bc99b", func := "loop.example/gridpuzzles/laws.FnExactCanonicalGrid", spec := "fnExactCanonicalGrid", unfollowed := true, recurses := true, apart := false, narrowed := true }
def FnExactCanonicalGridUptoSaid : Prop := fnExactCanonicalGridUptoRow.holds Try.pinned (OpenSpec.upto fnExactCanonicalGridSpec)

/-- 'laws.FnExactFormCount', WHERE WHAT IT READS IS OF BULK AT MOST 1048576: true; the input reads as it did. -/
def fnExactFormCountUptoRow : OpenClaim := { program := "ytlnmioijgclndaa", sum := "f83818faa941cd7ed97818f7215c1697d906e3891264f289f8ebf2ceb09bc99b", func := "loop.example/gridpuzzles/laws.FnExactFormCount", spec := "fnExactFormCount", unfollowed := true, recurses := true, apart := false, narrowed := true }
def FnExactFormCountUptoSaid : Prop := fnExactFormCountUptoRow.holds Try.pinned (OpenSpec.upto fnExactFormCountSpec)

end Rows
end Go.Proofs.Ytlnmioijgclndaa
