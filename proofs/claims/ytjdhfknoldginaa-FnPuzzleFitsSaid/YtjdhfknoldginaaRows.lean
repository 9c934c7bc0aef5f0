/-
  No cell of these rows narrows 'for every input' (looked for: loops, veiled, ifaces, maps, wideKeys, modest, calm, conditions, laid).
  DERIVED. THE GIVEN ROWS OF THIS SEAT. 2 by the template 'for every input the law returns true; each argument reads behind the call as it read before'; 0 by the template 'total and deterministic' (their statements: YtjdhfknoldginaaTotals.lean).
  GIVEN WITH THE SEED: the statements are not yours to turn. If you find one false, say at which input.
  Laid BY PROGRAM, IN A SANDBOX (cutbox-rows.mjs): the forced cells as the released guide's own fill.sh prints them over the translation 21537f336351fca3… (all of the seat's roots in one cut). By AI agents, Wed Nov 11 2026. No macro, syntax, notation, axiom, sorry.
-/
import Derived.Test.YtjdhfknoldginaaChecked
import GoSem.Claim
import GoSem.ClaimJoined
import GoSem.ClaimMapViews
import Derived.JoinedTies
import Derived.KernelRfl
namespace Go.Proofs.Ytjdhfknoldginaa
/- THE CELL 'sum', in the pinned program and in every row, IS THE sha256 OF THE DUMP (.gsa) THAT YtjdhfknoldginaaProg.lean LOADS. Nothing in Lean hashes anything: it is a label: what it is worth is what the hold of that sum in a sandbox is worth. -/
noncomputable def Try.pinned : Pinned := { name := "ytjdhfknoldginaa", sum := "21537f336351fca3ebf483fc4b84635e213f0174b70d6713bd04218663d37d9a", checked := Try.checked }
namespace Rows
def none {H : Type} : Left H := { results := [], args := [] }

/-- 'laws.FnPuzzleFits': WHATEVER THE INPUT: true; the input reads as it did. -/
def fnPuzzleFitsSpec : ChangeSpec := { name := "fnPuzzleFits", fn := fun _ => fun
  | [d] => { results := [.lit (.bool true)], args := [d] }
  | _ => none }
def fnPuzzleFitsRow : OpenClaim := { program := "ytjdhfknoldginaa", sum := "21537f336351fca3ebf483fc4b84635e213f0174b70d6713bd04218663d37d9a", func := "loop.example/gridpuzzles/laws.FnPuzzleFits", spec := "fnPuzzleFits", unfollowed := true, recurses := true, apart := false }
def FnPuzzleFitsSaid : Prop := fnPuzzleFitsRow.holds Try.pinned (OpenSpec.ofChange fnPuzzleFitsSpec)

/-- ITS FALSE NEIGHBOUR: 'it returns false'. Refute it at one input. -/
def fnPuzzleFitsWrong : ChangeSpec := { name := "fnPuzzleFits", fn := fun _ => fun
  | [d] => { results := [.lit (.bool false)], args := [d] }
  | _ => none }
def FnPuzzleFitsWrongFalsely : Prop := fnPuzzleFitsRow.holds Try.pinned (OpenSpec.ofChange fnPuzzleFitsWrong)

/-- 'laws.FnPuzzleSolved': WHATEVER THE INPUT: true; the input reads as it did. -/
def fnPuzzleSolvedSpec : ChangeSpec := { name := "fnPuzzleSolved", fn := fun _ => fun
  | [d] => { results := [.lit (.bool true)], args := [d] }
  | _ => none }
def fnPuzzleSolvedRow : OpenClaim := { program := "ytjdhfknoldginaa", sum := "21537f336351fca3ebf483fc4b84635e213f0174b70d6713bd04218663d37d9a", func := "loop.example/gridpuzzles/laws.FnPuzzleSolved", spec := "fnPuzzleSolved", unfollowed := true, recurses := true, apart := false }
def FnPuzzleSolvedSaid : Prop := fnPuzzleSolvedRow.holds Try.pinned (OpenSpec.ofChange fnPuzzleSolvedSpec)

/-- ITS FALSE NEIGHBOUR: 'it returns false'. Refute it at one input. -/
def fnPuzzleSolvedWrong : ChangeSpec := { name := "fnPuzzleSolved", fn := fun _ => fun
  | [d] => { results := [.lit (.bool false)], args := [d] }
  | _ => none }
def FnPuzzleSolvedWrongFalsely : Prop := fnPuzzleSolvedRow.holds Try.pinned (OpenSpec.ofChange fnPuzzleSolvedWrong)

/- THE SECOND FORM. 'bulk': how many values and letters a reading holds, each counted each time it is reached (what is shared counts as often as it is met; a slice's spare places count too). A statement '..UptoSaid' is the law's where the arguments, and the package variables that the reading takes, are together of bulk at most 1048576: NARROWER than '..Said'. Prove '..Said' where nothing that the law and all that it calls make is longer than what came in: it says more and counts as full. Else prove '..UptoSaid'. A law counts once. -/
mutual
def uptoBulk {H : Type} : DataW H → Nat
  | .lit (.string bytes) => bytes.length + 1
  | .lit _ => 1
  | .nil => 1
  | .ptr d => uptoBulk d + 1
  | .slice elems spare => uptoBulkAll elems + uptoBulkAll spare + 1
  | .agg parts => uptoBulkAll parts + 1
  | .iface _ d => uptoBulk d + 1
  | .map entries => uptoBulkEntries entries + 1
  | .held _ => 1
def uptoBulkAll {H : Type} : List (DataW H) → Nat
  | [] => 0
  | d :: r => uptoBulk d + uptoBulkAll r
def uptoBulkEntries {H : Type} : List (Lit × DataW H) → Nat
  | [] => 0
  | x :: r => uptoBulkEntry x + uptoBulkEntries r
def uptoBulkEntry {H : Type} : Lit × DataW H → Nat
  | (.string bytes, d) => bytes.length + uptoBulk d + 1
  | (_, d) => uptoBulk d + 1
 end
def uptoSmall : (H : Type) → List (DataW H) → Bool := fun _ ds => decide (uptoBulkAll ds ≤ 1048576)
def OpenSpec.upto (s : _root_.Go.ChangeSpec) : _root_.Go.OpenSpec := { _root_.Go.OpenSpec.ofChange s with cond := some uptoSmall }

/-- 'laws.FnPuzzleFits', WHERE WHAT IT READS IS OF BULK AT MOST 1048576: true; the input reads as it did. -/
def fnPuzzleFitsUptoRow : OpenClaim := { program := "ytjdhfknoldginaa", sum := "21537f336351fca3ebf483fc4b84635e213f0174b70d6713bd04218663d37d9a", func := "loop.example/gridpuzzles/laws.FnPuzzleFits", spec := "fnPuzzleFits", unfollowed := true, recurses := true, apart := false, narrowed := true }
def FnPuzzleFitsUptoSaid : Prop := fnPuzzleFitsUptoRow.holds Try.pinned (OpenSpec.upto fnPuzzleFitsSpec)

/-- 'laws.FnPuzzleSolved', WHERE WHAT IT READS IS OF BULK AT MOST 1048576: true; the input reads as it did. -/
def fnPuzzleSolvedUptoRow : OpenClaim := { program := "ytjdhfknoldginaa", sum := "21537f336351fca3ebf483fc4b84635e213f0174b70d6713bd04218663d37d9a", func := "loop.example/gridpuzzles/laws.FnPuzzleSolved", spec := "fnPuzzleSolved", unfollowed := true, recurses := true, apart := false, narrowed := true }
def FnPuzzleSolvedUptoSaid : Prop := fnPuzzleSolvedUptoRow.holds Try.pinned (OpenSpec.upto fnPuzzleSolvedSpec)

end Rows
end Go.Proofs.Ytjdhfknoldginaa
