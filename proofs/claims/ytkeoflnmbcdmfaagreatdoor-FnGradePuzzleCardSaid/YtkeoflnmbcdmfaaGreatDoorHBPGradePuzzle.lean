/-
  What is proved: FnGradePuzzle returns true for every input, and each argument reads afterwards as it read before. Conditions: none beside the row's own.
-/
import Derived.Test.YtkeoflnmbcdmfaaGreatDoorHBW9P
import Derived.Test.YtkeoflnmbcdmfaaGreatDoorOrd
import Derived.Test.YtkeoflnmbcdmfaaGreatDoorTie
import Derived.Test.YtkeoflnmbcdmfaaGreatDoorCards
import Derived.LaidMore
import Derived.Stop.LaidErr
import Derived.Lib.SmallJoins
namespace Go.Proofs.YtkeoflnmbcdmfaaGreatDoor.fnGradePuzzle
open Go.ChangeShapes Go.WideShapes Go.ChangeAt Go.RowKit
set_option linter.unusedVariables false

theorem own : ownKnob Tryz.prog.godebug = none := by kernel_rfl
abbrev laid : List (String × DataW Unit) := [("math/bits.deBruijn32tab", Rows.laid_math_bits_deBruijn32tab), ("math/bits.deBruijn64tab", Rows.laid_math_bits_deBruijn64tab)]
theorem door_met (os : Os) (args : Array Value) : laidMetH Tryz.prog laid ((World.doorLaid Tryz.prog 19 os).forCall (fun _ _ => 0) ⟨#[], args, []⟩).memory :=
  laidMetH_of_parts3 (fuel := 8) (laidMet_of_run' 8 (by kernel_rfl) (by kernel_rfl)) (by kernel_rfl) (by kernel_rfl)
def tzTab:List Int:=[0,1,56,2,57,49,28,3,61,58,42,50,38,29,17,4,62,47,59,36,45,43,51,22,53,39,33,30,24,18,12,5,63,55,48,27,60,41,37,16,46,35,44,21,52,32,23,11,54,26,40,15,34,20,31,10,25,14,19,9,13,8,7,6]
theorem tz_of_laid {W:World} (hL:laidMetH Tryz.prog laid W):Tz W:=by
 rw [MakeChecks.laidMetH_plain _ _ _ (by kernel_rfl)] at hL;have h2:laidMet Tryz.prog [("math/bits.deBruijn64tab",Lib.tabData .u8 tzTab)] W:=laidMet.tail hL
 have gN:Tryz.prog.globalNamed "math/bits.deBruijn64tab"=some 0:=by kernel_rfl
 have hT:=Lib.tabIs_of_head gN (t:=179) (e:=5) (n:=64) (by kernel_rfl) (by kernel_rfl) (by kernel_rfl) (by kernel_rfl) (by kernel_rfl) h2;intro p hp
 match p,hp with
 |0,_=>exact hT.cell gN 0 (by decide)
 |1,_=>exact hT.cell gN 1 (by decide)
 |2,_=>exact hT.cell gN 3 (by decide)
 |3,_=>exact hT.cell gN 7 (by decide)
 |4,_=>exact hT.cell gN 15 (by decide)
 |5,_=>exact hT.cell gN 31 (by decide)
 |6,_=>exact hT.cell gN 63 (by decide)
 |7,_=>exact hT.cell gN 62 (by decide)
 |8,_=>exact hT.cell gN 61 (by decide)
 |9,_=>exact hT.cell gN 59 (by decide)
 |10,_=>exact hT.cell gN 55 (by decide)
 |11,_=>exact hT.cell gN 47 (by decide)
 |12,_=>exact hT.cell gN 30 (by decide)
 |13,_=>exact hT.cell gN 60 (by decide)
 |14,_=>exact hT.cell gN 57 (by decide)
 |15,_=>exact hT.cell gN 51 (by decide)
 |n+16,h=>omega

theorem laidOut : laidOutB Tryz.prog = true := by kernel_rfl

set_option maxRecDepth 100000 in
theorem lifted (os : Os) (started : os.Started) (H : Type) (enc : TypeId × Value → H) :
    ReturnsInHanded {} Tryz.checked os 5 .any (fun w args => (Rows.fnGradePuzzleSpec.pre enc Tryz.prog Tryz.f5 [] false w args ∧ laidMetH Tryz.prog laid w) ∧ sizedMet enc Tryz.prog Tryz.f5 (OpenSpec.ofChange Rows.fnGradePuzzleSpec) false w args) (Rows.fnGradePuzzleSpec.post enc Tryz.prog Tryz.f5 false true false false) := by
  refine returnsInHanded_of_change_and (C := Tryz.checked) (X := fun w _ => laidMetH Tryz.prog laid w) (fun _ _ _ hh h => h.of_heap hh) own started (by kernel_rfl) Tryz.func5
    (ChangeSpec.witness_shaped (enc := enc) (C := Tryz.checked) (os := os) (X := fun w _ => laidMetH Tryz.prog laid w) false (World.doorLaid Tryz.prog 19 os) #[.slice none 0 0] 8 rfl (World.shaped_of_RefB (by kernel_rfl) (by kernel_rfl)) (by kernel_rfl) (by kernel_rfl) (by kernel_rfl) (door_met os _)) ?_
  intro W base args ds gs before hval0 hW _ _ hL _
  have hval : ∀ (j : Nat) t v, Tryz.f5.params[j]? = some t → args[j]? = some v → Value.okWide Tryz.prog W .any base t v := hval0
  have hW' := hW
  obtain ⟨p, q, hA0, hV, rfl, hfz, hnd⟩ := hW
  have hA : DataW.TrodAll enc Tryz.prog W 0 (fun _ => true) true Tryz.f5.params.toList args.toList ds p := hA0
  rw [Tryz.params5] at hA hval
  obtain ⟨v0, vs0, d0, ds0, p0, q0, hargs, rfl, rfl, h0, r0⟩ := trodAll_cons hA
  obtain ⟨rfl, rfl, rfl⟩ := trodAll_nil r0
  obtain rfl : args = #[v0] := by cases args; simp_all
  obtain ⟨rfl, rfl⟩ := trodVars_none hV
  obtain ⟨a0, len0, cap0, rfl⟩ := okWide_slice Tryz.underlying22 (hval 0 22 v0 rfl rfl)
  have k0 := h0
  have lt0 : ∀ x ∈ p0, x.block < W.heap.size := by obtain ⟨m, hm⟩ := k0; exact DataW.trod_lt m _ _ _ hm
  obtain ⟨z0, w0⟩ : ∃ zs, IsRow .u8 W a0 len0 cap0 zs := by
    obtain ⟨fuel, hf⟩ := h0
    rcases open_ints Tryz.underlying22 Tryz.underlying5 (by kernel_rfl) hf with ⟨hcs, _⟩ | ⟨x, l, c, zs, hcs, _, hl, hm, hz, _, hcell, hwz⟩
    · simp [Value.cells] at hcs
      obtain ⟨rfl, rfl, rfl⟩ := hcs
      exact ⟨[], .inl ⟨rfl, rfl, rfl, rfl⟩⟩
    · simp [Value.cells] at hcs
      obtain ⟨rfl, rfl, rfl⟩ := hcs
      exact ⟨zs, .inr ⟨_, rfl, hl, hm, by simpa using hz, hcell, hwz⟩⟩
  clear hA0 hval0
  refine (gradePuzzle_walk a0 cap0 len0 _ W (code_of_row w0) (tz_of_laid hL)).mono fun e W' ⟨he, bel⟩ => ?_
  subst he
  exact ⟨_, rfl, _, _, _, [], _, [], hW', trodAll_mk1 (shut_bool Tryz.underlying4 _), (trodAll_cons_mk (Below.trod laidOut (by kernel_rfl) (of_decide_eq_true (by kernel_rfl)) k0 bel lt0) trodAll_mk0), rfl, bel.frame _, fun h => by cases h⟩

set_option maxHeartbeats 2000000 in
theorem facts : joinedFacts Tryz.pinned.checked.prog 5 Tryz.f5 Rows.fnGradePuzzleSpec Rows.fnGradePuzzleRow = true := by
  unfold joinedFacts
  repeat' (with_reducible refine and_mk ?_ ?_)
  all_goals (first | with_reducible exact may_enter | (rw [make_is]; try kernel_rfl) | (rw [lifts_final]; try kernel_rfl) | (as_aux_lemma => kernel_rfl))

theorem over : Rows.fnGradePuzzleRow.holds Tryz.pinned (OpenSpec.ofChange Rows.fnGradePuzzleSpec) :=
  OpenClaim.holds_of_wide 5 Tryz.f5 rfl rfl rfl rfl rfl rfl rfl ⟨rfl, rfl, rfl, rfl, rfl⟩ rfl rfl rfl rfl rfl (by as_aux_lemma => kernel_rfl) Tryz.func5 facts
    (by as_aux_lemma => exact of_decide_eq_true (by kernel_rfl)) (by as_aux_lemma => (unfold Func.isWrapper; first | (rw [if_pos (by decide +kernel)]; kernel_rfl) | (rw [if_neg (by decide +kernel)]; exact ⟨rfl, rfl⟩)))
    (fun os started H enc _ => lifted os started H enc)

theorem goes_a : Tryz.prog.funcNamed "loop.example/gridpuzzles/laws.FnGradePuzzle" = some 5 := by kernel_rfl
theorem goes_b : ((Tryz.prog.closure 5).any fun g => (Tryz.prog.funcs[g]?).any Func.goes) = false := by kernel_rfl
theorem goes_c : Tryz.prog.funcs.any Func.goes = false := by kernel_rfl
theorem goes_gen {P : Program} {c : OpenClaim} {F : FuncId} {s : String} (hf : c.func = s) (hs : c.start = .entering) (h1 : P.funcNamed s = some F) (h2 : ((P.closure F).any fun g => (P.funcs[g]?).any Func.goes) = false) (h3 : P.funcs.any Func.goes = false) : false = c.goesBy P := by
  unfold OpenClaim.goesBy Program.goesAt Program.goesFrom
  rw [hf, hs, h1]
  simp only [Option.any_some, Program.goes, h2, h3, Bool.and_false, Bool.or_false]
theorem goes_no : false = Rows.fnGradePuzzleRow.goesBy Tryz.pinned.checked.prog := goes_gen (P := Tryz.prog) rfl rfl goes_a goes_b goes_c
set_option maxHeartbeats 8000000 in
theorem proved : Rows.FnGradePuzzleCardSaid :=
  Claim7.holds_tied_plain_at .later [] [.data, .data] true (true, "770b74859ef11454c3aba9aa5c0767d8b4c49c7c2d2aff51ec383af74d433bb1") false
    over (fun _ h => by cases h) (by as_aux_lemma => kernel_rfl) (fun _ h => by cases h) fnGradePuzzle_row_tie rfl ⟨rfl, rfl⟩ (by as_aux_lemma => kernel_rfl) rfl
    (fun f fn hf hfn => by
      obtain rfl : f = 5 := Option.some.inj ((show Tryz.prog.funcNamed "loop.example/gridpuzzles/laws.FnGradePuzzle" = some 5 by as_aux_lemma => kernel_rfl).symm.trans hf) |>.symm
      obtain rfl : fn = Tryz.f5 := (Option.some.inj (Tryz.func5.symm.trans hfn)).symm
      exact ⟨by as_aux_lemma => kernel_rfl, fun j t ht => by
        rw [Tryz.params5] at ht
        have hm : t ∈ [22] := by simpa using Array.mem_of_getElem? ht
        have hall : ([22].all fun u => !Tryz.prog.wantsStandIn u) = true := by as_aux_lemma => kernel_rfl
        exact (show Tryz.prog.wantsStandIn t = false by simpa using List.all_eq_true.1 hall t hm)⟩)
    goes_no
end Go.Proofs.YtkeoflnmbcdmfaaGreatDoor.fnGradePuzzle
