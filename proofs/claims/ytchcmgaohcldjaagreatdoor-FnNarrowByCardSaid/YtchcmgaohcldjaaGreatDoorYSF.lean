import Derived.Test.YtchcmgaohcldjaaGreatDoorYVl
import Derived.Test.YtchcmgaohcldjaaGreatDoorYI7
import Derived.Test.YtchcmgaohcldjaaGreatDoorYNr
import Derived.Test.YtchcmgaohcldjaaGreatDoorYMin
import Derived.Test.YtchcmgaohcldjaaGreatDoorYTb
import Derived.RangeFuncBound
import Derived.RangeFuncLeaves
import Derived.Shelf.Abstract
import Derived.Shelf.RegionOpen
import Derived.WalkKit
import Derived.OwnWalkIn
import Derived.TacticsInMore
import Derived.Test.YtchcmgaohcldjaaGreatDoorYM3
import Derived.StillTailTactics
import Derived.Deep.RegionWith
import Derived.Test.YtchcmgaohcldjaaGreatDoorP5A
namespace Go.Proofs.YtchcmgaohcldjaaGreatDoor
open Go.ChangeShapes Go.WideShapes Go.ChangeAt Go.RowKit
/-- the cells of the program's counts, five a line, and its size. -/
def ccells (C : Nat → Nat) (s : Int) : Array Value := #[.int .i64 (C 0), .int .i64 (C 1), .int .i64 (C 2), .int .i64 (C 3), .int .i64 (C 4), .int .i64 (C 5), .int .i64 (C 6), .int .i64 (C 7), .int .i64 (C 8), .int .i64 (C 9), .int .i64 (C 10), .int .i64 (C 11), .int .i64 (C 12), .int .i64 (C 13), .int .i64 (C 14), .int .i64 (C 15), .int .i64 (C 16), .int .i64 (C 17), .int .i64 (C 18), .int .i64 (C 19), .int .i64 (C 20), .int .i64 (C 21), .int .i64 (C 22), .int .i64 (C 23), .int .i64 (C 24), .int .i64 (C 25), .int .i64 (C 26), .int .i64 (C 27), .int .i64 (C 28), .int .i64 (C 29), .int .i64 (C 30), .int .i64 (C 31), .int .i64 (C 32), .int .i64 (C 33), .int .i64 (C 34), .int .i64 (C 35), .int .i64 (C 36), .int .i64 (C 37), .int .i64 (C 38), .int .i64 (C 39), .int .i64 s]
theorem ccell_at (C : Nat → Nat) (s : Int) : ∀ {l : Nat}, l < 40 → (ccells C s)[l]? = some (.int .i64 (C l))
  | 0, _ => rfl
  | 1, _ => rfl
  | 2, _ => rfl
  | 3, _ => rfl
  | 4, _ => rfl
  | 5, _ => rfl
  | 6, _ => rfl
  | 7, _ => rfl
  | 8, _ => rfl
  | 9, _ => rfl
  | 10, _ => rfl
  | 11, _ => rfl
  | 12, _ => rfl
  | 13, _ => rfl
  | 14, _ => rfl
  | 15, _ => rfl
  | 16, _ => rfl
  | 17, _ => rfl
  | 18, _ => rfl
  | 19, _ => rfl
  | 20, _ => rfl
  | 21, _ => rfl
  | 22, _ => rfl
  | 23, _ => rfl
  | 24, _ => rfl
  | 25, _ => rfl
  | 26, _ => rfl
  | 27, _ => rfl
  | 28, _ => rfl
  | 29, _ => rfl
  | 30, _ => rfl
  | 31, _ => rfl
  | 32, _ => rfl
  | 33, _ => rfl
  | 34, _ => rfl
  | 35, _ => rfl
  | 36, _ => rfl
  | 37, _ => rfl
  | 38, _ => rfl
  | 39, _ => rfl
  | n + 40, h => absurd h (by omega)
theorem ccells_set (C : Nat → Nat) (s : Int) : ∀ {l : Nat}, l < 40 → (ccells C s).setIfInBounds l (.int .i64 ((C l + 1 : Nat) : Int)) = ccells (bump C l) s
  | 0, _ => rfl
  | 1, _ => rfl
  | 2, _ => rfl
  | 3, _ => rfl
  | 4, _ => rfl
  | 5, _ => rfl
  | 6, _ => rfl
  | 7, _ => rfl
  | 8, _ => rfl
  | 9, _ => rfl
  | 10, _ => rfl
  | 11, _ => rfl
  | 12, _ => rfl
  | 13, _ => rfl
  | 14, _ => rfl
  | 15, _ => rfl
  | 16, _ => rfl
  | 17, _ => rfl
  | 18, _ => rfl
  | 19, _ => rfl
  | 20, _ => rfl
  | 21, _ => rfl
  | 22, _ => rfl
  | 23, _ => rfl
  | 24, _ => rfl
  | 25, _ => rfl
  | 26, _ => rfl
  | 27, _ => rfl
  | 28, _ => rfl
  | 29, _ => rfl
  | 30, _ => rfl
  | 31, _ => rfl
  | 32, _ => rfl
  | 33, _ => rfl
  | 34, _ => rfl
  | 35, _ => rfl
  | 36, _ => rfl
  | 37, _ => rfl
  | 38, _ => rfl
  | 39, _ => rfl
  | n + 40, h => absurd h (by omega)
/-- the counts lie in block g. -/
def CBox (w : World) (g : Nat) (C : Nat → Nat) (s : Int) : Prop := w.heap[g]? = some (.cells (ccells C s) 196)
section
variable {w w' : World} {g : Nat} {C : Nat → Nat} {s : Int}
theorem CBox.lt (h : CBox w g C s) : g < w.heap.size := (Array.getElem?_eq_some_iff.1 h).1
theorem CBox.cell (h : CBox w g C s) {l : Nat} (hl : l < 40) : w.cell? ⟨g, l, none⟩ = some (.int .i64 (C l)) :=
  (cell_of_row _ _ l _ _ (0, 0) h).trans (ccell_at C s hl)
theorem CBox.frozen (h : CBox w g C s) (l : Nat) : w.frozen? ⟨g, l, none⟩ = false := by
  unfold World.frozen?
  rw [show w.heap[g]? = _ from h]
  simp
theorem CBox.set (h : CBox w g C s) {l : Nat} (hl : l < 40) : CBox (w.setCell ⟨g, l, none⟩ (.int .i64 ((C l : Int) + 1))) g (bump C l) s := by
  show CBox (w.setCell ⟨g, l, none⟩ (.int .i64 ((C l + 1 : Nat) : Int))) g (bump C l) s
  unfold CBox
  rw [heap_setCell_same w g l _ _ _ h, ← ccells_set C s hl]
theorem CBox.below {B : Nat} (h : CBox w g C s) (hg : g < B) (hb : Below B w w') : CBox w' g C s := (hb.block g hg).trans h
theorem CBox.other {g' k : Nat} {v : Value} (h : CBox w g C s) (hne : g ≠ g') : CBox (w.setCell ⟨g', k, none⟩ v) g C s := (heap_setCell_other w _ g v hne).trans h
theorem CBox.stored {C' : Nat → Nat} {s' : Int} (h : CBox w g C s) : CBox (w.setRow g (ccells C' s')) g C' s' := setRow_heap w g _ _ _ _ h
end
set_option maxRecDepth 8000
/-- from a world to one in which but block OB, and blocks that came later, may have changed. -/
theorem grown_ownS {w w1 w2 : World} {OB : Nat} {r : Option Nat} (h : w.grownBy w1 (some OB)) (h2 : w1.grownBy w2 r) (hr : ∀ g, r = some g → w.heap.size ≤ g) : w.grownBy w2 (some OB) :=
  ⟨h2.os.trans h.os, h2.tape.trans h.tape, h2.output.trans h.output, Nat.le_trans h.size h2.size, fun k hk hne => (h2.block k (Nat.lt_of_lt_of_le hk h.size) (fun e => by have := hr k e.symm; omega)).trans (h.block k hk hne)⟩
end Go.Proofs.YtchcmgaohcldjaaGreatDoor
set_option maxRecDepth 8000
namespace Go.Proofs.YtchcmgaohcldjaaGreatDoor
open Go.ChangeShapes Go.WideShapes Go.ChangeAt Go.RowKit Go.Shelf
attribute [local go_sem] Oper.semAt_some
end Go.Proofs.YtchcmgaohcldjaaGreatDoor
set_option maxRecDepth 8000
namespace Go.Proofs.YtchcmgaohcldjaaGreatDoor
open Go.ChangeShapes Go.WideShapes Go.ChangeAt Go.RowKit
/-- As SeqC, and a round knows what is to come: what an iterator over slices of ints promises: the rounds get 'ways', in order, until one says no. -/
def SeqP (P : Program) (gf : Nat) (lb : Array Value) (Base : World → Prop) (ways : List (List Int)) : Prop :=
  ∀ (l : Nat) (J : List (List Int) → World → Prop) (Jx : World → Prop) (W : World),
    (∀ pre X, J pre X → Base X) →
    (∀ pre X Y, J pre X → Below W.heap.size X Y → J pre Y) →
    (∀ pre x X b n c, J pre X → (∃ zs, ways = pre ++ x :: zs) → W.heap.size ≤ b → Rd X X.heap.size (some ⟨b, 0, none⟩) n x →
      YieldAt Fence.wide 0 P l #[.slice (some ⟨b, 0, none⟩) n c] X fun e Y => Mid W.heap.size X Y ∧ ((e = .returned (.bool true) ∧ J (pre ++ [x]) Y) ∨ (e = .returned (.bool false) ∧ Jx Y))) →
    J [] W →
    Calls P gf (#[.func (.yield l) #[] #[]] ++ lb) W fun e Y => (∃ v, e = .returned v) ∧ (J ways Y ∨ Jx Y)
theorem range_ownP {P : Program} (m : Nat) {g : Operand} {ps : Array Tmp} {assign body : Code} {Q : Exit → Act → World → Prop} {a : Act} {w : World}
    {gf : Nat} {lb : Array Value} (hg : a.eval g = .func (.func gf) #[] lb) (eg : ∀ args w, (callFunc gf args).run P w = .ok (.enter gf args) w) (hps : ps.size = 1)
    {Base : World → Prop} {ways : List (List Int)} (hseq : SeqP P gf lb Base ways)
    (I : List (List Int) → World → Prop) (Ix : Code → World → Prop) (hIb : ∀ pre X, I pre X → Base X)
    (hI : ∀ pre X Y, I pre X → Below w.heap.size X Y → I pre Y) (hIx : ∀ c X o, Ix c X → w.heap.size + 1 < X.heap.size → Ix c (X.putObj (w.heap.size + 1) o)) (h0 : I [] w) (a₁ : Value → Act)
    (hassign : ∀ (l : Nat) (v : Value) (W : World) (K : Act → World → Prop), K (a₁ v) W →
      assign.wpIn (Fence.wide.inRound l) m P (Exit.then K (fun _ _ _ => False)) { tmps := (ps.zip #[v]).foldl (fun t (p, v) => t.setIfInBounds p v) a.tmps, defers := [] } W)
    (hbody : ∀ (l : Nat) (pre : List (List Int)) (x : List Int) (X : World) (b n c : Nat), I pre X → (∃ zs, ways = pre ++ x :: zs) → w.heap.size ≤ b → w.heap.size + 1 < X.heap.size → Rd X X.heap.size (some ⟨b, 0, none⟩) n x →
      body.wpIn (Fence.wide.inRound l) m P (midPost w.heap.size I Ix (pre ++ [x]) X) (a₁ (.slice (some ⟨b, 0, none⟩) n c)) X)
    (hdone : ∀ (D : Nat) (W : World), w.heap.size ≤ D → I ways W → W.heap[D]? = some (.deferred (some [])) → Q .normal { a with defers := { target := .collected D, args := #[] } :: a.defers } W)
    (hstop : ∀ (D : Nat) (c : Code) (W : World), w.heap.size ≤ D → Ix c W → W.heap[D]? = some (.deferred (some [])) → c.wpIn Fence.wide m P Q { a with defers := { target := .collected D, args := #[] } :: a.defers } W) :
    (Code.rangeFunc g ps assign body).wpIn Fence.wide m P Q a w := by
  refine wpIn_rangeFunc ?_
  intro fn _
  obtain ⟨rec, hrec⟩ : ∃ rec : LoopState → Option Code → Loop, rec = fun st pe => { state := st, pending := pe, fn, tmps := a.tmps, params := ps, assign, body, defers := w.heap.size } := ⟨_, rfl⟩
  obtain ⟨W1, hW1⟩ : ∃ W1, (w.alloc (.deferred (some []))).alloc (.loop (rec .ready none)) = W1 := ⟨_, rfl⟩
  have hs1 : W1.heap.size = w.heap.size + 2 := by rw [← hW1]; simp
  have hL1 : W1.heap[w.heap.size + 1]? = some (.loop (rec .ready none)) := by
    rw [← hW1]; have := World.alloc_heap_new (w.alloc (.deferred (some []))) (.loop (rec .ready none)); rwa [World.size_alloc] at this
  have hK1 : W1.heap[w.heap.size]? = some (.deferred (some [])) := by
    rw [← hW1]; exact (Below.heap_alloc _ _ _ (by simp)).trans (World.alloc_heap_new w _)
  have hb1 : Below w.heap.size w W1 := by
    rw [← hW1]; exact ((Below.refl _ w).alloc (Nat.le_refl _) _).alloc (by simp) _
  refine ⟨w.heap.size + 1, [{ target := .collected w.heap.size, args := #[] }], W1, { target := .fn (.func gf) lb, args := #[.func (.yield (w.heap.size + 1)) #[] #[]] }, W1, gf,
    #[.func (.yield (w.heap.size + 1)) #[] #[]] ++ lb, W1, ?_, ?_, ?_, ?_, fun h => by simp [Fence.wide] at h, ?_⟩
  · rw [← hW1, hrec]; exact run_enterLoop_outer _ _ _ _ _
  · simp only [resolve, hg]
    simp [go_sem]
  · intro f' _; trivial
  · simp [invoke, go_sem, eg]
  · refine callsIn_wide.2 ((hseq (w.heap.size + 1)
      (fun pre W => I pre W ∧ W.heap[w.heap.size + 1]? = some (.loop (rec .ready none)) ∧ W.heap[w.heap.size]? = some (.deferred (some [])))
      (fun W => ∃ c, Ix c W ∧ W.heap[w.heap.size + 1]? = some (.loop (rec .done (some c))) ∧ W.heap[w.heap.size]? = some (.deferred (some [])))
      W1 (fun pre X h => hIb pre X h.1)
      (fun pre X Y hs hb => ⟨hI pre X Y hs.1 (hb.mono (by omega)), (hb.block _ (by omega)).trans hs.2.1, (hb.block _ (by omega)).trans hs.2.2⟩)
      ?_ ⟨hI [] w W1 h0 hb1, hL1, hK1⟩).mono ?_)
    · rintro pre x X b n c ⟨hi, hl, hk⟩ hx hbw hrd
      have hlt : w.heap.size + 1 < X.heap.size := (Array.getElem?_eq_some_iff.1 hl).1
      have hy := run_yield (P := P) (args := #[.slice (some ⟨b, 0, none⟩) n c]) hl (by rw [hrec]; simp [hps])
      rw [hrec] at hy
      refine ⟨fn, _, assign, body, hy, roundIn_any (m := m) (roundIn_of_wpIn trivial (hassign _ (.slice (some ⟨b, 0, none⟩) n c) X _ ⟨_, run_beginRound hl (by rw [hrec]), ?_⟩))⟩
      obtain ⟨X2, hX2⟩ : ∃ X2, X.putObj (w.heap.size + 1) (.loop { rec .ready none with state := .busy }) = X2 := ⟨_, rfl⟩
      have hl2 : X2.heap[w.heap.size + 1]? = some (.loop { rec .ready none with state := .busy }) := by rw [← hX2]; exact World.putObj_heap_same hlt
      have hk2 : X2.heap[w.heap.size]? = some (.deferred (some [])) := by rw [← hX2]; exact (World.putObj_heap_other (by omega)).trans hk
      have hbX : Below w.heap.size X X2 := by rw [← hX2]; exact below_put _ (by omega) hl
      have hm2 : Mid W1.heap.size X X2 := ⟨by rw [← hX2]; simp, fun k hk' _ => by rw [← hX2]; exact World.putObj_heap_other (by omega)⟩
      have hrd2 : Rd X2 X2.heap.size (some ⟨b, 0, none⟩) n x := rd_block hrd (by rw [← hX2]; exact World.putObj_heap_other (by omega)) hm2.size
      rw [hX2]
      refine wpIn_mono (hbody _ pre x X2 b n c (hI _ _ _ hi hbX) hx (by omega) (by rw [← hX2]; simpa using hlt) hrd2) ?_
      have fin : ∀ (jump : Option Code) (W3 : World), Mid w.heap.size X2 W3 →
          (Instr.endRound (w.heap.size + 1) jump).run P W3 = .ok (.bool jump.isNone) (W3.putObj (w.heap.size + 1) (.loop (rec (if jump.isNone then .ready else .done) jump))) ∧
          Below w.heap.size W3 (W3.putObj (w.heap.size + 1) (.loop (rec (if jump.isNone then .ready else .done) jump))) ∧
          Mid W1.heap.size X (W3.putObj (w.heap.size + 1) (.loop (rec (if jump.isNone then .ready else .done) jump))) ∧
          (W3.putObj (w.heap.size + 1) (.loop (rec (if jump.isNone then .ready else .done) jump))).heap[w.heap.size + 1]? = some (.loop (rec (if jump.isNone then .ready else .done) jump)) ∧
          (W3.putObj (w.heap.size + 1) (.loop (rec (if jump.isNone then .ready else .done) jump))).heap[w.heap.size]? = some (.deferred (some [])) := fun jump W3 hk3 => by
        have hl3 := (hk3.same (w.heap.size + 1) (by omega) (Array.getElem?_eq_some_iff.1 hl2).1).trans hl2
        have hlt3 := (Array.getElem?_eq_some_iff.1 hl3).1
        have := run_endRound (P := P) jump hl3
        rw [hrec] at this ⊢
        exact ⟨this, below_put _ (by omega) hl3, (hm2.trans (hk3.mono (by omega))).trans ⟨by simp, fun k hk' _ => World.putObj_heap_other (by omega)⟩, World.putObj_heap_same hlt3, (World.putObj_heap_other (by omega)).trans ((hk3.same _ (Nat.le_refl _) (Array.getElem?_eq_some_iff.1 hk2).1).trans hk2)⟩
      rintro e a3 W3 hp
      cases e with
      | normal =>
        obtain ⟨hk3, hi3⟩ := hp
        obtain ⟨hr, hb4, hm4, hl4, hk4⟩ := fin none W3 hk3
        exact ⟨_, _, hr, hm4, .inl ⟨rfl, hI _ _ _ hi3 hb4, hl4, hk4⟩⟩
      | ret =>
        obtain ⟨hk3, hi3⟩ := hp
        obtain ⟨hr, hb4, hm4, hl4, hk4⟩ := fin (some .ret) W3 hk3
        exact ⟨_, _, hr, hm4, .inr ⟨rfl, .ret, hIx _ _ _ hi3 (by have := (Array.getElem?_eq_some_iff.1 hl4).1; simpa using this), hl4, hk4⟩⟩
      | exit id =>
        obtain ⟨hk3, hi3⟩ := hp
        obtain ⟨hr, hb4, hm4, hl4, hk4⟩ := fin (some (.exit id)) W3 hk3
        exact ⟨_, _, hr, hm4, .inr ⟨rfl, .exit id, hIx _ _ _ hi3 (by have := (Array.getElem?_eq_some_iff.1 hl4).1; simpa using this), hl4, hk4⟩⟩
      | goto t =>
        obtain ⟨hk3, hi3⟩ := hp
        obtain ⟨hr, hb4, hm4, hl4, hk4⟩ := fin (some (.goto t)) W3 hk3
        exact ⟨_, _, hr, hm4, .inr ⟨rfl, .goto t, hIx _ _ _ hi3 (by have := (Array.getElem?_eq_some_iff.1 hl4).1; simpa using this), hl4, hk4⟩⟩
      | panic ch => exact hp.elim
      | outgrown => exact hp.elim
    · rintro e W2 ⟨⟨v, rfl⟩, (⟨hi, hl, hk⟩ | ⟨c, hi, hl, hk⟩)⟩
      · exact ⟨none, _, by have := run_endLoop (P := P) hl (by rw [hrec]; simp); rw [hrec] at this; exact this, hdone _ _ (Nat.le_refl _) (hI _ _ _ hi (below_put _ (by omega) hl)) ((World.putObj_heap_other (by omega)).trans hk)⟩
      · exact ⟨some c, _, by have := run_endLoop (P := P) hl (by rw [hrec]; simp); rw [hrec] at this; exact this, hstop _ c _ (Nat.le_refl _) (hIx _ _ _ hi (Array.getElem?_eq_some_iff.1 hl).1) ((World.putObj_heap_other (by omega)).trans hk)⟩
/-- range_ownP where the statement's assignment is empty: the slot of what came has it. -/
theorem range_skipP {P : Program} (m : Nat) {g : Operand} {p : Nat} {body : Code} {Q : Exit → Act → World → Prop} {a : Act} {w : World}
    {gf : Nat} {lb : Array Value} (hg : a.eval g = .func (.func gf) #[] lb) (eg : ∀ args w, (callFunc gf args).run P w = .ok (.enter gf args) w)
    {Base : World → Prop} {ways : List (List Int)} (hseq : SeqP P gf lb Base ways)
    (I : List (List Int) → World → Prop) (Ix : Code → World → Prop) (hIb : ∀ pre X, I pre X → Base X)
    (hI : ∀ pre X Y, I pre X → Below w.heap.size X Y → I pre Y) (hIx : ∀ c X o, Ix c X → w.heap.size + 1 < X.heap.size → Ix c (X.putObj (w.heap.size + 1) o)) (h0 : I [] w)
    (hbody : ∀ (l : Nat) (pre : List (List Int)) (x : List Int) (X : World) (b n c : Nat), I pre X → (∃ zs, ways = pre ++ x :: zs) → w.heap.size ≤ b → w.heap.size + 1 < X.heap.size → Rd X X.heap.size (some ⟨b, 0, none⟩) n x →
      body.wpIn (Fence.wide.inRound l) m P (midPost w.heap.size I Ix (pre ++ [x]) X) { tmps := a.tmps.setIfInBounds p (.slice (some ⟨b, 0, none⟩) n c), defers := [] } X)
    (hdone : ∀ (D : Nat) (W : World), w.heap.size ≤ D → I ways W → W.heap[D]? = some (.deferred (some [])) → Q .normal { a with defers := { target := .collected D, args := #[] } :: a.defers } W)
    (hstop : ∀ (D : Nat) (c : Code) (W : World), w.heap.size ≤ D → Ix c W → W.heap[D]? = some (.deferred (some [])) → c.wpIn Fence.wide m P Q { a with defers := { target := .collected D, args := #[] } :: a.defers } W) :
    (Code.rangeFunc g #[p] .skip body).wpIn Fence.wide m P Q a w :=
  range_ownP m hg eg rfl hseq I Ix hIb hI hIx h0 (fun v => { tmps := a.tmps.setIfInBounds p v, defers := [] }) (fun l v W K hK => by
    refine wpIn_skip ?_
    simpa [Exit.then] using hK) hbody hdone hstop
/-- range_ownP where the statement's assignment copies what came from slot p into slot q. -/
theorem range_twoP {P : Program} (m : Nat) {g : Operand} {p q : Nat} {assign body : Code} {Q : Exit → Act → World → Prop} {a : Act} {w : World}
    {gf : Nat} {lb : Array Value} (hg : a.eval g = .func (.func gf) #[] lb) (eg : ∀ args w, (callFunc gf args).run P w = .ok (.enter gf args) w)
    {Base : World → Prop} {ways : List (List Int)} (hseq : SeqP P gf lb Base ways)
    (I : List (List Int) → World → Prop) (Ix : Code → World → Prop) (hIb : ∀ pre X, I pre X → Base X)
    (hI : ∀ pre X Y, I pre X → Below w.heap.size X Y → I pre Y) (hIx : ∀ c X o, Ix c X → w.heap.size + 1 < X.heap.size → Ix c (X.putObj (w.heap.size + 1) o)) (h0 : I [] w)
    (hassign : ∀ (l : Nat) (v : Value) (W : World) (K : Act → World → Prop), K { tmps := (a.tmps.setIfInBounds p v).setIfInBounds q v, defers := [] } W →
      assign.wpIn (Fence.wide.inRound l) m P (Exit.then K (fun _ _ _ => False)) { tmps := a.tmps.setIfInBounds p v, defers := [] } W)
    (hbody : ∀ (l : Nat) (pre : List (List Int)) (x : List Int) (X : World) (b n c : Nat), I pre X → (∃ zs, ways = pre ++ x :: zs) → w.heap.size ≤ b → w.heap.size + 1 < X.heap.size → Rd X X.heap.size (some ⟨b, 0, none⟩) n x →
      body.wpIn (Fence.wide.inRound l) m P (midPost w.heap.size I Ix (pre ++ [x]) X) { tmps := (a.tmps.setIfInBounds p (.slice (some ⟨b, 0, none⟩) n c)).setIfInBounds q (.slice (some ⟨b, 0, none⟩) n c), defers := [] } X)
    (hdone : ∀ (D : Nat) (W : World), w.heap.size ≤ D → I ways W → W.heap[D]? = some (.deferred (some [])) → Q .normal { a with defers := { target := .collected D, args := #[] } :: a.defers } W)
    (hstop : ∀ (D : Nat) (c : Code) (W : World), w.heap.size ≤ D → Ix c W → W.heap[D]? = some (.deferred (some [])) → c.wpIn Fence.wide m P Q { a with defers := { target := .collected D, args := #[] } :: a.defers } W) :
    (Code.rangeFunc g #[p] assign body).wpIn Fence.wide m P Q a w :=
  range_ownP m hg eg rfl hseq I Ix hIb hI hIx h0 (fun v => { tmps := (a.tmps.setIfInBounds p v).setIfInBounds q v, defers := [] }) (fun l v W K hK => by
    simpa using hassign l v W K hK) hbody hdone hstop
set_option maxRecDepth 8000
/-- what the iterator over solutions reads: the puzzle, as it lay in W0. -/
def SBase (W0 : World) (B0 PB s : Nat) (Ag : Option Addr) (n cg : Nat) (Ar : Option Addr) (nr cr : Nat) (X : World) : Prop := Below B0 W0 X ∧ PBox X PB s Ag n cg Ar nr cr
set_option maxRecDepth 8000
set_option maxRecDepth 8000
/-- the first of all solutions; none. -/
def sfL (s : Int) (n : Nat) (gi : List Int) (rs : List RuleM) : List Int := (allS s 1 n gi rs).getD 0 []
end Go.Proofs.YtchcmgaohcldjaaGreatDoor
