import Derived.Test.YtcjdjcpappfkgaaBase
import Derived.RangeFuncNested
import Derived.RangeFuncCalls
set_option maxRecDepth 8000
namespace Go.Proofs.Ytcjdjcpappfkgaa
open Go.ChangeShapes Go.WideShapes Go.ChangeAt Go.RowKit
/-! A range over a function whose iterator keeps state of its own in cells: the caller's cells lie ahead of the statement, the iterator's and the loop's own behind it; each side keeps the other's. -/

/-- What lay at or beyond b lies as it lay. -/
structure Mid (b : Nat) (X Y : World) : Prop where
  size : X.heap.size ≤ Y.heap.size
  same : ∀ k, b ≤ k → k < X.heap.size → Y.heap[k]? = X.heap[k]?
theorem Mid.refl (b : Nat) (X : World) : Mid b X X := ⟨Nat.le_refl _, fun _ _ _ => rfl⟩
theorem Mid.trans {b : Nat} {X Y Z : World} (h : Mid b X Y) (k : Mid b Y Z) : Mid b X Z :=
  ⟨Nat.le_trans h.size k.size, fun i hi hx => (k.same i hi (Nat.lt_of_lt_of_le hx h.size)).trans (h.same i hi hx)⟩
theorem Mid.mono {b b' : Nat} {X Y : World} (h : Mid b X Y) (hb : b ≤ b') : Mid b' X Y := ⟨h.size, fun k hk hx => h.same k (Nat.le_trans hb hk) hx⟩
theorem Mid.of_below {b : Nat} {X Y : World} (h : Below X.heap.size X Y) : Mid b X Y := ⟨h.size, fun k _ hx => h.block k hx⟩
theorem Mid.of_grown {b g : Nat} {X Y : World} (h : X.grownBy Y (some g)) (hg : g < b) : Mid b X Y :=
  ⟨h.size, fun k hk hx => h.block k hx (fun e => by have := Option.some.inj e; omega)⟩
theorem Mid.setCell (b g i : Nat) (X : World) (v : Value) (hg : g < b) : Mid b X (X.setCell ⟨g, i, none⟩ v) :=
  ⟨by simp [World.setCell], fun k hk _ => heap_setCell_other X ⟨g, i, none⟩ k v (fun e => by dsimp only at e; omega)⟩
theorem Mid.rd {b g : Nat} {X Y : World} {B n : Nat} {xs : List Int} (h : Mid b X Y) (hr : Rd X B (some ⟨g, 0, none⟩) n xs) (hg : b ≤ g) (hB : B ≤ X.heap.size) : Rd Y B (some ⟨g, 0, none⟩) n xs :=
  ⟨hr.1, fun hn => by
    obtain ⟨b', off, e, hlt, hc⟩ := hr.2 hn
    cases e
    exact ⟨g, 0, rfl, hlt, fun k hk => (World.cell?_of_block (a := ⟨g, 0 + k, none⟩) (h.same g hg (by omega))).trans (hc k hk)⟩⟩
theorem below_put {N l : Nat} {X : World} {o : Obj} (o' : Obj) (hN : N ≤ l) (hl : X.heap[l]? = some o) : Below N X (X.putObj l o') :=
  (Below.refl N X).grown (grownBy_putObj' X l o') (by have := (Array.getElem?_eq_some_iff.1 hl).1; omega) (fun k e => by cases e; omega)
theorem rd_block {X Y : World} {B B' g n : Nat} {xs : List Int} (hr : Rd X B (some ⟨g, 0, none⟩) n xs) (e : Y.heap[g]? = X.heap[g]?) (hB : B ≤ B') : Rd Y B' (some ⟨g, 0, none⟩) n xs :=
  ⟨hr.1, fun hn => by
    obtain ⟨b', off, e', hlt, hc⟩ := hr.2 hn
    cases e'
    exact ⟨g, 0, rfl, by omega, fun k hk => (World.cell?_of_block (a := ⟨g, 0 + k, none⟩) e).trans (hc k hk)⟩⟩

theorem roundIn_any {m m' : Nat} {P : Program} {l : Nat} {f : FuncId} {tmps : Array Value} {assign body : Code} {w : World} {R : Ending → World → Prop} (h : RoundIn Fence.wide m P l f tmps assign body w R) : RoundIn Fence.wide m' P l f tmps assign body w R :=
  ⟨h.1, fun c cs _ => h.2 c cs (room_wide _)⟩
theorem yieldAt_any {m m' : Nat} {P : Program} {l : Nat} {args : Array Value} {w : World} {R : Ending → World → Prop} (h : YieldAt Fence.wide m P l args w R) : YieldAt Fence.wide m' P l args w R := by
  obtain ⟨fn, tmps, assign, body, hy, hR⟩ := h
  exact ⟨fn, tmps, assign, body, hy, roundIn_any hR⟩

/-- What an iterator over slices of ints promises: the rounds get 'ways', in order, until one says no. -/
def SeqC (P : Program) (gf : Nat) (lb : Array Value) (Base : World → Prop) (ways : List (List Int)) : Prop :=
  ∀ (l : Nat) (J : List (List Int) → World → Prop) (Jx : World → Prop) (W : World),
    (∀ pre X, J pre X → Base X) →
    (∀ pre X Y, J pre X → Below W.heap.size X Y → J pre Y) →
    (∀ pre x X b n c, J pre X → x ∈ ways → W.heap.size ≤ b → Rd X X.heap.size (some ⟨b, 0, none⟩) n x →
      YieldAt Fence.wide 0 P l #[.slice (some ⟨b, 0, none⟩) n c] X fun e Y => Mid W.heap.size X Y ∧ ((e = .returned (.bool true) ∧ J (pre ++ [x]) Y) ∨ (e = .returned (.bool false) ∧ Jx Y))) →
    J [] W →
    Calls P gf (#[.func (.yield l) #[] #[]] ++ lb) W fun e Y => (∃ v, e = .returned v) ∧ (J ways Y ∨ Jx Y)

/-- How the body of a round may be left. -/
def midPost (b : Nat) (I : List (List Int) → World → Prop) (Ix : Code → World → Prop) (xs : List (List Int)) (X : World) : Exit → Act → World → Prop
  | .normal, _, Y => Mid b X Y ∧ I xs Y
  | .ret, _, Y => Mid b X Y ∧ Ix .ret Y
  | .exit id, _, Y => Mid b X Y ∧ Ix (.exit id) Y
  | .goto t, _, Y => Mid b X Y ∧ Ix (.goto t) Y
  | .panic _, _, _ => False
  | .outgrown, _, _ => False

theorem range_own {P : Program} (m : Nat) {g : Operand} {ps : Array Tmp} {assign body : Code} {Q : Exit → Act → World → Prop} {a : Act} {w : World}
    {gf : Nat} {lb : Array Value} (hg : a.eval g = .func (.func gf) #[] lb) (eg : ∀ args w, (callFunc gf args).run P w = .ok (.enter gf args) w) (hps : ps.size = 1)
    {Base : World → Prop} {ways : List (List Int)} (hseq : SeqC P gf lb Base ways)
    (I : List (List Int) → World → Prop) (Ix : Code → World → Prop) (hIb : ∀ pre X, I pre X → Base X)
    (hI : ∀ pre X Y, I pre X → Below w.heap.size X Y → I pre Y) (hIx : ∀ c X Y, Ix c X → Below w.heap.size X Y → Ix c Y) (h0 : I [] w) (a₁ : Value → Act)
    (hassign : ∀ (l : Nat) (v : Value) (W : World) (K : Act → World → Prop), K (a₁ v) W →
      assign.wpIn (Fence.wide.inRound l) m P (Exit.then K (fun _ _ _ => False)) { tmps := (ps.zip #[v]).foldl (fun t (p, v) => t.setIfInBounds p v) a.tmps, defers := [] } W)
    (hbody : ∀ (l : Nat) (pre : List (List Int)) (x : List Int) (X : World) (b n c : Nat), I pre X → x ∈ ways → w.heap.size ≤ b → Rd X X.heap.size (some ⟨b, 0, none⟩) n x →
      body.wpIn (Fence.wide.inRound l) m P (midPost w.heap.size I Ix (pre ++ [x]) X) (a₁ (.slice (some ⟨b, 0, none⟩) n c)) X)
    (hdone : ∀ (D : Nat) (W : World), w.heap.size ≤ D → I ways W → W.heap[D]? = some (.deferred (some [])) → Q .normal { a with defers := { target := .collected D, args := #[] } :: a.defers } W)
    (hstop : ∀ (D : Nat) (c : Code) (W : World), w.heap.size ≤ D → Ix c W → W.heap[D]? = some (.deferred (some [])) → c.wpIn Fence.wide m P Q { a with defers := { target := .collected D, args := #[] } :: a.defers } W) :
    (Code.rangeFunc g ps assign body).wpIn Fence.wide m P Q a w := by
  refine wpIn_rangeFunc ?_
  intro fn _
  obtain ⟨rec, hrec⟩ : ∃ rec : LoopState → Option Code → Loop, rec = fun st pe => { state := st, pending := pe, fn, tmps := a.tmps, params := ps, assign, body, defers := w.heap.size } := ⟨_, rfl⟩
  obtain ⟨W1, hW1⟩ : ∃ W1, (w.alloc (.deferred (some []))).alloc (.loop (rec .ready none)) = W1 := ⟨_, rfl⟩
  have hs1 : W1.heap.size = w.heap.size + 2 := by rw [← hW1]; simp
  have hL1 : W1.heap[w.heap.size + 1]? = some (.loop (rec .ready none)) := by
    rw [← hW1]; have := World.alloc_heap_new (w.alloc (.deferred (some []))) (.loop (rec .ready none)); rwa [World.size_alloc] at this
  have hK1 : W1.heap[w.heap.size]? = some (.deferred (some [])) := by
    rw [← hW1]; exact (Below.heap_alloc _ _ _ (by simp)).trans (World.alloc_heap_new w _)
  have hb1 : Below w.heap.size w W1 := by
    rw [← hW1]; exact ((Below.refl _ w).alloc (Nat.le_refl _) _).alloc (by simp) _
  refine ⟨w.heap.size + 1, [{ target := .collected w.heap.size, args := #[] }], W1, { target := .fn (.func gf) lb, args := #[.func (.yield (w.heap.size + 1)) #[] #[]] }, W1, gf,
    #[.func (.yield (w.heap.size + 1)) #[] #[]] ++ lb, W1, ?_, ?_, ?_, ?_, fun h => by simp [Fence.wide] at h, ?_⟩
  · rw [← hW1, hrec]; exact run_enterLoop_outer _ _ _ _ _
  · simp only [resolve, hg]
    simp [go_sem]
  · intro f' _; trivial
  · simp [invoke, go_sem, eg]
  · refine callsIn_wide.2 ((hseq (w.heap.size + 1)
      (fun pre W => I pre W ∧ W.heap[w.heap.size + 1]? = some (.loop (rec .ready none)) ∧ W.heap[w.heap.size]? = some (.deferred (some [])))
      (fun W => ∃ c, Ix c W ∧ W.heap[w.heap.size + 1]? = some (.loop (rec .done (some c))) ∧ W.heap[w.heap.size]? = some (.deferred (some [])))
      W1 (fun pre X h => hIb pre X h.1)
      (fun pre X Y hs hb => ⟨hI pre X Y hs.1 (hb.mono (by omega)), (hb.block _ (by omega)).trans hs.2.1, (hb.block _ (by omega)).trans hs.2.2⟩)
      ?_ ⟨hI [] w W1 h0 hb1, hL1, hK1⟩).mono ?_)
    · rintro pre x X b n c ⟨hi, hl, hk⟩ hx hbw hrd
      have hlt : w.heap.size + 1 < X.heap.size := (Array.getElem?_eq_some_iff.1 hl).1
      have hy := run_yield (P := P) (args := #[.slice (some ⟨b, 0, none⟩) n c]) hl (by rw [hrec]; simp [hps])
      rw [hrec] at hy
      refine ⟨fn, _, assign, body, hy, roundIn_any (m := m) (roundIn_of_wpIn trivial (hassign _ (.slice (some ⟨b, 0, none⟩) n c) X _ ⟨_, run_beginRound hl (by rw [hrec]), ?_⟩))⟩
      obtain ⟨X2, hX2⟩ : ∃ X2, X.putObj (w.heap.size + 1) (.loop { rec .ready none with state := .busy }) = X2 := ⟨_, rfl⟩
      have hl2 : X2.heap[w.heap.size + 1]? = some (.loop { rec .ready none with state := .busy }) := by rw [← hX2]; exact World.putObj_heap_same hlt
      have hk2 : X2.heap[w.heap.size]? = some (.deferred (some [])) := by rw [← hX2]; exact (World.putObj_heap_other (by omega)).trans hk
      have hbX : Below w.heap.size X X2 := by rw [← hX2]; exact below_put _ (by omega) hl
      have hm2 : Mid W1.heap.size X X2 := ⟨by rw [← hX2]; simp, fun k hk' _ => by rw [← hX2]; exact World.putObj_heap_other (by omega)⟩
      have hrd2 : Rd X2 X2.heap.size (some ⟨b, 0, none⟩) n x := rd_block hrd (by rw [← hX2]; exact World.putObj_heap_other (by omega)) hm2.size
      rw [hX2]
      refine wpIn_mono (hbody _ pre x X2 b n c (hI _ _ _ hi hbX) hx (by omega) hrd2) ?_
      have fin : ∀ (jump : Option Code) (W3 : World), Mid w.heap.size X2 W3 →
          (Instr.endRound (w.heap.size + 1) jump).run P W3 = .ok (.bool jump.isNone) (W3.putObj (w.heap.size + 1) (.loop (rec (if jump.isNone then .ready else .done) jump))) ∧
          Below w.heap.size W3 (W3.putObj (w.heap.size + 1) (.loop (rec (if jump.isNone then .ready else .done) jump))) ∧
          Mid W1.heap.size X (W3.putObj (w.heap.size + 1) (.loop (rec (if jump.isNone then .ready else .done) jump))) ∧
          (W3.putObj (w.heap.size + 1) (.loop (rec (if jump.isNone then .ready else .done) jump))).heap[w.heap.size + 1]? = some (.loop (rec (if jump.isNone then .ready else .done) jump)) ∧
          (W3.putObj (w.heap.size + 1) (.loop (rec (if jump.isNone then .ready else .done) jump))).heap[w.heap.size]? = some (.deferred (some [])) := fun jump W3 hk3 => by
        have hl3 := (hk3.same (w.heap.size + 1) (by omega) (Array.getElem?_eq_some_iff.1 hl2).1).trans hl2
        have hlt3 := (Array.getElem?_eq_some_iff.1 hl3).1
        have := run_endRound (P := P) jump hl3
        rw [hrec] at this ⊢
        exact ⟨this, below_put _ (by omega) hl3, (hm2.trans (hk3.mono (by omega))).trans ⟨by simp, fun k hk' _ => World.putObj_heap_other (by omega)⟩, World.putObj_heap_same hlt3, (World.putObj_heap_other (by omega)).trans ((hk3.same _ (Nat.le_refl _) (Array.getElem?_eq_some_iff.1 hk2).1).trans hk2)⟩
      rintro e a3 W3 hp
      cases e with
      | normal =>
        obtain ⟨hk3, hi3⟩ := hp
        obtain ⟨hr, hb4, hm4, hl4, hk4⟩ := fin none W3 hk3
        exact ⟨_, _, hr, hm4, .inl ⟨rfl, hI _ _ _ hi3 hb4, hl4, hk4⟩⟩
      | ret =>
        obtain ⟨hk3, hi3⟩ := hp
        obtain ⟨hr, hb4, hm4, hl4, hk4⟩ := fin (some .ret) W3 hk3
        exact ⟨_, _, hr, hm4, .inr ⟨rfl, .ret, hIx _ _ _ hi3 hb4, hl4, hk4⟩⟩
      | exit id =>
        obtain ⟨hk3, hi3⟩ := hp
        obtain ⟨hr, hb4, hm4, hl4, hk4⟩ := fin (some (.exit id)) W3 hk3
        exact ⟨_, _, hr, hm4, .inr ⟨rfl, .exit id, hIx _ _ _ hi3 hb4, hl4, hk4⟩⟩
      | goto t =>
        obtain ⟨hk3, hi3⟩ := hp
        obtain ⟨hr, hb4, hm4, hl4, hk4⟩ := fin (some (.goto t)) W3 hk3
        exact ⟨_, _, hr, hm4, .inr ⟨rfl, .goto t, hIx _ _ _ hi3 hb4, hl4, hk4⟩⟩
      | panic ch => exact hp.elim
      | outgrown => exact hp.elim
    · rintro e W2 ⟨⟨v, rfl⟩, (⟨hi, hl, hk⟩ | ⟨c, hi, hl, hk⟩)⟩
      · exact ⟨none, _, by have := run_endLoop (P := P) hl (by rw [hrec]; simp); rw [hrec] at this; exact this, hdone _ _ (Nat.le_refl _) (hI _ _ _ hi (below_put _ (by omega) hl)) ((World.putObj_heap_other (by omega)).trans hk)⟩
      · exact ⟨some c, _, by have := run_endLoop (P := P) hl (by rw [hrec]; simp); rw [hrec] at this; exact this, hstop _ c _ (Nat.le_refl _) (hIx _ _ _ hi (below_put _ (by omega) hl)) ((World.putObj_heap_other (by omega)).trans hk)⟩
end Go.Proofs.Ytcjdjcpappfkgaa
