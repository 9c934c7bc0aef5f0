import Derived.Test.YtcjdjcpappfkgaaGreatDoorEGN8
set_option maxRecDepth 8000
namespace Go.Proofs.YtcjdjcpappfkgaaGreatDoor
open Go.ChangeShapes Go.WideShapes Go.ChangeAt Go.RowKit
structure Aside (D : Nat) (X Y : World) : Prop where
  os : Y.os = X.os
  tape : Y.tape = X.tape
  output : Y.output = X.output
  size : X.heap.size ≤ Y.heap.size
  block : ∀ k, k < X.heap.size → k ≠ D → k ≠ D + 1 → Y.heap[k]? = X.heap[k]?
theorem Aside.of_below {D : Nat} {X Y : World} (h : Below X.heap.size X Y) : Aside D X Y := ⟨h.os, h.tape, h.output, h.size, fun k hk _ _ => h.block k hk⟩
theorem Aside.of_put {D l : Nat} {X : World} (o : Obj) (h : l = D ∨ l = D + 1) : Aside D X (X.putObj l o) :=
  ⟨rfl, rfl, rfl, by simp, fun k _ h1 h2 => World.putObj_heap_other (by omega)⟩
theorem Aside.below {D : Nat} {X Y : World} (h : Aside D X Y) (hD : D ≤ X.heap.size) : Below D X Y := ⟨h.os, h.tape, h.output, h.size, fun k hk => h.block k (by omega) (by omega) (by omega)⟩
def SeqT (P : Program) (gf : Nat) (lb : Array Value) (Base : World → Prop) (rounds : List (Nat × List Int)) : Prop :=
  ∀ (l : Nat) (J : List (Nat × List Int) → World → Prop) (Jx : World → Prop) (W : World),
    (∀ pre X, J pre X → Base X) →
    (∀ pre X Y, J pre X → Below X.heap.size X Y → J pre Y) →
    (∀ X Y, Jx X → Below X.heap.size X Y → Jx Y) →
    (∀ pre t x X b n c, J pre X → (∃ tl, rounds = pre ++ (t, x) :: tl) → W.heap.size ≤ b → Ow X W.heap.size (some ⟨b, 0, none⟩) n c x →
      YieldAt Fence.wide 0 P l #[.int .i64 (t : Nat), .slice (some ⟨b, 0, none⟩) n c] X fun e Y => X.heap.size ≤ Y.heap.size ∧ Y.heap[b]? = X.heap[b]? ∧ ((e = .returned (.bool true) ∧ J (pre ++ [(t, x)]) Y) ∨ (e = .returned (.bool false) ∧ Jx Y))) →
    J [] W →
    Calls P gf (#[.func (.yield l) #[] #[]] ++ lb) W fun e Y => (∃ v, e = .returned v) ∧ (J rounds Y ∨ Jx Y)
def rndPost (D b : Nat) (I : List (Nat × List Int) → World → Prop) (Ix : Code → World → Prop) (xs : List (Nat × List Int)) (X : World) : Exit → Act → World → Prop
  | .normal, _, Y => (X.heap.size ≤ Y.heap.size ∧ ∀ k, k = b ∨ k = D ∨ k = D + 1 → Y.heap[k]? = X.heap[k]?) ∧ I xs Y
  | .ret, _, Y => (X.heap.size ≤ Y.heap.size ∧ ∀ k, k = b ∨ k = D ∨ k = D + 1 → Y.heap[k]? = X.heap[k]?) ∧ Ix .ret Y
  | .exit id, _, Y => (X.heap.size ≤ Y.heap.size ∧ ∀ k, k = b ∨ k = D ∨ k = D + 1 → Y.heap[k]? = X.heap[k]?) ∧ Ix (.exit id) Y
  | .goto t, _, Y => (X.heap.size ≤ Y.heap.size ∧ ∀ k, k = b ∨ k = D ∨ k = D + 1 → Y.heap[k]? = X.heap[k]?) ∧ Ix (.goto t) Y
  | .panic _, _, _ => False
  | .outgrown, _, _ => False
theorem range_rounds {P : Program} (m : Nat) {g : Operand} {ps : Array Tmp} {assign body : Code} {Q : Exit → Act → World → Prop} {a : Act} {w : World}
    {gf : Nat} {lb : Array Value} (hg : a.eval g = .func (.func gf) #[] lb) (eg : ∀ args w, (callFunc gf args).run P w = .ok (.enter gf args) w) (hps : ps.size = 2)
    {Base : World → Prop} {rounds : List (Nat × List Int)} (hseq : SeqT P gf lb Base rounds)
    (I : List (Nat × List Int) → World → Prop) (Ix : Code → World → Prop) (hIb : ∀ pre X, I pre X → Base X)
    (hI : ∀ pre X Y, I pre X → Aside w.heap.size X Y → I pre Y) (hIx : ∀ c X Y, Ix c X → Aside w.heap.size X Y → Ix c Y) (h0 : I [] w) (a₁ : Value → Value → Act)
    (hassign : ∀ (l : Nat) (u v : Value) (W : World) (K : Act → World → Prop), K (a₁ u v) W →
      assign.wpIn (Fence.wide.inRound l) m P (Exit.then K (fun _ _ _ => False)) { tmps := (ps.zip #[u, v]).foldl (fun t (p, v) => t.setIfInBounds p v) a.tmps, defers := [] } W)
    (hbody : ∀ (l : Nat) (pre : List (Nat × List Int)) (t : Nat) (x : List Int) (X : World) (b n c : Nat), I pre X → (∃ tl, rounds = pre ++ (t, x) :: tl) → w.heap.size + 2 ≤ b → w.heap.size + 2 ≤ X.heap.size → Ow X (w.heap.size + 2) (some ⟨b, 0, none⟩) n c x → (∃ o, X.heap[w.heap.size]? = some (.deferred o)) → (∃ o, X.heap[w.heap.size + 1]? = some (.loop o)) →
      body.wpIn (Fence.wide.inRound l) m P (rndPost w.heap.size b I Ix (pre ++ [(t, x)]) X) (a₁ (.int .i64 (t : Nat)) (.slice (some ⟨b, 0, none⟩) n c)) X)
    (hdone : ∀ (D : Nat) (W : World), w.heap.size ≤ D → I rounds W → W.heap[D]? = some (.deferred (some [])) → Q .normal { a with defers := { target := .collected D, args := #[] } :: a.defers } W)
    (hstop : ∀ (D : Nat) (c : Code) (W : World), w.heap.size ≤ D → Ix c W → W.heap[D]? = some (.deferred (some [])) → c.wpIn Fence.wide m P Q { a with defers := { target := .collected D, args := #[] } :: a.defers } W) :
    (Code.rangeFunc g ps assign body).wpIn Fence.wide m P Q a w := by
  refine wpIn_rangeFunc ?_; intro fn _
  obtain ⟨rec, hrec⟩ : ∃ rec : LoopState → Option Code → Loop, rec = fun st pe => { state := st, pending := pe, fn, tmps := a.tmps, params := ps, assign, body, defers := w.heap.size } := ⟨_, rfl⟩
  obtain ⟨W1, hW1⟩ : ∃ W1, (w.alloc (.deferred (some []))).alloc (.loop (rec .ready none)) = W1 := ⟨_, rfl⟩
  have hs1 : W1.heap.size = w.heap.size + 2 := by rw [← hW1]; simp
  have hL1 : W1.heap[w.heap.size + 1]? = some (.loop (rec .ready none)) := by
    rw [← hW1]; have := World.alloc_heap_new (w.alloc (.deferred (some []))) (.loop (rec .ready none)); rwa [World.size_alloc] at this
  have hK1 : W1.heap[w.heap.size]? = some (.deferred (some [])) := by
    rw [← hW1]; exact (Below.heap_alloc _ _ _ (by simp)).trans (World.alloc_heap_new w _)
  have hb1 : Below w.heap.size w W1 := by
    rw [← hW1]; exact ((Below.refl _ w).alloc (Nat.le_refl _) _).alloc (by simp) _
  refine ⟨w.heap.size + 1, [{ target := .collected w.heap.size, args := #[] }], W1, { target := .fn (.func gf) lb, args := #[.func (.yield (w.heap.size + 1)) #[] #[]] }, W1, gf,
    #[.func (.yield (w.heap.size + 1)) #[] #[]] ++ lb, W1, ?_, ?_, ?_, ?_, fun h => by simp [Fence.wide] at h, ?_⟩
  · rw [← hW1, hrec]; exact run_enterLoop_outer _ _ _ _ _
  · simp only [resolve, hg]
    simp [go_sem]
  · intro f' _; trivial
  · simp [invoke, go_sem, eg]
  · refine callsIn_wide.2 ((hseq (w.heap.size + 1)
      (fun pre W => I pre W ∧ W.heap[w.heap.size + 1]? = some (.loop (rec .ready none)) ∧ W.heap[w.heap.size]? = some (.deferred (some [])))
      (fun W => ∃ c, Ix c W ∧ W.heap[w.heap.size + 1]? = some (.loop (rec .done (some c))) ∧ W.heap[w.heap.size]? = some (.deferred (some [])))
      W1 (fun pre X h => hIb pre X h.1)
      (fun pre X Y hs hb => ⟨hI pre X Y hs.1 (Aside.of_below hb), (hb.block _ (Array.getElem?_eq_some_iff.1 hs.2.1).1).trans hs.2.1, (hb.block _ (Array.getElem?_eq_some_iff.1 hs.2.2).1).trans hs.2.2⟩)
      (fun X Y hs hb => by
        obtain ⟨c, h1, h2, h3⟩ := hs
        exact ⟨c, hIx c X Y h1 (Aside.of_below hb), (hb.block _ (Array.getElem?_eq_some_iff.1 h2).1).trans h2, (hb.block _ (Array.getElem?_eq_some_iff.1 h3).1).trans h3⟩)
      ?_ ⟨hI [] w W1 h0 ⟨hb1.os, hb1.tape, hb1.output, hb1.size, fun k hk _ _ => hb1.block k hk⟩, hL1, hK1⟩).mono ?_)
    · rintro pre t x X b n c ⟨hi, hl, hk⟩ hx hbw hown; have hlt : w.heap.size + 1 < X.heap.size := (Array.getElem?_eq_some_iff.1 hl).1; have hy := run_yield (P := P) (args := #[.int .i64 (t : Nat), .slice (some ⟨b, 0, none⟩) n c]) hl (by rw [hrec]; simp [hps]); rw [hrec] at hy; refine ⟨fn, _, assign, body, hy, roundIn_any (m := m) (roundIn_of_wpIn trivial (hassign _ (.int .i64 (t : Nat)) (.slice (some ⟨b, 0, none⟩) n c) X _ ⟨_, run_beginRound hl (by rw [hrec]), ?_⟩))⟩; obtain ⟨X2, hX2⟩ : ∃ X2, X.putObj (w.heap.size + 1) (.loop { rec .ready none with state := .busy }) = X2 := ⟨_, rfl⟩; have hl2 : X2.heap[w.heap.size + 1]? = some (.loop { rec .ready none with state := .busy }) := (by rw [← hX2]; exact World.putObj_heap_same hlt)
      have hk2 : X2.heap[w.heap.size]? = some (.deferred (some [])) := (by rw [← hX2]; exact (World.putObj_heap_other (by omega)).trans hk); have hA2 : Aside w.heap.size X X2 := (by rw [← hX2]; exact Aside.of_put _ (.inr rfl)); have hb2 : X2.heap[b]? = X.heap[b]? := (by rw [← hX2]; exact World.putObj_heap_other (by omega)); have hown2 : Ow X2 (w.heap.size + 2) (some ⟨b, 0, none⟩) n c x := (by rw [← hs1]; exact hown.same hb2); have hsz2 := hA2.size; rw [hX2]; refine wpIn_mono (hbody _ pre t x X2 b n c (hI _ _ _ hi hA2) hx (by omega) (by omega) hown2 ⟨_, hk2⟩ ⟨_, hl2⟩) ?_
      have fin : ∀ (jump : Option Code) (W3 : World), (X2.heap.size ≤ W3.heap.size ∧ ∀ k, k = b ∨ k = w.heap.size ∨ k = w.heap.size + 1 → W3.heap[k]? = X2.heap[k]?) →
          (Instr.endRound (w.heap.size + 1) jump).run P W3 = .ok (.bool jump.isNone) (W3.putObj (w.heap.size + 1) (.loop (rec (if jump.isNone then .ready else .done) jump))) ∧
          Aside w.heap.size W3 (W3.putObj (w.heap.size + 1) (.loop (rec (if jump.isNone then .ready else .done) jump))) ∧
          X.heap.size ≤ (W3.putObj (w.heap.size + 1) (.loop (rec (if jump.isNone then .ready else .done) jump))).heap.size ∧
          (W3.putObj (w.heap.size + 1) (.loop (rec (if jump.isNone then .ready else .done) jump))).heap[b]? = X.heap[b]? ∧
          (W3.putObj (w.heap.size + 1) (.loop (rec (if jump.isNone then .ready else .done) jump))).heap[w.heap.size + 1]? = some (.loop (rec (if jump.isNone then .ready else .done) jump)) ∧
          (W3.putObj (w.heap.size + 1) (.loop (rec (if jump.isNone then .ready else .done) jump))).heap[w.heap.size]? = some (.deferred (some [])) := fun jump W3 hk3 => by
        have hl3 := (hk3.2 (w.heap.size + 1) (by omega)).trans hl2; have hlt3 := (Array.getElem?_eq_some_iff.1 hl3).1; have := run_endRound (P := P) jump hl3; rw [hrec] at this ⊢; exact ⟨this, Aside.of_put _ (.inr rfl), by have := hk3.1; simp; omega, (World.putObj_heap_other (by omega)).trans ((hk3.2 b (.inl rfl)).trans hb2), World.putObj_heap_same hlt3, (World.putObj_heap_other (by omega)).trans ((hk3.2 _ (.inr (.inl rfl))).trans hk2)⟩
      rintro e a3 W3 hp
      cases e with
      | normal =>
        obtain ⟨hk3, hi3⟩ := hp; obtain ⟨hr, hb4, hm4, hm5, hl4, hk4⟩ := fin none W3 hk3; exact ⟨_, _, hr, hm4, hm5, .inl ⟨rfl, hI _ _ _ hi3 hb4, hl4, hk4⟩⟩
      | ret =>
        obtain ⟨hk3, hi3⟩ := hp; obtain ⟨hr, hb4, hm4, hm5, hl4, hk4⟩ := fin (some .ret) W3 hk3; exact ⟨_, _, hr, hm4, hm5, .inr ⟨rfl, .ret, hIx _ _ _ hi3 hb4, hl4, hk4⟩⟩
      | exit id =>
        obtain ⟨hk3, hi3⟩ := hp; obtain ⟨hr, hb4, hm4, hm5, hl4, hk4⟩ := fin (some (.exit id)) W3 hk3; exact ⟨_, _, hr, hm4, hm5, .inr ⟨rfl, .exit id, hIx _ _ _ hi3 hb4, hl4, hk4⟩⟩
      | goto t' =>
        obtain ⟨hk3, hi3⟩ := hp; obtain ⟨hr, hb4, hm4, hm5, hl4, hk4⟩ := fin (some (.goto t')) W3 hk3; exact ⟨_, _, hr, hm4, hm5, .inr ⟨rfl, .goto t', hIx _ _ _ hi3 hb4, hl4, hk4⟩⟩
      | panic ch => exact hp.elim
      | outgrown => exact hp.elim
    · rintro e W2 ⟨⟨v, rfl⟩, (⟨hi, hl, hk⟩ | ⟨c, hi, hl, hk⟩)⟩
      · exact ⟨none, _, by have := run_endLoop (P := P) hl (by rw [hrec]; simp); rw [hrec] at this; exact this, hdone _ _ (Nat.le_refl _) (hI _ _ _ hi (Aside.of_put _ (.inr rfl))) ((World.putObj_heap_other (by omega)).trans hk)⟩
      · exact ⟨some c, _, by have := run_endLoop (P := P) hl (by rw [hrec]; simp); rw [hrec] at this; exact this, hstop _ c _ (Nat.le_refl _) (hIx _ _ _ hi (Aside.of_put _ (.inr rfl))) ((World.putObj_heap_other (by omega)).trans hk)⟩
theorem range_rounds2 {P : Program} (m : Nat) {g : Operand} {p p' q : Nat} {assign body : Code} {Q : Exit → Act → World → Prop} {a : Act} {w : World}
    {gf : Nat} {lb : Array Value} (hg : a.eval g = .func (.func gf) #[] lb) (eg : ∀ args w, (callFunc gf args).run P w = .ok (.enter gf args) w)
    {Base : World → Prop} {rounds : List (Nat × List Int)} (hseq : SeqT P gf lb Base rounds)
    (I : List (Nat × List Int) → World → Prop) (Ix : Code → World → Prop) (hIb : ∀ pre X, I pre X → Base X)
    (hI : ∀ pre X Y, I pre X → Aside w.heap.size X Y → I pre Y) (hIx : ∀ c X Y, Ix c X → Aside w.heap.size X Y → Ix c Y) (h0 : I [] w)
    (hassign : ∀ (l : Nat) (u v : Value) (W : World) (K : Act → World → Prop), K { tmps := ((a.tmps.setIfInBounds p u).setIfInBounds p' v).setIfInBounds q v, defers := [] } W →
      assign.wpIn (Fence.wide.inRound l) m P (Exit.then K (fun _ _ _ => False)) { tmps := (a.tmps.setIfInBounds p u).setIfInBounds p' v, defers := [] } W)
    (hbody : ∀ (l : Nat) (pre : List (Nat × List Int)) (t : Nat) (x : List Int) (X : World) (b n c : Nat), I pre X → (∃ tl, rounds = pre ++ (t, x) :: tl) → w.heap.size + 2 ≤ b → w.heap.size + 2 ≤ X.heap.size → Ow X (w.heap.size + 2) (some ⟨b, 0, none⟩) n c x → (∃ o, X.heap[w.heap.size]? = some (.deferred o)) → (∃ o, X.heap[w.heap.size + 1]? = some (.loop o)) →
      body.wpIn (Fence.wide.inRound l) m P (rndPost w.heap.size b I Ix (pre ++ [(t, x)]) X) { tmps := ((a.tmps.setIfInBounds p (.int .i64 (t : Nat))).setIfInBounds p' (.slice (some ⟨b, 0, none⟩) n c)).setIfInBounds q (.slice (some ⟨b, 0, none⟩) n c), defers := [] } X)
    (hdone : ∀ (D : Nat) (W : World), w.heap.size ≤ D → I rounds W → W.heap[D]? = some (.deferred (some [])) → Q .normal { a with defers := { target := .collected D, args := #[] } :: a.defers } W)
    (hstop : ∀ (D : Nat) (c : Code) (W : World), w.heap.size ≤ D → Ix c W → W.heap[D]? = some (.deferred (some [])) → c.wpIn Fence.wide m P Q { a with defers := { target := .collected D, args := #[] } :: a.defers } W) :
    (Code.rangeFunc g #[p, p'] assign body).wpIn Fence.wide m P Q a w :=
  range_rounds m hg eg rfl hseq I Ix hIb hI hIx h0 (fun u v => { tmps := ((a.tmps.setIfInBounds p u).setIfInBounds p' v).setIfInBounds q v, defers := [] }) (fun l u v W K hK => by
    simpa using hassign l u v W K hK) hbody hdone hstop
def roF (s : Int) (gi : List Int) (rs : List RuleM) (most : Nat) : Nat → List Int → List (Nat × List Int)
  | 0, _ => []
  | f + 1, o => match ntF s gi rs o most 1 with
    | none => []
    | some q => (q.2, q.1) :: roF s gi rs most f q.1
def lastO (o : List Int) : List (Nat × List Int) → List Int
  | [] => o
  | x :: L => lastO x.2 L
theorem lastO_push (o : List Int) (L : List (Nat × List Int)) (x : Nat × List Int) : lastO o (L ++ [x]) = x.2 := by
  induction L generalizing o with
  | nil => rfl
  | cons y L ih => exact ih y.2
theorem naI_ro {s : Int} {gi : List Int} {rs : List RuleM} {most : Nat} : ∀ f o r, naI s gi rs most f o r = (lastO o (roF s gi rs most f o), r + (roF s gi rs most f o).length) := by
  intro f
  induction f with
  | zero => intro o r; rfl
  | succ f ih =>
    intro o r; simp only [naI, roF]
    cases ntF s gi rs o most 1 with
    | none => rfl
    | some q => simp only [ih, lastO, List.length_cons]; congr 1; omega
section
variable {s : Int} {gi : List Int} {rs : List RuleM} {most : Nat}
theorem roF_fuel (hv : pvB s gi rs = true) (h4 : most ≤ 4) : ∀ f f' o, mvd o s = true → sumTo o o.length < f → sumTo o o.length < f' → roF s gi rs most f o = roF s gi rs most f' o := by
  intro f
  induction f with
  | zero => intro f' o _ h _; omega
  | succ f ih =>
    intro f' o hm h1 h2
    match f', h2 with
    | 0, h2 => omega
    | f' + 1, h2 =>
      simp only [roF]
      cases e : ntF s gi rs o most 1 with
      | none => rfl
      | some q =>
        obtain ⟨_, q2, q3⟩ := ntF_sub hv h4 hm (q := q.1) (u := q.2) e; simp only [ih f' q.1 q2 (by omega) (by omega)]
theorem roF_len (hv : pvB s gi rs = true) (h4 : most ≤ 4) : ∀ f o, mvd o s = true → (roF s gi rs most f o).length ≤ sumTo o o.length := by
  intro f
  induction f with
  | zero => intro o _; exact Nat.zero_le _
  | succ f ih =>
    intro o hm; simp only [roF]
    cases e : ntF s gi rs o most 1 with
    | none => exact Nat.zero_le _
    | some q =>
      obtain ⟨_, q2, q3⟩ := ntF_sub hv h4 hm (q := q.1) (u := q.2) e; have := ih q.1 q2; simp only [List.length_cons]; omega
theorem roF_mem (P : List Int → Prop) (hv : pvB s gi rs = true) (h4 : most ≤ 4) (hP : ∀ o t, mvd o s = true → 1 ≤ t → t ≤ most → P o → P (nbL s gi rs o (t : Nat))) : ∀ f o, mvd o s = true → P o → ∀ x ∈ roF s gi rs most f o, 1 ≤ x.1 ∧ x.1 ≤ most ∧ P x.2 ∧ mvd x.2 s = true ∧ Sub x.2 o := by
  intro f
  induction f with
  | zero => intro o _ _ x hx; cases hx
  | succ f ih =>
    intro o hm h x hx; simp only [roF] at hx
    cases e : ntF s gi rs o most 1 with
    | none => rw [e] at hx; cases hx
    | some q =>
      rw [e] at hx; obtain ⟨h1, h2, h3, _, _⟩ := ntF_some (q := q.1) (u := q.2) e; obtain ⟨q1, q2, _⟩ := ntF_sub hv h4 hm (q := q.1) (u := q.2) e; have hPq : P q.1 := (by rw [h3]; exact hP o _ hm (by omega) (by omega) h)
      rcases List.mem_cons.1 hx with rfl | hx
      · exact ⟨by dsimp only; omega, by dsimp only; omega, hPq, q2, q1⟩
      · obtain ⟨a1, a2, a3, a4, a5⟩ := ih q.1 q2 hPq x hx; exact ⟨a1, a2, a3, a4, a5.trans q1⟩
def roE (s : Int) (gi : List Int) (rs : List RuleM) (most : Nat) (o : List Int) : List (Nat × List Int) := roF s gi rs most (sumTo o o.length + 1) o
theorem roE_none {o : List Int} (h : ntF s gi rs o most 1 = none) : roE s gi rs most o = [] := by simp only [roE, roF, h]
theorem roE_some {o q : List Int} {u : Nat} (hv : pvB s gi rs = true) (h4 : most ≤ 4) (hm : mvd o s = true) (h : ntF s gi rs o most 1 = some (q, u)) : roE s gi rs most o = (u, q) :: roE s gi rs most q := by
  obtain ⟨_, q2, q3⟩ := ntF_sub hv h4 hm h; unfold roE; rw [show roF s gi rs most (sumTo o o.length + 1) o = (u, q) :: roF s gi rs most (sumTo o o.length) q from by simp only [roF, h]]; rw [roF_fuel hv h4 (sumTo o o.length) (sumTo q q.length + 1) q q2 (by omega) (by omega)]
theorem roE_len {o : List Int} (hv : pvB s gi rs = true) (h4 : most ≤ 4) (hm : mvd o s = true) : (roE s gi rs most o).length ≤ 480 := Nat.le_trans (roF_len hv h4 _ _ hm) (sum_480 hm)
theorem naE_ro {o : List Int} {r : Nat} : naE s gi rs most o r = (lastO o (roE s gi rs most o), r + (roE s gi rs most o).length) := naI_ro _ _ _
theorem roE_mem {o : List Int} (hv : pvB s gi rs = true) (h4 : most ≤ 4) (hm : mvd o s = true) : ∀ x ∈ roE s gi rs most o, 1 ≤ x.1 ∧ x.1 ≤ most ∧ mvd x.2 s = true ∧ Sub x.2 o := fun x hx => by
  obtain ⟨a, b, _, c, d⟩ := roF_mem (fun _ => True) hv h4 (fun _ _ _ _ _ _ => trivial) _ _ hm trivial x hx; exact ⟨a, b, c, d⟩
theorem roE_split (hv : pvB s gi rs = true) (h4 : most ≤ 4) {L : List (Nat × List Int)} : ∀ (pre : List (Nat × List Int)) (o : List Int), mvd o s = true → roE s gi rs most o = pre ++ L → mvd (lastO o pre) s = true ∧ roE s gi rs most (lastO o pre) = L ∧ Sub (lastO o pre) o := by
  intro pre
  induction pre with
  | nil => intro o hm h; exact ⟨hm, h, Sub.of_mvd hm⟩
  | cons y pre ih =>
    intro o hm h
    cases e : ntF s gi rs o most 1 with
    | none => rw [roE_none e] at h; cases h
    | some q =>
      obtain ⟨q1, q2, _⟩ := ntF_sub hv h4 hm (q := q.1) (u := q.2) e; rw [roE_some hv h4 hm (q := q.1) (u := q.2) e] at h
      injection h with h1 h2
      subst h1; obtain ⟨a, b, c⟩ := ih q.1 q2 h2; exact ⟨a, b, c.trans q1⟩
theorem roE_at (hv : pvB s gi rs = true) (h4 : most ≤ 4) {pre tl : List (Nat × List Int)} {o x : List Int} {t : Nat} (hm : mvd o s = true) (h : roE s gi rs most o = pre ++ (t, x) :: tl) : mvd (lastO o pre) s = true ∧ ntF s gi rs (lastO o pre) most 1 = some (x, t) ∧ 1 ≤ t ∧ t ≤ most ∧ x = nbL s gi rs (lastO o pre) t ∧ x ≠ lastO o pre ∧ mvd x s = true ∧ Sub x (lastO o pre) ∧ roE s gi rs most x = tl := by
  obtain ⟨a, b, _⟩ := roE_split hv h4 pre o hm h
  cases e : ntF s gi rs (lastO o pre) most 1 with
  | none => rw [roE_none e] at b; cases b
  | some q =>
    obtain ⟨q1, q2, _⟩ := ntF_sub hv h4 a (q := q.1) (u := q.2) e; obtain ⟨h1, h2, h3, h5, _⟩ := ntF_some (q := q.1) (u := q.2) e; rw [roE_some hv h4 a (q := q.1) (u := q.2) e] at b
    injection b with b1 b2
    injection b1 with b1 b3
    subst b1 b3; exact ⟨a, rfl, h1, by omega, h3, h5, q2, q1, b2⟩
end
end Go.Proofs.YtcjdjcpappfkgaaGreatDoor
namespace Go.Proofs.YtcjdjcpappfkgaaGreatDoor
open Go.ChangeShapes Go.WideShapes Go.ChangeAt Go.RowKit Go.Shelf
attribute [local go_sem] Oper.semAt_some
structure RBase (NB MB SB s L Br : Nat) (At : Option Addr) (nt ct Bt : Nat) (rs : List RuleM) (Am : Option Addr) (nm cm Bm : Nat) (ms : List Int) (most : Nat) (X : World) : Prop where
  n : X.heap[NB]? = some (.cells #[.int .i64 s, .slice At nt ct] 97)
  m : X.cell? ⟨MB, 0, none⟩ = some (.slice Am nm cm)
  o : X.cell? ⟨SB, 0, none⟩ = some (.int .i64 most)
  t : 4 ≤ most → TbR X L Bt Br s rs At nt
  tB : Bt ≤ X.heap.size
  tr : Br ≤ Bt
  r : Rd X Bm Am nm ms
  rB : Bm ≤ X.heap.size
  z : Tz X
set_option maxHeartbeats 4000000 in
theorem rounds_seq (NB MB SB s L Br : Nat) (At : Option Addr) (nt ct Bt : Nat) (gi : List Int) (rs : List RuleM) (Am : Option Addr) (nm cm Bm : Nat) (m : List Int) (most : Nat) (hs : s ∈ [2, 3, 4]) (hv : pvB s gi rs = true) (hm : mvd m s = true) (h4 : most ≤ 4) (hml : m.length = nm) :
    SeqT Tryz.prog 116 #[.pointer (some ⟨NB, 0, none⟩), .pointer (some ⟨MB, 0, none⟩), .pointer (some ⟨SB, 0, none⟩)] (RBase NB MB SB s L Br At nt ct Bt rs Am nm cm Bm m most) (roE s gi rs most m) := by
  intro l J Jx W hJb hJs hJx hY h0; have HN := Lib.hid (fun (pre : List (Nat × List Int)) (X : World) (hJ : J pre X) (A : Option Addr) (c B : Nat) (o : List Int) (hr : Rd X B A nm o) (hB : B ≤ X.heap.size) (ho : mvd o s = true) => next_any s L Br At nt ct Bt gi rs A c nm B o most X (hJb _ _ hJ).t (hJb _ _ hJ).tB (hJb _ _ hJ).tr hr hB (hJb _ _ hJ).z hs hv ho h4); have HB := Lib.hid (fun (pre : List (Nat × List Int)) (X : World) (hJ : J pre X) => (⟨(hJb _ _ hJ).n, (hJb _ _ hJ).m, (hJb _ _ hJ).o⟩ : X.heap[NB]? = some (.cells #[.int .i64 s, .slice At nt ct] 97) ∧ X.cell? ⟨MB, 0, none⟩ = some (.slice Am nm cm) ∧ X.cell? ⟨SB, 0, none⟩ = some (.int .i64 most)))
  have HN0 := Lib.hid (HN.out [] W h0 Am cm Bm m (hJb _ _ h0).r (hJb _ _ h0).rB hm); have Hi := Lib.hid nar_info; have HJs := Lib.hid hJs; have HJx := Lib.hid hJx; have HY := Lib.hid hY; have HAt := Lib.hid (fun (pre tl : List (Nat × List Int)) (x : List Int) (t : Nat) (h : roE s gi rs most m = pre ++ (t, x) :: tl) => roE_at hv h4 hm h); have HSp := Lib.hid (fun (o : List Int) (q : List Int × Nat) (ho : mvd o s = true) (hq : ntF s gi rs o most 1 = some q) => roE_some hv h4 ho (q := q.1) (u := q.2) hq); have HSu := Lib.hid (fun (o : List Int) (q : List Int × Nat) (ho : mvd o s = true) (hq : ntF s gi rs o most 1 = some q) => (ntF_sub hv h4 ho (q := q.1) (u := q.2) hq))
  have HT1 := Lib.hid (fun (o : List Int) (q : List Int × Nat) (hq : ntF s gi rs o most 1 = some q) => (ntF_some (q := q.1) (u := q.2) hq).1); obtain ⟨b0, b1, b2⟩ := HB.out _ _ h0; have Hm := Lib.hid hm; have H0 := Lib.hid h0; have Hml := Lib.hid hml; clear hJb hJs hJx hY hv hm h0 hml
  show Calls Tryz.prog 116 #[.func (.yield l) #[] #[], .pointer (some ⟨NB, 0, none⟩), .pointer (some ⟨MB, 0, none⟩), .pointer (some ⟨SB, 0, none⟩)] W _
  refine (callsIn_wide (n := 9)).1 ?_; refine callsIn_of_wp Tryz.func116 rfl trivial ?_ rfl; simp only [Tryz.ntmps116, List.size_toArray, List.length_cons, List.length_nil, Nat.reduceAdd, Nat.reduceSub, Array.replicate_succ, Array.replicate_zero, List.push_toArray, List.append_toArray, List.nil_append, List.cons_append]
  let St : List Int → Value → Value → World → Prop := fun o lf te wr => match ntF s gi rs o most 1 with
    | none => lf = .slice none 0 0 ∧ te = .int .i64 0
    | some q => ∃ b c, lf = .slice (some ⟨b, 0, none⟩) nm c ∧ te = .int .i64 (q.2 : Nat) ∧ W.heap.size ≤ b ∧ Ow wr W.heap.size (some ⟨b, 0, none⟩) nm c q.1
  have HSt : Hid (∀ (o : List Int) (X wr : World) (e : Ending), W.heap.size ≤ X.heap.size → NextPost X nm (ntF s gi rs o most 1) e wr → ∃ lf te, e = .returned (.tuple #[lf, te]) ∧ St o lf te wr ∧ Below X.heap.size X wr) := Lib.hid (fun o X wr e hX h => by
    show ∃ lf te, e = .returned (.tuple #[lf, te]) ∧ (match ntF s gi rs o most 1 with
      | none => lf = .slice none 0 0 ∧ te = .int .i64 0
      | some q => ∃ b c, lf = .slice (some ⟨b, 0, none⟩) nm c ∧ te = .int .i64 (q.2 : Nat) ∧ W.heap.size ≤ b ∧ Ow wr W.heap.size (some ⟨b, 0, none⟩) nm c q.1) ∧ Below X.heap.size X wr
    cases hq : ntF s gi rs o most 1 with
    | none => rw [hq] at h; exact ⟨_, _, h.1, ⟨rfl, rfl⟩, h.2⟩
    | some q =>
      rw [hq] at h; obtain ⟨⟨b, c, rfl, hb, ho⟩, hbl⟩ := h
      exact ⟨_, _, rfl, ⟨b, c, rfl, rfl, by omega, ho.mono hX⟩, hbl⟩)
  gi_wp2_with (first
    | (refine wpListIn_load_row rfl 97 _ rfl NB rfl 97 #[.int .i64 s, .slice At nt ct] (0, 0) _ b0 Tryz.underlying97 rfl (Hi.out _ _) ?_)
    | ((try refine ⟨trivial, ?_⟩); gi_at_call 117; refine (callsIn_wide.2 HN0.out).mono ?_; rintro e w1 hp; obtain ⟨lf, te, rfl, hst, hb1⟩ := HSt.out _ _ _ _ (Nat.le_refl _) hp; clear hp))
  clear b0 b1 b2
  gi_loopw [5, 6] (fun lf te wr => ∃ pre o, Hid (J pre wr ∧ roE s gi rs most m = pre ++ roE s gi rs most o ∧ mvd o s = true ∧ W.heap.size ≤ wr.heap.size) ∧ St o lf te wr) (fun lf te wr => if intOf te = 0 then 0 else sumAt wr lf nm + 1)
  case atStart => exact ⟨[], m, Lib.hid ⟨HJs.out _ _ _ H0.out hb1, rfl, Hm.out, hb1.size⟩, hst⟩
  case round =>
    clear hst hb1; obtain ⟨pre, o, hh, hst⟩ := hrel
    cases hq : ntF s gi rs o most 1 with
    | none =>
      simp only [St, hq] at hst; obtain ⟨rfl, rfl⟩ := hst; have HD := Lib.hid (show roE s gi rs most m = pre by rw [hh.out.2.1, roE_none hq, List.append_nil]); clear hq
      gi_wp2
      refine ⟨fun _ h => (by cases h), ?_⟩
      gi_wp2
      go_end0
      exact ⟨⟨_, rfl⟩, .inl (by rw [HD.out]; exact hh.out.1)⟩
    | some q =>
      simp only [St, hq] at hst; obtain ⟨b, c, rfl, rfl, hbW, ho⟩ := hst; obtain ⟨q, t⟩ := q; have ht1 := HT1.out o (q, t) hq; have HE := Lib.hid (HSp.out o (q, t) hh.out.2.2.1 hq); have HU := Lib.hid (HSu.out o (q, t) hh.out.2.2.1 hq); have HD := Lib.hid (show ∃ tl, roE s gi rs most m = pre ++ (t, q) :: tl from ⟨_, by rw [hh.out.2.1, HE.out]⟩); obtain ⟨fn, tmps, assign, body, hyy, hR⟩ := HY.out pre t q wr b nm c hh.out.1 HD.out hbW ho; have htn : ((t : Int) != 0) = true := (by simp; omega); have hS0 := Lib.hid (sumAt_ow ho nm (Nat.le_refl _)); have htz : ¬ (t : Int) = 0 := (by omega); clear hq
      gi_wp2
      refine (roundIn_any hR).mono ?_; rintro e Y ⟨hYs, hYb, (⟨rfl, hj⟩ | ⟨rfl, hx⟩)⟩
      · have hoY : Ow Y W.heap.size (some ⟨b, 0, none⟩) nm c q := ho.same hYb; have HNq := Lib.hid (HN.out _ Y hj (some ⟨b, 0, none⟩) c Y.heap.size q hoY.rd (Nat.le_refl _) HU.out.2.1); have hWY := Nat.le_trans hh.out.2.2.2 hYs; have HJ2 := Lib.hid hj; have HR2 := Lib.hid (show roE s gi rs most m = (pre ++ [(t, q)]) ++ roE s gi rs most q by rw [hh.out.2.1, HE.out, List.append_assoc]; rfl); obtain ⟨b0, b1, b2⟩ := HB.out _ _ hj; clear hyy hR hj hYb
        gi_wp2_with (first
          | (refine wpListIn_load_row rfl 97 _ rfl NB rfl 97 #[.int .i64 s, .slice At nt ct] (0, 0) _ b0 Tryz.underlying97 rfl (Hi.out _ _) ?_)
          | ((try refine ⟨trivial, ?_⟩); gi_at_call 117; refine (callsIn_wide.2 HNq.out).mono ?_; rintro e w1 hp; obtain ⟨lf, te, rfl, hst, hb1⟩ := HSt.out _ _ _ _ hWY hp; clear hp))
        have hsz1 := hb1.size; have hqn := hoY.len
        have hmeas : (if intOf te = 0 then 0 else sumAt w1 lf nm + 1) < sumTo q nm + 1 := by
          cases hq2 : ntF s gi rs q most 1 with
          | none =>
            simp only [St, hq2] at hst; obtain ⟨rfl, rfl⟩ := hst
            simp [intOf]
          | some q2 =>
            simp only [St, hq2] at hst; obtain ⟨b2, c2, rfl, rfl, _, ho2⟩ := hst; have e1 := sumAt_ow ho2 nm (Nat.le_refl _); have e2 := (HSu.out q q2 HU.out.2.1 hq2).2.2; rw [ho2.len, hqn] at e2; rw [e1]
            split <;> omega
        have Hmeas := Lib.hid hmeas; clear hmeas
        gi_wp2
        refine ⟨⟨pre ++ [(t, q)], q, Lib.hid ⟨HJs.out _ _ _ HJ2.out hb1, HR2.out, HU.out.2.1, by omega⟩, hst⟩, ?_⟩; have e1 : intOf (Value.int IntKind.i64 (t : Nat)) = (t : Nat) := rfl; rw [e1, if_neg htz, hS0.out]; exact Hmeas.out
      · gi_wp2
        go_end0
        exact ⟨⟨_, rfl⟩, .inr hx⟩
theorem rounds_any (s : Nat) (At : Option Addr) (nt ct : Nat) (Am : Option Addr) (nm cm : Nat) (most : Nat) (w : World) :
    Calls Tryz.prog 74 #[.agg #[.int .i64 s, .slice At nt ct], .slice Am nm cm, .int .i64 most] w fun e w' => ∃ NB MB SB, e = .returned (.func (.func 116) #[] #[.pointer (some ⟨NB, 0, none⟩), .pointer (some ⟨MB, 0, none⟩), .pointer (some ⟨SB, 0, none⟩)]) ∧ w'.heap[NB]? = some (.cells #[.int .i64 s, .slice At nt ct] 97) ∧ w'.cell? ⟨MB, 0, none⟩ = some (.slice Am nm cm) ∧ w'.cell? ⟨SB, 0, none⟩ = some (.int .i64 most) ∧ w.heap.size ≤ NB ∧ w.heap.size ≤ MB ∧ w.heap.size ≤ SB ∧ Below w.heap.size w w' := by
  obtain ⟨Wa, hWa⟩ : ∃ Wa, w.alloc (.cells #[.int .i64 s, .slice At nt ct] 97) = Wa := ⟨_, rfl⟩
  have hba : Below w.heap.size w Wa := by rw [← hWa]; exact (Below.refl _ _).alloc (Nat.le_refl _) _
  have hsa : Wa.heap.size = w.heap.size + 1 := by rw [← hWa]; simp
  have hra : Wa.heap[w.heap.size]? = some (.cells #[.int .i64 s, .slice At nt ct] 97) := by rw [← hWa]; exact heap_alloc_new w _
  obtain ⟨Wb, hWb⟩ : ∃ Wb, Wa.alloc (.cells #[.slice Am nm cm] 23) = Wb := ⟨_, rfl⟩
  have hbb : Below Wa.heap.size Wa Wb := by rw [← hWb]; exact (Below.refl _ _).alloc (Nat.le_refl _) _
  have hsb : Wb.heap.size = w.heap.size + 1 + 1 := by rw [← hWb]; simp [hsa]
  have hrb : Wb.heap[w.heap.size + 1]? = some (.cells #[.slice Am nm cm] 23) := by rw [← hWb, ← hsa]; exact heap_alloc_new Wa _
  obtain ⟨Wc, hWc⟩ : ∃ Wc, Wb.alloc (.cells #[.int .i64 most] 3) = Wc := ⟨_, rfl⟩
  have hbc : Below Wb.heap.size Wb Wc := by rw [← hWc]; exact (Below.refl _ _).alloc (Nat.le_refl _) _
  have hrc : Wc.heap[w.heap.size + 1 + 1]? = some (.cells #[.int .i64 most] 3) := by rw [← hWc, ← hsb]; exact heap_alloc_new Wb _
  have HA := Lib.hid ((hbc.block w.heap.size (by omega)).trans ((hbb.block w.heap.size (by omega)).trans hra)); have HB := Lib.hid (cell_of_row _ _ 0 _ _ (0, 0) ((hbc.block (w.heap.size + 1) (by omega)).trans hrb)); have HC := Lib.hid (cell_of_row _ _ 0 _ _ (0, 0) hrc); have HD := Lib.hid ((hba.trans (hbb.mono (by omega))).trans (hbc.mono (by omega))); clear hba hra hbb hrb hbc hrc
  go_enter Tryz.func74, Tryz.ntmps74
  go_wp2
  go_ret
  exact ⟨w.heap.size, w.heap.size + 1, w.heap.size + 1 + 1, rfl, HA.out, HB.out, HC.out, by omega, by omega, by omega, HD.out⟩
attribute [local go_sem] Oper.semAt_some
theorem Ow.same_own8 {w w' : World} {lo n c : Nat} {A : Option Addr} {xs : List Int} (h : Ow w lo A n c xs) (hn : 0 < n) (hs : ∀ g, (Value.slice A n c).ownBlock = some g → w'.heap[g]? = w.heap[g]?) : Ow w' lo A n c xs := by
  obtain ⟨g, rfl, _, _⟩ := h.form hn; exact h.same (hs g rfl)
theorem none_of_deferred8 {W : World} {D i : Nat} {o : Option (List Deferred)} (h : W.heap[D]? = some (.deferred o)) : W.cell? ⟨D, i, none⟩ = none := by
  unfold World.cell?
  simp [h]
structure Two (X Y : World) (N1 N2 : Nat) (o1 o2 : Obj) : Prop where
  os : Y.os = X.os
  tape : Y.tape = X.tape
  output : Y.output = X.output
  size : Y.heap.size = X.heap.size
  b1 : Y.heap[N1]? = some o1
  b2 : Y.heap[N2]? = some o2
  other : ∀ k, k ≠ N1 → k ≠ N2 → Y.heap[k]? = X.heap[k]?
theorem Two.mk12 {X : World} {N1 N2 : Nat} {u1 u2 v1 v2 : Value} {t1 t2 : TypeId} (h1 : X.heap[N1]? = some (.cells #[u1] t1)) (h2 : X.heap[N2]? = some (.cells #[u2] t2)) (hne : N1 ≠ N2) : Two X ((X.setCell ⟨N1, 0, none⟩ v1).setCell ⟨N2, 0, none⟩ v2).drew N1 N2 (.cells #[v1] t1) (.cells #[v2] t2) :=
  ⟨rfl, rfl, rfl, by show ((X.setCell ⟨N1, 0, none⟩ v1).setCell ⟨N2, 0, none⟩ v2).heap.size = _; simp, (heap_setCell_other _ ⟨N2, 0, none⟩ N1 v2 (fun e => hne e)).trans (heap_setCell_same X N1 0 _ _ v1 h1), heap_setCell_same _ N2 0 _ _ v2 ((heap_setCell_other X ⟨N1, 0, none⟩ N2 v1 (fun e => hne e.symm)).trans h2), fun k k1 k2 => (heap_setCell_other _ ⟨N2, 0, none⟩ k v2 (fun e => k2 e)).trans (heap_setCell_other X ⟨N1, 0, none⟩ k v1 (fun e => k1 e))⟩
theorem Two.mk21 {X : World} {N1 N2 : Nat} {u1 u2 v1 v2 : Value} {t1 t2 : TypeId} (h1 : X.heap[N1]? = some (.cells #[u1] t1)) (h2 : X.heap[N2]? = some (.cells #[u2] t2)) (hne : N1 ≠ N2) : Two X ((X.setCell ⟨N2, 0, none⟩ v2).setCell ⟨N1, 0, none⟩ v1).drew N1 N2 (.cells #[v1] t1) (.cells #[v2] t2) :=
  have h := Two.mk12 (v1 := v2) (v2 := v1) h2 h1 hne.symm
  ⟨h.os, h.tape, h.output, h.size, h.b2, h.b1, fun k k1 k2 => h.other k k2 k1⟩
theorem Two.below {X Y : World} {N1 N2 B : Nat} {o1 o2 : Obj} (h : Two X Y N1 N2 o1 o2) (h1 : B ≤ N1) (h2 : B ≤ N2) : Below B X Y := ⟨h.os, h.tape, h.output, Nat.le_of_eq h.size.symm, fun k hk => h.other k (by omega) (by omega)⟩
theorem RBase.below {NB MB SB s L Br : Nat} {At : Option Addr} {nt ct Bt : Nat} {rs : List RuleM} {Am : Option Addr} {nm cm Bm : Nat} {ms : List Int} {most D : Nat} {X Y : World} (h : RBase NB MB SB s L Br At nt ct Bt rs Am nm cm Bm ms most X) (hb : Below D X Y) (hN : NB < D) (hM : MB < D) (hS : SB < D) (hBt : Bt ≤ D) (hBm : Bm ≤ D) (hz : 0 < D) : RBase NB MB SB s L Br At nt ct Bt rs Am nm cm Bm ms most Y :=
  ⟨(hb.block _ hN).trans h.n, (hb.cell (p := ⟨MB, 0, none⟩) hM).trans h.m, (hb.cell (p := ⟨SB, 0, none⟩) hS).trans h.o, fun e => (h.t e).below (hb.mono hBt) h.tr, Nat.le_trans h.tB hb.size, h.tr, h.r.below (hb.mono hBm), Nat.le_trans h.rB hb.size, h.z.below hz hb⟩
theorem RBase.keep {NB MB SB s L Br : Nat} {At : Option Addr} {nt ct Bt : Nat} {rs : List RuleM} {Am : Option Addr} {nm cm Bm : Nat} {ms : List Int} {most L0 : Nat} {X Y : World} (h : RBase NB MB SB s L Br At nt ct Bt rs Am nm cm Bm ms most X) (hk : ∀ k, L ≤ k → k < X.heap.size → Y.heap[k]? = X.heap[k]?) (hb : Below L0 X Y) (h0 : Br ≤ L0) (hBm : Bm ≤ L0) (hz : 0 < L0) (hN : L ≤ NB) (hM : L ≤ MB) (hS : L ≤ SB) : RBase NB MB SB s L Br At nt ct Bt rs Am nm cm Bm ms most Y :=
  ⟨(hk NB hN (Array.getElem?_eq_some_iff.1 h.n).1).trans h.n, (World.cell?_of_block (a := ⟨MB, 0, none⟩) (hk MB hM (cell_lt h.m))).trans h.m, (World.cell?_of_block (a := ⟨SB, 0, none⟩) (hk SB hS (cell_lt h.o))).trans h.o, fun e => (h.t e).keep (fun k h1 h2 => hk k h1 (Nat.lt_of_lt_of_le h2 h.tB)) (hb.mono h0), Nat.le_trans h.tB hb.size, h.tr, h.r.below (hb.mono hBm), Nat.le_trans h.rB hb.size, h.z.below hz hb⟩
theorem na_bad {s : Int} {gi : List Int} {rs : List RuleM} {m : List Int} {most : Int} (h : nvB s gi rs m most = false) : naL s gi rs m most = [] ∧ naR s gi rs m most = -1 := by
  have : (pvB s gi rs && mvd m s && inr most 1 4) = false := by
    unfold nvB at h; rw [Bool.and_comm, ← Bool.and_assoc]; exact h
  unfold naL naR; rw [this]; exact ⟨rfl, rfl⟩
theorem na_good {s : Int} {gi : List Int} {rs : List RuleM} {m : List Int} {most : Nat} (h : nvB s gi rs m (most : Nat) = true) : naL s gi rs m (most : Nat) = lastO m (roE s gi rs most m) ∧ naR s gi rs m (most : Nat) = ((roE s gi rs most m).length : Nat) := by
  have : (pvB s gi rs && mvd m s && inr (most : Nat) 1 4) = true := by
    unfold nvB at h; rw [Bool.and_comm, ← Bool.and_assoc]; exact h
  unfold naL naR; rw [if_pos this, if_pos this, Int.toNat_natCast, naE_ro]; exact ⟨rfl, by simp⟩
set_option maxHeartbeats 4000000 in
theorem implNarrowAll (s : Int) (Ag : Option Addr) (n cg Bg : Nat) (gi : List Int) (Ar : Option Addr) (nr cr Br : Nat) (rs : List RuleM) (A : Option Addr) (c nm B : Nat) (m : List Int) (most : Int) (w : World) (hp : PGc w s Ag n cg Bg gi Ar nr cr Br rs) (h : Rd w B A nm m) (hBm : B ≤ w.heap.size) (hm64 : B64 m) (hm : nm ≤ 1099511627776) (hT : Tz w) (hsb : -9223372036854775808 ≤ s ∧ s ≤ 9223372036854775807) :
    Calls Tryz.prog 34 #[.agg #[.int .i64 s, .slice Ag n cg, .slice Ar nr cr], .slice A nm c, .int .i64 most] w fun e w' => ∃ A' n' c', e = .returned (.tuple #[.slice A' n' c', .int .i64 (naR s gi rs m most)]) ∧ Ow w' w.heap.size A' n' c' (naL s gi rs m most) ∧ Below w.heap.size w w' := by
  have hx0 := pbox_new w s Ag n cg Ar nr cr 26; obtain ⟨Wa, hWa⟩ : ∃ Wa, w.alloc (.cells #[.int .i64 s, .slice Ag n cg, .slice Ar nr cr] 26) = Wa := ⟨_, rfl⟩; rw [hWa] at hx0
  have hba : Below w.heap.size w Wa := by rw [← hWa]; exact (Below.refl _ _).alloc (Nat.le_refl _) _
  have hsa : Wa.heap.size = w.heap.size + 1 := by rw [← hWa]; simp
  obtain ⟨z0, z1, z2⟩ := id hx0; have HV := Lib.hid (narrowingValid_any s Ag n cg Bg gi Ar nr cr Br rs A nm c B m most Wa (hp.below hba) (h.below (hba.mono hBm)) (Nat.le_trans hBm hba.size) hm64 hm hsb); have HX := Lib.hid (fun w' (hb : Below Wa.heap.size Wa w') => hx0.below (show w.heap.size < Wa.heap.size by omega) hb); have HBa := Lib.hid hba; refine (callsIn_wide (n := 9)).1 ?_; refine callsIn_of_wp_marks Tryz.func34 rfl trivial ?_ rfl; simp only [Tryz.ntmps34, List.size_toArray, List.length_cons, List.length_nil, Nat.reduceAdd, Nat.reduceSub, Array.replicate_succ, Array.replicate_zero, List.push_toArray, List.append_toArray, List.nil_append, List.cons_append]
  cases hv : nvB s gi rs m most
  · obtain ⟨e1, e2⟩ := na_bad hv; rw [e1, e2]; rw [hv] at HV
    gi_wp2_with ((try refine ⟨trivial, ?_⟩); gi_at_call 72; refine (callsIn_wide.2 HV.out).mono ?_; rintro e w1 ⟨rfl, hb1⟩)
    exact ⟨_, results_tmp2 rfl _ _ _, none, 0, 0, rfl, Ow.nil_ _ _, step HBa.out hb1⟩
  · obtain ⟨⟨t1, t4⟩, hpv, hmv, S, rfl, hS⟩ := nv_ok hv; obtain ⟨M, rfl⟩ := Int.eq_ofNat_of_zero_le (show 0 ≤ most by omega); obtain ⟨e1, e2⟩ := na_good hv; rw [e1, e2]; rw [hv] at HV; obtain ⟨_, hsq, hnm16, _⟩ := mvd_at hmv; rw [h.1] at hsq hnm16
    have hnm0 : 0 < nm := by
      simp at hS
      rcases hS with rfl | rfl | rfl <;> omega
    have HN := Lib.hid (fun (w' : World) (hb : Below w.heap.size w w') => narrower_any S Ag n cg Bg gi Ar nr cr Br rs M w' (hp.below hb) hpv hS (by omega)); have HM := Lib.hid (fun (w' : World) (hb : Below w.heap.size w w') => h.below (hb.mono hBm)); have HCl := Lib.hid (fun (w' : World) (hb : Below w.heap.size w w') => clone_any A nm c B m w' (h.below (hb.mono hBm)) (Nat.le_trans hBm hb.size) hnm0 hm); have HTz := Lib.hid (fun (w' : World) (hb : Below w.heap.size w w') => hT.below hT.lt hb); have Hml := Lib.hid h.1; have Hpv := Lib.hid hpv; have Hmv := Lib.hid hmv; have hp0 := hp.rB; have HTl := Lib.hid hT.lt
    have HLen := Lib.hid (roE_len (rs := rs) (gi := gi) hpv (show M ≤ 4 by omega) hmv); have HMem := Lib.hid (roE_mem (rs := rs) (gi := gi) hpv (show M ≤ 4 by omega) hmv); clear e1 e2 hv hpv hmv hsq h hp hT hx0 hba; have hBr0 := hp0
    gi_wp2_with (first
      | ((try refine ⟨trivial, ?_⟩); gi_at_call 72; refine (callsIn_wide.2 HV.out).mono ?_; rintro e w1 ⟨rfl, hb1⟩; obtain ⟨c0, c1, c2⟩ := HX.out _ hb1; have h01 := step HBa.out hb1)
      | ((try refine ⟨trivial, ?_⟩); gi_at_call 58; refine (callsIn_wide.2 (HCl.out _ h01)).mono ?_; rintro e w2 ⟨A1, c1', rfl, ho1, hb2⟩; have h02 := step h01 hb2; have ha4 : Below w2.heap.size w2 ((w2.alloc (.cells #[.slice A1 nm c1'] 23)).alloc (.cells #[.int .i64 0] 3)) := (((Below.refl _ _).alloc (Nat.le_refl _) _).alloc (by simp) _); have h04 := step h02 ha4; obtain ⟨d0, d1, d2⟩ := HX.out _ (step (step hb1 hb2) ha4))
      | ((try refine ⟨trivial, ?_⟩); gi_at_call 73; refine (callsIn_wide.2 (HN.out _ h04)).mono ?_; rintro e w5 ⟨A2, n2, c2', rfl, hN2, hb5⟩)
      | ((try refine ⟨trivial, ?_⟩); gi_at_call 74; refine (callsIn_wide.2 (rounds_any S A2 n2 c2' A nm c M w5)).mono ?_; rintro e w6 ⟨NB, MB, SB, rfl, hnb, hmb, hsb', hNl, hMl, hSl, hb6⟩))
    obtain ⟨w4, hw4⟩ : ∃ w4, (w2.alloc (.cells #[.slice A1 nm c1'] 23)).alloc (.cells #[.int .i64 0] 3) = w4 := ⟨_, rfl⟩
    have hs4 : w4.heap.size = w2.heap.size + 2 := by rw [← hw4]; simp
    have hr1 : w4.heap[w2.heap.size]? = some (.cells #[.slice A1 nm c1'] 23) := by
      rw [← hw4]; exact (Below.heap_alloc _ _ _ (by simp)).trans (heap_alloc_new w2 _)
    have hr2 : w4.heap[w2.heap.size + 1]? = some (.cells #[.int .i64 0] 3) := by
      rw [← hw4]; have := heap_alloc_new (w2.alloc (.cells #[.slice A1 nm c1'] 23)) (.cells #[.int .i64 0] 3); rwa [World.size_alloc] at this
    rw [hw4] at ha4 h04 hN2 hb5; have h45 := hb5.size; have h56 := hb6.size; have h24 := h02.size; have hb46 : Below w4.heap.size w4 w6 := step hb5 hb6; have h06 := step h04 hb46; have hr16 := (hb46.block _ (by omega)).trans hr1; have hr26 := (hb46.block _ (by omega)).trans hr2; have ho16 := ((ho1.mono h01.size).below ha4).below hb46; have hNBl := (Array.getElem?_eq_some_iff.1 hnb).1; have hMBl := cell_lt hmb; have hSBl := cell_lt hsb'; have HM6 := HM.out _ h06; have HT6 := HTz.out _ h06; have hTl := HT6.lt; have hTz0 := HTl.out
    have hNl8 : w4.heap.size ≤ NB := by omega
    have hMl8 : w4.heap.size ≤ MB := by omega
    have hSl8 : w4.heap.size ≤ SB := by omega
    have hN6 : 4 ≤ M → TbR w6 w4.heap.size w5.heap.size Br S rs A2 n2 := fun e => (hN2 e).below hb6 (by omega)
    have hgA : ∀ g, (Value.slice A1 nm c1').ownBlock = some g → g < w4.heap.size := fun g hg => by have := ho1.own_hi g hg; omega
    clear d0 d1 d2 c0 c1 c2 z0 z1 z2 HX HV HCl HN hr1 hr2 hw4 hN2
    refine range_rounds2 9 (q := 11) (by rfl) (enters_of Tryz.func116 (by kernel_rfl) rfl) (rounds_seq NB MB SB S w4.heap.size Br A2 n2 c2' w5.heap.size gi rs A nm c B m M hS Hpv.out Hmv.out (by omega) Hml.out)
      (fun pre X => RBase NB MB SB S w4.heap.size Br A2 n2 c2' w5.heap.size rs A nm c B m M X ∧ (∃ A' c', X.heap[w2.heap.size]? = some (.cells #[.slice A' nm c'] 23) ∧ Ow X w.heap.size A' nm c' (lastO m pre) ∧ ∀ g, (Value.slice A' nm c').ownBlock = some g → g ≠ w6.heap.size ∧ g ≠ w6.heap.size + 1) ∧ X.heap[w2.heap.size + 1]? = some (.cells #[.int .i64 (pre.length : Nat)] 3) ∧ Below w.heap.size w X ∧ w6.heap.size ≤ X.heap.size)
      (fun cc X => False)
      (fun pre X h => h.1)
      (fun pre X Y h hA => by
        obtain ⟨h1, ⟨A', c', h2, h3, h4⟩, h5, h6, h7⟩ := h; have hb := hA.below h7
        exact ⟨h1.below hb hNBl hMBl hSBl (by omega) (by omega) (by omega), ⟨A', c', (hb.block _ (by omega)).trans h2, h3.same_own8 hnm0 (fun g e => hA.block g (h3.own_hi g e) (h4 g e).1 (h4 g e).2), h4⟩, (hb.block _ (by omega)).trans h5, h6.trans (hb.mono (by omega)), Nat.le_trans h7 hA.size⟩)
      (fun cc X Y h hA => h)
      ⟨⟨hnb, hmb, hsb', hN6, by omega, by omega, HM6, by omega, HT6⟩, ⟨A1, c1', hr16, ho16, fun g hg => by have := hgA g hg; omega⟩, hr26, h06, Nat.le_refl _⟩ ?assign ?body ?done ?stop
    case assign =>
      intro l u v W K hK; simp only [List.setIfInBounds_toArray, List.set_cons_zero, List.set_cons_succ] at hK ⊢
      gi_wp2
      exact hK
    case body =>
      rintro l pre t x X b n' c' ⟨hbX, ⟨A', cc, hrX, hoX, hgX⟩, hqX, hBX, hDX⟩ ⟨tl, htl⟩ hbb hXs hrd hDo hLo
      have hxl : x.length = nm := by
        have := (HMem.out (t, x) (by rw [htl]; simp)).2.2.2.1; rw [this, Hml.out]
      obtain rfl : n' = nm := by rw [← hrd.len]; exact hxl
      have hpl : pre.length < 480 := by
        have := HLen.out; rw [htl, List.length_append, List.length_cons] at this; omega
      have hcr := cell_of_row _ _ 0 _ _ (0, 0) hrX; have hfr := frozen_of_row _ _ 0 _ _ hrX; have hcq := cell_of_row _ _ 0 _ _ (0, 0) hqX; have hfq := frozen_of_row _ _ 0 _ _ hqX
      have hwr : IntKind.i64.wrap ((pre.length : Int) + 1) = ((pre.length + 1 : Nat) : Int) := by
        have := HLen.out; rw [IntWalk.i64_in _ (by omega)]; simp
      have HPost := Lib.hid (fun (Y : World) (a' : Act) (hY : Two X Y w2.heap.size (w2.heap.size + 1) (.cells #[.slice (some ⟨b, 0, none⟩) n' c'] 23) (.cells #[.int .i64 (IntKind.i64.wrap ((pre.length : Int) + 1))] 3)) => show rndPost w6.heap.size b (fun pre X => RBase NB MB SB S w4.heap.size Br A2 n2 c2' w5.heap.size rs A n' c B m M X ∧ (∃ A' c', X.heap[w2.heap.size]? = some (.cells #[.slice A' n' c'] 23) ∧ Ow X w.heap.size A' n' c' (lastO m pre) ∧ ∀ g, (Value.slice A' n' c').ownBlock = some g → g ≠ w6.heap.size ∧ g ≠ w6.heap.size + 1) ∧ X.heap[w2.heap.size + 1]? = some (.cells #[.int .i64 (pre.length : Nat)] 3) ∧ Below w.heap.size w X ∧ w6.heap.size ≤ X.heap.size) (fun cc X => False) (pre ++ [(t, x)]) X Exit.normal a' Y from by
        refine ⟨⟨Nat.le_of_eq hY.size.symm, fun k hk => hY.other k (by omega) (by omega)⟩, hbX.keep (fun k k1 _ => hY.other k (by omega) (by omega)) (hY.below (B := w.heap.size) (by omega) (by omega)) hBr0 hBm hTz0 hNl8 hMl8 hSl8, ⟨some ⟨b, 0, none⟩, c', hY.b1, ?_, fun g hg => ?_⟩, ?_, hBX.trans (hY.below (by omega) (by omega)), by rw [hY.size]; exact hDX⟩
        · rw [lastO_push]; exact (hrd.mono (by omega)).same (hY.other b (by omega) (by omega))
        · have e : b = g := Option.some.inj hg; omega
        · rw [hY.b2, hwr, List.length_append]; rfl)
      simp only [List.setIfInBounds_toArray, List.set_cons_zero, List.set_cons_succ]; clear hwr hbX hBX hrd hgX hoX hDo hLo
      gi_wp2
      gi_region
      all_goals
        gi_wp2
        first
          | exact HPost.out _ _ (Two.mk12 hrX hqX (by omega))
          | exact HPost.out _ _ (Two.mk21 hrX hqX (by omega))
    case done =>
      rintro D W hD ⟨hbX, ⟨A', cc, hrX, hoX, hgX⟩, hqX, hBX, hDX⟩ hK; have hcr := cell_of_row _ _ 0 _ _ (0, 0) hrX; have hcq := cell_of_row _ _ 0 _ _ (0, 0) hqX
      have hgD : ∀ g, (Value.slice A' nm cc).ownBlock = some g → g ≠ D := fun g e e2 => by
        subst e2; obtain ⟨g', e3, _, _⟩ := hoX.form hnm0; subst e3; obtain ⟨h1, h2⟩ := hoX.cell hnm0
        injection e with e
        subst e; rw [none_of_deferred8 hK] at h1; cases h1
      have HO := Lib.hid hoX; have HBX := Lib.hid hBX; clear hbX hoX hBX
      gi_wp2
      gi_region
      all_goals
        gi_wp2
        have hK2 : W.drew.heap[D]? = some (.deferred (some [])) := hK; refine ⟨by simp, .inl ⟨_, _, rfl, run_takeDeferred hK2, ?_⟩⟩; refine ⟨_, results_tmp2 rfl _ _ _, ?_⟩; have hOd : Ow W.drew w.heap.size A' nm cc (lastO m (roE (S : Int) gi rs M m)) := World.ownsRow.drew HO.out; exact ⟨A', nm, cc, rfl, hOd.same_own8 hnm0 (fun g e => World.putObj_heap_other (fun e2 => hgD g e e2)), HBX.out.drew.trans (below_put _ (by omega) hK2)⟩
    case stop =>
      rintro D cc W hD h hK; exact h.elim
end Go.Proofs.YtcjdjcpappfkgaaGreatDoor
namespace Go.Proofs.YtcjdjcpappfkgaaGreatDoor
open Go.ChangeShapes Go.WideShapes Go.ChangeAt Go.RowKit
theorem implMasksGrid : IMasksGrid := by
  intro A c n B xs size w h hx64 hT hB hm hsz; have hlen := Lib.hid h.1; have Hmv := Lib.hid (fun w (h : Rd w B A n xs) hB => implMasksValid A c n B xs size w h hx64 hB hm hsz); cases hg : mvd xs size
  · have HL := Lib.hid (show mgL xs size = [] by simp [mgL, hg])
    go_enter Tryz.func41, Tryz.ntmps41
    go_wp2_with (go_at_call 70; refine (Hmv.out _ h hB).mono ?_; rintro e w1 ⟨rfl, hb1⟩; rw [hg])
    go_ret
    rw [HL.out]; exact ⟨_, _, rfl, Ow.nil_ _ _, hb1⟩
  · obtain ⟨i0, hi, hz0, hz1, hz2⟩ := info_parts int_info; have HL := Lib.hid (show mgL xs size = mapTo (mgG xs) n by simp [mgL, hg, hlen.out]); obtain ⟨_, _, h16, hat⟩ := mvd_at hg; rw [hlen.out] at h16 hat; have Hat := Lib.hid hat; clear hat
    go_enter Tryz.func41, Tryz.ntmps41
    go_wp2_with (first
      | (go_at_call 70; refine (Hmv.out _ h hB).mono ?_; rintro e w1 ⟨rfl, hb1⟩; rw [hg])
      | (refine wpList_make_full _ rfl (.tmp 13) (.tmp 13) 23 rfl w.heap.size 3 i0 (.int .i64 0) 1 Tryz.underlying23 hi hz0 hz1 .i64 .i64 n n n rfl rfl rfl rfl (by rw [hz2]; omega) (by simp only [maxLen]; omega) hb1.size ?_; intro w2 hown hgr))
    have ho2 := made_part (mapTo (mgG xs) n) hown; have hb2 := step hb1 (made_below hgr (Nat.le_refl _)); obtain ⟨M, hM⟩ : ∃ M, M = w1.heap.size := ⟨_, rfl⟩; rw [← hM] at ho2; rw [← hM]
    have hlo : w.heap.size ≤ M := by have := hb1.size; omega
    clear hown hgr hz0 hz1 hz2 hi hM
    go_loopw [17] (fun i wr => ∃ k : Nat, k ≤ n ∧ i = .int .i64 k ∧ Ow wr w.heap.size (some ⟨M, 0, none⟩) n n (part (mapTo (mgG xs) n) k n) ∧ Below w.heap.size w wr) (fun i _ => n - (intOf i).toNat)
    case atStart => exact ⟨0, Nat.zero_le _, rfl, ho2, hb2⟩
    case round =>
      obtain ⟨k, hk, rfl, ho, hb⟩ := hrel
      by_cases hlt : k < n
      · obtain ⟨b, off, rfl, hbB, hck⟩ := (h.below (hb.mono hB)).at_ hlt; obtain ⟨x0, x1, x2⟩ := Hat.out k hlt; have hst := (World.ownsRow.stored ho k (.int .i64 (nth (mapTo (mgG xs) n) k))).1; rw [part_set, mapTo_nth hlt] at hst; have Hst := Lib.hid hst; clear hst; obtain ⟨m, hv⟩ := Int.eq_ofNat_of_zero_le x0; rw [hv] at hck; have hm2 : m % 2 = 0 := (by rw [hv, Int.tmod_eq_emod_of_nonneg (by omega)] at x2; omega)
        have Hg := Lib.hid (show oneOf (bitsTo m 4) = mgG xs k by
          simp only [mgG, hv, maskVals]; rw [if_pos (by simp only [mvOk, inr, Bool.and_eq_true, decide_eq_true_eq, beq_iff_eq]; rw [← hv]; exact ⟨⟨x0, x1⟩, x2⟩)]
          rfl)
        have Hone := Lib.hid (fun w hT => onlyValue_any m (by omega) hm2 w hT); have hTr := hT.below hT.lt hb; obtain ⟨hold, hfr⟩ := ho.cell hlt; clear hm2 x0 x1 x2
        go_wp2_with (go_at_call 83; refine (Hone.out _ hTr).mono ?_; rintro e w' ⟨rfl, rfl⟩; rw [Hg.out])
        go_roundw
        case rel => exact ⟨k + 1, by omega, by go_num, Hst.out, hb.setCell (p := (⟨M, k, none⟩ : Addr)) hlo _⟩
        case measure => simp [intOf]; omega
      · obtain rfl : k = n := by omega
        have hp : part (mapTo (mgG xs) k) k k = mapTo (mgG xs) k := part_all' (mapTo_length _ _); rw [hp] at ho
        go_wp2
        go_ret
        rw [HL.out]; exact retSl_mk ho hb
def sVal (G OB RB n : Nat) : Value := .agg #[.slice (some ⟨G, 0, none⟩) n n, .slice (some ⟨OB, 0, none⟩) n n, .slice (some ⟨RB, 0, none⟩) n n]
def holdsR (ys : List Int) (r : RuleM) : Bool := holdsB r.k r.v (pks ys r.xs r.xs.length)
def holdsQ (ys : List Int) (q : List RuleM) : Bool := (List.range q.length).all fun i => holdsR ys (rat q i)
def SBox (w : World) (g G OB RB n : Nat) : Prop := w.cell? ⟨g, 0, none⟩ = some (.slice (some ⟨G, 0, none⟩) n n) ∧ w.cell? ⟨g, 1, none⟩ = some (.slice (some ⟨OB, 0, none⟩) n n) ∧ w.cell? ⟨g, 2, none⟩ = some (.slice (some ⟨RB, 0, none⟩) n n)
theorem SBox.below {w w' : World} {g B G OB RB n : Nat} (h : SBox w g G OB RB n) (hg : g < B) (hb : Below B w w') : SBox w' g G OB RB n :=
  ⟨(hb.cell (p := ⟨g, 0, none⟩) hg).trans h.1, (hb.cell (p := ⟨g, 1, none⟩) hg).trans h.2.1, (hb.cell (p := ⟨g, 2, none⟩) hg).trans h.2.2⟩
theorem SBox.lt {w : World} {g G OB RB n : Nat} (h : SBox w g G OB RB n) : g < w.heap.size := cell_lt h.1
theorem sbox_new (w : World) (G OB RB n : Nat) (t : TypeId) : SBox (w.alloc (.cells #[.slice (some ⟨G, 0, none⟩) n n, .slice (some ⟨OB, 0, none⟩) n n, .slice (some ⟨RB, 0, none⟩) n n] t)) w.heap.size G OB RB n :=
  ⟨cell_of_row _ _ 0 _ _ (0, 0) (heap_alloc_new w _), cell_of_row _ _ 1 _ _ (0, 0) (heap_alloc_new w _), cell_of_row _ _ 2 _ _ (0, 0) (heap_alloc_new w _)⟩
theorem nHolds1 (k v : Int) (A : Option Addr) (n c : Nat) (w : World) : (nilAhead 311 186 (.agg #[.int .i64 k, .slice A n c, .int .i64 v]) "loop.example/gridpuzzles/impl.holdsWith").run Tryz.prog w = .ok (some false) w := by kernel_rfl
theorem nHolds2 (k v : Int) (A : Option Addr) (n c : Nat) (w : World) : (nilAhead 311 187 (.agg #[.int .i64 k, .slice A n c, .int .i64 v]) "loop.example/gridpuzzles/impl.holdsWith").run Tryz.prog w = .ok (some false) w := by kernel_rfl
theorem nHolds3 (k v : Int) (A : Option Addr) (n c : Nat) (w : World) : (nilAhead 311 188 (.agg #[.int .i64 k, .slice A n c, .int .i64 v]) "loop.example/gridpuzzles/impl.holdsWith").run Tryz.prog w = .ok (some false) w := by kernel_rfl
theorem nHolds4 (k v : Int) (A : Option Addr) (n c : Nat) (w : World) : (nilAhead 311 189 (.agg #[.int .i64 k, .slice A n c, .int .i64 v]) "loop.example/gridpuzzles/impl.holdsWith").run Tryz.prog w = .ok (some false) w := by kernel_rfl
theorem nHolds5 (k v : Int) (A : Option Addr) (n c : Nat) (w : World) : (nilAhead 311 190 (.agg #[.int .i64 k, .slice A n c, .int .i64 v]) "loop.example/gridpuzzles/impl.holdsWith").run Tryz.prog w = .ok (some false) w := by kernel_rfl
set_option maxHeartbeats 2000000 in
theorem rulesHold_any (W0 : World) (B0 G OB RB n L p : Nat) (s : Int) (A : Option Addr) (cap : Nat) (q : List RuleM) (ys : List Int) (X : World)
    (hrow : X.cell? ⟨RB, p, none⟩ = some (.slice A q.length cap)) (hq : RdW W0 B0 X L A q) (h0 : Below B0 W0 X) (hB0 : B0 ≤ W0.heap.size) (hp : p < n) (hg : Rd X X.heap.size (some ⟨G, 0, none⟩) n ys) (hql : q.length ≤ 1099511627776)
    (hv : ∀ i, i < q.length → rvR s (rat q i) = true) (hin : ∀ i, i < q.length → ∀ j, j < (rat q i).xs.length → 0 ≤ nth (rat q i).xs j ∧ nth (rat q i).xs j < n) (hsm : ∀ i, i < q.length → small4 (pks ys (rat q i).xs (rat q i).xs.length) (rat q i).xs.length) :
    Calls Tryz.prog 152 #[sVal G OB RB n, .int .i64 p] X fun e Y => e = .returned (.bool (holdsQ ys q)) ∧ Below X.heap.size X Y := by
  unfold sVal; have hx0 := sbox_new X G OB RB n 124; have hb0 : Below X.heap.size X (X.alloc (.cells #[.slice (some ⟨G, 0, none⟩) n n, .slice (some ⟨OB, 0, none⟩) n n, .slice (some ⟨RB, 0, none⟩) n n] 124)) := (Below.refl _ _).alloc (Nat.le_refl _) _
  have hs0 : X.heap.size + 1 ≤ (X.alloc (.cells #[.slice (some ⟨G, 0, none⟩) n n, .slice (some ⟨OB, 0, none⟩) n n, .slice (some ⟨RB, 0, none⟩) n n] 124)).heap.size := by simp
  obtain ⟨z0, z1, z2⟩ := id hx0; have hrw := cell_lt hrow; have hrow0 := (hb0.cell (p := ⟨RB, p, none⟩) hrw).trans hrow
  have hpI : (p : Int) < (n : Int) := by omega
  have HQ := Lib.hid hq; have HG := Lib.hid hg; have H0 := Lib.hid h0; have HV := Lib.hid hv; have HIN := Lib.hid hin; have HSM := Lib.hid hsm; obtain ⟨l, hl⟩ : ∃ l, l = q.length := ⟨_, rfl⟩; rw [← hl] at hrow0 hql; have Hl := Lib.hid hl; clear hl hrow hq hg h0 hv hin hsm
  go_enter Tryz.func152, Tryz.ntmps152
  go_wp2
  go_loopw [13] (fun i wr => ∃ u : Nat, u ≤ l ∧ i = .int .i64 u ∧ Hid (allR (holdsR ys) q u) ∧ SBox wr X.heap.size G OB RB n ∧ Below X.heap.size X wr ∧ X.heap.size + 1 ≤ wr.heap.size) (fun i _ => l - (intOf i).toNat)
  case atStart => exact ⟨0, Nat.zero_le _, rfl, Lib.hid (fun j hj => absurd hj (by omega)), hx0, hb0, hs0⟩
  case round =>
    obtain ⟨u, hu, rfl, hall, hx, hb, hsw⟩ := hrel; obtain ⟨c0, c1, c2⟩ := id hx
    by_cases hlt : u < l
    · have hltq : u < q.length := by rw [← Hl.out]; exact hlt
      obtain ⟨b, rfl, hbL, hcc⟩ := HQ.out (by omega); obtain ⟨A', c', r0, r1, r2, r3, r5⟩ := hcc u hltq; have hv0 := HV.out u hltq; have hxin0 := HIN.out u hltq; have hsm0 := HSM.out u hltq; have hHR : holdsR ys (rat q u) = holdsB (rat q u).k (rat q u).v (pks ys (rat q u).xs (rat q u).xs.length) := rfl; obtain ⟨rk, hrk⟩ : ∃ x, x = (rat q u).k := ⟨_, rfl⟩; obtain ⟨rx, hrx⟩ : ∃ x, x = (rat q u).xs := ⟨_, rfl⟩; obtain ⟨rvv, hrv⟩ : ∃ x, x = (rat q u).v := ⟨_, rfl⟩; have hv1 : rv rk rx rvv s = true := (by rw [hrk, hrx, hrv]; exact hv0); rw [← hrk, ← hrx, ← hrv] at hHR; rw [← hrk] at r0; rw [← hrx] at r1 r3 r5 hxin0 hsm0
      rw [← hrv] at r2; obtain ⟨_, ⟨hn1, hn4⟩, hk2, _⟩ := rv_facts rfl hv1; have hin' : (u : Int) < (l : Int) := (by omega); have hbX := cell_lt r0; have r0 := (hb.cell (p := ⟨b, u * 3, none⟩) hbX).trans r0; have r1 := (hb.cell (p := ⟨b, u * 3 + 1, none⟩) hbX).trans r1; have r2 := (hb.cell (p := ⟨b, u * 3 + 2, none⟩) hbX).trans r2; have hy := rbox_new wr rk A' rx.length c' rvv 87; have hb1 : Below wr.heap.size wr (wr.alloc (.cells #[.int .i64 rk, .slice A' rx.length c', .int .i64 rvv] 87)) := (Below.refl _ _).alloc (Nat.le_refl _) _; obtain ⟨y0, y1, y2⟩ := id hy; have hx1 := hx.below (Nat.lt_of_lt_of_le (Nat.lt_succ_self _) hsw) hb1
      obtain ⟨d0, d1, d2⟩ := id hx1; have hbw := hb.trans (hb1.mono hb.size); have hs1 : X.heap.size < (wr.alloc (.cells #[.int .i64 rk, .slice A' rx.length c', .int .i64 rvv] 87)).heap.size := (by simp; omega); have hs2 : wr.heap.size < (wr.alloc (.cells #[.int .i64 rk, .slice A' rx.length c', .int .i64 rvv] 87)).heap.size := (by simp); obtain ⟨W, hW⟩ : ∃ W, wr.alloc (.cells #[.int .i64 rk, .slice A' rx.length c', .int .i64 rvv] 87) = W := ⟨_, rfl⟩; rw [hW] at hy y0 y1 y2 hx1 d0 d1 d2 hbw hs1 hs2
      have HS : Hid (∀ w', Below W.heap.size W w' → w'.cell? ⟨wr.heap.size, 0, none⟩ = some (.int .i64 rk) ∧ w'.cell? ⟨wr.heap.size, 1, none⟩ = some (.slice A' rx.length c') ∧ w'.cell? ⟨wr.heap.size, 2, none⟩ = some (.int .i64 rvv) ∧ w'.cell? ⟨X.heap.size, 0, none⟩ = some (.slice (some ⟨G, 0, none⟩) n n)) :=
        Lib.hid (fun w' hb => by
          obtain ⟨e0, e1, e2⟩ := hy.below hs2 hb
          exact ⟨e0, e1, e2, (hx1.below hs1 hb).1⟩)
      have HPK := Lib.hid (fun w' (hb2 : Below W.heap.size W w') => implPick (some ⟨G, 0, none⟩) n n X.heap.size ys A' c' rx.length B0 rx w' (HG.out.below (hbw.trans (hb2.mono hbw.size))) (r3.below (H0.out.trans ((hbw.trans (hb2.mono hbw.size)).mono (Nat.le_trans hB0 H0.out.size)))) (Nat.le_trans hbw.size hb2.size) (Nat.le_trans (Nat.le_trans (Nat.le_trans hB0 H0.out.size) hbw.size) hb2.size) (by omega) hxin0); have Hpl := Lib.hid (pks_length ys rx rx.length); have Hsm := Lib.hid hsm0; have Hk := Lib.hid (rv_kind hv1); have Hk2 : rk = 1 ∨ rk = 2 ∨ rk = 3 ∨ 2 ≤ rx.length := hk2; obtain ⟨bb, hbb⟩ : ∃ bb, holdsB rk rvv (pks ys rx rx.length) = bb := ⟨_, rfl⟩
      have Hbb := Lib.hid hbb; have Hbw := Lib.hid hbw; have hx1' := Lib.hid hx1; have Hlt := Lib.hid hlt; have HR : Hid (holdsR ys (rat q u) = bb) := Lib.hid (hHR.trans hbb)
      have HU := Lib.hid (show ∀ b', bb = b' → (b' = false → holdsQ ys q = false) ∧ (b' = true → Hid (allR (holdsR ys) q (u + 1))) from fun b' e => ⟨fun h => not_all_rat rfl hltq (by rw [HR.out, e, h]), fun h => Lib.hid (fun i hi => by
        by_cases e2 : i = u
        · subst e2; rw [HR.out, e, h]
        · exact hall.out i (by omega))⟩)
      have Hofk := Lib.hid (fun w' => ofKind_any A' c' rx.length rk rvv w'); clear hrk hrx hrv hcc hsm0 hbb hv0 hv1 hx hb1 hHR hk2 hxin0 r3 hbX hltq hall hrow0
      rcases Hk.out with rfl | rfl | rfl | rfl | rfl
      · have M : ∀ w, (method 311 186 (.agg #[.int .i64 1, .slice A' rx.length c', .int .i64 rvv]) "loop.example/gridpuzzles/impl.holdsWith").run Tryz.prog w = .ok (199, .agg #[.int .i64 1, .slice A' rx.length c', .int .i64 rvv]) w := fun w => mHolds1 _ _ _ _ _ w
        have NA : ∀ w, (nilAhead 311 186 (.agg #[.int .i64 1, .slice A' rx.length c', .int .i64 rvv]) "loop.example/gridpuzzles/impl.holdsWith").run Tryz.prog w = .ok (some false) w := fun w => nHolds1 _ _ _ _ _ w
        have h2 : 4 ≤ 1 → 2 ≤ rx.length := (by omega); have Hofi : ofk 1 (rval 1 A' rx.length c' rvv) = .iface 186 (.agg #[.int .i64 1, .slice A' rx.length c', .int .i64 rvv]) := rfl; rw [Hofi] at Hofk; clear Hofi
        go_wp2_with fail
        go_region_held3 (fun w' => w'.cell? ⟨wr.heap.size, 0, none⟩ = some (.int .i64 1) ∧ w'.cell? ⟨wr.heap.size, 1, none⟩ = some (.slice A' rx.length c') ∧ w'.cell? ⟨wr.heap.size, 2, none⟩ = some (.int .i64 rvv) ∧ w'.cell? ⟨X.heap.size, 0, none⟩ = some (.slice (some ⟨G, 0, none⟩) n n))
          (first | go_keep | exact HS.out _ h6 | exact HS.out _ h3 | exact HS.out _ h5)
          ((first
            | (go_simp; go_at_call 199; refine (hold1 _ _ _ _ _ _ _ _ _ _ (by first | exact ho3.rd | exact ho3.rd.below hb5') (by first | exact Nat.le_refl _ | exact hb5'.size) hn4 ho3.le_cap Hsm h2).mono ?_; rw [Hbb.out]; rintro e w6 ⟨rfl, hb6'⟩; have h6 : Below W.heap.size W w6 := (by first | exact step h5 hb6' | exact step h3 hb6' | exact step h5.drew hb6' | exact step h3.drew hb6'))
            | (go_simp; go_at_call 162; refine (HPK.out _ (by first | exact (Below.refl _ _).drew | exact h5 | exact h5.drew | exact Below.refl _ _)).mono ?_; rintro e w3 ⟨A3, c3, rfl, ho3, hb3'⟩; rw [Hpl.out] at ho3 ⊢; have h3 : Below W.heap.size W w3 := (by first | exact ((Below.refl _ _).drew).trans hb3' | exact step h5 hb3' | exact step h5.drew hb3' | exact hb3'))
            | (go_simp; go_at_call 167; refine (Hofk.out _).mono ?_; rintro e w5 ⟨rfl, hb5'⟩; have h5 : Below W.heap.size W w5 := (by first | exact ((Below.refl _ _).drew).trans hb5' | exact step h3 hb5' | exact step h3.drew hb5' | exact hb5'))))
        all_goals
          cases bb
          · have HF := Lib.hid ((HU.out false rfl).1 rfl)
            go_wp2
            go_ret
            exact ⟨by rw [HF.out]; rfl, step Hbw.out h6⟩
          · have HT := (HU.out true rfl).2 rfl
            go_wp2
            go_roundw
            case rel => exact ⟨u + 1, Hlt.out, by go_num, HT, hx1'.out.below hs1 h6, step Hbw.out h6, Nat.le_trans hs1 h6.size⟩
            case measure => have := Hlt.out; simp [intOf]; omega
      · have M : ∀ w, (method 311 187 (.agg #[.int .i64 2, .slice A' rx.length c', .int .i64 rvv]) "loop.example/gridpuzzles/impl.holdsWith").run Tryz.prog w = .ok (201, .agg #[.int .i64 2, .slice A' rx.length c', .int .i64 rvv]) w := fun w => mHolds2 _ _ _ _ _ w
        have NA : ∀ w, (nilAhead 311 187 (.agg #[.int .i64 2, .slice A' rx.length c', .int .i64 rvv]) "loop.example/gridpuzzles/impl.holdsWith").run Tryz.prog w = .ok (some false) w := fun w => nHolds2 _ _ _ _ _ w
        have h2 : 4 ≤ 2 → 2 ≤ rx.length := (by omega); have Hofi : ofk 2 (rval 2 A' rx.length c' rvv) = .iface 187 (.agg #[.int .i64 2, .slice A' rx.length c', .int .i64 rvv]) := rfl; rw [Hofi] at Hofk; clear Hofi
        go_wp2_with fail
        go_region_held3 (fun w' => w'.cell? ⟨wr.heap.size, 0, none⟩ = some (.int .i64 2) ∧ w'.cell? ⟨wr.heap.size, 1, none⟩ = some (.slice A' rx.length c') ∧ w'.cell? ⟨wr.heap.size, 2, none⟩ = some (.int .i64 rvv) ∧ w'.cell? ⟨X.heap.size, 0, none⟩ = some (.slice (some ⟨G, 0, none⟩) n n))
          (first | go_keep | exact HS.out _ h6 | exact HS.out _ h3 | exact HS.out _ h5)
          ((first
            | (go_simp; go_at_call 201; refine (hold2 _ _ _ _ _ _ _ _ _ _ (by first | exact ho3.rd | exact ho3.rd.below hb5') (by first | exact Nat.le_refl _ | exact hb5'.size) hn4 ho3.le_cap Hsm h2).mono ?_; rw [Hbb.out]; rintro e w6 ⟨rfl, hb6'⟩; have h6 : Below W.heap.size W w6 := (by first | exact step h5 hb6' | exact step h3 hb6' | exact step h5.drew hb6' | exact step h3.drew hb6'))
            | (go_simp; go_at_call 162; refine (HPK.out _ (by first | exact (Below.refl _ _).drew | exact h5 | exact h5.drew | exact Below.refl _ _)).mono ?_; rintro e w3 ⟨A3, c3, rfl, ho3, hb3'⟩; rw [Hpl.out] at ho3 ⊢; have h3 : Below W.heap.size W w3 := (by first | exact ((Below.refl _ _).drew).trans hb3' | exact step h5 hb3' | exact step h5.drew hb3' | exact hb3'))
            | (go_simp; go_at_call 167; refine (Hofk.out _).mono ?_; rintro e w5 ⟨rfl, hb5'⟩; have h5 : Below W.heap.size W w5 := (by first | exact ((Below.refl _ _).drew).trans hb5' | exact step h3 hb5' | exact step h3.drew hb5' | exact hb5'))))
        all_goals
          cases bb
          · have HF := Lib.hid ((HU.out false rfl).1 rfl)
            go_wp2
            go_ret
            exact ⟨by rw [HF.out]; rfl, step Hbw.out h6⟩
          · have HT := (HU.out true rfl).2 rfl
            go_wp2
            go_roundw
            case rel => exact ⟨u + 1, Hlt.out, by go_num, HT, hx1'.out.below hs1 h6, step Hbw.out h6, Nat.le_trans hs1 h6.size⟩
            case measure => have := Hlt.out; simp [intOf]; omega
      · have M : ∀ w, (method 311 188 (.agg #[.int .i64 3, .slice A' rx.length c', .int .i64 rvv]) "loop.example/gridpuzzles/impl.holdsWith").run Tryz.prog w = .ok (204, .agg #[.int .i64 3, .slice A' rx.length c', .int .i64 rvv]) w := fun w => mHolds3 _ _ _ _ _ w
        have NA : ∀ w, (nilAhead 311 188 (.agg #[.int .i64 3, .slice A' rx.length c', .int .i64 rvv]) "loop.example/gridpuzzles/impl.holdsWith").run Tryz.prog w = .ok (some false) w := fun w => nHolds3 _ _ _ _ _ w
        have h2 : 4 ≤ 3 → 2 ≤ rx.length := (by omega); have Hofi : ofk 3 (rval 3 A' rx.length c' rvv) = .iface 188 (.agg #[.int .i64 3, .slice A' rx.length c', .int .i64 rvv]) := rfl; rw [Hofi] at Hofk; clear Hofi
        go_wp2_with fail
        go_region_held3 (fun w' => w'.cell? ⟨wr.heap.size, 0, none⟩ = some (.int .i64 3) ∧ w'.cell? ⟨wr.heap.size, 1, none⟩ = some (.slice A' rx.length c') ∧ w'.cell? ⟨wr.heap.size, 2, none⟩ = some (.int .i64 rvv) ∧ w'.cell? ⟨X.heap.size, 0, none⟩ = some (.slice (some ⟨G, 0, none⟩) n n))
          (first | go_keep | exact HS.out _ h6 | exact HS.out _ h3 | exact HS.out _ h5)
          ((first
            | (go_simp; go_at_call 204; refine (hold3 _ _ _ _ _ _ _ _ _ _ (by first | exact ho3.rd | exact ho3.rd.below hb5') (by first | exact Nat.le_refl _ | exact hb5'.size) hn4 ho3.le_cap Hsm h2).mono ?_; rw [Hbb.out]; rintro e w6 ⟨rfl, hb6'⟩; have h6 : Below W.heap.size W w6 := (by first | exact step h5 hb6' | exact step h3 hb6' | exact step h5.drew hb6' | exact step h3.drew hb6'))
            | (go_simp; go_at_call 162; refine (HPK.out _ (by first | exact (Below.refl _ _).drew | exact h5 | exact h5.drew | exact Below.refl _ _)).mono ?_; rintro e w3 ⟨A3, c3, rfl, ho3, hb3'⟩; rw [Hpl.out] at ho3 ⊢; have h3 : Below W.heap.size W w3 := (by first | exact ((Below.refl _ _).drew).trans hb3' | exact step h5 hb3' | exact step h5.drew hb3' | exact hb3'))
            | (go_simp; go_at_call 167; refine (Hofk.out _).mono ?_; rintro e w5 ⟨rfl, hb5'⟩; have h5 : Below W.heap.size W w5 := (by first | exact ((Below.refl _ _).drew).trans hb5' | exact step h3 hb5' | exact step h3.drew hb5' | exact hb5'))))
        all_goals
          cases bb
          · have HF := Lib.hid ((HU.out false rfl).1 rfl)
            go_wp2
            go_ret
            exact ⟨by rw [HF.out]; rfl, step Hbw.out h6⟩
          · have HT := (HU.out true rfl).2 rfl
            go_wp2
            go_roundw
            case rel => exact ⟨u + 1, Hlt.out, by go_num, HT, hx1'.out.below hs1 h6, step Hbw.out h6, Nat.le_trans hs1 h6.size⟩
            case measure => have := Hlt.out; simp [intOf]; omega
      · have M : ∀ w, (method 311 189 (.agg #[.int .i64 4, .slice A' rx.length c', .int .i64 rvv]) "loop.example/gridpuzzles/impl.holdsWith").run Tryz.prog w = .ok (206, .agg #[.int .i64 4, .slice A' rx.length c', .int .i64 rvv]) w := fun w => mHolds4 _ _ _ _ _ w
        have NA : ∀ w, (nilAhead 311 189 (.agg #[.int .i64 4, .slice A' rx.length c', .int .i64 rvv]) "loop.example/gridpuzzles/impl.holdsWith").run Tryz.prog w = .ok (some false) w := fun w => nHolds4 _ _ _ _ _ w
        have h2 : 4 ≤ 4 → 2 ≤ rx.length := (by omega); have Hofi : ofk 4 (rval 4 A' rx.length c' rvv) = .iface 189 (.agg #[.int .i64 4, .slice A' rx.length c', .int .i64 rvv]) := rfl; rw [Hofi] at Hofk; clear Hofi
        go_wp2_with fail
        go_region_held3 (fun w' => w'.cell? ⟨wr.heap.size, 0, none⟩ = some (.int .i64 4) ∧ w'.cell? ⟨wr.heap.size, 1, none⟩ = some (.slice A' rx.length c') ∧ w'.cell? ⟨wr.heap.size, 2, none⟩ = some (.int .i64 rvv) ∧ w'.cell? ⟨X.heap.size, 0, none⟩ = some (.slice (some ⟨G, 0, none⟩) n n))
          (first | go_keep | exact HS.out _ h6 | exact HS.out _ h3 | exact HS.out _ h5)
          ((first
            | (go_simp; go_at_call 206; refine (hold4 _ _ _ _ _ _ _ _ _ _ (by first | exact ho3.rd | exact ho3.rd.below hb5') (by first | exact Nat.le_refl _ | exact hb5'.size) hn4 ho3.le_cap Hsm h2).mono ?_; rw [Hbb.out]; rintro e w6 ⟨rfl, hb6'⟩; have h6 : Below W.heap.size W w6 := (by first | exact step h5 hb6' | exact step h3 hb6' | exact step h5.drew hb6' | exact step h3.drew hb6'))
            | (go_simp; go_at_call 162; refine (HPK.out _ (by first | exact (Below.refl _ _).drew | exact h5 | exact h5.drew | exact Below.refl _ _)).mono ?_; rintro e w3 ⟨A3, c3, rfl, ho3, hb3'⟩; rw [Hpl.out] at ho3 ⊢; have h3 : Below W.heap.size W w3 := (by first | exact ((Below.refl _ _).drew).trans hb3' | exact step h5 hb3' | exact step h5.drew hb3' | exact hb3'))
            | (go_simp; go_at_call 167; refine (Hofk.out _).mono ?_; rintro e w5 ⟨rfl, hb5'⟩; have h5 : Below W.heap.size W w5 := (by first | exact ((Below.refl _ _).drew).trans hb5' | exact step h3 hb5' | exact step h3.drew hb5' | exact hb5'))))
        all_goals
          cases bb
          · have HF := Lib.hid ((HU.out false rfl).1 rfl)
            go_wp2
            go_ret
            exact ⟨by rw [HF.out]; rfl, step Hbw.out h6⟩
          · have HT := (HU.out true rfl).2 rfl
            go_wp2
            go_roundw
            case rel => exact ⟨u + 1, Hlt.out, by go_num, HT, hx1'.out.below hs1 h6, step Hbw.out h6, Nat.le_trans hs1 h6.size⟩
            case measure => have := Hlt.out; simp [intOf]; omega
      · have M : ∀ w, (method 311 190 (.agg #[.int .i64 5, .slice A' rx.length c', .int .i64 rvv]) "loop.example/gridpuzzles/impl.holdsWith").run Tryz.prog w = .ok (208, .agg #[.int .i64 5, .slice A' rx.length c', .int .i64 rvv]) w := fun w => mHolds5 _ _ _ _ _ w
        have NA : ∀ w, (nilAhead 311 190 (.agg #[.int .i64 5, .slice A' rx.length c', .int .i64 rvv]) "loop.example/gridpuzzles/impl.holdsWith").run Tryz.prog w = .ok (some false) w := fun w => nHolds5 _ _ _ _ _ w
        have h2 : 4 ≤ 5 → 2 ≤ rx.length := (by omega); have Hofi : ofk 5 (rval 5 A' rx.length c' rvv) = .iface 190 (.agg #[.int .i64 5, .slice A' rx.length c', .int .i64 rvv]) := rfl; rw [Hofi] at Hofk; clear Hofi
        go_wp2_with fail
        go_region_held3 (fun w' => w'.cell? ⟨wr.heap.size, 0, none⟩ = some (.int .i64 5) ∧ w'.cell? ⟨wr.heap.size, 1, none⟩ = some (.slice A' rx.length c') ∧ w'.cell? ⟨wr.heap.size, 2, none⟩ = some (.int .i64 rvv) ∧ w'.cell? ⟨X.heap.size, 0, none⟩ = some (.slice (some ⟨G, 0, none⟩) n n))
          (first | go_keep | exact HS.out _ h6 | exact HS.out _ h3 | exact HS.out _ h5)
          ((first
            | (go_simp; go_at_call 208; refine (hold5 _ _ _ _ _ _ _ _ _ _ (by first | exact ho3.rd | exact ho3.rd.below hb5') (by first | exact Nat.le_refl _ | exact hb5'.size) hn4 ho3.le_cap Hsm h2).mono ?_; rw [Hbb.out]; rintro e w6 ⟨rfl, hb6'⟩; have h6 : Below W.heap.size W w6 := (by first | exact step h5 hb6' | exact step h3 hb6' | exact step h5.drew hb6' | exact step h3.drew hb6'))
            | (go_simp; go_at_call 162; refine (HPK.out _ (by first | exact (Below.refl _ _).drew | exact h5 | exact h5.drew | exact Below.refl _ _)).mono ?_; rintro e w3 ⟨A3, c3, rfl, ho3, hb3'⟩; rw [Hpl.out] at ho3 ⊢; have h3 : Below W.heap.size W w3 := (by first | exact ((Below.refl _ _).drew).trans hb3' | exact step h5 hb3' | exact step h5.drew hb3' | exact hb3'))
            | (go_simp; go_at_call 167; refine (Hofk.out _).mono ?_; rintro e w5 ⟨rfl, hb5'⟩; have h5 : Below W.heap.size W w5 := (by first | exact ((Below.refl _ _).drew).trans hb5' | exact step h3 hb5' | exact step h3.drew hb5' | exact hb5'))))
        all_goals
          cases bb
          · have HF := Lib.hid ((HU.out false rfl).1 rfl)
            go_wp2
            go_ret
            exact ⟨by rw [HF.out]; rfl, step Hbw.out h6⟩
          · have HT := (HU.out true rfl).2 rfl
            go_wp2
            go_roundw
            case rel => exact ⟨u + 1, Hlt.out, by go_num, HT, hx1'.out.below hs1 h6, step Hbw.out h6, Nat.le_trans hs1 h6.size⟩
            case measure => have := Hlt.out; simp [intOf]; omega
    · obtain rfl : u = l := by omega
      have HL := Lib.hid (show holdsQ ys q = true from all_rat Hl.out.symm hall.out)
      go_wp2
      go_ret
      exact ⟨by rw [HL.out]; rfl, hb⟩
theorem low_idx : ∀ p, p < 16 → IntKind.u64.wrap (((2 ^ p : Nat) : Int) * 285870213051353865) / 288230376151711744 = ((tzI.getD p 0 : Nat) : Int) ∧ tzI.getD p 0 < 64 := by decide +kernel
theorem tz64_any (L p : Nat) (w : World) (hL : L < 2 ^ 64) (hb : L.testBit p = true) (h0 : ∀ j, j < p → L.testBit j = false) (hp : p < 16) (hT : Tz w) :
    Calls Tryz.prog 151 #[.int .u64 L] w fun e w' => e = .returned (.int .i64 p) ∧ w = w' := by
  have hpos : 0 < L := by
    rcases Nat.eq_zero_or_pos L with h | h
    · rw [h, Nat.zero_testBit] at hb; cases hb
    · exact h
  obtain ⟨k1, k2⟩ := low_idx p hp; refine tz64_core L p (tzI.getD p 0) w (by simp; omega) ?_ k2 (by omega) (hT p hp)
  have e : IntKind.u64.wrap (-(L : Int)) = ((2 ^ 64 - L : Nat) : Int) := by
    rw [IntKind.wrap_u64]; omega
  rw [e, bits_and_u64_nat L (2 ^ 64 - L) (by omega) (by omega), low_and hL hb h0 (by omega)]; exact k1
theorem pow_u64 {a : Nat} (h : a < 64) : IntKind.u64.wrap ((2 : Int) ^ a) = ((2 ^ a : Nat) : Int) := by
  have : 2 ^ a < 2 ^ 64 := Nat.pow_lt_pow_right (by omega) h; rw [IntKind.wrap_u64, pow_int]
  generalize 2 ^ a = p at *
  omega
theorem items_core (S : Int) (r q c v a b : Nat) (w : World) (hS : S = 2 ∨ S = 3 ∨ S = 4) (hr : (c : Int) / S = r) (hq : S + (c : Int) % S = q) (ha : (S + r) * S + v - 1 = a) (hb : (S + q) * S + v - 1 = b) (hc : c < 16) (ha48 : a < 48) (hb48 : b < 48) (hr8 : r < 8) (hq8 : q < 8) (hv : v ≤ 4) :
    Calls Tryz.prog 149 #[.int .i64 S, .int .i64 c, .int .i64 v] w fun e w' => e = .returned (.int .u64 ((2 ^ c ||| 2 ^ a ||| 2 ^ b : Nat) : Int)) ∧ Below w.heap.size w w' := by
  have pc : 2 ^ c < 2 ^ 64 := Nat.pow_lt_pow_right (by omega) (by omega); have pa : 2 ^ a < 2 ^ 64 := Nat.pow_lt_pow_right (by omega) (by omega); have pb : 2 ^ b < 2 ^ 64 := Nat.pow_lt_pow_right (by omega) (by omega); have o1 := Lib.hid (bits_or_u64_nat (2 ^ c) (2 ^ a) (by omega) (by omega)); have o2 := Lib.hid (bits_or_u64_nat (2 ^ c ||| 2 ^ a) (2 ^ b) (by have := Nat.or_lt_two_pow pc pa; omega) (by omega)); have Pc := Lib.hid (pow_u64 (a := c) (by omega)); have Pa := Lib.hid (pow_u64 (a := a) (by omega)); have Pb := Lib.hid (pow_u64 (a := b) (by omega)); have HL := Lib.hid (linesThrough_rc S c r q w (by omega) (by omega) hc hr hq)
  clear pc pa pb hr hq
  rcases hS with rfl | rfl | rfl
  all_goals
    have Ha := Lib.hid ha; have Hb := Lib.hid hb; have ea : IntKind.i64.wrap ((a : Int)) = a := IntWalk.i64_in _ (by omega); clear ha hb
    go_enter Tryz.func149, Tryz.ntmps149
    go_wp2_with (go_at_call 145; refine HL.out.mono ?_; rintro e w1 ⟨rfl, hb1⟩)
    rw [Ha.out, Hb.out]
    go_quiet (fail)
    go_wp2
    go_ret
    refine ⟨?_, below_drewN hb1 _⟩
    show Ending.returned (.int .u64 (bits .or .u64 (bits .or .u64 (IntKind.u64.wrap (2 ^ c)) (IntKind.u64.wrap (2 ^ a))) (IntKind.u64.wrap (2 ^ b)))) = _
    rw [Pc.out, Pa.out, Pb.out, o1.out, o2.out]
theorem itemsOf_any (s c v : Nat) (w : World) (hs : s ∈ [2, 3, 4]) (hc : c < s * s) (v1 : 1 ≤ v) (v2 : v ≤ s) :
    Calls Tryz.prog 149 #[.int .i64 s, .int .i64 c, .int .i64 v] w fun e w' => e = .returned (.int .u64 ((itN s c v : Nat) : Int)) ∧ Below w.heap.size w w' := by
  refine items_core s (c / s) (s + c % s) c v ((s + c / s) * s + v - 1) ((s + (s + c % s)) * s + v - 1) w ?_ (by simp) (by simp) ?_ ?_ ?_ ?_ ?_ ?_ ?_ ?_
  all_goals
    simp only [List.mem_cons, List.not_mem_nil, or_false] at hs
    rcases hs with rfl | rfl | rfl <;> omega
theorem allItems_any (s : Nat) (w : World) (hs : s ∈ [2, 3, 4]) :
    Calls Tryz.prog 109 #[.int .i64 s] w fun e w' => e = .returned (.int .u64 ((2 ^ (3 * s * s) - 1 : Nat) : Int)) ∧ w = w' := by
  simp only [List.mem_cons, List.not_mem_nil, or_false] at hs
  rcases hs with rfl | rfl | rfl
  all_goals
    go_enter Tryz.func109, Tryz.ntmps109
    go_wp2
    go_ret
    exact ⟨by kernel_rfl, rfl⟩
theorem max_any (A : Option Addr) (n c B : Nat) (xs : List Int) (w : World) (h : Rd w B A n xs) (hn : 0 < n) (hm : n ≤ 1099511627776) (hx : ∀ i, i < n → 0 ≤ nth xs i ∧ nth xs i < 16) :
    Calls Tryz.prog 150 #[.slice A n c] w fun e w' => e = .returned (.int .i64 ((lastN xs n : Nat) : Int)) ∧ w = w' := by
  obtain ⟨b, off, rfl, _, hc0⟩ := h.at_ hn
  have hnI : ¬ (n : Int) < 1 := by omega
  have HX := Lib.hid hx
  have hlast : ∀ u, u ≤ n → lastN xs u < 16 := by
    intro u
    induction u with
    | zero => intro _; simp [lastN]
    | succ u ih =>
      intro hu; have := ih (by omega); have := hx u (by omega); simp only [lastN]; omega
  have HLt := Lib.hid hlast
  have h1 : nth xs 0 = ((lastN xs 1 : Nat) : Int) := by
    have := hx 0 hn; simp only [lastN]; omega
  rw [h1, Nat.add_zero] at hc0; clear hx h1 hlast
  go_enter Tryz.func150, Tryz.ntmps150
  go_wp2
  go_loopw [3, 4] (fun m i wr => ∃ u : Nat, 1 ≤ u ∧ u ≤ n ∧ i = .int .i64 u ∧ m = .int .i64 (lastN xs u : Nat) ∧ wr = w) (fun _ i _ => n - (intOf i).toNat)
  case atStart => exact ⟨1, Nat.le_refl _, hn, rfl, rfl, rfl⟩
  case round =>
    obtain ⟨u, hu1, hu, rfl, rfl, rfl⟩ := hrel
    by_cases hlt : u < n
    · obtain ⟨b', off', e, _, hck⟩ := h.at_ hlt; cases e; have hltI : (u : Int) < (n : Int) := (by omega); obtain ⟨x0, x1⟩ := HX.out u hlt; have hl16 := HLt.out u hu; have Hst := Lib.hid (show (if ((lastN xs u : Nat) : Int) < nth xs u then nth xs u else ((lastN xs u : Nat) : Int)) = ((lastN xs (u + 1) : Nat) : Int) by simp only [lastN]; split <;> omega)
      go_wp2
      go_roundw
      case rel => exact ⟨u + 1, by omega, by omega, by go_num, by rw [← Hst.out], trivial⟩
      case measure => simp [intOf]; omega
    · obtain rfl : u = n := by omega
      go_wp2
      go_ret
      exact ⟨rfl, rfl⟩
end Go.Proofs.YtcjdjcpappfkgaaGreatDoor
