import Derived.Test.YtcjdjcpappfkgaaGreatDoorEGSc
import Derived.StillTailTactics
import Derived.Deep.CutBlock
import Derived.Deep.DeepCutAuto
set_option maxRecDepth 8000
namespace Go.Proofs.YtcjdjcpappfkgaaGreatDoor
open Go.ChangeShapes Go.WideShapes Go.ChangeAt Go.RowKit
def SeqP (P : Program) (gf : Nat) (lb : Array Value) (Base : World → Prop) (ways : List (List Int)) : Prop :=
  ∀ (l : Nat) (J : List (List Int) → World → Prop) (Jx : World → Prop) (W : World),
    (∀ pre X, J pre X → Base X) →
    (∀ pre X Y, J pre X → Below W.heap.size X Y → J pre Y) →
    (∀ pre x X b n c, J pre X → (∃ zs, ways = pre ++ x :: zs) → W.heap.size ≤ b → Rd X X.heap.size (some ⟨b, 0, none⟩) n x →
      YieldAt Fence.wide 0 P l #[.slice (some ⟨b, 0, none⟩) n c] X fun e Y => Mid W.heap.size X Y ∧ ((e = .returned (.bool true) ∧ J (pre ++ [x]) Y) ∨ (e = .returned (.bool false) ∧ Jx Y))) →
    J [] W →
    Calls P gf (#[.func (.yield l) #[] #[]] ++ lb) W fun e Y => (∃ v, e = .returned v) ∧ (J ways Y ∨ Jx Y)
theorem range_ownP {P : Program} (m : Nat) {g : Operand} {ps : Array Tmp} {assign body : Code} {Q : Exit → Act → World → Prop} {a : Act} {w : World}
    {gf : Nat} {lb : Array Value} (hg : a.eval g = .func (.func gf) #[] lb) (eg : ∀ args w, (callFunc gf args).run P w = .ok (.enter gf args) w) (hps : ps.size = 1)
    {Base : World → Prop} {ways : List (List Int)} (hseq : SeqP P gf lb Base ways)
    (I : List (List Int) → World → Prop) (Ix : Code → World → Prop) (hIb : ∀ pre X, I pre X → Base X)
    (hI : ∀ pre X Y, I pre X → Below w.heap.size X Y → I pre Y) (hIx : ∀ c X o, Ix c X → w.heap.size + 1 < X.heap.size → Ix c (X.putObj (w.heap.size + 1) o)) (h0 : I [] w) (a₁ : Value → Act)
    (hassign : ∀ (l : Nat) (v : Value) (W : World) (K : Act → World → Prop), K (a₁ v) W →
      assign.wpIn (Fence.wide.inRound l) m P (Exit.then K (fun _ _ _ => False)) { tmps := (ps.zip #[v]).foldl (fun t (p, v) => t.setIfInBounds p v) a.tmps, defers := [] } W)
    (hbody : ∀ (l : Nat) (pre : List (List Int)) (x : List Int) (X : World) (b n c : Nat), I pre X → (∃ zs, ways = pre ++ x :: zs) → w.heap.size ≤ b → w.heap.size + 1 < X.heap.size → Rd X X.heap.size (some ⟨b, 0, none⟩) n x →
      body.wpIn (Fence.wide.inRound l) m P (midPost w.heap.size I Ix (pre ++ [x]) X) (a₁ (.slice (some ⟨b, 0, none⟩) n c)) X)
    (hdone : ∀ (D : Nat) (W : World), w.heap.size ≤ D → I ways W → W.heap[D]? = some (.deferred (some [])) → Q .normal { a with defers := { target := .collected D, args := #[] } :: a.defers } W)
    (hstop : ∀ (D : Nat) (c : Code) (W : World), w.heap.size ≤ D → Ix c W → W.heap[D]? = some (.deferred (some [])) → c.wpIn Fence.wide m P Q { a with defers := { target := .collected D, args := #[] } :: a.defers } W) :
    (Code.rangeFunc g ps assign body).wpIn Fence.wide m P Q a w := by
  refine wpIn_rangeFunc ?_; intro fn _
  obtain ⟨rec, hrec⟩ : ∃ rec : LoopState → Option Code → Loop, rec = fun st pe => { state := st, pending := pe, fn, tmps := a.tmps, params := ps, assign, body, defers := w.heap.size } := ⟨_, rfl⟩
  obtain ⟨W1, hW1⟩ : ∃ W1, (w.alloc (.deferred (some []))).alloc (.loop (rec .ready none)) = W1 := ⟨_, rfl⟩
  have hs1 : W1.heap.size = w.heap.size + 2 := by rw [← hW1]; simp
  have hL1 : W1.heap[w.heap.size + 1]? = some (.loop (rec .ready none)) := by
    rw [← hW1]; have := World.alloc_heap_new (w.alloc (.deferred (some []))) (.loop (rec .ready none)); rwa [World.size_alloc] at this
  have hK1 : W1.heap[w.heap.size]? = some (.deferred (some [])) := by
    rw [← hW1]; exact (Below.heap_alloc _ _ _ (by simp)).trans (World.alloc_heap_new w _)
  have hb1 : Below w.heap.size w W1 := by
    rw [← hW1]; exact ((Below.refl _ w).alloc (Nat.le_refl _) _).alloc (by simp) _
  refine ⟨w.heap.size + 1, [{ target := .collected w.heap.size, args := #[] }], W1, { target := .fn (.func gf) lb, args := #[.func (.yield (w.heap.size + 1)) #[] #[]] }, W1, gf,
    #[.func (.yield (w.heap.size + 1)) #[] #[]] ++ lb, W1, ?_, ?_, ?_, ?_, fun h => by simp [Fence.wide] at h, ?_⟩
  · rw [← hW1, hrec]; exact run_enterLoop_outer _ _ _ _ _
  · simp only [resolve, hg]
    simp [go_sem]
  · intro f' _; trivial
  · simp [invoke, go_sem, eg]
  · refine callsIn_wide.2 ((hseq (w.heap.size + 1)
      (fun pre W => I pre W ∧ W.heap[w.heap.size + 1]? = some (.loop (rec .ready none)) ∧ W.heap[w.heap.size]? = some (.deferred (some [])))
      (fun W => ∃ c, Ix c W ∧ W.heap[w.heap.size + 1]? = some (.loop (rec .done (some c))) ∧ W.heap[w.heap.size]? = some (.deferred (some [])))
      W1 (fun pre X h => hIb pre X h.1)
      (fun pre X Y hs hb => ⟨hI pre X Y hs.1 (hb.mono (by omega)), (hb.block _ (by omega)).trans hs.2.1, (hb.block _ (by omega)).trans hs.2.2⟩)
      ?_ ⟨hI [] w W1 h0 hb1, hL1, hK1⟩).mono ?_)
    · rintro pre x X b n c ⟨hi, hl, hk⟩ hx hbw hrd; have hlt : w.heap.size + 1 < X.heap.size := (Array.getElem?_eq_some_iff.1 hl).1; have hy := run_yield (P := P) (args := #[.slice (some ⟨b, 0, none⟩) n c]) hl (by rw [hrec]; simp [hps]); rw [hrec] at hy; refine ⟨fn, _, assign, body, hy, roundIn_any (m := m) (roundIn_of_wpIn trivial (hassign _ (.slice (some ⟨b, 0, none⟩) n c) X _ ⟨_, run_beginRound hl (by rw [hrec]), ?_⟩))⟩; obtain ⟨X2, hX2⟩ : ∃ X2, X.putObj (w.heap.size + 1) (.loop { rec .ready none with state := .busy }) = X2 := ⟨_, rfl⟩; have hl2 : X2.heap[w.heap.size + 1]? = some (.loop { rec .ready none with state := .busy }) := (by rw [← hX2]; exact World.putObj_heap_same hlt)
      have hk2 : X2.heap[w.heap.size]? = some (.deferred (some [])) := (by rw [← hX2]; exact (World.putObj_heap_other (by omega)).trans hk); have hbX : Below w.heap.size X X2 := (by rw [← hX2]; exact below_put _ (by omega) hl); have hm2 : Mid W1.heap.size X X2 := ⟨by rw [← hX2]; simp, fun k hk' _ => by rw [← hX2]; exact World.putObj_heap_other (by omega)⟩; have hrd2 : Rd X2 X2.heap.size (some ⟨b, 0, none⟩) n x := rd_block hrd (by rw [← hX2]; exact World.putObj_heap_other (by omega)) hm2.size; rw [hX2]; refine wpIn_mono (hbody _ pre x X2 b n c (hI _ _ _ hi hbX) hx (by omega) (by rw [← hX2]; simpa using hlt) hrd2) ?_
      have fin : ∀ (jump : Option Code) (W3 : World), Mid w.heap.size X2 W3 →
          (Instr.endRound (w.heap.size + 1) jump).run P W3 = .ok (.bool jump.isNone) (W3.putObj (w.heap.size + 1) (.loop (rec (if jump.isNone then .ready else .done) jump))) ∧
          Below w.heap.size W3 (W3.putObj (w.heap.size + 1) (.loop (rec (if jump.isNone then .ready else .done) jump))) ∧
          Mid W1.heap.size X (W3.putObj (w.heap.size + 1) (.loop (rec (if jump.isNone then .ready else .done) jump))) ∧
          (W3.putObj (w.heap.size + 1) (.loop (rec (if jump.isNone then .ready else .done) jump))).heap[w.heap.size + 1]? = some (.loop (rec (if jump.isNone then .ready else .done) jump)) ∧
          (W3.putObj (w.heap.size + 1) (.loop (rec (if jump.isNone then .ready else .done) jump))).heap[w.heap.size]? = some (.deferred (some [])) := fun jump W3 hk3 => by
        have hl3 := (hk3.same (w.heap.size + 1) (by omega) (Array.getElem?_eq_some_iff.1 hl2).1).trans hl2; have hlt3 := (Array.getElem?_eq_some_iff.1 hl3).1; have := run_endRound (P := P) jump hl3; rw [hrec] at this ⊢; exact ⟨this, below_put _ (by omega) hl3, (hm2.trans (hk3.mono (by omega))).trans ⟨by simp, fun k hk' _ => World.putObj_heap_other (by omega)⟩, World.putObj_heap_same hlt3, (World.putObj_heap_other (by omega)).trans ((hk3.same _ (Nat.le_refl _) (Array.getElem?_eq_some_iff.1 hk2).1).trans hk2)⟩
      rintro e a3 W3 hp
      cases e with
      | normal =>
        obtain ⟨hk3, hi3⟩ := hp; obtain ⟨hr, hb4, hm4, hl4, hk4⟩ := fin none W3 hk3; exact ⟨_, _, hr, hm4, .inl ⟨rfl, hI _ _ _ hi3 hb4, hl4, hk4⟩⟩
      | ret =>
        obtain ⟨hk3, hi3⟩ := hp; obtain ⟨hr, hb4, hm4, hl4, hk4⟩ := fin (some .ret) W3 hk3; exact ⟨_, _, hr, hm4, .inr ⟨rfl, .ret, hIx _ _ _ hi3 (by have := (Array.getElem?_eq_some_iff.1 hl4).1; simpa using this), hl4, hk4⟩⟩
      | exit id =>
        obtain ⟨hk3, hi3⟩ := hp; obtain ⟨hr, hb4, hm4, hl4, hk4⟩ := fin (some (.exit id)) W3 hk3; exact ⟨_, _, hr, hm4, .inr ⟨rfl, .exit id, hIx _ _ _ hi3 (by have := (Array.getElem?_eq_some_iff.1 hl4).1; simpa using this), hl4, hk4⟩⟩
      | goto t =>
        obtain ⟨hk3, hi3⟩ := hp; obtain ⟨hr, hb4, hm4, hl4, hk4⟩ := fin (some (.goto t)) W3 hk3; exact ⟨_, _, hr, hm4, .inr ⟨rfl, .goto t, hIx _ _ _ hi3 (by have := (Array.getElem?_eq_some_iff.1 hl4).1; simpa using this), hl4, hk4⟩⟩
      | panic ch => exact hp.elim
      | outgrown => exact hp.elim
    · rintro e W2 ⟨⟨v, rfl⟩, (⟨hi, hl, hk⟩ | ⟨c, hi, hl, hk⟩)⟩
      · exact ⟨none, _, by have := run_endLoop (P := P) hl (by rw [hrec]; simp); rw [hrec] at this; exact this, hdone _ _ (Nat.le_refl _) (hI _ _ _ hi (below_put _ (by omega) hl)) ((World.putObj_heap_other (by omega)).trans hk)⟩
      · exact ⟨some c, _, by have := run_endLoop (P := P) hl (by rw [hrec]; simp); rw [hrec] at this; exact this, hstop _ c _ (Nat.le_refl _) (hIx _ _ _ hi (Array.getElem?_eq_some_iff.1 hl).1) ((World.putObj_heap_other (by omega)).trans hk)⟩
theorem range_skipP {P : Program} (m : Nat) {g : Operand} {p : Nat} {body : Code} {Q : Exit → Act → World → Prop} {a : Act} {w : World}
    {gf : Nat} {lb : Array Value} (hg : a.eval g = .func (.func gf) #[] lb) (eg : ∀ args w, (callFunc gf args).run P w = .ok (.enter gf args) w)
    {Base : World → Prop} {ways : List (List Int)} (hseq : SeqP P gf lb Base ways)
    (I : List (List Int) → World → Prop) (Ix : Code → World → Prop) (hIb : ∀ pre X, I pre X → Base X)
    (hI : ∀ pre X Y, I pre X → Below w.heap.size X Y → I pre Y) (hIx : ∀ c X o, Ix c X → w.heap.size + 1 < X.heap.size → Ix c (X.putObj (w.heap.size + 1) o)) (h0 : I [] w)
    (hbody : ∀ (l : Nat) (pre : List (List Int)) (x : List Int) (X : World) (b n c : Nat), I pre X → (∃ zs, ways = pre ++ x :: zs) → w.heap.size ≤ b → w.heap.size + 1 < X.heap.size → Rd X X.heap.size (some ⟨b, 0, none⟩) n x →
      body.wpIn (Fence.wide.inRound l) m P (midPost w.heap.size I Ix (pre ++ [x]) X) { tmps := a.tmps.setIfInBounds p (.slice (some ⟨b, 0, none⟩) n c), defers := [] } X)
    (hdone : ∀ (D : Nat) (W : World), w.heap.size ≤ D → I ways W → W.heap[D]? = some (.deferred (some [])) → Q .normal { a with defers := { target := .collected D, args := #[] } :: a.defers } W)
    (hstop : ∀ (D : Nat) (c : Code) (W : World), w.heap.size ≤ D → Ix c W → W.heap[D]? = some (.deferred (some [])) → c.wpIn Fence.wide m P Q { a with defers := { target := .collected D, args := #[] } :: a.defers } W) :
    (Code.rangeFunc g #[p] .skip body).wpIn Fence.wide m P Q a w :=
  range_ownP m hg eg rfl hseq I Ix hIb hI hIx h0 (fun v => { tmps := a.tmps.setIfInBounds p v, defers := [] }) (fun l v W K hK => by
    refine wpIn_skip ?_
    simpa [Exit.then] using hK) hbody hdone hstop
def SBase (W0 : World) (B0 PB s : Nat) (Ag : Option Addr) (n cg : Nat) (Ar : Option Addr) (nr cr : Nat) (X : World) : Prop := Below B0 W0 X ∧ PBox X PB s Ag n cg Ar nr cr
theorem cov_seq {W0 : World} {B0 s n l : Nat} {gi : List Int} {rs : List RuleM} {J : List (List Int) → World → Prop} {Jx : World → Prop} {W : World} (hB0 : B0 ≤ W0.heap.size) (hs : s ∈ [2, 3, 4]) (hn : n = s * s) (hv : pvB s gi rs = true) (hT : ∀ X, Below B0 W0 X → Tz X)
    (hok : ∀ i, i < n → 0 ≤ nth gi i ∧ nth gi i ≤ (s : Int)) (hJ0 : ∀ pre X, J pre X → Below B0 W0 X)
    (hJs : ∀ pre X Y, J pre X → Below W.heap.size X Y → J pre Y)
    (hY : ∀ pre x X b n c, J pre X → (∃ zs, cv s gi rs (s * s) [] = pre ++ x :: zs) → W.heap.size ≤ b → Rd X X.heap.size (some ⟨b, 0, none⟩) n x →
      YieldAt Fence.wide 0 Tryz.prog l #[.slice (some ⟨b, 0, none⟩) n c] X fun e Y => Mid W.heap.size X Y ∧ ((e = .returned (.bool true) ∧ J (pre ++ [x]) Y) ∨ (e = .returned (.bool false) ∧ Jx Y)))
    (h0 : J [] W) (G OB RB L : Nat) (X : World) (hM : W.heap.size ≤ G ∧ W.heap.size ≤ OB ∧ W.heap.size ≤ RB ∧ W.heap.size ≤ L ∧ G < L ∧ OB ≠ G ∧ RB ≠ G ∧ OB < L ∧ RB < L) (hLX : L ≤ X.heap.size) (hSR : SR W0 B0 s gi rs OB RB L X) (ho : Ow X W.heap.size (some ⟨G, 0, none⟩) n n (zeros n)) (hb : Below W.heap.size W X) :
      Calls Tryz.prog 108 #[sVal G OB RB n, .int .u64 (lf s [] 0 : Nat), .func (.yield l) #[] #[]] X fun e Y => (∃ v, e = .returned v) ∧ (J (cv s gi rs (s * s) []) Y ∨ Jx Y) := by
  subst hn; refine Calls.mono (cover_any (T := cv s gi rs (s * s) []) (l := l) (W0 := W0) (B0 := B0) (G := G) (OB := OB) (RB := RB) (L := L) (M := W.heap.size) (lo := W.heap.size) (s := s) (n := s * s) (gi := gi) (rs := rs) (J := fun pre X => J pre X ∧ W.heap.size ≤ X.heap.size) (Jx := Jx) hv hs rfl hok hB0 hT ⟨hM.1, hM.2.1, hM.2.2.1, hM.2.2.2.1, hM.2.2.2.2.1, hM.2.2.2.2.2.1, hM.2.2.2.2.2.2.1, hM.2.2.2.2.2.2.2.1, hM.2.2.2.2.2.2.2.2, hM.1⟩ (fun pre X h => hJ0 _ _ h.1) (fun pre X Y h hg => ⟨hJs _ _ _ h.1 (Below.of_grown hg h.2 hM.1), Nat.le_trans h.2 hg.size⟩) ?cb (s * s) 0 [] (zeros (s * s)) [] X (Nat.zero_add _) rfl ⟨hJs _ _ _ h0 hb, hb.size⟩ hLX hSR ho (fun i hi => absurd hi (Nat.not_lt_zero i)) (fun i hi => absurd hi (Nat.not_lt_zero i)) (fun q hq => absurd hq (Nat.not_lt_zero q)) ⟨[], by simp⟩) ?fin
  case cb =>
    intro pre ys X hm h ho
    have hGX : G < X.heap.size := by
      obtain ⟨g, e, _, hg⟩ := ho.form (by simp at hs; rcases hs with rfl | rfl | rfl <;> omega); cases e; exact hg
    obtain ⟨fn, tmps, assign, body, hyy, hR⟩ := hY _ ys X G (s * s) (s * s) h.1 hm hM.1 (ho.rd); refine ⟨fn, tmps, assign, body, hyy, hR.mono ?_⟩; rintro e Y ⟨hm2, (⟨rfl, hj⟩ | ⟨rfl, hx⟩)⟩
    · exact ⟨true, rfl, .inl ⟨rfl, ⟨hj, Nat.le_trans h.2 hm2.size⟩, hm2.x, ho.same (hm2.same G hM.1 hGX)⟩⟩
    · exact ⟨false, rfl, .inr ⟨rfl, hx⟩⟩
  case fin =>
    rintro e Y (⟨rfl, hj, _⟩ | ⟨rfl, hx⟩)
    · exact ⟨⟨_, rfl⟩, .inl (by simpa using hj.1)⟩
    · exact ⟨⟨_, rfl⟩, .inr hx⟩
set_option maxHeartbeats 1000000 in
theorem sols_seq (W0 : World) (B0 PB s n : Nat) (Ag : Option Addr) (cg : Nat) (gi : List Int) (Ar : Option Addr) (nr cr : Nat) (rs : List RuleM) (hB0 : B0 ≤ W0.heap.size) (hs : s ∈ [2, 3, 4]) (hn : n = s * s) (hg : Rd W0 B0 Ag n gi) (hr : RdRc W0 B0 Ar nr rs) (hmr : nr ≤ 20) (hv : pvB s gi rs = true) (hT : ∀ X, Below B0 W0 X → Tz X) :
    SeqP Tryz.prog 106 #[.pointer (some ⟨PB, 0, none⟩)] (SBase W0 B0 PB s Ag n cg Ar nr cr) (cv s gi rs (s * s) []) := by
  intro l J Jx W hJb hJs hY h0; obtain ⟨w0, w1⟩ := hJb _ _ h0; have hPB : PB < W.heap.size := cell_lt w1.1
  have hok : ∀ i, i < n → 0 ≤ nth gi i ∧ nth gi i ≤ (s : Int) := fun i hi => gv_nth (pv_gv hv).1 (by rw [hg.1]; exact hi)
  have HSe := Lib.hid (search_any W0 B0 s n Ag cg gi Ar nr cr rs W w0 hB0 hs hn hg hr hmr hv); have HAl := Lib.hid (fun w' => allItems_any s w' hs); have HC := Lib.hid (cov_seq hB0 hs hn hv hT hok (fun pre X h => (hJb _ _ h).1) hJs hY h0); have hlf : lf s [] 0 = 2 ^ (3 * s * s) - 1 := rfl; obtain ⟨AL, hAL⟩ : ∃ AL, AL = 2 ^ (3 * s * s) - 1 := ⟨_, rfl⟩; rw [hlf, ← hAL] at HC; rw [← hAL] at HAl; obtain ⟨CV, hCV⟩ : ∃ CV, CV = cv s gi rs (s * s) [] := ⟨_, rfl⟩; rw [← hCV] at HC ⊢
  show Calls Tryz.prog 106 #[.func (.yield l) #[] #[], .pointer (some ⟨PB, 0, none⟩)] W _
  have HPB := Lib.hid (fun X (hb : Below W.heap.size W X) => w1.below hPB hb); obtain ⟨b0, b1, b2⟩ := id w1; clear hJb hJs hY h0 w0 hAL hCV hlf hok hg hr hv hT w1 hn
  go_enter Tryz.func106, Tryz.ntmps106
  go_wp2_with (go_at_call 107; refine HSe.out.mono ?_; rintro e X1 ⟨G, OB, RB, L, rfl, hrest⟩; have HRest := Lib.hid hrest; clear hrest; unfold sVal)
  obtain ⟨hM, hLX, hSR, ho, hb1⟩ := HRest.out; have hbd : Below X1.heap.size X1 (X1.alloc (.cells #[.slice (some ⟨G, 0, none⟩) n n, .slice (some ⟨OB, 0, none⟩) n n, .slice (some ⟨RB, 0, none⟩) n n] 124)) := (Below.refl _ _).alloc (Nat.le_refl _) _; have HCX := Lib.hid (fun X' (hb' : Below X1.heap.size X1 X') => HC.out G OB RB L X' hM (Nat.le_trans hLX hb'.size) (hSR.midx (midx_below (lo := W.heap.size) (G := G) hb') ⟨hM.2.1, hM.2.2.2.2.2.1⟩ ⟨hM.2.2.1, hM.2.2.2.2.2.2.1⟩ hM.2.2.2.1 hM.2.2.2.2.1) (ho.below hb') (hb1.trans (hb'.mono hb1.size))); unfold sVal at HCX; obtain ⟨c0, c1, c2⟩ := sbox_new X1 G OB RB n 124
  obtain ⟨p0, p1, p2⟩ := HPB.out _ (hb1.trans (hbd.mono hb1.size)); clear hSR ho hM hLX HC HSe; clear hb1
  go_wp2
  go_region_with (first
    | (go_at_call 109; refine (HAl.out _).mono ?_; rintro e wq ⟨rfl, rfl⟩)
    | (go_at_call 108; refine (HCX.out _ (by first | exact hbd | exact hbd.drew)).mono ?_; rintro e Y ⟨⟨v, rfl⟩, hYY⟩))
  all_goals
    go_end0
    exact ⟨⟨_, rfl⟩, hYY⟩
theorem solutions_any (s n : Nat) (Ag : Option Addr) (cg : Nat) (Ar : Option Addr) (nr cr : Nat) (w : World) :
    Calls Tryz.prog 57 #[.agg #[.int .i64 s, .slice Ag n cg, .slice Ar nr cr]] w fun e w' => ∃ PB, e = .returned (.func (.func 106) #[] #[.pointer (some ⟨PB, 0, none⟩)]) ∧ w.heap.size ≤ PB ∧ PBox w' PB s Ag n cg Ar nr cr ∧ Below w.heap.size w w' := by
  have hx0 := pbox_new w s Ag n cg Ar nr cr 26; have hb0 : Below w.heap.size w (w.alloc (.cells #[.int .i64 s, .slice Ag n cg, .slice Ar nr cr] 26)) := (Below.refl _ _).alloc (Nat.le_refl _) _
  go_enter Tryz.func57, Tryz.ntmps57
  go_wp2
  go_ret
  exact ⟨w.heap.size, rfl, Nat.le_refl _, hx0, hb0⟩
end Go.Proofs.YtcjdjcpappfkgaaGreatDoor
namespace Go.Proofs.YtcjdjcpappfkgaaGreatDoor
open Go.ChangeShapes Go.WideShapes Go.ChangeAt Go.RowKit Go.Shelf
attribute [local go_sem] Oper.semAt_some
theorem RdRc.more {w : World} {B B' : Nat} {A : Option Addr} {n : Nat} {rs : List RuleM} (h : RdRc w B A n rs) (hB : B ≤ B') : RdRc w B' A n rs := by
  refine ⟨h.1, fun hn => ?_⟩; obtain ⟨b, off, e, hb, hc⟩ := h.2 hn
  exact ⟨b, off, e, Nat.lt_of_lt_of_le hb hB, fun i hi => by
    obtain ⟨A', c', e0, e1, e2, e3, e4⟩ := hc i hi
    exact ⟨A', c', e0, e1, e2, e3.more hB, e4⟩⟩
theorem allS_cv {s : Nat} {gi : List Int} {rs : List RuleM} {most n : Nat} (hl : gi.length = n) (hv : pvB s gi rs = true) (h0 : 0 < most) (hn : n = s * s) : allS s most n gi rs = (cv s gi rs (s * s) []).take most := by
  rw [allS_is hl hv h0, ← cv_is hv, hl, hn]
theorem below_put_at {N l : Nat} {X : World} (o' : Obj) (hN : N ≤ l) (hl : l < X.heap.size) : Below N X (X.putObj l o') :=
  below_put o' hN (Array.getElem?_eq_getElem hl)
attribute [local go_sem] Oper.semAt_some
theorem cs_take {L : List (List Int)} {M : Nat} (h : L.length < M) : (L.take M).length = L.length := by rw [List.length_take]; omega
set_option maxHeartbeats 2000000 in
theorem countP_any (s : Int) (Ag : Option Addr) (n cg Bg : Nat) (gi : List Int) (Ar : Option Addr) (nr cr Br : Nat) (rs : List RuleM) (M : Nat) (w : World) (hp : PGc w s Ag n cg Bg gi Ar nr cr Br rs) (hv : pvB s gi rs = true) (hM1 : 0 < M) (hM6 : M ≤ 600) (hT : Tz w) :
    Calls Tryz.prog 49 #[.agg #[.int .i64 s, .slice Ag n cg, .slice Ar nr cr], .int .i64 (M : Nat)] w fun e w' => e = .returned (.int .i64 ((allS s M n gi rs).length : Nat)) ∧ Below w.heap.size w w' := by
  have hx0 := pbox_new w s Ag n cg Ar nr cr 26; obtain ⟨W1, hW1⟩ : ∃ W1, w.alloc (.cells #[.int .i64 s, .slice Ag n cg, .slice Ar nr cr] 26) = W1 := ⟨_, rfl⟩; rw [hW1] at hx0
  have hb1 : Below w.heap.size w W1 := by rw [← hW1]; exact (Below.refl _ _).alloc (Nat.le_refl _) _
  have hs1 : W1.heap.size = w.heap.size + 1 := by rw [← hW1]; simp
  obtain ⟨W2, hW2⟩ : ∃ W2, W1.alloc (.cells #[.int .i64 (M : Nat)] 3) = W2 := ⟨_, rfl⟩
  have hb2 : Below W1.heap.size W1 W2 := by rw [← hW2]; exact (Below.refl _ _).alloc (Nat.le_refl _) _
  have hs2 : W2.heap.size = w.heap.size + 1 + 1 := by rw [← hW2]; simp [hs1]
  have hr2 : W2.heap[w.heap.size + 1]? = some (.cells #[.int .i64 (M : Nat)] 3) := by rw [← hW2, ← hs1]; exact heap_alloc_new _ _
  have hx2 := hx0.below (by omega) hb2; have hbW : Below w.heap.size w W2 := hb1.trans (hb2.mono (by omega)); obtain ⟨V5, hV5⟩ : ∃ V5, W2.alloc (.cells #[.int .i64 0] 3) = V5 := ⟨_, rfl⟩
  have hvb : Below W2.heap.size W2 V5 := by rw [← hV5]; exact (Below.refl _ _).alloc (Nat.le_refl _) _
  have hvr : V5.heap[W2.heap.size]? = some (.cells #[.int .i64 0] 3) := by rw [← hV5]; exact heap_alloc_new _ _
  have hvc := cell_of_row _ _ 0 _ _ (0, 0) hvr; have hvf := frozen_of_row _ _ 0 _ _ hvr
  have hvs : V5.heap.size = W2.heap.size + 1 := by rw [← hV5]; simp
  obtain ⟨W5, hW5⟩ : ∃ W5, V5.setCell ⟨W2.heap.size, 0, none⟩ (.int .i64 0) = W5 := ⟨_, rfl⟩
  have hb5 : Below W2.heap.size W2 W5 := by rw [← hW5]; exact hvb.setCell (p := ⟨W2.heap.size, 0, none⟩) (Nat.le_refl _) _
  have hs5 : W5.heap.size = W2.heap.size + 1 := by rw [← hW5]; simp [World.setCell, hvs]
  have hq5 : W5.heap[W2.heap.size]? = some (.cells #[.int .i64 0] 3) := by rw [← hW5]; exact heap_setCell_same V5 W2.heap.size 0 _ _ _ hvr
  rw [hs2] at hvc hvf hW5; obtain ⟨y0, y1, y2⟩ := hx2.below (by omega) hb5; obtain ⟨t, rfl, hs, hnn, hn16, hok⟩ := pv_grid hv hp.g.1
  have hn : n = t * t := by simp at hs; rcases hs with rfl | rfl | rfl <;> omega
  have hgl := hp.g.1
  have hmr : nr ≤ 20 := by have := (pv_gv hv).2.1; have := hp.r.1; omega
  have H1 := Lib.hid (show ((allS t M n gi rs).length : Nat) = ((cv t gi rs (t * t) []).take M).length by rw [allS_cv hgl hv hM1 hn]); have HG := Lib.hid (hp.g.more hp.gB); have HR := Lib.hid (hp.r.more hp.rB); have HT := Lib.hid (fun X (hb : Below w.heap.size w X) => hT.below hT.lt hb); have HN := Lib.hid hn; have HV2 := Lib.hid hv; have HB2 := Lib.hid hbW; have HR2 := Lib.hid hr2; have HSL := Lib.hid (solutions_any t n Ag cg Ar nr cr W5); clear hok hnn hn hgl hp hT hb1 hb2 hr2 hx0 hx2 hbW hvb; refine (callsIn_wide (n := 9)).1 ?_; refine callsIn_of_wp_marks Tryz.func49 rfl trivial ?_ rfl; simp only [Tryz.ntmps49, List.size_toArray, List.length_cons, List.length_nil, Nat.reduceAdd, Nat.reduceSub, Array.replicate_succ, Array.replicate_zero, List.push_toArray, List.append_toArray, List.nil_append, List.cons_append]
  gi_wp2_with ((try refine ⟨trivial, ?_⟩); gi_at_call 57; refine (callsIn_wide.2 HSL.out).mono ?_; rintro e w6 ⟨PB, rfl, hPl, hpb, hb6⟩)
  have h6 := hb6.size; have hb26 : Below W2.heap.size W2 w6 := hb5.trans (hb6.mono hb5.size); have hb06 : Below w.heap.size w w6 := HB2.out.trans (hb26.mono (by omega)); obtain ⟨CB, hCB⟩ : ∃ CB, CB = w.heap.size + 1 + 1 := ⟨_, rfl⟩; rw [hs2] at hq5
  have hq6 : w6.heap[CB]? = some (.cells #[.int .i64 ((0 : Nat) : Int)] 3) := by rw [hCB]; exact (hb6.block _ (by omega)).trans hq5
  have hm6 : w6.heap[w.heap.size + 1]? = some (.cells #[.int .i64 (M : Int)] 3) := (hb26.block _ (by omega)).trans HR2.out; have hPB := cell_lt hpb.1
  have d1 : CB < w6.heap.size := by omega
  have d2 : w.heap.size + 1 < CB := by omega
  have d3 : CB < PB := by omega
  rw [← hCB]; clear y0 y1 y2 hb5 hb6 hb26 hq5 hW1 hW2 hW5 hV5 hvr hvc hvf hvs hs1 hs2 hs5 h6 hPl hv hCB HB2 HR2 HSL; obtain ⟨CV, hCV⟩ : ∃ CV, CV = cv t gi rs (t * t) [] := ⟨_, rfl⟩; have HSq := sols_seq w w.heap.size PB t n Ag cg gi Ar nr cr rs (Nat.le_refl _) hs HN.out HG.out HR.out hmr HV2.out HT.out; rw [← hCV] at HSq H1; clear hCV
  refine range_skipP 9 (by rfl) (enters_of Tryz.func106 (by kernel_rfl) rfl) HSq
    (fun pre X => SBase w w.heap.size PB t Ag n cg Ar nr cr X ∧ X.heap[CB]? = some (.cells #[.int .i64 ((pre.length : Nat) : Int)] 3) ∧ pre.length < M ∧ X.heap[w.heap.size + 1]? = some (.cells #[.int .i64 (M : Int)] 3))
    (fun cc X => cc = .exit 0 ∧ Below w.heap.size w X ∧ X.heap[CB]? = some (.cells #[.int .i64 (M : Int)] 3) ∧ M ≤ CV.length)
    (fun pre X h => h.1)
    (fun pre X Y h hb => ⟨⟨h.1.1.trans (hb.mono (by omega)), h.1.2.below hPB hb⟩, (hb.block _ d1).trans h.2.1, h.2.2.1, (hb.block _ (by omega)).trans h.2.2.2⟩)
    (fun cc X o h hX => ⟨h.1, h.2.1.trans (below_put_at _ (by omega) hX), (World.putObj_heap_other (by omega)).trans h.2.2.1, h.2.2.2⟩)
    ⟨⟨hb06, hpb⟩, hq6, hM1, hm6⟩ ?body ?done ?stop
  case body =>
    rintro l pre x X b n' c' ⟨⟨hBX, hpX⟩, hcX, hlt, hmX⟩ ⟨zs, hzs⟩ hbb hXs hrd
    have hlen : (pre ++ [x]).length = pre.length + 1 := by simp
    have hCl : pre.length + 1 ≤ CV.length := by rw [hzs]; simp
    obtain ⟨k, hk⟩ : ∃ k, k = pre.length := ⟨_, rfl⟩; rw [← hk] at hcX hlt hlen hCl; have hcc := cell_of_row _ _ 0 _ _ (0, 0) hcX; have hfc := frozen_of_row _ _ 0 _ _ hcX; have hcm := cell_of_row _ _ 0 _ _ (0, 0) hmX; have Hlen := Lib.hid hlen; have HpX := Lib.hid hpX; have HBX := Lib.hid hBX; have HcX := Lib.hid hcX; have HmX := Lib.hid hmX
    have hk6 : k < 600 := by omega
    clear hlen hpX hBX hcX hmX hrd hzs hk; simp only [List.setIfInBounds_toArray, List.set_cons_zero, List.set_cons_succ]
    have hm1 : w6.heap.size ≤ X.heap.size := by omega
    have HCl := Lib.hid hCl
    have HE : Hid (∀ v : Int, v = (k : Int) + 1 → (X.setCell ⟨CB, 0, none⟩ (.int .i64 ((k : Int) + 1))).heap[CB]? = some (.cells #[.int .i64 v] 3) ∧ (X.setCell ⟨CB, 0, none⟩ (.int .i64 ((k : Int) + 1))).heap[w.heap.size + 1]? = some (.cells #[.int .i64 (M : Int)] 3) ∧ Below w.heap.size w (X.setCell ⟨CB, 0, none⟩ (.int .i64 ((k : Int) + 1))) ∧ PBox (X.setCell ⟨CB, 0, none⟩ (.int .i64 ((k : Int) + 1))) PB t Ag n cg Ar nr cr) := Lib.hid (fun v hv => by
      subst hv
      have hcell : ∀ i, (X.setCell ⟨CB, 0, none⟩ (.int .i64 ((k : Int) + 1))).cell? ⟨PB, i, none⟩ = X.cell? ⟨PB, i, none⟩ := fun i => World.cell?_of_block (a := ⟨PB, i, none⟩) (heap_setCell_other X ⟨CB, 0, none⟩ PB _ (fun e => by dsimp only at e; omega))
      exact ⟨heap_setCell_same X CB 0 _ _ (.int .i64 ((k : Int) + 1)) HcX.out, (heap_setCell_other X ⟨CB, 0, none⟩ (w.heap.size + 1) _ (fun e => by dsimp only at e; omega)).trans HmX.out, HBX.out.setCell (p := ⟨CB, 0, none⟩) (by show w.heap.size ≤ CB; omega) _, (hcell 0).trans HpX.out.1, (hcell 1).trans HpX.out.2.1, (hcell 2).trans HpX.out.2.2⟩)
    have HM := Lib.hid (Mid.setCell w6.heap.size CB 0 X (.int .i64 ((k : Int) + 1)) d1)
    by_cases e : k + 1 = M
    · have hq : ((k : Int) + 1 == (M : Int)) = true := by rw [beq_iff_eq]; omega
      have he := Lib.hid e; clear e hlt hCl
      gi_wp2
      obtain ⟨e1, e2, e3, e4⟩ := HE.out M (by have := he.out; omega); exact ⟨HM.out, rfl, e3, e1, by have := he.out; have := HCl.out; omega⟩
    · have hq : ((k : Int) + 1 == (M : Int)) = false := by rw [beq_eq_false_iff_ne]; omega
      have he := Lib.hid e; have hl := Lib.hid hlt; clear e hlt hCl
      gi_wp2
      obtain ⟨e1, e2, e3, e4⟩ := HE.out (((pre ++ [x]).length : Nat) : Int) (by rw [Hlen.out]; omega); exact ⟨HM.out, ⟨e3, e4⟩, e1, by rw [Hlen.out]; have := he.out; have := hl.out; omega, e2⟩
  case done =>
    rintro D W hD ⟨⟨hBX, _⟩, hcX, hlt, _⟩ hK; have hcc := cell_of_row _ _ 0 _ _ (0, 0) hcX; have H2 := Lib.hid (show (CV.take M).length = CV.length from cs_take hlt); clear hlt
    gi_wp2
    refine ⟨by simp, .inl ⟨_, _, rfl, run_takeDeferred hK, ?_⟩⟩; exact ⟨_, results_tmp rfl _ _ _, by rw [H1.out, H2.out]; rfl, hBX.trans (below_put _ (by omega) hK)⟩
  case stop =>
    rintro D cc W hD ⟨rfl, hBX, hcX, hM⟩ hK; have hcc := cell_of_row _ _ 0 _ _ (0, 0) hcX; have H2 := Lib.hid (show (CV.take M).length = M by rw [List.length_take]; omega); clear hM
    gi_wp2
    refine ⟨by simp, .inl ⟨_, _, rfl, run_takeDeferred hK, ?_⟩⟩; exact ⟨_, results_tmp rfl _ _ _, by rw [H1.out, H2.out]; rfl, hBX.trans (below_put _ (by omega) hK)⟩
set_option maxHeartbeats 1000000 in
theorem hasOne_any (s : Int) (Ag : Option Addr) (n cg Bg : Nat) (gi : List Int) (Ar : Option Addr) (nr cr Br : Nat) (rs : List RuleM) (w : World) (hp : PGc w s Ag n cg Bg gi Ar nr cr Br rs) (hv : pvB s gi rs = true) (hT : Tz w) :
    Calls Tryz.prog 65 #[.agg #[.int .i64 s, .slice Ag n cg, .slice Ar nr cr]] w fun e w' => e = .returned (.bool (oneB s n gi rs)) ∧ Below w.heap.size w w' := by
  have hx0 := pbox_new w s Ag n cg Ar nr cr 26; have hb0 : Below w.heap.size w (w.alloc (.cells #[.int .i64 s, .slice Ag n cg, .slice Ar nr cr] 26)) := (Below.refl _ _).alloc (Nat.le_refl _) _; have HC := Lib.hid (show Calls Tryz.prog 49 #[.agg #[.int .i64 s, .slice Ag n cg, .slice Ar nr cr], .int .i64 2] _ _ from countP_any s Ag n cg Bg gi Ar nr cr Br rs 2 _ (hp.below hb0) hv (by omega) (by omega) (hT.below hT.lt hb0)); obtain ⟨z0, z1, z2⟩ := id hx0
  have HQ := Lib.hid (show ((((allS s 2 n gi rs).length : Nat) : Int) == 1) = oneB s n gi rs by
    unfold oneB; rw [Bool.eq_iff_iff]; simp only [beq_iff_eq]
    omega)
  go_enter Tryz.func65, Tryz.ntmps65
  go_wp2_with (go_at_call 49; refine HC.out.mono ?_; rintro e w1 ⟨rfl, hb1⟩)
  go_ret
  exact ⟨by rw [HQ.out]; rfl, step hb0 hb1⟩
end Go.Proofs.YtcjdjcpappfkgaaGreatDoor
namespace Go.Proofs.YtcjdjcpappfkgaaGreatDoor
open Go.ChangeShapes Go.WideShapes Go.ChangeAt Go.RowKit
theorem start_em {gi : List Int} {s n : Nat} (hl : gi.length = n) (hok : ∀ k, k < n → 0 ≤ nth gi k) (hs : s ∈ [2, 3, 4]) : mapTo (startC gi s) n = emL gi s := by
  apply ext_nth (by rw [mapTo_length, emL_len_ hl])
  intro k hk; rw [mapTo_length] at hk; rw [mapTo_nth hk, emL_at hl hk]; have h0 := hok k hk; unfold startC emN
  by_cases e : nth gi k = 0
  · rw [if_neg (by omega), if_pos e]
    simp at hs
    rcases hs with rfl | rfl | rfl <;> rfl
  · rw [if_pos (by omega), if_neg e]
    simp
theorem implStartMasks (s : Int) (Ag : Option Addr) (n cg Bg : Nat) (gi : List Int) (Ar : Option Addr) (nr cr Br : Nat) (rs : List RuleM) (w : World) (hp : PGc w s Ag n cg Bg gi Ar nr cr Br rs) :
    Calls Tryz.prog 40 #[.agg #[.int .i64 s, .slice Ag n cg, .slice Ar nr cr]] w (RetSl w (startL s gi rs n)) := by
  have hx0 := pbox_new w s Ag n cg Ar nr cr 26; have hb0 : Below w.heap.size w (w.alloc (.cells #[.int .i64 s, .slice Ag n cg, .slice Ar nr cr] 26)) := (Below.refl _ _).alloc (Nat.le_refl _) _
  have hs0 : w.heap.size < (w.alloc (.cells #[.int .i64 s, .slice Ag n cg, .slice Ar nr cr] 26)).heap.size := by simp
  obtain ⟨z0, z1, z2⟩ := id hx0; have HV := Lib.hid (valid_any s Ag n cg Bg gi Ar nr cr Br rs _ (hp.below hb0)); cases hv : pvB s gi rs
  · have HL := Lib.hid (show startL s gi rs n = [] by simp [startL, hv])
    go_enter Tryz.func40, Tryz.ntmps40
    go_wp2_with (go_at_call 48; refine HV.out.mono ?_; rintro e w1 ⟨rfl, hb1⟩; rw [hv])
    go_ret
    rw [HL.out]; exact ⟨_, _, rfl, Ow.nil_ _ _, step hb0 hb1⟩
  · obtain ⟨t, rfl, hs, _, hn16, hok⟩ := pv_grid hv hp.g.1
    have hs4 : t ≤ 4 := by simp at hs; omega
    have hlen := hp.g.1
    have HL := Lib.hid (show startL t gi rs n = emL gi t by
      rw [← start_em hlen (fun k hk => (hok k hk).1) hs]
      simp [startL, hv])
    have Hel := Lib.hid (emL_len_ (s := t) hlen); have HO := Lib.hid (fun w' (hb : Below w.heap.size w w') => openMasks_any Ag cg n Bg gi t w' (hp.below hb).g (hp.below hb).gB hn16 hs (fun i hi => by have := hok i hi; omega)); clear hok
    go_enter Tryz.func40, Tryz.ntmps40
    go_wp2_with (first
      | (go_at_call 48; refine HV.out.mono ?_; rintro e w1 ⟨rfl, hb1⟩; rw [hv]; have h01 := step hb0 hb1; obtain ⟨c0, c1, c2⟩ := hx0.below hs0 hb1)
      | (go_at_call 82; refine (HO.out _ h01).mono ?_; rintro e w2 ⟨A2, c2', rfl, ho2, hb2⟩))
    go_ret
    rw [HL.out]; exact ⟨_, _, rfl, ho2.mono h01.size, step h01 hb2⟩
section
variable {w w' : World} {lo G n c : Nat} {A : Option Addr} {xs : List Int} {o : Obj}
end
def CaseRel (w0 : World) (B G P X : Nat) (k : Int) (A : Option Addr) (n c : Nat) (v : Int) (xs : List Int) (gv : Value) (wx : World) : Prop :=
  wx.heap[X]? = some (.cells #[.int .i64 k, .slice A n c, .int .i64 v] 87) ∧ Ow wx w0.heap.size A n c xs ∧ (∀ b, (Value.slice A n c).ownBlock = some b → b ≠ X) ∧
    (∃ (gb ng cg : Nat) (g : List Int), gv = .slice (some ⟨gb, 0, none⟩) ng cg ∧ Ow wx w0.heap.size (some ⟨gb, 0, none⟩) ng cg g ∧ 4 ≤ ng ∧ ng ≤ 16 ∧ gb ≠ X ∧ ∀ b, (Value.slice A n c).ownBlock = some b → b ≠ gb) ∧ Rdr wx B G P ∧ w0.grownBy wx (some G)
theorem CaseRel.keep {w0 wx wy : World} {B G P P' X : Nat} {k : Int} {A : Option Addr} {n c : Nat} {v : Int} {xs : List Int} {gv : Value} (h : CaseRel w0 B G P X k A n c v xs gv wx) (hG : G < w0.heap.size) (hX : w0.heap.size ≤ X) (hg : wx.grownBy wy (some G)) (hr : Rdr wy B G P') : CaseRel w0 B G P' X k A n c v xs gv wy := by
  obtain ⟨h1, h2, h3, ⟨gb, ng, cg, g, h4, h5, h6, h7, h8, h9⟩, h10, h11⟩ := h; have hXl : X < wx.heap.size := (Array.getElem?_eq_some_iff.1 h1).1; exact ⟨(hg.block X hXl (fun e => by injection e with e; omega)).trans h1, h2.keptG hg hG, h3, ⟨gb, ng, cg, g, h4, h5.keptG hg hG, h6, h7, h8, h9⟩, hr, h11.trans hg⟩
theorem CaseRel.alloc {w0 wx : World} {B G P X : Nat} {k : Int} {A : Option Addr} {n c : Nat} {v : Int} {xs : List Int} {gv : Value} (h : CaseRel w0 B G P X k A n c v xs gv wx) (hG : G < w0.heap.size) (hB : B ≤ w0.heap.size) (hX : w0.heap.size ≤ X) (o : Obj) : CaseRel w0 B G P X k A n c v xs gv (wx.alloc o) :=
  h.keep hG hX (only_alloc (World.grownBy.refl _ _) o) (h.2.2.2.2.1.alloc (Nat.le_trans hB h.2.2.2.2.2.size) o)
theorem start_mvdM {s : Int} {gi : List Int} {rs : List RuleM} {n : Nat} (hl : gi.length = n) (hv : pvB s gi rs = true) : (startL s gi rs n).length = n ∧ mvd (startL s gi rs n) s = true := by
  obtain ⟨t, rfl, hs, hn, _, hok⟩ := pv_grid hv hl
  have e : startL t gi rs n = mapTo (startC gi t) n := by simp [startL, hv]
  rw [e]; refine ⟨mapTo_length _ _, ?_⟩; simp only [mvd, Bool.and_eq_true, beq_iff_eq, mapTo_length, Int.toNat_natCast]; refine ⟨⟨by simp at hs; simp [inr]; omega, hn⟩, allTo_all (n := n) (fun k hk => ?_) (mapTo_length _ _)⟩; rw [mapTo_nth hk]; obtain ⟨y0, y1⟩ := hok k hk; unfold startC
  have hk4 : nth gi k = 0 ∨ nth gi k = 1 ∨ nth gi k = 2 ∨ nth gi k = 3 ∨ nth gi k = 4 := by simp at hs; omega
  simp at hs
  rcases hs with rfl | rfl | rfl <;> rcases hk4 with h | h | h | h | h <;> rw [h] at y1 ⊢ <;> first | (exfalso; revert y1; decide) | decide
theorem nsIn_wi {m o : List Int} {s : Int} {S i : Nat} (hm : mvd m s = true) (hs : Sub o m) (h : Wi o m) (k : Nat) : Wi (nsIn m S i o k) m := by
  induction k with
  | zero => exact h
  | succ k ih =>
    simp only [nsIn]
    split
    · exact ih.anput (nsIn_sub hm hs k) hm ⟨(mvd_nth hm i).1, (mvd_nth hm i).2.1⟩ k
    · exact ih
theorem nsTo_wi {m : List Int} {s : Int} {S n : Nat} (hm : mvd m s = true) (i : Nat) : Wi (nsTo m S n i) m := by
  induction i with
  | zero => exact Wi.refl hm
  | succ i ih =>
    simp only [nsTo]
    split
    · exact nsIn_wi hm (nsTo_sub hm i) ih n
    · exact ih
theorem ns_wi {m : List Int} {s : Int} (hm : mvd m s = true) (n : Nat) : Wi (nsL m s n) m := by
  unfold nsL; rw [if_pos hm]; exact nsTo_wi hm n
theorem mv_bits' {m : List Int} {s : Int} (hm : mvd m s = true) (k : Nat) : ∃ M : Nat, nth m k = (M : Int) ∧ M < 32 ∧ maskVals (nth m k) = bitsTo M 4 := by
  obtain ⟨x0, x1, x2⟩ := mvd_nth hm k; obtain ⟨M, hM⟩ := Int.eq_ofNat_of_zero_le x0
  have hm2 : M % 2 = 0 := by rw [hM, Int.tmod_eq_emod_of_nonneg (by omega)] at x2; omega
  exact ⟨M, hM, by omega, by rw [hM, mv_bits (by omega) hm2]⟩
def anQ (x y : Nat) : Bool := (bits .andNot .i64 (x : Int) (y : Int) != 0) || (List.range 5).all fun t => !x.testBit t || y.testBit t
theorem anQ_key : ∀ x, x < 32 → ∀ y, y < 32 → anQ x y = true := by decide +kernel
theorem an_bits {x y : Nat} (hx : x < 32) (hy : y < 32) (h : bits .andNot .i64 (x : Int) (y : Int) = 0) (t : Nat) (ht : x.testBit t = true) : y.testBit t = true := by
  have t5 : t < 5 := by
    rcases Nat.lt_or_ge t 5 with h | h
    · exact h
    · rw [Nat.testBit_lt_two_pow (Nat.lt_of_lt_of_le hx (Nat.pow_le_pow_right (n := 2) (by omega) h))] at ht; cases ht
  have key := anQ_key x hx y hy; unfold anQ at key; rw [h] at key; simp only [bne_self_eq_false, Bool.false_or, List.all_eq_true, List.mem_range, Bool.or_eq_true, Bool.not_eq_true'] at key
  rcases key t t5 with h | h
  · rw [ht] at h; cases h
  · exact h
theorem Wi.trans {a b c : List Int} {s : Int} (ha : mvd a s = true) (hb : mvd b s = true) (hc : mvd c s = true) (hl : b.length = c.length) (h : Wi a b) (h' : Wi b c) : Wi a c := fun k hk => by
  obtain ⟨a0, a1, _⟩ := mvd_nth ha k; obtain ⟨b0, b1, _⟩ := mvd_nth hb k; obtain ⟨c0, c1, _⟩ := mvd_nth hc k; have e1 := h k (by omega); have e2 := h' k hk; obtain ⟨x, hx⟩ := Int.eq_ofNat_of_zero_le a0; obtain ⟨y, hy⟩ := Int.eq_ofNat_of_zero_le b0; obtain ⟨z, hz⟩ := Int.eq_ofNat_of_zero_le c0; rw [hx, hy] at e1; rw [hy, hz] at e2; rw [hx, hz]; exact an_zero (by omega) (by omega) (fun t ht => an_bits (by omega) (by omega) e2 t (an_bits (by omega) (by omega) e1 t ht))
theorem nrIn_wi {k v s : Int} {xs o : List Int} (hv : rv k xs v s = true) (hm : mvd o s = true) (j : Nat) (hj : j ≤ xs.length) : Wi (nrIn xs (rmL k xs v o s) o j) o := by
  induction j with
  | zero => exact Wi.refl hm
  | succ j ih =>
    intro i hi; have hlen := (nrIn_sub hv hm j (by omega)).1; have ih := ih (by omega) i hi; simp only [nrIn]
    by_cases e : (nth xs j).toNat = i
    · subst e; rw [nth_set (by rw [hlen]; exact hi), if_pos rfl]; exact rm_part hv hm (by omega)
    · rw [nth_set_ne e]; exact ih
theorem nrTo_wi {s : Int} {rs : List RuleM} {m : List Int} (hm : mvd m s = true) (hr : ∀ i, i < rs.length → rvR s (rat rs i) = true) (u : Nat) (hu : u ≤ rs.length) : Wi (nrTo s rs m u) m := by
  induction u with
  | zero => exact Wi.refl hm
  | succ u ih =>
    have hs := nrTo_sub (m := m) hm hr u (by omega); have ho := hs.mvd_ hm; have h1 := nrIn_sub (hr u (by omega)) ho _ (Nat.le_refl _); exact Wi.trans (h1.mvd_ ho) ho hm hs.1 (nrIn_wi (hr u (by omega)) ho _ (Nat.le_refl _)) (ih (by omega))
theorem nr_wi {s : Int} {gi : List Int} {rs : List RuleM} {m : List Int} (hv : pvB s gi rs = true) (hm : mvd m s = true) : Wi (nrL s gi rs m) m := by
  unfold nrL; rw [hv, hm, Bool.true_and, if_pos rfl]; exact nrTo_wi hm (pv_gv hv).2.2 _ (Nat.le_refl _)
theorem nb_wi {s t : Int} {gi m : List Int} {rs : List RuleM} (hv : pvB s gi rs = true) (hm : mvd m s = true) (h1 : 1 ≤ t) (h4 : t ≤ 4) : Wi (nbL s gi rs m t) m := by
  unfold nbL; rw [hv, hm, Bool.true_and, if_pos rfl]
  have : t = 1 ∨ t = 2 ∨ t = 3 ∨ t = 4 := by omega
  rcases this with rfl | rfl | rfl | rfl
  · exact ns_wi hm _
  · exact nh_wi hm
  · exact np_wi hm
  · exact nr_wi hv hm
theorem na_wi {s : Int} {gi m : List Int} {rs : List RuleM} {most r : Nat} (hv : pvB s gi rs = true) (h4 : most ≤ 4) (hm : mvd m s = true) : Wi (naE s gi rs most m r).1 m ∧ mvd (naE s gi rs most m r).1 s = true ∧ (naE s gi rs most m r).1.length = m.length := by
  have := naE_ind (r := r) (fun o => o.length = m.length ∧ Wi o m) hv h4 (fun o t ho t1 t2 h => by
    have hs := nb_sub (t := (t : Int)) hv ho (by omega) (by omega)
    exact ⟨hs.1.trans h.1, Wi.trans (hs.mvd_ ho) ho hm h.1 (nb_wi hv ho (by omega) (by omega)) h.2⟩) hm ⟨rfl, Wi.refl hm⟩
  exact ⟨this.1.2, this.2, this.1.1⟩
def mgC9 (t M : Nat) : Bool := Nat.ble (2 ^ (t + 1) - 1) M || (decide (0 ≤ oneOf (bitsTo M 4)) && decide (oneOf (bitsTo M 4) ≤ (t : Int)))
theorem mgC9_all : ∀ t ∈ [2, 3, 4], ∀ M, M < 32 → mgC9 t M = true := by decide +kernel
theorem mask_top9 {m : List Int} {s M k : Nat} (hs : s ∈ [2, 3, 4]) (hm : mvd m s = true) (hk : k < m.length) (hM : nth m k = (M : Int)) : M ≤ 2 ^ (s + 1) - 2 := by
  simp only [mvd, Bool.and_eq_true, List.all_eq_true] at hm; have h1 := hm.2 m[k] (List.getElem_mem hk); simp only [mkOk, Bool.and_eq_true] at h1; obtain ⟨_, y2⟩ := inr_t h1.1
  have e : nth m k = m[k] := by simp [nth, List.getD_eq_getElem?_getD, hk]
  rw [← e, hM, Int.toNat_natCast] at y2
  have e2 : ((2 : Int) ^ (s + 1) - 2) = ((2 ^ (s + 1) - 2 : Nat) : Int) := by
    simp at hs
    rcases hs with rfl | rfl | rfl <;> decide
  rw [e2] at y2; omega
theorem mgL_valid9 {m : List Int} {s : Int} (hm : mvd m s = true) : gv (mgL m s) s = true := by
  obtain ⟨⟨s2, s4⟩, _, _, _⟩ := mvd_at hm; obtain ⟨t, rfl⟩ : ∃ t : Nat, s = t := ⟨s.toNat, by omega⟩
  have hs : t ∈ [2, 3, 4] := by simp; omega
  have hl := len_of hs hm
  have e : mgL m t = mapTo (mgG m) m.length := by simp [mgL, hm]
  rw [e]; refine okAll_gv' hs (by rw [mapTo_length, hl]) (fun i hi => ?_); rw [mapTo_nth (by omega)]; unfold mgG; obtain ⟨M, hM, hM32, eM⟩ := mv_bits' hm i; have hb : M ≤ 2 ^ (t + 1) - 2 := mask_top9 hs hm (by omega) hM; have h := mgC9_all t hs M hM32; rw [eM]; unfold mgC9 at h
  rcases Bool.or_eq_true_iff.1 h with h | h
  · have h1 := Nat.le_of_ble_eq_true h
    have h2 : 2 ≤ 2 ^ (t + 1) := by
      have := Nat.two_pow_pos t; rw [Nat.pow_succ]; omega
    omega
  · simp only [Bool.and_eq_true, decide_eq_true_eq] at h; exact h
theorem cnz_of {xs : List Int} : ∀ {k : Nat}, (∀ j, j < k → nth xs j ≠ 0) → cnz xs k = k
  | 0, _ => by simp [cnz]
  | k + 1, h => by rw [cnz_nz (h k (by omega)), cnz_of (fun j hj => h j (by omega))]
def sbB (s : Int) (n : Nat) (gi : List Int) (rs : List RuleM) (t : Int) : Bool := (let g := mgL (naL s gi rs (startL s gi rs n) t) s; !memTo g 0 g.length)
def gpF (s : Int) (n : Nat) (gi : List Int) (rs : List RuleM) : Nat → Nat → Int
  | 0, _ => 5
  | d + 1, t => if sbB s n gi rs (t : Nat) = true then (t : Nat) else gpF s n gi rs d (t + 1)
def gpI (s : Int) (n : Nat) (gi : List Int) (rs : List RuleM) : Int := if pvB s gi rs = true then (if (allS s 2 n gi rs).length = 1 then gpF s n gi rs 4 1 else 0) else -1
theorem memTo_at9 {xs : List Int} {v : Int} : ∀ {n : Nat}, memTo xs v n = true → ∃ k, k < n ∧ nth xs k = v
  | 0, h => by simp [memTo] at h
  | n + 1, h => by
    simp only [memTo, Bool.or_eq_true, beq_iff_eq] at h
    rcases h with h | h
    · obtain ⟨k, hk, e⟩ := memTo_at9 h; exact ⟨k, by omega, e⟩
    · exact ⟨n, by omega, h⟩
theorem gp_fill {m : List Int} {s : Int} (hm : mvd m s = true) : (gf (mgL m s) s = (m.length : Int)) ↔ memTo (mgL m s) 0 (mgL m s).length = false := by
  have hl : (mgL m s).length = m.length := by simp [mgL, hm, mapTo_length]
  unfold gf; rw [if_pos (mgL_valid9 hm), hl]
  constructor
  · intro e
    have e2 : cnz (mgL m s) m.length = m.length := by omega
    have h := cnz_all e2
    cases hm0 : memTo (mgL m s) 0 (mgL m s).length with
    | false => rw [← hl]; exact hm0
    | true =>
      obtain ⟨k, hk, e0⟩ := memTo_at9 hm0; exact absurd e0 (h k (by omega))
  · intro e
    have : cnz (mgL m s) m.length = m.length := cnz_of (fun j hj h0 => by
      have := memTo_hit (xs := mgL m s) (v := 0) (by omega : j < (mgL m s).length) h0
      rw [hl, e] at this; cases this)
    omega
set_option maxHeartbeats 2000000 in
theorem solvedBy_any (t : Nat) (Ag : Option Addr) (n cg Bg : Nat) (gi : List Int) (Ar : Option Addr) (nr cr Br : Nat) (rs : List RuleM) (M : Nat) (w : World) (hp : PGc w (t : Nat) Ag n cg Bg gi Ar nr cr Br rs) (hT : Tz w) (hv : pvB (t : Nat) gi rs = true) (hM : 1 ≤ M ∧ M ≤ 4) :
    Calls Tryz.prog 66 #[.agg #[.int .i64 (t : Nat), .slice Ag n cg, .slice Ar nr cr], .int .i64 (M : Nat)] w fun e w' => e = .returned (.bool (sbB (t : Nat) n gi rs (M : Nat))) ∧ Below w.heap.size w w' := by
  have hx0 := pbox_new w (t : Nat) Ag n cg Ar nr cr 26; obtain ⟨W, hW⟩ : ∃ W, w.alloc (.cells #[.int .i64 (t : Nat), .slice Ag n cg, .slice Ar nr cr] 26) = W := ⟨_, rfl⟩
  have hb0 : Below w.heap.size w W := by rw [← hW]; exact (Below.refl _ _).alloc (Nat.le_refl _) _
  have hs0 : w.heap.size < W.heap.size := by rw [← hW]; simp
  rw [hW] at hx0; obtain ⟨hXl, hXv⟩ := start_mvdM (rs := rs) hp.g.1 hv
  have hn16 : n ≤ 16 := by
    have := (mvd_at hXv).2.2.1; omega
  have hts : -9223372036854775808 ≤ ((t : Nat) : Int) ∧ ((t : Nat) : Int) ≤ 9223372036854775807 := by
    have := (mvd_at hXv).1; omega
  obtain ⟨X, hX⟩ : ∃ X, X = startL (t : Nat) gi rs n := ⟨_, rfl⟩; rw [← hX] at hXl hXv; obtain ⟨Y, hY⟩ : ∃ Y, Y = naL (t : Nat) gi rs X (M : Nat) := ⟨_, rfl⟩
  have hYv : mvd Y (t : Nat) = true := by
    rw [hY]; unfold naL; rw [if_pos (by simp [hv, hXv, inr]; omega), Int.toNat_natCast]; exact (na_wi hv hM.2 hXv).2.1
  have hYl : Y.length ≤ 16 := (mvd_at hYv).2.2.1; have HS := Lib.hid (show sbB (t : Nat) n gi rs (M : Nat) = !memTo (mgL Y (t : Nat)) 0 (mgL Y (t : Nat)).length by rw [hY, hX]; rfl)
  have HI0 := Lib.hid (fun w' (hb : Below W.heap.size W w') => by
    have := implStartMasks _ _ _ _ _ _ _ _ _ _ _ _ (hp.below (step hb0 hb)); rw [← hX] at this
    exact this)
  have hdr : Below W.heap.size W W.drew := (Below.refl _ _).drew; have hX64 := b64_mvd hXv; have hY64 := b64_mvd hYv; have HTz := Lib.hid (fun w' (hb : Below W.heap.size W w') => hT.below hT.lt (step hb0 hb))
  have HI := Lib.hid (fun (A9 : Option Addr) (c9 n9 B9 : Nat) (w' : World) (hb : Below W.heap.size W w') (hr : Rd w' B9 A9 n9 X) (hB : B9 ≤ w'.heap.size) (h9 : n9 ≤ 1099511627776) => by
    have := implNarrowAll _ _ _ _ _ _ _ _ _ _ _ A9 c9 n9 B9 X (M : Nat) w' (hp.below (step hb0 hb)) hr hB hX64 h9 (HTz.out _ hb) hts; rw [← hY] at this
    exact this)
  have HMG := Lib.hid (fun (A9 : Option Addr) (c9 n9 B9 : Nat) (w' : World) (hb : Below W.heap.size W w') (hr : Rd w' B9 A9 n9 Y) (hB : B9 ≤ w'.heap.size) (h9 : n9 ≤ 1099511627776) => implMasksGrid A9 c9 n9 B9 Y (t : Nat) w' hr hY64 (HTz.out _ hb) hB h9 hts); have HX := Lib.hid (fun w' (hb : Below W.heap.size W w') => hx0.below hs0 hb); have HB := Lib.hid (fun w' (hb : Below W.heap.size W w') => step hb0 hb); have HW := Lib.hid hW
  have hgl : (mgL Y (t : Nat)).length ≤ 16 := by simp [mgL, hYv, mapTo_length]; omega
  have hX16 : X.length ≤ 1099511627776 := by omega
  have hY16 : Y.length ≤ 1099511627776 := by omega
  obtain ⟨z0, z1, z2⟩ := id hx0; clear hW hx0 hb0 hY hX hYv hXv hXl hYl hts hv hM hp hs0 hX64 hY64
  go_enter Tryz.func66, Tryz.ntmps66
  go_wp2_with fail
  rw [HW.out]
  go_region_with (first
    | (go_at_call 40; refine (HI0.out _ hdr).mono ?_; rintro e w2 ⟨Ax, cx, rfl, hox, hb2⟩; have h02 := step hdr hb2; obtain ⟨y0, y1, y2⟩ := HX.out _ h02)
    | (go_at_call 34; refine (HI.out _ _ _ _ _ h02 hox.rd (Nat.le_refl _) hX16).mono ?_; rintro e w3 ⟨A3, n3, c3, rfl, ho3, hb3⟩))
  all_goals
    obtain rfl := ho3.len; have h03 := step h02 hb3; obtain ⟨x0, x1, x2⟩ := HX.out _ h03
    go_wp2_with (first
      | (go_at_call 41; refine (HMG.out _ _ _ _ _ h03 ho3.rd (Nat.le_refl _) hY16).mono ?_; rintro e w4 ⟨A4, c4, rfl, ho4, hb4⟩)
      | (go_at_call 54; refine (contains_any _ _ _ _ _ 0 _ ho4.rd (by omega)).mono ?_; rintro e w5 ⟨rfl, rfl⟩))
    go_ret
    exact ⟨by rw [HS.out]; rfl, HB.out _ (step h03 hb4)⟩
set_option maxHeartbeats 2000000 in
theorem implGradePuzzle (s : Int) (Ag : Option Addr) (n cg Bg : Nat) (gi : List Int) (Ar : Option Addr) (nr cr Br : Nat) (rs : List RuleM) (w : World) (hp : PGc w s Ag n cg Bg gi Ar nr cr Br rs) (hT : Tz w) :
    Calls Tryz.prog 26 #[.agg #[.int .i64 s, .slice Ag n cg, .slice Ar nr cr]] w fun e w' => e = .returned (.int .i64 (gpI s n gi rs)) ∧ Below w.heap.size w w' := by
  have hx0 := pbox_new w s Ag n cg Ar nr cr 26; obtain ⟨W, hW⟩ : ∃ W, w.alloc (.cells #[.int .i64 s, .slice Ag n cg, .slice Ar nr cr] 26) = W := ⟨_, rfl⟩
  have hb0 : Below w.heap.size w W := by rw [← hW]; exact (Below.refl _ _).alloc (Nat.le_refl _) _
  have hs0 : w.heap.size < W.heap.size := by rw [← hW]; simp
  rw [hW] at hx0; have HV := Lib.hid (valid_any s Ag n cg Bg gi Ar nr cr Br rs W (hp.below hb0)); have HX := Lib.hid (fun w' (hb : Below W.heap.size W w') => hx0.below hs0 hb); have HB := Lib.hid (fun w' (hb : Below W.heap.size W w') => step hb0 hb); have HW := Lib.hid hW; obtain ⟨z0, z1, z2⟩ := id hx0; cases hv : pvB s gi rs
  · have HL := Lib.hid (show gpI s n gi rs = -1 by simp [gpI, hv])
    go_enter Tryz.func26, Tryz.ntmps26
    clear hW
    go_wp2_with fail
    rw [HW.out]
    go_wp2_with (go_at_call 48; refine HV.out.mono ?_; rintro e w1 ⟨rfl, hb1⟩; rw [hv])
    go_ret
    exact ⟨by rw [HL.out]; rfl, HB.out _ hb1⟩
  · obtain ⟨t, rfl, hs, _, _, _⟩ := pv_grid hv hp.g.1; have HCS := Lib.hid (fun w' (hb : Below W.heap.size W w') => hasOne_any _ _ _ _ _ _ _ _ _ _ _ w' (hp.below (step hb0 hb)) hv (hT.below hT.lt (step hb0 hb))); obtain ⟨q, hq⟩ : ∃ q, q = (allS t 2 n gi rs).length := ⟨_, rfl⟩; have HSB := Lib.hid (fun (M : Nat) (h1 : 1 ≤ M) (h4 : M ≤ 4) w' (hb : Below W.heap.size W w') => solvedBy_any _ _ _ _ _ _ _ _ _ _ _ M w' (hp.below (step hb0 hb)) (hT.below hT.lt (step hb0 hb)) hv ⟨h1, h4⟩)
    by_cases h1 : q = 1
    · have HL := Lib.hid (show gpI t n gi rs = gpF t n gi rs 4 1 by simp [gpI, hv, ← hq, h1]); have HC := Lib.hid (show oneB t n gi rs = true by unfold oneB; rw [← hq, h1]; rfl); subst h1; clear hW hx0 hb0 hs0 hp hq hs
      go_enter Tryz.func26, Tryz.ntmps26
      go_wp2_with fail
      rw [HW.out]
      go_wp2_with (first
        | (go_at_call 48; refine HV.out.mono ?_; rintro e w1 ⟨rfl, hb1⟩; rw [hv]; obtain ⟨y0, y1, y2⟩ := HX.out _ hb1)
        | (go_at_call 65; refine (HCS.out _ hb1).mono ?_; rintro e w2 ⟨rfl, hb2⟩; rw [HC.out]; have h02 := step hb1 hb2))
      go_loopw [3] (fun i wr => ∃ M : Nat, 1 ≤ M ∧ M ≤ 5 ∧ i = .int .i64 M ∧ gpF t n gi rs 4 1 = gpF t n gi rs (5 - M) M ∧ Below W.heap.size W wr) (fun i _ => 5 - (intOf i).toNat)
      case atStart => exact ⟨1, by omega, by omega, rfl, rfl, h02⟩
      case round =>
        obtain ⟨M, m1, m5, rfl, hg, hb⟩ := hrel; obtain ⟨x0, x1, x2⟩ := HX.out _ hb
        by_cases hlt : M ≤ 4
        · have hltI : (M : Int) ≤ 4 := (by omega)
          have HG := Lib.hid (show gpF t n gi rs 4 1 = if sbB t n gi rs (M : Nat) = true then ((M : Nat) : Int) else gpF t n gi rs (4 - M) (M + 1) by
            rw [hg, show 5 - M = (4 - M) + 1 by omega]; rfl)
          clear hg; cases hsb : sbB t n gi rs (M : Nat)
          · go_wp2_with (go_at_call 66; refine (HSB.out M m1 hlt _ hb).mono ?_; rintro e w3 ⟨rfl, hb3⟩; rw [hsb])
            go_roundw
            case rel => exact ⟨M + 1, by omega, by omega, by go_num, by rw [HG.out, hsb, if_neg (by simp), show 5 - (M + 1) = 4 - M by omega], step hb hb3⟩
            case measure => simp [intOf]; omega
          · go_wp2_with (go_at_call 66; refine (HSB.out M m1 hlt _ hb).mono ?_; rintro e w3 ⟨rfl, hb3⟩; rw [hsb])
            go_ret
            exact ⟨by rw [HL.out, HG.out, hsb, if_pos rfl]; rfl, HB.out _ (step hb hb3)⟩
        · obtain rfl : M = 5 := by omega
          have HG := Lib.hid (show gpF t n gi rs 4 1 = 5 by rw [hg]; rfl); clear hg
          go_wp2
          go_ret
          exact ⟨by rw [HL.out, HG.out]; rfl, HB.out _ hb⟩
    · have HL := Lib.hid (show gpI t n gi rs = 0 by
        unfold gpI; rw [if_pos hv, ← hq, if_neg h1])
      have HC := Lib.hid (show oneB t n gi rs = false by unfold oneB; rw [← hq, beq_eq_false_iff_ne]; exact h1); clear hW hx0 hb0 hs0 hp hq hs
      go_enter Tryz.func26, Tryz.ntmps26
      go_wp2_with fail
      rw [HW.out]
      go_wp2_with (first
        | (go_at_call 48; refine HV.out.mono ?_; rintro e w1 ⟨rfl, hb1⟩; rw [hv]; obtain ⟨y0, y1, y2⟩ := HX.out _ hb1)
        | (go_at_call 65; refine (HCS.out _ hb1).mono ?_; rintro e w2 ⟨rfl, hb2⟩; rw [HC.out]; have h02 := step hb1 hb2))
      go_ret
      exact ⟨by rw [HL.out]; rfl, HB.out _ h02⟩
set_option maxHeartbeats 4000000 in
theorem specGradePuzzle (s : Int) (Ag : Option Addr) (n cg Bg : Nat) (gi : List Int) (Ar : Option Addr) (nr cr Br : Nat) (rs : List RuleM) (w : World) (hp : PGs w s Ag n cg Bg gi Ar nr cr Br rs) :
    Calls Tryz.prog 39 #[.agg #[.int .i64 s, .slice Ag n cg, .slice Ar nr cr]] w fun e w' => e = .returned (.int .i64 (gpI s n gi rs)) ∧ Below w.heap.size w w' := by
  have hx0 := pbox_new w s Ag n cg Ar nr cr 26; obtain ⟨W, hW⟩ : ∃ W, w.alloc (.cells #[.int .i64 s, .slice Ag n cg, .slice Ar nr cr] 26) = W := ⟨_, rfl⟩
  have hb0 : Below w.heap.size w W := by rw [← hW]; exact (Below.refl _ _).alloc (Nat.le_refl _) _
  have hs0 : w.heap.size < W.heap.size := by rw [← hW]; simp
  rw [hW] at hx0; have HP := Lib.hid (specPuzzleValid s Ag n cg Bg gi Ar nr cr Br rs W (hp.below hb0).g (hp.below hb0).gB hp.gm (hp.below hb0).r (hp.below hb0).rB hp.rm); have HX := Lib.hid (fun w' (hb : Below W.heap.size W w') => hx0.below hs0 hb); have HB := Lib.hid (fun w' (hb : Below W.heap.size W w') => step hb0 hb); have HW := Lib.hid hW; have HA := Lib.hid (fun w' (hb : Below W.heap.size W w') => (show Calls Tryz.prog 51 #[.agg #[.int .i64 s, .slice Ag n cg, .slice Ar nr cr], .int .i64 2] w' _ from specAll s 2 Ag n cg Bg gi Ar nr cr Br rs w' (hp.below (step hb0 hb)) (by omega) (by omega)))
  obtain ⟨z0, z1, z2⟩ := id hx0; cases hv : pvB s gi rs
  · have HL := Lib.hid (show gpI s n gi rs = -1 by simp [gpI, hv]); clear hW
    go_enter Tryz.func39, Tryz.ntmps39
    go_wp2_with fail
    rw [HW.out]
    go_wp2_with (go_at_call 21; refine HP.out.mono ?_; rintro e w1 ⟨rfl, hb1⟩; rw [hv])
    go_ret
    exact ⟨by rw [HL.out]; rfl, HB.out _ hb1⟩
  · obtain ⟨t, rfl, hs, _, _, _⟩ := pv_grid hv hp.g.1; obtain ⟨q, hq⟩ : ∃ q, q = (allS t 2 n gi rs).length := ⟨_, rfl⟩; obtain ⟨LA, hLA⟩ : ∃ LA, LA = allS t 2 n gi rs := ⟨_, rfl⟩; rw [← hLA] at HA hq
    by_cases h1 : q = 1
    · have HL := Lib.hid (show gpI t n gi rs = gpF t n gi rs 4 1 by simp [gpI, hv, ← hLA, ← hq, h1]); obtain ⟨hXl, hXv⟩ := start_mvdM (rs := rs) hp.g.1 hv; have hX16 := (mvd_at hXv).2.2.1
      have hts : -9223372036854775808 ≤ ((t : Nat) : Int) ∧ ((t : Nat) : Int) ≤ 9223372036854775807 := by
        have := (mvd_at hXv).1; omega
      have HSM := Lib.hid (fun w' (hb : Below W.heap.size W w') => specStartMasks _ _ _ _ _ _ _ _ _ _ _ _ (hp.below (step hb0 hb))); have HNA := Lib.hid (fun (A9 : Option Addr) (c9 n9 B9 M : Nat) (w' : World) (hb : Below W.heap.size W w') (hr : Rd w' B9 A9 n9 (startL t gi rs n)) (hB : B9 ≤ w'.heap.size) (h9 : n9 ≤ 1099511627776) => specNarrowAllX _ _ _ _ _ _ _ _ _ _ _ A9 c9 n9 B9 _ (M : Nat) w' (hp.below (step hb0 hb)) hr hB h9 hts); have HMG := Lib.hid (fun (A9 : Option Addr) (c9 n9 B9 : Nat) (Y : List Int) (w' : World) (hr : Rd w' B9 A9 n9 Y) (hB : B9 ≤ w'.heap.size) (h9 : n9 ≤ 1099511627776) => specMasksGrid A9 c9 n9 B9 Y (t : Nat) w' hr hB h9 hts)
      have HYv := Lib.hid (fun (M : Nat) (h1 : 1 ≤ M) (h4 : M ≤ 4) => show mvd (naL t gi rs (startL t gi rs n) (M : Nat)) t = true by
        unfold naL; rw [if_pos (by simp [hv, hXv, inr]; omega), Int.toNat_natCast]
        exact (na_wi hv h4 hXv).2.1)
      have HXl : Hid ((startL t gi rs n).length ≤ 16) := Lib.hid hX16
      have HYc := Lib.hid (fun (M : Nat) (h1 : 1 ≤ M) (h4 : M ≤ 4) => show ((gf (mgL (naL t gi rs (startL t gi rs n) (M : Nat)) t) t == ((naL t gi rs (startL t gi rs n) (M : Nat)).length : Int)) = sbB t n gi rs (M : Nat)) by
        rw [Bool.eq_iff_iff]; simp only [beq_iff_eq, sbB]; rw [gp_fill (HYv.out M h1 h4)]
        simp)
      have HYl := Lib.hid (fun (M : Nat) (h1 : 1 ≤ M) (h4 : M ≤ 4) => (mvd_at (HYv.out M h1 h4)).2.2.1)
      have HGl := Lib.hid (fun (M : Nat) (h1 : 1 ≤ M) (h4 : M ≤ 4) => show (mgL (naL t gi rs (startL t gi rs n) (M : Nat)) t).length ≤ 16 by
        have := HYl.out M h1 h4; simp only [mgL, HYv.out M h1 h4, if_true, mapTo_length]
        exact this)
      subst h1; have HQ := Lib.hid hq; clear hq; obtain ⟨X, hX⟩ : ∃ X, X = startL t gi rs n := ⟨_, rfl⟩; rw [← hX] at HSM HNA HYv HXl HYc HYl HGl; clear hW hx0 hb0 hs0 hp hs hX hXl hXv hX16 hts hLA
      go_enter Tryz.func39, Tryz.ntmps39
      go_wp2_with fail
      rw [HW.out]
      go_wp2_with (first
        | (go_at_call 21; refine HP.out.mono ?_; rintro e w1 ⟨rfl, hb1⟩; rw [hv]; obtain ⟨y0, y1, y2⟩ := HX.out _ hb1)
        | (go_at_call 51; (refine (HA.out _ hb1).mono ?_); rintro e w2 ⟨P, v, rfl, hrows, hb2⟩; obtain ⟨A1, c1, vs, rfl, _⟩ := hrows; rw [← HQ.out]; have h02 := step hb1 hb2))
      go_loopw [3, 4, 5] (fun i _ _ wr => ∃ M : Nat, 1 ≤ M ∧ M ≤ 5 ∧ i = .int .i64 M ∧ gpF t n gi rs 4 1 = gpF t n gi rs (5 - M) M ∧ Below W.heap.size W wr) (fun i _ _ _ => 5 - (intOf i).toNat)
      case atStart => exact ⟨1, by omega, by omega, rfl, rfl, h02⟩
      case round =>
        obtain ⟨M, m1, m5, rfl, hg, hb⟩ := hrel; obtain ⟨x0, x1, x2⟩ := HX.out _ hb
        by_cases hlt : M ≤ 4
        · have hltI : (M : Int) ≤ 4 := (by omega)
          have HG := Lib.hid (show gpF t n gi rs 4 1 = if sbB t n gi rs (M : Nat) = true then ((M : Nat) : Int) else gpF t n gi rs (4 - M) (M + 1) by
            rw [hg, show 5 - M = (4 - M) + 1 by omega]; rfl)
          obtain ⟨Y, hY⟩ : ∃ Y, Y = naL t gi rs X (M : Nat) := ⟨_, rfl⟩
          have hNA := fun (A9 : Option Addr) (c9 n9 B9 : Nat) => HNA.out A9 c9 n9 B9 M
          have hYc := HYc.out M m1 hlt; have hYl := HYl.out M m1 hlt; have hGl := HGl.out M m1 hlt; rw [← hY] at hNA hYc hYl hGl; have hNA := Lib.hid hNA; have hYc := Lib.hid hYc; have hY16 : Y.length ≤ 1099511627776 := (by omega); have hg16 : (mgL Y t).length ≤ 1099511627776 := (by omega); have hd : Below W.heap.size W wr.drew := hb.drew; have hX16 : X.length ≤ 1099511627776 := (by have := HXl.out; omega); clear hg hY hYl hGl
          go_wp2
          go_region_with (first
            | (go_at_call 79; refine (HSM.out _ hd).mono ?_; rintro e w3 ⟨Ax, cx, rfl, hox, hb3⟩; have h03 := step hd hb3; obtain ⟨y0, y1, y2⟩ := HX.out _ h03)
            | (go_at_call 35; refine (hNA.out _ _ _ _ _ h03 hox.rd (Nat.le_refl _) hX16).mono ?_; rintro e w4 ⟨A4, n4, c4, rfl, ho4, hb4⟩))
          all_goals
            obtain rfl := ho4.len; have h04 := step h03 hb4; have h4d : Below W.heap.size W w4.drew := h04.drew; obtain ⟨u0, u1, u2⟩ := HX.out _ h04; have ho4d := ho4.rd.below (Below.refl _ w4).drew
            go_wp2
            go_region_with (first
              | (go_at_call 81; refine (HMG.out _ _ _ _ _ _ ho4d (Nat.le_refl _) hY16).mono ?_; rintro e w5 ⟨A5, c5, rfl, ho5, hb5⟩; have h05 := step h4d hb5; obtain ⟨p0, p1, p2⟩ := HX.out _ h05)
              | (go_at_call 80; refine (specGridFilled _ _ _ _ _ _ _ ho5.rd hg16).mono ?_; rintro e w6 ⟨rfl, rfl⟩))
            all_goals
              have h6B := step h05 (Below.refl _ _); cases hsb : sbB t n gi rs (M : Nat)
              · have hcq : (gf (mgL Y t) t == (Y.length : Int)) = false := (by rw [hYc.out, hsb])
                go_wp2
                go_roundw
                case rel => exact ⟨M + 1, by omega, by omega, by go_num, by rw [HG.out, hsb, if_neg (by simp), show 5 - (M + 1) = 4 - M by omega], h6B⟩
                case measure => simp [intOf]; omega
              · have hcq : (gf (mgL Y t) t == (Y.length : Int)) = true := (by rw [hYc.out, hsb])
                go_wp2
                go_ret
                exact ⟨by rw [HL.out, HG.out, hsb, if_pos rfl]; rfl, HB.out _ h6B⟩
        · obtain rfl : M = 5 := by omega
          have HG := Lib.hid (show gpF t n gi rs 4 1 = 5 by rw [hg]; rfl); clear hg
          go_wp2
          go_ret
          exact ⟨by rw [HL.out, HG.out]; rfl, HB.out _ hb⟩
    · have HL := Lib.hid (show gpI t n gi rs = 0 by
        unfold gpI; rw [if_pos hv, ← hLA, ← hq, if_neg h1])
      have hne : ((q : Int) != 1) = true := (by rw [bne_iff_ne]; omega); have HQ := Lib.hid hq; clear hW hx0 hb0 hs0 hp hs hLA hq
      go_enter Tryz.func39, Tryz.ntmps39
      go_wp2_with fail
      rw [HW.out]
      go_wp2_with (first
        | (go_at_call 21; refine HP.out.mono ?_; rintro e w1 ⟨rfl, hb1⟩; rw [hv]; obtain ⟨y0, y1, y2⟩ := HX.out _ hb1)
        | (go_at_call 51; (refine (HA.out _ hb1).mono ?_); rintro e w2 ⟨P, v, rfl, hrows, hb2⟩; obtain ⟨A1, c1, vs, rfl, _⟩ := hrows; rw [← HQ.out]; have h02 := step hb1 hb2))
      go_ret
      exact ⟨by rw [HL.out]; rfl, HB.out _ h02⟩
set_option maxHeartbeats 1000000 in
theorem toRule_any (k : Int) (A : Option Addr) (n c B : Nat) (xs : List Int) (v : Int) (w : World) (h : Rd w B A n xs) (hB : B ≤ w.heap.size) (hm : n ≤ 1099511627776) :
    Calls Tryz.prog 131 #[.agg #[.int .i64 k, .slice A n c, .int .i64 v]] w fun e w' => ∃ A', e = .returned (.agg #[.int .i64 k, .slice A' n n, .int .i64 v]) ∧ Ow w' w.heap.size A' n n xs ∧ Below w.heap.size w w' := by
  have Hone := Lib.hid rule_one; have Hi := Lib.hid rule_info; have hx0 := rbox_new w k A n c v 144; have hb0 : Below w.heap.size w (w.alloc (.cells #[.int .i64 k, .slice A n c, .int .i64 v] 144)) := (Below.refl _ _).alloc (Nat.le_refl _) _
  have hs0 : w.heap.size < (w.alloc (.cells #[.int .i64 k, .slice A n c, .int .i64 v] 144)).heap.size := by simp
  obtain ⟨V, hV⟩ : ∃ V, V = ((w.alloc (.cells #[.int .i64 k, .slice A n c, .int .i64 v] 144)).alloc (.cells #[.int .i64 0, .slice none 0 0, .int .i64 0] 87)).alloc (.cells #[.int .i64 k, .slice none 0 0, .int .i64 0] 87) := ⟨_, rfl⟩; have hb1 : Below w.heap.size w ((w.alloc (.cells #[.int .i64 k, .slice A n c, .int .i64 v] 144)).alloc (.cells #[.int .i64 0, .slice none 0 0, .int .i64 0] 87)) := hb0.alloc hb0.size _
  have hbV : Below w.heap.size w V := by rw [hV]; exact hb1.alloc hb1.size _
  have hsV : V.heap.size = w.heap.size + 1 + 1 + 1 := by rw [hV]; simp
  have hv2 : V.heap[w.heap.size + 1 + 1]? = some (.cells #[.int .i64 k, .slice none 0 0, .int .i64 0] 87) := by
    have := heap_alloc2_new (w.alloc (.cells #[.int .i64 k, .slice A n c, .int .i64 v] 144)) (.cells #[.int .i64 0, .slice none 0 0, .int .i64 0] 87) (.cells #[.int .i64 k, .slice none 0 0, .int .i64 0] 87); rw [World.size_alloc] at this; rw [hV]; exact this
  have hv1 : V.heap[w.heap.size + 1]? = some (.cells #[.int .i64 0, .slice none 0 0, .int .i64 0] 87) := by
    have := heap_alloc2_old (w.alloc (.cells #[.int .i64 k, .slice A n c, .int .i64 v] 144)) (.cells #[.int .i64 0, .slice none 0 0, .int .i64 0] 87) (.cells #[.int .i64 k, .slice none 0 0, .int .i64 0] 87); rw [World.size_alloc] at this; rw [hV]; exact this
  have hx1 : RBox V w.heap.size k A n c v := by
    rw [hV]; refine hx0.below hs0 ?_
    have e : (w.alloc (.cells #[.int .i64 k, .slice A n c, .int .i64 v] 144)).heap.size = w.heap.size + 1 := by simp
    rw [e]; have b1 : Below (w.heap.size + 1) (w.alloc (.cells #[.int .i64 k, .slice A n c, .int .i64 v] 144)) ((w.alloc (.cells #[.int .i64 k, .slice A n c, .int .i64 v] 144)).alloc (.cells #[.int .i64 0, .slice none 0 0, .int .i64 0] 87)) := (Below.refl _ _).alloc (Nat.le_of_eq e.symm) _; exact b1.alloc (by simp) _
  obtain ⟨k0, k1, k2⟩ := id hx1; have hR := h.below (hbV.mono hB)
  have hBV : B ≤ V.heap.size := by omega
  have hwV : w.heap.size ≤ V.heap.size := by omega
  have hwV0 : w.heap.size < V.heap.size := by omega
  have hwV1 : w.heap.size + 1 < V.heap.size := by omega
  have hwV2 : w.heap.size + 1 + 1 < V.heap.size := by omega
  have hne02 : w.heap.size + 1 + 1 ≠ w.heap.size := by omega
  have hne12 : w.heap.size + 1 ≠ w.heap.size + 1 + 1 := by omega
  have HV := Lib.hid hV; have HsV := Lib.hid hsV; clear hV hsV
  go_enter Tryz.func131, Tryz.ntmps131
  go_wp2_with (first
    | (go_at_call 86; (rw [← HV.out]); refine (toIntS_any _ _ _ _ _ _ hR hBV hm).mono ?_; rintro e w1 ⟨rfl, ho1, hbw1⟩; have f1 := (hbw1.block (w.heap.size + 1) hwV1).trans hv1; have f2 := (hbw1.block (w.heap.size + 1 + 1) hwV2).trans hv2; obtain ⟨j0, j1, j2⟩ := hx1.below hwV0 hbw1; have g1 := (heap_setCell_other w1 ⟨w.heap.size + 1 + 1, 1, none⟩ (w.heap.size + 1) (.slice (some ⟨V.heap.size, 0, none⟩) n n) hne12).trans f1; have g2 := heap_setCell_same w1 (w.heap.size + 1 + 1) 1 _ _ (.slice (some ⟨V.heap.size, 0, none⟩) n n) f2; have fz := frozen_of_row w1 (w.heap.size + 1 + 1) 1 _ _ f2; have m0 : w1.cell? ⟨w.heap.size + 1 + 1, 0, none⟩ = some (.int .i64 k) := cell_of_row _ _ 0 _ _ (0, 0) f2; have m1 : w1.cell? ⟨w.heap.size + 1 + 1, 1, none⟩ = some (.slice none 0 0) := cell_of_row _ _ 1 _ _ (0, 0) f2; have m2 : w1.cell? ⟨w.heap.size + 1 + 1, 2, none⟩ = some (.int .i64 0) := cell_of_row _ _ 2 _ _ (0, 0) f2; have n2 : (w1.setCell ⟨w.heap.size + 1 + 1, 1, none⟩ (.slice (some ⟨V.heap.size, 0, none⟩) n n)).cell? ⟨w.heap.size + 1 + 1, 2, none⟩ = some (.int .i64 0) := cell_of_row _ _ 2 _ _ (0, 0) g2; have fz2 := frozen_of_row (w1.setCell ⟨w.heap.size + 1 + 1, 1, none⟩ (.slice (some ⟨V.heap.size, 0, none⟩) n n)) (w.heap.size + 1 + 1) 2 _ _ g2; have l0 : (w1.setCell ⟨w.heap.size + 1 + 1, 1, none⟩ (.slice (some ⟨V.heap.size, 0, none⟩) n n)).cell? ⟨w.heap.size, 2, none⟩ = some (.int .i64 v) := (World.cell?_setCell_far w1 ⟨w.heap.size + 1 + 1, 1, none⟩ ⟨w.heap.size, 2, none⟩ _ hne02).trans j2; have r1 := (heap_setCell_other (w1.setCell ⟨w.heap.size + 1 + 1, 1, none⟩ (.slice (some ⟨V.heap.size, 0, none⟩) n n)) ⟨w.heap.size + 1 + 1, 2, none⟩ (w.heap.size + 1) (.int .i64 v) hne12).trans g1; have r2 := heap_setCell_same (w1.setCell ⟨w.heap.size + 1 + 1, 1, none⟩ (.slice (some ⟨V.heap.size, 0, none⟩) n n)) (w.heap.size + 1 + 1) 2 _ _ (.int .i64 v) g2)
    | ((refine wpList_load_row rfl 87 _ rfl (w.heap.size + 1 + 1) rfl 87 #[.int .i64 k, .slice (some ⟨V.heap.size, 0, none⟩) n n, .int .i64 v] (0, 0) _ r2 Tryz.underlying87 rfl (Hi.out _ _ _ _ _) ?_))
    | ((refine wpList_store_row rfl 87 _ _ rfl (w.heap.size + 1) #[.int .i64 k, .slice (some ⟨V.heap.size, 0, none⟩) n n, .int .i64 v] rfl rfl 87 #[.int .i64 0, .slice none 0 0, .int .i64 0] r1 (Hi.out _ _ _ _ _) rfl (Hone.out _ _ _ _ _) ?_)))
  have hbw2 : Below w.heap.size w w1 := hbV.trans (hbw1.mono hwV); have hB2 : Below w.heap.size w (((w1.setCell ⟨w.heap.size + 1 + 1, 1, none⟩ (.slice (some ⟨V.heap.size, 0, none⟩) n n)).setCell ⟨w.heap.size + 1 + 1, 2, none⟩ (.int .i64 v)).setRow (w.heap.size + 1) #[.int .i64 k, .slice (some ⟨V.heap.size, 0, none⟩) n n, .int .i64 v]) := setRow_below5 ((hbw2.setCell (show w.heap.size ≤ w.heap.size + 1 + 1 by omega) _).setCell (show w.heap.size ≤ w.heap.size + 1 + 1 by omega) _) (by omega); have hlo1 := ho1.own_lo; have HsV' := HsV.out; have ho2 : Ow (w1.setCell ⟨w.heap.size + 1 + 1, 1, none⟩ (.slice (some ⟨V.heap.size, 0, none⟩) n n)) V.heap.size (some ⟨V.heap.size, 0, none⟩) n n xs := ho1.far (row := some (w.heap.size + 1 + 1)) grown_set (fun b hb e => by have := hlo1 b hb; injection e with e; omega)
  have ho3 : Ow ((w1.setCell ⟨w.heap.size + 1 + 1, 1, none⟩ (.slice (some ⟨V.heap.size, 0, none⟩) n n)).setCell ⟨w.heap.size + 1 + 1, 2, none⟩ (.int .i64 v)) V.heap.size (some ⟨V.heap.size, 0, none⟩) n n xs := ho2.far (row := some (w.heap.size + 1 + 1)) grown_set (fun b hb e => by have := hlo1 b hb; injection e with e; omega); refine bodyPost_ret (v := .agg #[.int .i64 k, .slice (some ⟨V.heap.size, 0, none⟩) n n, .int .i64 v]) (results_cell_row (by rfl) _ _ (w.heap.size + 1) 87 _ (0, 0) _ rfl (setRow_heap _ _ _ _ _ _ r1) Tryz.underlying87 rfl (Hi.out _ _ _ _ _)) rfl ⟨_, rfl, (ho3.row5 (fun b hb => ?_)).mono (by omega), hB2⟩
  have := hlo1 b hb; omega
theorem eqRule_any (A A' : Option Addr) (c c' n n' B B' : Nat) (xs ys : List Int) (k v k' v' : Int) (w : World) (h : Rd w B A n xs) (h' : Rd w B' A' n' ys) (hB : B ≤ w.heap.size) (hB' : B' ≤ w.heap.size) (hm : n ≤ 1099511627776) (hk : k = k') (hv : v = v') (he : xs = ys) :
    Calls Tryz.prog 132 #[.agg #[.int .i64 k, .slice A n c, .int .i64 v], .agg #[.int .i64 k', .slice A' n' c', .int .i64 v']] w fun e w' => e = .returned (.bool true) ∧ Below w.heap.size w w' := by
  subst hk hv he; have hx := rbox_new w k A n c v 87; have hb0 : Below w.heap.size w (w.alloc (.cells #[.int .i64 k, .slice A n c, .int .i64 v] 87)) := (Below.refl _ _).alloc (Nat.le_refl _) _
  have hs0 : w.heap.size < (w.alloc (.cells #[.int .i64 k, .slice A n c, .int .i64 v] 87)).heap.size := by simp
  have hx2 := rbox_new (w.alloc (.cells #[.int .i64 k, .slice A n c, .int .i64 v] 87)) k A' n' c' v 87; have hb1 : Below w.heap.size w ((w.alloc (.cells #[.int .i64 k, .slice A n c, .int .i64 v] 87)).alloc (.cells #[.int .i64 k, .slice A' n' c', .int .i64 v] 87)) := hb0.alloc hb0.size _; have hx1 := hx.below hs0 ((Below.refl _ _).alloc (Nat.le_refl _) (.cells #[.int .i64 k, .slice A' n' c', .int .i64 v] 87)); rw [World.size_alloc] at hx2
  have hs1 : w.heap.size < ((w.alloc (.cells #[.int .i64 k, .slice A n c, .int .i64 v] 87)).alloc (.cells #[.int .i64 k, .slice A' n' c', .int .i64 v] 87)).heap.size := by simp; omega
  have hs2 : w.heap.size + 1 < ((w.alloc (.cells #[.int .i64 k, .slice A n c, .int .i64 v] 87)).alloc (.cells #[.int .i64 k, .slice A' n' c', .int .i64 v] 87)).heap.size := by simp
  obtain ⟨a0, a1, a2⟩ := id hx1; obtain ⟨b0, b1, b2⟩ := id hx2
  have hkk : (k != k) = false := by simp
  have hvv : (v != v) = false := by simp
  have hC : Hid (Calls Tryz.prog 88 #[.slice A n c, .slice A' n' c'] ((w.alloc (.cells #[.int .i64 k, .slice A n c, .int .i64 v] 87)).alloc (.cells #[.int .i64 k, .slice A' n' c', .int .i64 v] 87)) fun e w' => e = .returned (.bool (same xs xs)) ∧ Below ((w.alloc (.cells #[.int .i64 k, .slice A n c, .int .i64 v] 87)).alloc (.cells #[.int .i64 k, .slice A' n' c', .int .i64 v] 87)).heap.size ((w.alloc (.cells #[.int .i64 k, .slice A n c, .int .i64 v] 87)).alloc (.cells #[.int .i64 k, .slice A' n' c', .int .i64 v] 87)) w') :=
    Lib.hid (eqIntS_any _ _ _ _ _ _ _ _ _ _ _ (h.below (hb1.mono hB)) (h'.below (hb1.mono hB')) hm)
  have hsame := same_refl xs
  go_enter Tryz.func132, Tryz.ntmps132
  go_wp2_with (go_at_call 88; refine hC.out.mono ?_; rintro e w2 ⟨rfl, hb2⟩; rw [hsame]; obtain ⟨d0, d1, d2⟩ := hx1.below hs1 hb2; obtain ⟨e0, e1, e2⟩ := hx2.below hs2 hb2)
  go_ret
  exact ⟨rfl, step hb1 hb2⟩
theorem szIntS_any (A : Option Addr) (c n : Nat) (l : Int) (w : World) (hm : n ≤ 9223372036854775807) (h0 : 0 ≤ l) (h1 : l ≤ 1099511627776) :
    Calls Tryz.prog 84 #[.slice A n c, .int .i64 l] w fun e w' => e = .returned (.int .i64 (if (n : Int) ≤ l then l - n else -1)) ∧ w = w' := by
  have e1 : wrap64 (l - n) = l - n := IntWalk.wrap64_in _ ⟨by omega, by omega⟩
  by_cases hn : (n : Int) ≤ l
  · go_enter Tryz.func84, Tryz.ntmps84
    go_wp2
    go_ret
    exact ⟨rfl, rfl⟩
  · go_enter Tryz.func84, Tryz.ntmps84
    go_wp2
    go_ret
    exact ⟨rfl, rfl⟩
theorem szRule_any (A : Option Addr) (c n : Nat) (k v l : Int) (w : World) (hm : n ≤ 9223372036854775807) (h0 : 0 ≤ l) (h1 : l ≤ 1099511627776) :
    Calls Tryz.prog 130 #[.agg #[.int .i64 k, .slice A n c, .int .i64 v], .int .i64 l] w fun e w' => e = .returned (.int .i64 (if (n : Int) ≤ l then l - n else -1)) ∧ Below w.heap.size w w' := by
  have hx := rbox_new w k A n c v 144; have hb0 : Below w.heap.size w (w.alloc (.cells #[.int .i64 k, .slice A n c, .int .i64 v] 144)) := (Below.refl _ _).alloc (Nat.le_refl _) _; obtain ⟨a0, a1, a2⟩ := id hx; obtain ⟨r, hr⟩ : ∃ r, r = (if (n : Int) ≤ l then l - (n : Int) else -1) := ⟨_, rfl⟩; have HC := Lib.hid (fun w => szIntS_any A c n l w hm h0 h1); rw [← hr] at HC ⊢
  by_cases hr0 : r < 0
  · have hr1 : r = -1 := by rw [hr] at hr0 ⊢; split at hr0 <;> omega
    have HR := Lib.hid hr1; clear hr hr1
    go_enter Tryz.func130, Tryz.ntmps130
    go_wp2_with (go_at_call 84; refine (HC.out _).mono ?_; rintro e w2 ⟨rfl, rfl⟩)
    go_ret
    exact ⟨by rw [HR.out]; rfl, hb0⟩
  · clear hr
    go_enter Tryz.func130, Tryz.ntmps130
    go_wp2_with (go_at_call 84; refine (HC.out _).mono ?_; rintro e w2 ⟨rfl, rfl⟩)
    go_ret
    exact ⟨rfl, hb0⟩
end Go.Proofs.YtcjdjcpappfkgaaGreatDoor
