import Derived.Test.YtcjdjcpappfkgaaDoorXFresh
import Derived.Test.YtcjdjcpappfkgaaDoorMade
import Derived.Test.YtcjdjcpappfkgaaDoorOwnP
import Derived.Deep.RegionHeld3
import Derived.Test.YtcjdjcpappfkgaaDoorXMkP
import Derived.Deep.Slices
import Derived.Deep.Fields
import Derived.Lib.SmallJoins
import Derived.ChangeSame
set_option maxRecDepth 8000
namespace Go.Proofs.YtcjdjcpappfkgaaDoor
open Go.ChangeShapes Go.WideShapes Go.ChangeAt Go.RowKit
/-- what is given, less what is redundant among the first k cells. -/
def minL (s : Int) (n : Nat) (rs : List RuleM) (gi : List Int) : Nat → List Int
  | 0 => gi
  | k + 1 => if redB s n (minL s n rs gi k) rs k = true then (minL s n rs gi k).set k 0 else minL s n rs gi k
theorem minL_length (s : Int) (n : Nat) (rs : List RuleM) (gi : List Int) (k : Nat) : (minL s n rs gi k).length = gi.length := by
  induction k with
  | zero => rfl
  | succ k ih => unfold minL; split <;> simp [ih]
theorem OwR.past {w0 w w' : World} {lo X k : Nat} {v : Value} {rs : List RuleM} (h : OwR w0 lo v rs k) (hb : Below w0.heap.size w0 w) (hg : w.grownBy w' (some X)) (hX : w0.heap.size ≤ X) : OwR w' lo v rs k := by
  obtain ⟨vs, hown, hin⟩ := id h
  obtain ⟨vs', hown', hin'⟩ := h.below hb
  have hv : ∀ b, v.ownBlock = some b → b ≠ X := fun b hbb e => by have := (World.ownsRow.lt hown b hbb).2; omega
  refine ⟨vs, World.ownsRow.kept (World.ownsRow.kept hown (row := none) ⟨hb.os, hb.tape, hb.output, hb.size, fun k hk _ => hb.block k hk⟩ (by cases e : v.ownBlock <;> simp)) hg (by
    cases e : v.ownBlock
    · exact .inl rfl
    · exact .inr (fun e2 => hv _ e (Option.some.inj e2))), fun i hi => ?_⟩
  obtain ⟨A', c', e0, e1, e2, e3, e4, e5⟩ := hin i hi
  exact ⟨A', c', e0, e1, e2, Ow.far (Ow.below e3 hb) hg (fun b hbb e => by have := (World.ownsRow.lt e3 b hbb).2; have := Option.some.inj e; omega), e4, e5⟩
theorem OwR.keptL {w w' : World} {lo G k : Nat} {v : Value} {rs : List RuleM} (h : OwR w lo v rs k) (hg : w.grownBy w' (some G)) (hG : G < lo) : OwR w' lo v rs k := by
  obtain ⟨vs, hown, hin⟩ := h
  refine ⟨vs, World.ownsRow.kept hown hg (by
    cases e : v.ownBlock
    · exact .inl rfl
    · refine .inr (fun e2 => ?_)
      have h1 := (World.ownsRow.lt hown _ e).1
      have h2 := Option.some.inj e2
      omega), fun i hi => ?_⟩
  obtain ⟨A', c', e0, e1, e2, e3, e4, e5⟩ := hin i hi
  exact ⟨A', c', e0, e1, e2, Ow.far e3 hg (fun g hgg e => by have h1 := e3.own_lo g hgg; have h2 := Option.some.inj e; omega), e4, e5⟩
theorem grown_setRow5 {w : World} {g : Nat} {cs : Array Value} : w.grownBy (w.setRow g cs) (some g) :=
  ⟨rfl, rfl, rfl, by simp, fun k hk hne => by unfold World.setRow; simp only [Array.getElem?_modify]; rw [if_neg (fun e => hne (by rw [e]))]⟩
theorem ownsRow_setX {w : World} {lo sz n X : Nat} {e t : TypeId} {v : Value} {xs : List Value} {cs cs' : Array Value} (h : w.ownsRow lo e sz v n xs) (hX : w.heap[X]? = some (.cells cs t)) (hne : t ≠ e) : (w.setRow X cs').ownsRow lo e sz v n xs := by
  refine World.ownsRow.kept h grown_setRow5 ?_
  rcases h.2 with ⟨rfl, _⟩ | ⟨g, cap, cur, rfl, hb, hg, _⟩
  · exact .inl rfl
  · refine .inr (fun e2 => ?_)
    have e3 : g = X := by simpa [Value.ownBlock] using e2
    subst e3
    rw [hX] at hg
    injection hg with hg
    injection hg with _ h2 _
    exact hne h2
theorem Ow.setX {w : World} {lo n c X : Nat} {A : Option Addr} {xs : List Int} {cs cs' : Array Value} (h : Ow w lo A n c xs) (hX : w.heap[X]? = some (.cells cs 30)) : Ow (w.setRow X cs') lo A n c xs := ownsRow_setX h hX (by decide)
theorem OwR.setX {w : World} {lo k X : Nat} {v : Value} {rs : List RuleM} {cs cs' : Array Value} (h : OwR w lo v rs k) (hX : w.heap[X]? = some (.cells cs 30)) : OwR (w.setRow X cs') lo v rs k := by
  obtain ⟨vs, hown, hin⟩ := h
  refine ⟨vs, ownsRow_setX hown hX (by decide), fun i hi => ?_⟩
  obtain ⟨A', c', e0, e1, e2, e3, e4, e5⟩ := hin i hi
  exact ⟨A', c', e0, e1, e2, e3.setX hX, e4, e5⟩
theorem SpQ.setX {w : World} {lo k X : Nat} {v : Value} {Q : Nat → Prop} {cs cs' : Array Value} (h : SpQ w lo v k Q) (hX : w.heap[X]? = some (.cells cs 30)) : SpQ (w.setRow X cs') lo v k Q := h.map fun _ hown => ownsRow_setX hown hX (by decide)
theorem SpQ.mono {w : World} {lo lo' k : Nat} {v : Value} {Q : Nat → Prop} (h : SpQ w lo v k Q) (hl : lo' ≤ lo) : SpQ w lo' v k Q := by
  obtain ⟨vs, h1, h2⟩ := h
  exact ⟨vs, World.ownsRow.mono h1 hl, h2⟩
theorem results_row_tmp {P : Program} {fn : Func} {p q : Tmp} {ty : TypeId} (h : fn.results = #[.cell p ty, .tmp q]) (tmps : Array Value) (w : World) (g : Nat) (t : TypeId) (cs : Array Value) (fr : Nat × Nat) (d : TypeDesc) (b : Value)
    (hp : tmps.getD p undef = .pointer (some ⟨g, 0, none⟩)) (hq : tmps.getD q undef = b) (hg : w.heap[g]? = some (.cells cs t fr))
    (hu : P.underlying ty = some d) (hd : (match d with | .struct _ | .array _ _ => true | _ => false) = true) (hi : (P.info? ty).map (·.size) = some cs.size) :
    (results fn tmps).run P w = .ok (.tuple #[.agg cs, b]) w := by
  have hp' : tmps[p]?.getD undef = .pointer (some ⟨g, 0, none⟩) := by simpa using hp
  have hq' : tmps[q]?.getD undef = b := by simpa using hq
  simp [results, h, hp', hq', asAddr, run_loadVar_row w g t ty cs fr d hg hu hd hi]
def MinPost (s : Int) (n : Nat) (gi : List Int) (nr : Nat) (rs : List RuleM) (w : World) (e : Ending) (w' : World) : Prop :=
  Below w.heap.size w w' ∧ ((e = .returned (.tuple #[.agg #[.int .i64 0, .slice none 0 0, .slice none 0 0], .bool false]) ∧ (pvB s gi rs && oneB s n gi rs) = false) ∨
    ((pvB s gi rs && oneB s n gi rs) = true ∧ ∃ A1 c1 A2 c2 K, e = .returned (.tuple #[.agg #[.int .i64 s, .slice A1 n c1, .slice A2 nr c2], .bool true]) ∧ Ow w' K A1 n c1 (minL s n rs gi n) ∧ w.heap.size ≤ K ∧ OwR w' w.heap.size (.slice A2 nr c2) rs nr ∧ SpQ w' w.heap.size (.slice A2 nr c2) nr (fun g => g < K)))
/-- what the values of 'impl.Puzzle{Size: .., Given: append([]int{}, ..), Rules: append([]impl.Rule{}, ..)}' are, in the order of the text. -/
def MakeG (P lo K n : Nat) (s : Int) (A1 : Option Addr) (c1 : Nat) (A2 : Option Addr) (nr c2 : Nat) (gi : List Int) (rs : List RuleM) : Nat → Value → World → Prop
  | 0, v, _ => v = .pointer (some ⟨P, 0, none⟩)
  | 1, v, _ => v = .int .i64 s
  | 2, v, _ => ∃ b, v = .slice (some ⟨b, 0, none⟩) 0 0
  | 3, v, _ => v = .pointer (some ⟨P, 1, none⟩)
  | 4, v, _ => v = .slice A1 n c1
  | 5, v, w => ∃ A' c', v = .slice A' n c' ∧ Ow w K A' n c' gi
  | 6, v, w => ∃ b, v = .slice (some ⟨b, 0, none⟩) 0 0 ∧ w.heap[b]? = some (.cells #[] 65) ∧ lo ≤ b
  | 7, v, _ => v = .pointer (some ⟨P, 2, none⟩)
  | 8, v, _ => v = .slice A2 nr c2
  | 9, v, w => ∃ A' c', v = .slice A' nr c' ∧ OwR w lo (.slice A' nr c') rs nr ∧ SpQ w lo (.slice A' nr c') nr (fun g => g < K)
  | 10, v, w => ∃ A' c' A'' c'', v = .agg #[.int .i64 s, .slice A' n c', .slice A'' nr c''] ∧ Ow w K A' n c' gi ∧ OwR w lo (.slice A'' nr c'') rs nr ∧ SpQ w lo (.slice A'' nr c'') nr (fun g => g < K)
  | 11, v, w => ∃ X, v = .pointer (some ⟨X, 0, none⟩) ∧ w.heap[X]? = some (.cells #[.int .i64 0, .slice none 0 0, .slice none 0 0] 30) ∧ lo ≤ X
  | _, _, _ => True
theorem makeG_below {P lo K n : Nat} {s : Int} {A1 : Option Addr} {c1 : Nat} {A2 : Option Addr} {nr c2 : Nat} {gi : List Int} {rs : List RuleM} (j : Nat) (v : Value) (w w' : World) (hb : Below w.heap.size w w') (h : MakeG P lo K n s A1 c1 A2 nr c2 gi rs j v w) : MakeG P lo K n s A1 c1 A2 nr c2 gi rs j v w' := by
  match j, h with
  | 0, h => exact h
  | 1, h => exact h
  | 2, h => exact h
  | 3, h => exact h
  | 4, h => exact h
  | 5, ⟨A', c', e, h⟩ => exact ⟨A', c', e, h.below hb⟩
  | 6, ⟨b, e, h, hl⟩ => exact ⟨b, e, (hb.block b (Array.getElem?_eq_some_iff.1 h).1).trans h, hl⟩
  | 7, h => exact h
  | 8, h => exact h
  | 9, ⟨A', c', e, h, h2⟩ => exact ⟨A', c', e, h.below hb, h2.below hb⟩
  | 10, ⟨A', c', A'', c'', e, h, h', h2⟩ => exact ⟨A', c', A'', c'', e, h.below hb, h'.below hb, h2.below hb⟩
  | 11, ⟨X, e, h, hl⟩ => exact ⟨X, e, (hb.block X (Array.getElem?_eq_some_iff.1 h).1).trans h, hl⟩
  | _ + 12, h => exact h
set_option maxHeartbeats 2000000 in
theorem specMakeMinimal (s : Int) (Ag : Option Addr) (n cg Bg : Nat) (gi : List Int) (Ar : Option Addr) (nr cr Br : Nat) (rs : List RuleM) (w : World) (hp : PGs w s Ag n cg Bg gi Ar nr cr Br rs) (hm2 : nr ≤ 1099511627775) :
    Calls Tryd.prog 30 #[.agg #[.int .i64 s, .slice Ag n cg, .slice Ar nr cr]] w (MinPost s n gi nr rs w) := by
  have Hone := Lib.hid puz_one
  have Hi := Lib.hid puz_info
  have hrl := hp.r.1
  obtain ⟨W0, hW0⟩ : ∃ W0, (w.alloc (.cells #[.int .i64 s, .slice Ag n cg, .slice Ar nr cr] 30)).alloc (.cells #[.int .i64 0, .slice none 0 0, .slice none 0 0] 30) = W0 := ⟨_, rfl⟩
  have hb0 : Below w.heap.size w W0 := by rw [← hW0]; exact ((Below.refl _ _).alloc (Nat.le_refl _) _).alloc (by simp) _
  have hs0 : W0.heap.size = w.heap.size + 1 + 1 := by rw [← hW0]; simp
  have hp0 : W0.heap[w.heap.size]? = some (.cells #[.int .i64 s, .slice Ag n cg, .slice Ar nr cr] 30) := by
    rw [← hW0]; exact (Below.heap_alloc _ _ _ (by simp)).trans (heap_alloc_new w _)
  have hq0 : W0.heap[w.heap.size + 1]? = some (.cells #[.int .i64 0, .slice none 0 0, .slice none 0 0] 30) := by
    rw [← hW0]
    have := heap_alloc_new (w.alloc (.cells #[.int .i64 s, .slice Ag n cg, .slice Ar nr cr] 30)) (.cells #[.int .i64 0, .slice none 0 0, .slice none 0 0] 30)
    rwa [World.size_alloc] at this
  have hP0 := hp.below (hb0.mono (Nat.le_refl _))
  have HOP := Lib.hid (specOwnPuzzle s Ag n cg Bg gi Ar nr cr Br rs W0 hP0.g hP0.gB hp.gm hP0.r hP0.rB hm2)
  obtain ⟨z0, z1, z2⟩ : PBox W0 w.heap.size s Ag n cg Ar nr cr := ⟨cell_of_row _ _ 0 _ _ (0, 0) hp0, cell_of_row _ _ 1 _ _ (0, 0) hp0, cell_of_row _ _ 2 _ _ (0, 0) hp0⟩
  have HW0 := Lib.hid hW0
  clear hW0 hP0
  go_enter Tryd.func30, Tryd.ntmps30
  go_wp2_with fail
  rw [HW0.out]
  refine HOP.out.mono ?_
  rintro e w1 ⟨A1, c1, A2, c2, rfl, ho1, hor1, hb1⟩
  have hp1 := (hb1.block w.heap.size (by omega)).trans hp0
  have hq1 := (hb1.block (w.heap.size + 1) (by omega)).trans hq0
  obtain ⟨W2, hW2⟩ : ∃ W2, w1.setRow w.heap.size #[.int .i64 s, .slice A1 n c1, .slice A2 nr c2] = W2 := ⟨_, rfl⟩
  have hb2 : Below w.heap.size w W2 := by rw [← hW2]; exact setRow_below5 (hb0.trans (hb1.mono hb0.size)) (Nat.le_refl _)
  have hp2 : W2.heap[w.heap.size]? = some (.cells #[.int .i64 s, .slice A1 n c1, .slice A2 nr c2] 30) := by rw [← hW2]; exact setRow_heap _ _ _ _ _ _ hp1
  have hq2 : W2.heap[w.heap.size + 1]? = some (.cells #[.int .i64 0, .slice none 0 0, .slice none 0 0] 30) := by
    rw [← hW2]; refine Eq.trans ?_ hq1; unfold World.setRow; simp only [Array.getElem?_modify]; rw [if_neg (by omega)]
  have ho2 : Ow W2 W0.heap.size A1 n c1 gi := by rw [← hW2]; exact ho1.row5 (fun b hb => by have := ho1.own_lo b hb; omega)
  have hor2 : OwR W2 W0.heap.size (.slice A2 nr c2) rs nr := by rw [← hW2]; exact hor1.keptL grown_setRow5 (by omega)
  have hP2 : PGs W2 s A1 n c1 W2.heap.size gi A2 nr c2 W2.heap.size rs := ⟨ho2.rd, Nat.le_refl _, hp.gm, hor2.rd hrl, Nat.le_refl _, hp.rm⟩
  have hs2 : w.heap.size + 1 < W2.heap.size := (Array.getElem?_eq_some_iff.1 hq2).1
  have HV := Lib.hid (fun w' (hb : Below W2.heap.size W2 w') => specPuzzleValid s A1 n c1 W2.heap.size gi A2 nr c2 W2.heap.size rs w' (hP2.below hb).g (hP2.below hb).gB hp.gm (hP2.below hb).r (hP2.below hb).rB hp.rm)
  have HO := Lib.hid (fun w' (hb : Below W2.heap.size W2 w') => specOne s A1 n c1 W2.heap.size gi A2 nr c2 W2.heap.size rs w' (hP2.below hb))
  obtain ⟨y0, y1, y2⟩ : PBox W2 w.heap.size s A1 n c1 A2 nr c2 := ⟨cell_of_row _ _ 0 _ _ (0, 0) hp2, cell_of_row _ _ 1 _ _ (0, 0) hp2, cell_of_row _ _ 2 _ _ (0, 0) hp2⟩
  have HB2 := Lib.hid hb2
  cases hv : pvB s gi rs
  · have hf : (pvB s gi rs && oneB s n gi rs) = false := by rw [hv]; rfl
    go_wp2_with (first | (refine wpList_store_row rfl 30 _ _ rfl w.heap.size #[.int .i64 s, .slice A1 n c1, .slice A2 nr c2] rfl rfl 30 #[.int .i64 s, .slice Ag n cg, .slice Ar nr cr] hp1 (Hi.out _ _ _ _ _ _ _) rfl (Hone.out _ _ _ _ _ _ _) ?_; rw [hW2]) | (go_at_call 24; refine (HV.out _ (Below.refl _ _)).mono ?_; rintro e w3 ⟨rfl, hb3⟩; rw [hv]; have hq3 := (hb3.block (w.heap.size + 1) hs2).trans hq2) | (refine wpList_store_row rfl 30 _ _ rfl (w.heap.size + 1) #[.int .i64 0, .slice none 0 0, .slice none 0 0] rfl rfl 30 #[.int .i64 0, .slice none 0 0, .slice none 0 0] hq3 (Hi.out _ _ _ _ _ _ _) rfl (Hone.out _ _ _ _ _ _ _) ?_))
    have hBe : Below w.heap.size w (w3.setRow (w.heap.size + 1) #[.int .i64 0, .slice none 0 0, .slice none 0 0]) := setRow_below5 (HB2.out.trans (hb3.mono HB2.out.size)) (by omega)
    exact bodyPost_ret (v := .tuple #[.agg #[.int .i64 0, .slice none 0 0, .slice none 0 0], .bool false]) (results_row_tmp (by rfl) _ _ (w.heap.size + 1) 30 _ (0, 0) _ _ rfl rfl (setRow_heap _ _ _ _ _ _ hq3) Tryd.underlying30 rfl (Hi.out _ _ _ _ _ _ _)) rfl ⟨hBe, .inl ⟨rfl, hf⟩⟩
  · have hx2 : PBox W2 w.heap.size s A1 n c1 A2 nr c2 := ⟨y0, y1, y2⟩
    cases ho : oneB s n gi rs
    · have hf : (pvB s gi rs && oneB s n gi rs) = false := by rw [ho, Bool.and_false]
      go_wp2_with (first | (refine wpList_store_row rfl 30 _ _ rfl w.heap.size #[.int .i64 s, .slice A1 n c1, .slice A2 nr c2] rfl rfl 30 #[.int .i64 s, .slice Ag n cg, .slice Ar nr cr] hp1 (Hi.out _ _ _ _ _ _ _) rfl (Hone.out _ _ _ _ _ _ _) ?_; rw [hW2]) | (go_at_call 24; refine (HV.out _ (Below.refl _ _)).mono ?_; rintro e w3 ⟨rfl, hb3⟩; rw [hv]; obtain ⟨x0, x1, x2⟩ := hx2.below (by omega : w.heap.size < W2.heap.size) hb3) | (go_at_call 58; refine (HO.out _ hb3).mono ?_; rintro e w4 ⟨rfl, hb4'⟩; rw [ho]; have hb4 := step hb3 hb4'; have hq4 := (hb4.block (w.heap.size + 1) hs2).trans hq2) | (refine wpList_store_row rfl 30 _ _ rfl (w.heap.size + 1) #[.int .i64 0, .slice none 0 0, .slice none 0 0] rfl rfl 30 #[.int .i64 0, .slice none 0 0, .slice none 0 0] hq4 (Hi.out _ _ _ _ _ _ _) rfl (Hone.out _ _ _ _ _ _ _) ?_))
      have hBe : Below w.heap.size w (w4.setRow (w.heap.size + 1) #[.int .i64 0, .slice none 0 0, .slice none 0 0]) := setRow_below5 (HB2.out.trans (hb4.mono HB2.out.size)) (by omega)
      exact bodyPost_ret (v := .tuple #[.agg #[.int .i64 0, .slice none 0 0, .slice none 0 0], .bool false]) (results_row_tmp (by rfl) _ _ (w.heap.size + 1) 30 _ (0, 0) _ _ rfl rfl (setRow_heap _ _ _ _ _ _ hq4) Tryd.underlying30 rfl (Hi.out _ _ _ _ _ _ _)) rfl ⟨hBe, .inl ⟨rfl, hf⟩⟩
    · have ht : (pvB s gi rs && oneB s n gi rs) = true := by rw [hv, ho]; rfl
      go_wp2_with (first | (refine wpList_store_row rfl 30 _ _ rfl w.heap.size #[.int .i64 s, .slice A1 n c1, .slice A2 nr c2] rfl rfl 30 #[.int .i64 s, .slice Ag n cg, .slice Ar nr cr] hp1 (Hi.out _ _ _ _ _ _ _) rfl (Hone.out _ _ _ _ _ _ _) ?_; rw [hW2]) | (go_at_call 24; refine (HV.out _ (Below.refl _ _)).mono ?_; rintro e w3 ⟨rfl, hb3⟩; rw [hv]; obtain ⟨x0, x1, x2⟩ := hx2.below (by omega : w.heap.size < W2.heap.size) hb3) | (go_at_call 58; refine (HO.out _ hb3).mono ?_; rintro e w4 ⟨rfl, hb4'⟩; rw [ho]; have hb4 := step hb3 hb4'; obtain ⟨x0', x1', x2'⟩ := hx2.below (by omega : w.heap.size < W2.heap.size) hb4))
      obtain ⟨hgi, _, _⟩ := pv_gv hv
      have hn4 : 0 < n := by
        obtain ⟨q2, q4⟩ := gv_size hgi
        have := gv_len hgi
        rw [hp.g.1] at this
        have := (sq_bd q2 q4).1
        omega
      obtain ⟨vs2, hown2, hin2⟩ := id hor2
      have HX := Lib.hid (fun w' (hb : Below w4.heap.size w4 w') => (hx2.below (by omega : w.heap.size < W2.heap.size) (hb4.trans (hb.mono hb4.size))))
      have HR1 := Lib.hid (fun w' (hb : Below w4.heap.size w4 w') => (ho2.rd.below (hb4.trans (hb.mono hb4.size))))
      have HOW := Lib.hid (fun w' (hb : Below w4.heap.size w4 w') => (show w'.ownsRow W0.heap.size 65 3 (.slice A2 nr c2) nr vs2 ∧ InR w' W0.heap.size (.slice none 0 0) rs vs2 nr from by
        have hbb := hb4.trans (hb.mono hb4.size)
        refine ⟨World.ownsRow.kept hown2 (row := none) ⟨hbb.os, hbb.tape, hbb.output, hbb.size, fun k hk _ => hbb.block k hk⟩ (by cases e : (Value.slice A2 nr c2).ownBlock <;> simp), fun i hi => ?_⟩
        obtain ⟨A', c', e0, e1, e2, e3, e4, e5⟩ := hin2 i hi
        exact ⟨A', c', e0, e1, e2, Ow.below e3 hbb, e4, fun g hg e => by simp [Value.ownBlock] at e⟩))
      have hlo4 : W0.heap.size ≤ w4.heap.size := by
        have q1 := hb1.size
        have q2 := hb4.size
        have q3 : W2.heap.size = w1.heap.size := by rw [← hW2]; simp
        omega
      have hlo2 : W0.heap.size ≤ W2.heap.size := by
        have q1 := hb1.size
        have q3 : W2.heap.size = w1.heap.size := by rw [← hW2]; simp
        omega
      have hm1 := hp.gm
      have hK4 : W2.heap.size ≤ w4.heap.size := hb4.size
      have hcb : CbV vs2 nr (fun g => g < W2.heap.size) := fun i A' n' c' hi he g hg => by
        obtain ⟨A2', c2', _, e1, _, ho', _⟩ := hin2 i hi
        rw [he] at e1
        injection e1 with e1
        rw [e1] at hg
        exact ho'.own_hi g hg
      refine wp_region_ds [17, 18, 19, 20, 21, 22, 23, 24, 25, 26, 27, 4] (MakeG w.heap.size W0.heap.size W2.heap.size n s A1 c1 A2 nr c2 gi rs) (by kernel_rfl) (by kernel_rfl) (by simp) makeG_below ?step ?last
      case step =>
        intro i o a w' hi hoo hb hfr hpre
        have e1 : a.eval (.tmp 1) = .pointer (some ⟨w.heap.size, 0, none⟩) := hfr 1 (by simp)
        obtain ⟨x0, x1, x2⟩ := HX.out w' hb
        have hi12 : i < 12 := hi
        have : i = 0 ∨ i = 1 ∨ i = 2 ∨ i = 3 ∨ i = 4 ∨ i = 5 ∨ i = 6 ∨ i = 7 ∨ i = 8 ∨ i = 9 ∨ i = 10 ∨ i = 11 := by omega
        rcases this with rfl | rfl | rfl | rfl | rfl | rfl | rfl | rfl | rfl | rfl | rfl | rfl
        all_goals
          simp only [List.getElem?_toArray, List.getElem?_cons_zero, List.getElem?_cons_succ, Option.some.injEq] at hoo
          subst hoo
        · refine ⟨_, w', ?_, Below.refl _ _, rfl⟩
          unfold execOp
          simp only [e1]
          go_simp
        · have p0 := hpre ⟨0, .data⟩ (by simp) rfl
          have p0' : a.eval (.tmp 17) = .pointer (some ⟨w.heap.size, 0, none⟩) := p0
          refine ⟨_, w', ?_, Below.refl _ _, rfl⟩
          unfold execOp
          simp only [p0']
          go_simp
        · refine ⟨_, _, ?_, (Below.refl _ _).alloc (Nat.le_refl _) (.cells #[] 3), ⟨w'.heap.size, rfl⟩⟩
          unfold execOp
          go_simp
        · refine ⟨_, w', ?_, Below.refl _ _, rfl⟩
          unfold execOp
          simp only [e1]
          go_simp
        · have p0' : a.eval (.tmp 20) = .pointer (some ⟨w.heap.size, 1, none⟩) := hpre ⟨3, .data⟩ (by simp) rfl
          refine ⟨_, w', ?_, Below.refl _ _, rfl⟩
          unfold execOp
          simp only [p0']
          go_simp
        · obtain ⟨b, hb19⟩ : ∃ b, a.eval (.tmp 19) = .slice (some ⟨b, 0, none⟩) 0 0 := hpre ⟨2, .data⟩ (by simp) rfl
          have p21 : a.eval (.tmp 21) = .slice A1 n c1 := hpre ⟨4, .data⟩ (by simp) rfl
          obtain ⟨A', c', w2, hrun, q1, q2⟩ := fresh_ints 22 b A1 n c1 _ gi (HR1.out w' hb) hn4 hm1
          refine ⟨.slice A' n c', w2, ?_, q2, A', c', rfl, q1.mono (Nat.le_trans hK4 hb.size)⟩
          unfold execOp
          simp only [resolve, invoke, builtin, Sem.run_bind, Sem.run_pure, Result.andThen_ok, List.map_toArray, List.map_cons, List.map_nil, hb19, p21, hrun]
        · refine ⟨_, _, ?_, (Below.refl _ _).alloc (Nat.le_refl _) (.cells #[] 65), ⟨w'.heap.size, rfl, heap_alloc_new _ _, Nat.le_trans hlo4 hb.size⟩⟩
          unfold execOp
          go_simp
        · refine ⟨_, w', ?_, Below.refl _ _, rfl⟩
          unfold execOp
          simp only [e1]
          go_simp
        · have p0' : a.eval (.tmp 24) = .pointer (some ⟨w.heap.size, 2, none⟩) := hpre ⟨7, .data⟩ (by simp) rfl
          refine ⟨_, w', ?_, Below.refl _ _, rfl⟩
          unfold execOp
          simp only [p0']
          go_simp
        · obtain ⟨b, hb23, hlit, hbl⟩ : ∃ b, a.eval (.tmp 23) = .slice (some ⟨b, 0, none⟩) 0 0 ∧ w'.heap[b]? = some (.cells #[] 65) ∧ W0.heap.size ≤ b := hpre ⟨6, .data⟩ (by simp) rfl
          have p25 : a.eval (.tmp 25) = .slice A2 nr c2 := hpre ⟨8, .data⟩ (by simp) rfl
          obtain ⟨hw1, hw2⟩ := HOW.out w' hb
          obtain ⟨A', c', w2, hrun, ⟨q1, q1'⟩, q2⟩ := fresh_rulesV 28 b A2 nr c2 W0.heap.size W0.heap.size rs vs2 hrl hw1 hw2 hlit hbl hp.rm (Nat.le_trans hlo4 hb.size)
          refine ⟨.slice A' nr c', w2, ?_, q2, A', c', rfl, ⟨vs2, q1, q1'⟩, ⟨vs2, q1, hcb⟩⟩
          unfold execOp
          simp only [resolve, invoke, builtin, Sem.run_bind, Sem.run_pure, Result.andThen_ok, List.map_toArray, List.map_cons, List.map_nil, hb23, p25, hrun]
        · have p18 : a.eval (.tmp 18) = .int .i64 s := hpre ⟨1, .data⟩ (by simp) rfl
          obtain ⟨A', c', p22, q22⟩ : ∃ A' c', a.eval (.tmp 22) = .slice A' n c' ∧ Ow w' W2.heap.size A' n c' gi := hpre ⟨5, .data⟩ (by simp) rfl
          obtain ⟨A'', c'', p26, q26, q26'⟩ : ∃ A' c', a.eval (.tmp 26) = .slice A' nr c' ∧ OwR w' W0.heap.size (.slice A' nr c') rs nr ∧ SpQ w' W0.heap.size (.slice A' nr c') nr (fun g => g < W2.heap.size) := hpre ⟨9, .data⟩ (by simp) rfl
          refine ⟨.agg #[.int .i64 s, .slice A' n c', .slice A'' nr c''], w', ?_, Below.refl _ _, A', c', A'', c'', rfl, q22, q26, q26'⟩
          unfold execOp
          simp only [List.map_toArray, List.map_cons, List.map_nil, p18, p22, p26]
          go_simp
        · refine ⟨_, _, ?_, (Below.refl _ _).alloc (Nat.le_refl _) (.cells #[.int .i64 0, .slice none 0 0, .slice none 0 0] 30), ⟨w'.heap.size, rfl, heap_alloc_new _ _, Nat.le_trans hlo4 hb.size⟩⟩
          unfold execOp
          go_simp
      case last =>
        intro o a w5 hoo hb5 hdef htm hfr hpre
        simp only [List.length_cons, List.length_nil, Nat.reduceAdd, List.getElem?_toArray, List.getElem?_cons_zero, List.getElem?_cons_succ, Option.some.injEq] at hoo
        subst hoo
        have g17 : a.tmps.getD 17 undef = .pointer (some ⟨w.heap.size, 0, none⟩) := hpre 0 (by simp)
        have g18 : a.tmps.getD 18 undef = .int .i64 s := hpre 1 (by simp)
        obtain ⟨b19, g19⟩ : ∃ b, a.tmps.getD 19 undef = .slice (some ⟨b, 0, none⟩) 0 0 := hpre 2 (by simp)
        have g20 : a.tmps.getD 20 undef = .pointer (some ⟨w.heap.size, 1, none⟩) := hpre 3 (by simp)
        have g21 : a.tmps.getD 21 undef = .slice A1 n c1 := hpre 4 (by simp)
        obtain ⟨A22, c22, g22, _⟩ : ∃ A' c', a.tmps.getD 22 undef = .slice A' n c' ∧ _ := hpre 5 (by simp)
        obtain ⟨b23, g23, _⟩ : ∃ b, a.tmps.getD 23 undef = .slice (some ⟨b, 0, none⟩) 0 0 ∧ _ := hpre 6 (by simp)
        have g24 : a.tmps.getD 24 undef = .pointer (some ⟨w.heap.size, 2, none⟩) := hpre 7 (by simp)
        have g25 : a.tmps.getD 25 undef = .slice A2 nr c2 := hpre 8 (by simp)
        obtain ⟨A26, c26, g26, _⟩ : ∃ A' c', a.tmps.getD 26 undef = .slice A' nr c' ∧ _ := hpre 9 (by simp)
        obtain ⟨A3, c3, A4, c4, g27, ho5, hor5, hsp5⟩ : ∃ A' c' A'' c'', a.tmps.getD 27 undef = .agg #[.int .i64 s, .slice A' n c', .slice A'' nr c''] ∧ Ow w5 W2.heap.size A' n c' gi ∧ OwR w5 W0.heap.size (.slice A'' nr c'') rs nr ∧ SpQ w5 W0.heap.size (.slice A'' nr c'') nr (fun g => g < W2.heap.size) := hpre 10 (by simp)
        obtain ⟨X, g4, hrX, hloX⟩ : ∃ X, a.tmps.getD 4 undef = .pointer (some ⟨X, 0, none⟩) ∧ w5.heap[X]? = some (.cells #[.int .i64 0, .slice none 0 0, .slice none 0 0] 30) ∧ W0.heap.size ≤ X := hpre 11 (by simp)
        have h4 : a.eval (.tmp 4) = .pointer (some ⟨X, 0, none⟩) := g4
        have h27 : a.eval (.tmp 27) = .agg #[.int .i64 s, .slice A3 n c3, .slice A4 nr c4] := g27
        refine ⟨w5.setRow X #[.int .i64 s, .slice A3 n c3, .slice A4 nr c4], ?_, ?_⟩
        · have hst := run_storeVar_row (P := Tryd.prog) w5 X 30 30 _ #[.int .i64 s, .slice A3 n c3, .slice A4 nr c4] hrX (Hi.out _ _ _ _ _ _ _) rfl (Hone.out _ _ _ _ _ _ _)
          unfold execOp
          simp only [h4, h27, Instr.storeAt, Instr.sureAddr, Sem.run_bind, Sem.run_pure, Result.andThen_ok, hst]
        · have key := htm
          simp only [List.foldl_cons, List.foldl_nil, g17, g18, g19, g20, g21, g22, g23, g24, g25, g26, g27, g4, List.setIfInBounds_toArray, List.set_cons_succ, List.set_cons_zero] at key
          clear htm hfr hpre g17 g18 g19 g20 g21 g22 g23 g24 g25 g26 g27 g4 h4 h27
          obtain ⟨tm, df⟩ := a
          dsimp only at key hdef
          subst key hdef
          have hr5 := setRow_heap (w := w5) X _ #[.int .i64 s, .slice A3 n c3, .slice A4 nr c4] 30 _ hrX
          have ho6 := ho5.setX (cs' := #[.int .i64 s, .slice A3 n c3, .slice A4 nr c4]) hrX
          have hor6 := hor5.setX (cs' := #[.int .i64 s, .slice A3 n c3, .slice A4 nr c4]) hrX
          have hsp6 := hsp5.setX (cs' := #[.int .i64 s, .slice A3 n c3, .slice A4 nr c4]) hrX
          have hB6 : Below W0.heap.size W2 (w5.setRow X #[.int .i64 s, .slice A3 n c3, .slice A4 nr c4]) := setRow_below5 ((hb4.mono hlo2).trans (hb5.mono hlo4)) hloX
          obtain ⟨w6, hw6⟩ : ∃ w6, w5.setRow X #[.int .i64 s, .slice A3 n c3, .slice A4 nr c4] = w6 := ⟨_, rfl⟩
          rw [hw6] at hr5 ho6 hor6 hsp6 hB6 ⊢
          clear hw6 ho5 hor5 hsp5 hrX
          have HB6 := Lib.hid hB6
          go_wp2
          go_loopw [5] (fun i wr => ∃ (k : Nat) (A7 A8 : Option Addr) (c7 c8 : Nat), k ≤ n ∧ i = .int .i64 k ∧ wr.heap[X]? = some (.cells #[.int .i64 s, .slice A7 n c7, .slice A8 nr c8] 30) ∧ Ow wr W2.heap.size A7 n c7 (minL s n rs gi k) ∧ (OwR wr W0.heap.size (.slice A8 nr c8) rs nr ∧ SpQ wr W0.heap.size (.slice A8 nr c8) nr (fun g => g < W2.heap.size)) ∧ Below W0.heap.size W2 wr) (fun i _ => n - (intOf i).toNat)
          case atStart => exact ⟨0, A3, A4, c3, c4, Nat.zero_le _, rfl, hr5, ho6, ⟨hor6, hsp6⟩, hB6⟩
          case round =>
            obtain ⟨k, A7, A8, c7, c8, hk, rfl, hr7, ho7, ⟨hor7, hsp7⟩, hb7⟩ := hrel
            obtain ⟨x0, x1, x2⟩ : PBox wr X s A7 n c7 A8 nr c8 := ⟨cell_of_row _ _ 0 _ _ (0, 0) hr7, cell_of_row _ _ 1 _ _ (0, 0) hr7, cell_of_row _ _ 2 _ _ (0, 0) hr7⟩
            by_cases hlt : k < n
            · have hltI : (k : Int) < (n : Int) := by omega
              have hPk : PGs wr s A7 n c7 wr.heap.size (minL s n rs gi k) A8 nr c8 wr.heap.size rs := ⟨ho7.rd, Nat.le_refl _, hm1, hor7.rd hrl, Nat.le_refl _, hp.rm⟩
              have hsX := (Array.getElem?_eq_some_iff.1 hr7).1
              have hsW : W0.heap.size ≤ wr.heap.size := by
                have q1 := hb7.size
                omega
              have HRd := Lib.hid (specIsRedundant s A7 n c7 wr.heap.size (minL s n rs gi k) A8 nr c8 wr.heap.size rs (k : Int) wr hPk)
              have HWo := Lib.hid (fun w' (hb : Below wr.heap.size wr w') => specWithout (Bg := wr.heap.size) s A7 n c7 (minL s n rs gi k) A8 nr c8 k w' (hPk.below hb).g (hPk.below hb).gB hm1 hlt)
              have hb7' := hb7
              cases hred : redB s n (minL s n rs gi k) rs k
              · have hml : minL s n rs gi (k + 1) = minL s n rs gi k := by rw [minL, hred]; rfl
                have Hml := Lib.hid hml
                clear hml
                go_wp2_with (go_at_call 26; refine HRd.out.mono ?_; rintro e w8 ⟨rfl, hb8⟩; rw [hred]; have hr8 := (hb8.block X hsX).trans hr7; have ho8 := ho7.below hb8; have hor8 := hor7.below hb8; have hsp8 := hsp7.below hb8; have hB8 := hb7'.trans (hb8.mono hsW))
                refine ⟨⟨k + 1, A7, A8, c7, c8, hlt, by simp, hr8, by rw [Hml.out]; exact ho8, ⟨hor8, hsp8⟩, hB8⟩, by simp [intOf]; omega⟩
              · have hml : minL s n rs gi (k + 1) = (minL s n rs gi k).set k 0 := by rw [minL, hred]; rfl
                have Hml := Lib.hid hml
                clear hml
                go_wp2_with (first | (go_at_call 26; refine HRd.out.mono ?_; rintro e w8 ⟨rfl, hb8⟩; rw [hred]; have hr8 := (hb8.block X hsX).trans hr7; have ho8 := ho7.below hb8; have hor8 := hor7.below hb8; have hsp8 := hsp7.below hb8; have hB8 := hb7'.trans (hb8.mono hsW); obtain ⟨y0, y1, y2⟩ : PBox w8 X s A7 n c7 A8 nr c8 := ⟨cell_of_row _ _ 0 _ _ (0, 0) hr8, cell_of_row _ _ 1 _ _ (0, 0) hr8, cell_of_row _ _ 2 _ _ (0, 0) hr8⟩) | (go_at_call 59; refine (HWo.out _ hb8).mono ?_; rintro e w9 ⟨A9, c9, rfl, ho9, hb9⟩; have hr9 := (hb9.block X (Nat.lt_of_lt_of_le hsX hb8.size)).trans hr8) | (refine wpList_store_row rfl 30 _ _ rfl X #[.int .i64 s, .slice A9 n c9, .slice A8 nr c8] rfl rfl 30 #[.int .i64 s, .slice A7 n c7, .slice A8 nr c8] hr9 (Hi.out _ _ _ _ _ _ _) rfl (Hone.out _ _ _ _ _ _ _) ?_))
                have ho10 : Ow (w9.setRow X #[.int .i64 s, .slice A9 n c9, .slice A8 nr c8]) W2.heap.size A9 n c9 ((minL s n rs gi k).set k 0) := (ho9.mono (Nat.le_trans hb7.size hb8.size)).setX hr9
                refine ⟨⟨k + 1, A9, A8, c9, c8, hlt, by simp, setRow_heap _ _ _ _ _ _ hr9, by rw [Hml.out]; exact ho10, ⟨(hor8.below hb9).setX hr9, (hsp8.below hb9).setX hr9⟩, setRow_below5 (hB8.trans (hb9.mono (Nat.le_trans hsW hb8.size))) hloX⟩, by simp [intOf]; omega⟩
            · obtain rfl : k = n := by omega
              have hq7 := (hb7.block (w.heap.size + 1) (by omega)).trans hq2
              go_wp2_with (refine wpList_store_row rfl 30 _ _ rfl (w.heap.size + 1) #[.int .i64 s, .slice A7 k c7, .slice A8 nr c8] rfl rfl 30 #[.int .i64 0, .slice none 0 0, .slice none 0 0] hq7 (Hi.out _ _ _ _ _ _ _) rfl (Hone.out _ _ _ _ _ _ _) ?_)
              have hBe : Below w.heap.size w (wr.setRow (w.heap.size + 1) #[.int .i64 s, .slice A7 k c7, .slice A8 nr c8]) := setRow_below5 (HB2.out.trans (hb7.mono (by omega))) (by omega)
              exact bodyPost_ret (v := .tuple #[.agg #[.int .i64 s, .slice A7 k c7, .slice A8 nr c8], .bool true]) (results_row_tmp (by rfl) _ _ (w.heap.size + 1) 30 _ (0, 0) _ _ rfl rfl (setRow_heap _ _ _ _ _ _ hq7) Tryd.underlying30 rfl (Hi.out _ _ _ _ _ _ _)) rfl ⟨hBe, .inr ⟨ht, A7, c7, A8, c8, W2.heap.size, rfl, ho7.setX hq7, by omega, (hor7.setX hq7).mono (by omega), (hsp7.setX hq7).mono (by omega)⟩⟩
end Go.Proofs.YtcjdjcpappfkgaaDoor
set_option maxRecDepth 8000
namespace Go.Proofs.YtcjdjcpappfkgaaDoor
/-! what is given, less what is redundant. -/
/-- a puzzle with exactly one solution, of which gi is told. -/
structure Mk1 (s n : Nat) (rs : List RuleM) (g gi : List Int) : Prop where
  v : pvB s g rs = true
  o : oneB s n g rs = true
  l : Le0 g gi
theorem minL_inv {s n : Nat} {gi : List Int} {rs : List RuleM} (hv : pvB s gi rs = true) (ho : oneB s n gi rs = true) (k : Nat) : Mk1 s n rs (minL s n rs gi k) gi := by
  induction k with
  | zero => exact ⟨hv, ho, Le0.refl _⟩
  | succ k ih =>
    unfold minL
    split
    · next h =>
      refine ⟨pv_put ih.v k, ?_, (Le0.set _ k).trans ih.l⟩
      simp only [redB, Bool.and_eq_true, Int.toNat_natCast] at h
      exact h.2
    · exact ih
theorem minL_step {s n : Nat} {gi : List Int} {rs : List RuleM} (k : Nat) : Le0 (minL s n rs gi (k + 1)) (minL s n rs gi k) := by
  rw [minL]
  split
  · exact Le0.set _ k
  · exact Le0.refl _
theorem minL_le {s n : Nat} {gi : List Int} {rs : List RuleM} {i : Nat} : ∀ {j : Nat}, i ≤ j → Le0 (minL s n rs gi j) (minL s n rs gi i) := by
  intro j
  induction j with
  | zero => intro h; obtain rfl : i = 0 := by omega
            exact Le0.refl _
  | succ j ih =>
    intro h
    by_cases e : i = j + 1
    · subst e; exact Le0.refl _
    · exact (minL_step j).trans (ih (by omega))
theorem minL_none {s n : Nat} {gi : List Int} {rs : List RuleM} (hl : gi.length = n) (hn : n = s * s) (hv : pvB s gi rs = true) (ho : oneB s n gi rs = true) {k : Nat} (hk : k < n) : redB s n (minL s n rs gi n) rs k = false := by
  have hx := minL_inv hv ho n
  have hg := minL_inv hv ho k
  have hxl := hx.l.1.trans hl
  have hgl := hg.l.1.trans hl
  have hxg := minL_le (s := s) (n := n) (gi := gi) (rs := rs) (show k ≤ n by omega)
  rw [red_iff hxl hx.v hx.o hk]
  by_cases h0 : nth (minL s n rs gi n) k = 0
  · rw [h0]; rfl
  · cases h1 : oneB s n ((minL s n rs gi n).set k 0) rs
    · rw [Bool.and_false]
    · exfalso
      have e1 : nth (minL s n rs gi n) k = nth (minL s n rs gi k) k := by
        rcases hxg.2 k with e | e
        · exact e
        · exact absurd e h0
      have h2 := one_mid (rs := rs) hgl (pv_put hx.v k) (pv_put hg.v k) hg.v hn (hxg.set2 k) (Le0.set _ k) h1 hg.o
      have h3 : redB s n (minL s n rs gi k) rs k = true := by
        rw [red_iff hgl hg.v hg.o hk, h2, ← e1, Bool.and_true, bne_iff_ne]; exact h0
      have h4 : minL s n rs gi (k + 1) = (minL s n rs gi k).set k 0 := by rw [minL, if_pos h3]
      have h5 := (minL_le (s := s) (n := n) (gi := gi) (rs := rs) (show k + 1 ≤ n by omega)).2 k
      rw [h4, nth_setM (by omega), if_pos rfl] at h5
      rcases h5 with e | e <;> exact h0 e
theorem minL_minB {s n : Nat} {gi : List Int} {rs : List RuleM} (hl : gi.length = n) (hn : n = s * s) (hv : pvB s gi rs = true) (ho : oneB s n gi rs = true) : minB s n (minL s n rs gi n) rs = true := by
  have hx := minL_inv hv ho n
  unfold minB
  rw [hx.v, hx.o, redTo_none (fun k hk => minL_none hl hn hv ho hk)]; rfl
theorem minL_self {s n : Nat} {gi : List Int} {rs : List RuleM} (h : ∀ k : Nat, k < n → redB s n gi rs k = false) : ∀ {j : Nat}, j ≤ n → minL s n rs gi j = gi := by
  intro j
  induction j with
  | zero => intro _; rfl
  | succ j ih => intro hj; rw [minL, ih (by omega), h j (by omega)]; simp
theorem minL_again {s n : Nat} {gi : List Int} {rs : List RuleM} (hl : gi.length = n) (hn : n = s * s) (hv : pvB s gi rs = true) (ho : oneB s n gi rs = true) : minL s n rs (minL s n rs gi n) n = minL s n rs gi n :=
  minL_self (fun _ hk => minL_none hl hn hv ho hk) (Nat.le_refl _)
end Go.Proofs.YtcjdjcpappfkgaaDoor
set_option maxRecDepth 8000
namespace Go.Proofs.YtcjdjcpappfkgaaDoor
open Go.ChangeShapes Go.WideShapes Go.ChangeAt Go.RowKit
theorem OwnP.below {w w' : World} {lo n c1 g nr : Nat} {A1 : Option Addr} {gi : List Int} {rs : List RuleM} (h : OwnP w lo A1 n c1 gi g nr rs) (hb : Below w.heap.size w w') : OwnP w' lo A1 n c1 gi g nr rs := by
  obtain ⟨h1, Q, h2, h3, h4⟩ := h
  exact ⟨h1.below hb, Q, h2.below hb, fun b hq => Nat.lt_of_lt_of_le (h3 b hq) hb.size, h4⟩
theorem OwnP.fresh {w w' : World} {lo n c1 c2 g nr : Nat} {A1 A2 : Option Addr} {gi gi' : List Int} {rs : List RuleM} (h : OwnP w lo A1 n c1 gi g nr rs) (hb : Below w.heap.size w w') (ho : Ow w' w.heap.size A2 n c2 gi') (hlo : lo ≤ w.heap.size) : OwnP w' lo A2 n c2 gi' g nr rs := by
  obtain ⟨_, Q, h2, h3, _⟩ := h
  exact ⟨ho.mono hlo, Q, h2.below hb, fun b hq => Nat.lt_of_lt_of_le (h3 b hq) hb.size, fun b hbb hq => by have := ho.own_lo b hbb; have := h3 b hq; omega⟩
theorem OwRd.setX {w : World} {lo g n X : Nat} {rs : List RuleM} {Q : Nat → Prop} {k : Nat} {cs cs' : Array Value} (h : OwRd w lo g n rs Q k) (hX : w.heap[X]? = some (.cells cs 30)) : OwRd (w.setRow X cs') lo g n rs Q k := by
  obtain ⟨vs, a, b, c⟩ := h
  refine ⟨vs, ownsRow_setX a hX (by decide), fun i hi => ?_, c⟩
  obtain ⟨A', c', e0, e1, e2, e3, e4, e5⟩ := b i hi
  exact ⟨A', c', e0, e1, e2, e3.setX hX, e4, e5⟩
theorem OwnP.setX {w : World} {lo n c1 g nr X : Nat} {A1 : Option Addr} {gi : List Int} {rs : List RuleM} {cs cs' : Array Value} (h : OwnP w lo A1 n c1 gi g nr rs) (hX : w.heap[X]? = some (.cells cs 30)) : OwnP (w.setRow X cs') lo A1 n c1 gi g nr rs := by
  obtain ⟨h1, Q, h2, h3, h4⟩ := h
  exact ⟨h1.setX hX, Q, h2.setX hX, fun b hq => by have := h3 b hq; simpa using this, h4⟩
theorem OwnP.mono {w : World} {lo lo' n c1 g nr : Nat} {A1 : Option Addr} {gi : List Int} {rs : List RuleM} (h : OwnP w lo A1 n c1 gi g nr rs) (hl : lo' ≤ lo) : OwnP w lo' A1 n c1 gi g nr rs := by
  obtain ⟨h1, Q, h2, h3, h4⟩ := h
  exact ⟨h1.mono hl, Q, h2.mono hl, h3, h4⟩
theorem OwnP.pgc {w : World} {s : Int} {lo n c1 g nr : Nat} {A1 : Option Addr} {gi : List Int} {rs : List RuleM} (h : OwnP w lo A1 n c1 gi g nr rs) (hm : n ≤ 1099511627776) (hl : rs.length = nr) (hr : nr ≤ 1099511627776) : PGc w s A1 n c1 w.heap.size gi (some ⟨g, 0, none⟩) nr nr w.heap.size rs := by
  obtain ⟨h1, Q, h2, _⟩ := h
  exact ⟨h1.rd, Nat.le_refl _, hm, OwR.rdc hl h2.rp.full, Nat.le_refl _, hr⟩
/-- the zero value and false, or a puzzle of the call's own and true. -/
def MkPost (ok : Bool) (s : Int) (n : Nat) (L : List Int) (nr : Nat) (rs : List RuleM) (w : World) (e : Ending) (w' : World) : Prop :=
  Below w.heap.size w w' ∧ ((ok = false ∧ e = .returned (.tuple #[.agg #[.int .i64 0, .slice none 0 0, .slice none 0 0], .bool false])) ∨
    (ok = true ∧ ∃ A1 c1 g, e = .returned (.tuple #[.agg #[.int .i64 s, .slice A1 n c1, .slice (some ⟨g, 0, none⟩) nr nr], .bool true]) ∧ OwnP w' w.heap.size A1 n c1 L g nr rs))
set_option maxHeartbeats 4000000 in
theorem implMakeMinimal (s : Int) (Ag : Option Addr) (n cg Bg : Nat) (gi : List Int) (Ar : Option Addr) (nr cr Br : Nat) (rs : List RuleM) (w : World) (hp : PGc w s Ag n cg Bg gi Ar nr cr Br rs) (hT : Tz w) :
    Calls Tryd.prog 31 #[.agg #[.int .i64 s, .slice Ag n cg, .slice Ar nr cr]] w (MkPost (pvB s gi rs && oneB s n gi rs) s n (minL s n rs gi n) nr rs w) := by
  have hx0 := pbox_new w s Ag n cg Ar nr cr 30
  have hb0 : Below w.heap.size w (w.alloc (.cells #[.int .i64 s, .slice Ag n cg, .slice Ar nr cr] 30)) := (Below.refl _ _).alloc (Nat.le_refl _) _
  have hs0 : w.heap.size < (w.alloc (.cells #[.int .i64 s, .slice Ag n cg, .slice Ar nr cr] 30)).heap.size := by simp
  obtain ⟨V, hV⟩ : ∃ V, V = (w.alloc (.cells #[.int .i64 s, .slice Ag n cg, .slice Ar nr cr] 30)).alloc (.cells #[.int .i64 0, .slice none 0 0, .slice none 0 0] 30) := ⟨_, rfl⟩
  have hbV : Below w.heap.size w V := by rw [hV]; exact hb0.alloc hb0.size _
  have hsV : V.heap.size = w.heap.size + 1 + 1 := by rw [hV]; simp
  have hxV : PBox V w.heap.size s Ag n cg Ar nr cr := by
    rw [hV]
    exact hx0.below hs0 ((Below.refl _ _).alloc (Nat.le_refl _) _)
  have hrow : V.heap[w.heap.size + 1]? = some (.cells #[.int .i64 0, .slice none 0 0, .slice none 0 0] 30) := by rw [hV]; exact heap_alloc2_new w _ _
  have Hone := Lib.hid puz_one
  have Hi := Lib.hid puz_info
  have HM := Lib.hid (makeable_any s Ag n cg Bg gi Ar nr cr Br rs V (hp.below hbV) (hT.below hT.lt hbV))
  have HX := Lib.hid (fun (w' : World) (hb : Below V.heap.size V w') => (⟨hxV.below (by omega) hb, (hb.block (w.heap.size + 1) (by omega)).trans hrow⟩ : PBox w' w.heap.size s Ag n cg Ar nr cr ∧ w'.heap[w.heap.size + 1]? = some (.cells #[.int .i64 0, .slice none 0 0, .slice none 0 0] 30)))
  have HV := Lib.hid hV
  have HbV := Lib.hid hbV
  obtain ⟨z0, z1, z2⟩ := id hxV
  cases hok : (pvB s gi rs && oneB s n gi rs)
  · rw [hok] at HM
    clear hV hx0 hb0 hs0 hp hT hxV hrow hok hbV
    go_enter Tryd.func31, Tryd.ntmps31
    go_wp2_with (first
      | (go_at_call 60; rw [← HV.out]; refine HM.out.mono ?_; rintro e w1 ⟨rfl, hb1⟩; obtain ⟨_, hr1⟩ := HX.out _ hb1)
      | (refine wpList_store_row rfl 30 _ _ rfl (w.heap.size + 1) #[.int .i64 0, .slice none 0 0, .slice none 0 0] rfl rfl 30 #[.int .i64 0, .slice none 0 0, .slice none 0 0] hr1 (Hi.out _ _ _ _ _ _ _) rfl (Hone.out _ _ _ _ _ _ _) ?_))
    have hBe : Below w.heap.size w (w1.setRow (w.heap.size + 1) #[.int .i64 0, .slice none 0 0, .slice none 0 0]) := setRow_below5 (HbV.out.trans (hb1.mono HbV.out.size)) (by omega)
    exact bodyPost_ret (v := .tuple #[.agg #[.int .i64 0, .slice none 0 0, .slice none 0 0], .bool false]) (results_row_tmp (by rfl) _ _ (w.heap.size + 1) 30 _ (0, 0) _ _ rfl rfl (setRow_heap _ _ _ _ _ _ hr1) Tryd.underlying30 rfl (Hi.out _ _ _ _ _ _ _)) rfl ⟨hBe, .inl ⟨by trivial, rfl⟩⟩
  · rw [hok] at HM
    rw [Bool.and_eq_true] at hok
    obtain ⟨hv, ho1⟩ := hok
    obtain ⟨t, rfl, hs, hnn, hn16, _⟩ := pv_grid hv hp.g.1
    have hn : n = t * t := by simp at hs; rcases hs with rfl | rfl | rfl <;> omega
    have hn0 : 0 < n := by simp at hs; rcases hs with rfl | rfl | rfl <;> omega
    have hgl := hp.g.1
    have hrl := hp.r.1
    have hnr : nr ≤ 20 := by have := (pv_gv hv).2.1; omega
    have hL : ∀ i, i < nr → 0 < (rat rs i).xs.length := fun i hi => (rv_cells ((pv_gv hv).2.2 i (by omega))).1
    have HC := Lib.hid (fun (w' : World) (hb : Below w.heap.size w w') => copied_any (t : Int) Ag n cg Bg gi Ar nr cr Br rs w' (hp.below hb).rd hn0 (by omega) hL)
    have HInv := Lib.hid (fun k => minL_inv (s := t) (n := n) hv ho1 k)
    have HTz := Lib.hid (fun (w' : World) (hb : Below w.heap.size w w') => hT.below hT.lt hb)
    have HGl := Lib.hid hgl
    have HRl := Lib.hid hrl
    clear hV hx0 hb0 hs0 hp hT hxV hrow hbV hL hs hnn hn hgl hrl hv ho1
    go_enter Tryd.func31, Tryd.ntmps31
    go_wp2_with (first
      | (go_at_call 60; rw [← HV.out]; refine HM.out.mono ?_; rintro e w1 ⟨rfl, hb1⟩; obtain ⟨⟨y0, y1, y2⟩, _⟩ := HX.out _ hb1; have h01 := HbV.out.trans (hb1.mono HbV.out.size))
      | (go_at_call 63; refine (HC.out _ h01).mono ?_; rintro e w3 ⟨A3, c3, g, rfl, hown, hb3⟩; have hb13 := step hb1 hb3; have hbX : Below V.heap.size V (w3.alloc (.cells #[.int .i64 (t : Int), .slice A3 n c3, .slice (some ⟨g, 0, none⟩) nr nr] 30)) := hb13.alloc hb13.size _; obtain ⟨⟨x0, x1, x2⟩, _⟩ := HX.out _ hbX))
    have hrX := heap_alloc_new w3 (.cells #[.int .i64 (t : Int), .slice A3 n c3, .slice (some ⟨g, 0, none⟩) nr nr] 30)
    have hownX := hown.below ((Below.refl w3.heap.size w3).alloc (Nat.le_refl _) (.cells #[.int .i64 (t : Int), .slice A3 n c3, .slice (some ⟨g, 0, none⟩) nr nr] 30))
    have hV1 := hb1.size
    have hV3 := hb3.size
    have hbX3 : Below w3.heap.size w3 (w3.alloc (.cells #[.int .i64 (t : Int), .slice A3 n c3, .slice (some ⟨g, 0, none⟩) nr nr] 30)) := (Below.refl _ _).alloc (Nat.le_refl _) _
    have Hb13 := Lib.hid hb13
    clear x0 x1 x2 y0 y1 y2 z0 z1 z2 hbX hown hb3 hb1 h01 hb13
    go_loopw [15] (fun i wr => ∃ (k : Nat) (A7 : Option Addr) (c7 : Nat), k ≤ n ∧ i = .int .i64 k ∧ wr.heap[w3.heap.size]? = some (.cells #[.int .i64 (t : Int), .slice A7 n c7, .slice (some ⟨g, 0, none⟩) nr nr] 30) ∧ OwnP wr w1.heap.size A7 n c7 (minL (t : Int) n rs gi k) g nr rs ∧ Below w3.heap.size w3 wr) (fun i _ => n - (intOf i).toNat)
    case atStart => exact ⟨0, A3, c3, Nat.zero_le _, rfl, hrX, hownX, hbX3⟩
    case round =>
      obtain ⟨k, A7, c7, hk, rfl, hr7, ho7, hb7⟩ := hrel
      obtain ⟨x0, x1, x2⟩ : PBox wr w3.heap.size (t : Int) A7 n c7 (some ⟨g, 0, none⟩) nr nr := ⟨cell_of_row _ _ 0 _ _ (0, 0) hr7, cell_of_row _ _ 1 _ _ (0, 0) hr7, cell_of_row _ _ 2 _ _ (0, 0) hr7⟩
      have hsX : w3.heap.size < wr.heap.size := (Array.getElem?_eq_some_iff.1 hr7).1
      by_cases hlt : k < n
      · have hltI : (k : Int) < (n : Int) := by omega
        have hbk : Below wr.heap.size wr (wr.alloc (.cells #[.int .i64 (k : Int)] 3)) := (Below.refl _ _).alloc (Nat.le_refl _) _
        have hpk := (ho7.pgc (s := (t : Int)) (by omega) HRl.out (by omega)).below hbk
        have hbw : Below w.heap.size w (wr.alloc (.cells #[.int .i64 (k : Int)] 3)) := HbV.out.trans ((Hb13.out.trans ((step hb7 hbk).mono Hb13.out.size)).mono HbV.out.size)
        have HRb := Lib.hid (reducedBy_any (t : Int) A7 n c7 wr.heap.size (minL (t : Int) n rs gi k) (some ⟨g, 0, none⟩) nr nr wr.heap.size rs (some ⟨wr.heap.size, 0, none⟩) 1 1 (wr.heap.size + 1) [(k : Int)] (wr.alloc (.cells #[.int .i64 (k : Int)] 3)) hpk (HInv.out k).v (by omega) (HTz.out _ hbw) rd_one (by simp) (by omega) (fun i hi => by
          obtain rfl : i = 0 := by omega
          show 0 ≤ (k : Int) ∧ (k : Int) < n
          omega))
        have hlk : (minL (t : Int) n rs gi k).length = n := (minL_length _ _ _ _ k).trans HGl.out
        have HRed := Lib.hid (show redB (t : Int) n (minL (t : Int) n rs gi k) rs k = redC (t : Int) n (minL (t : Int) n rs gi k) rs [(k : Int)] 1 from (red_iff hlk (HInv.out k).v (HInv.out k).o hlt).trans (redC_one rfl).symm)
        have Hbk := Lib.hid hbk
        have Ho7 := Lib.hid ho7
        have Hb7 := Lib.hid hb7
        clear hpk hbw hlk ho7 hb7 hbk
        go_wp2_with (first
          | (go_at_call 64; refine HRb.out.mono ?_; rintro e w8 ⟨⟨A8, c8, rfl, hcase⟩, hb8⟩; have hb78 := step Hbk.out hb8; have hr8 := (hb78.block w3.heap.size hsX).trans hr7)
          | (refine wpList_store_row rfl 30 _ _ rfl w3.heap.size #[.int .i64 (t : Int), .slice A8 n c8, .slice (some ⟨g, 0, none⟩) nr nr] rfl rfl 30 #[.int .i64 (t : Int), .slice A7 n c7, .slice (some ⟨g, 0, none⟩) nr nr] hr8 (Hi.out _ _ _ _ _ _ _) rfl (Hone.out _ _ _ _ _ _ _) ?_))
        have hB8 := step Hb7.out hb78
        have hfin : OwnP w8 w1.heap.size A8 n c8 (minL (t : Int) n rs gi (k + 1)) g nr rs := by
          rcases hcase with ⟨h1, rfl, rfl⟩ | ⟨h1, h2⟩
          · have : minL (t : Int) n rs gi (k + 1) = minL (t : Int) n rs gi k := by rw [minL, HRed.out, h1]; simp
            rw [this]; exact Ho7.out.below hb78
          · have : minL (t : Int) n rs gi (k + 1) = (minL (t : Int) n rs gi k).set k 0 := by rw [minL, HRed.out, h1]; simp
            rw [this]
            exact Ho7.out.fresh hb78 (h2.mono Hbk.out.size) (Nat.le_trans hV3 (Nat.le_of_lt hsX))
        go_roundw
        case rel => exact ⟨k + 1, A8, c8, hlt, by go_num, setRow_heap _ _ _ _ _ _ hr8, hfin.setX hr8, setRow_below5 hB8 (Nat.le_refl _)⟩
        case measure => simp [intOf]; omega
      · obtain rfl : k = n := by omega
        have hbV7 : Below V.heap.size V wr := step Hb13.out hb7
        have hq7 := (HX.out _ hbV7).2
        have Ho7 := Lib.hid ho7
        have Hb7 := Lib.hid hbV7
        clear ho7 hb7 hbV7
        go_wp2_with (refine wpList_store_row rfl 30 _ _ rfl (w.heap.size + 1) #[.int .i64 (t : Int), .slice A7 k c7, .slice (some ⟨g, 0, none⟩) nr nr] rfl rfl 30 #[.int .i64 0, .slice none 0 0, .slice none 0 0] hq7 (Hi.out _ _ _ _ _ _ _) rfl (Hone.out _ _ _ _ _ _ _) ?_)
        have hBe : Below w.heap.size w (wr.setRow (w.heap.size + 1) #[.int .i64 (t : Int), .slice A7 k c7, .slice (some ⟨g, 0, none⟩) nr nr]) := setRow_below5 (HbV.out.trans (Hb7.out.mono HbV.out.size)) (by omega)
        exact bodyPost_ret (v := .tuple #[.agg #[.int .i64 (t : Int), .slice A7 k c7, .slice (some ⟨g, 0, none⟩) nr nr], .bool true]) (results_row_tmp (by rfl) _ _ (w.heap.size + 1) 30 _ (0, 0) _ _ rfl rfl (setRow_heap _ _ _ _ _ _ hq7) Tryd.underlying30 rfl (Hi.out _ _ _ _ _ _ _)) rfl ⟨hBe, .inr ⟨by trivial, A7, c7, g, rfl, (Ho7.out.setX hq7).mono (by omega)⟩⟩
end Go.Proofs.YtcjdjcpappfkgaaDoor
set_option maxRecDepth 8000
namespace Go.Proofs.YtcjdjcpappfkgaaDoor
open Go.ChangeShapes Go.WideShapes Go.ChangeAt Go.RowKit Go.Deep
/-! A slice of rules that came in, as it reads. -/
theorem list_of {P : Nat → RuleM → Prop} : ∀ n, (∀ i, i < n → ∃ r, P i r) → ∃ rs : List RuleM, rs.length = n ∧ ∀ i, i < n → P i (rat rs i) := by
  intro n
  induction n with
  | zero => intro _; exact ⟨[], rfl, fun i hi => absurd hi (by omega)⟩
  | succ n ih =>
    intro h
    obtain ⟨rs, hl, hp⟩ := ih (fun i hi => h i (by omega))
    obtain ⟨r, hr⟩ := h n (by omega)
    refine ⟨rs ++ [r], by simp [hl], fun i hi => ?_⟩
    by_cases e : i < n
    · have : rat (rs ++ [r]) i = rat rs i := by simp [rat, List.getD_eq_getElem?_getD, List.getElem?_append_left (by omega : i < rs.length)]
      rw [this]; exact hp i e
    · obtain rfl : i = n := by omega
      have : rat (rs ++ [r]) i = r := by simp [rat, List.getD_eq_getElem?_getD, ← hl]
      rw [this]; exact hr
theorem add_plain (b off i : Nat) : (⟨b, off, none⟩ : Addr).add i = ⟨b, off + i, none⟩ := by unfold Addr.add; split <;> simp_all
theorem open_rules {H : Type} {enc : TypeId × Value → H} {W : World} {base : Nat} {held : Bool} {fs : Array Field} {fuel : Nat} {v : Value} {x : DataW H × List MemPlace}
    (he : Tryd.prog.underlying 77 = some (.struct fs)) (hone : oneCellFields Tryd.prog fs = true) (hC : Tryd.prog.cellsOf 77 = 3) (hfs : fs.size = 3)
    (t0 : (fs[0]?).map (·.type) = some 3) (t1 : (fs[1]?).map (·.type) = some 22) (t2 : (fs[2]?).map (·.type) = some 3) (h1 : Tryd.prog.cellsOf 3 = 1)
    (h : DataW.trod enc Tryd.prog W base (fun _ => true) held fuel 23 [v] = some x) :
    ∃ A len cap rs, v = .slice A len cap ∧ RdRx W W.heap.size A len rs ∧ len ≤ 9223372036854775807 := by
  rcases open_slice Tryd.underlying23 h with ⟨hcs, _⟩ | ⟨a, len, cap, m, nf, D, Pl, hcs, hb, hl, hm, hmm, _, hi⟩
  · injection hcs with hcs
    exact ⟨none, 0, 0, [], hcs, ⟨rfl, fun hn => absurd hn (by omega)⟩, by omega⟩
  · injection hcs with hcs
    have hlm : len ≤ m := by rw [hmm]; simpa using hl
    have hmax : len ≤ 9223372036854775807 := by simp only [maxLen] at hm; omega
    -- one element
    have one : ∀ i, i < len → ∃ (k : Int) (A' : Option Addr) (l c : Nat) (zs : List Int) (u : Int), W.cell? (a.add (i * 3)) = some (.int .i64 k) ∧ W.cell? (a.add (i * 3 + 1)) = some (.slice A' l c) ∧ W.cell? (a.add (i * 3 + 2)) = some (.int .i64 u) ∧ IsRow .i64 W A' l c zs := fun i hil => by
      obtain ⟨cs', hc, ht⟩ := hi i (by omega)
      rw [hC] at hc
      obtain ⟨ys, n', _, _, hlen, hyl, hf⟩ := DataW.trod_struct he ht
      obtain ⟨_, hcl, hat⟩ := World.cells?_some hc
      match cs', hcl with
      | [c0, c1, c2], _ =>
        obtain ⟨f0, hf0⟩ : ∃ f, fs[0]? = some f := ⟨fs[0], Array.getElem?_eq_getElem (by omega)⟩
        obtain ⟨f1, hf1⟩ : ∃ f, fs[1]? = some f := ⟨fs[1], Array.getElem?_eq_getElem (by omega)⟩
        obtain ⟨f2, hf2⟩ : ∃ f, fs[2]? = some f := ⟨fs[2], Array.getElem?_eq_getElem (by omega)⟩
        obtain ⟨o0, k0⟩ := hone_of hone 0 f0 hf0
        obtain ⟨o1, k1⟩ := hone_of hone 1 f1 hf1
        obtain ⟨o2, k2⟩ := hone_of hone 2 f2 hf2
        have e0 := hf 0 f0 hf0
        have e1 := hf 1 f1 hf1
        have e2 := hf 2 f2 hf2
        rw [o0, k0] at e0
        rw [o1, k1] at e1
        rw [o2, k2] at e2
        rw [hf0] at t0
        rw [hf1] at t1
        rw [hf2] at t2
        have t0' : f0.type = 3 := by simpa using t0
        have t1' : f1.type = 22 := by simpa using t1
        have t2' : f2.type = 3 := by simpa using t2
        rw [t0'] at e0
        rw [t1'] at e1
        rw [t2'] at e2
        have g0 : DataW.trod enc Tryd.prog W base (fun _ => true) held n' 3 [c0] = some (ys[0]'(by omega)) := by rw [← List.getElem?_eq_getElem]; simpa using e0
        have g1 : DataW.trod enc Tryd.prog W base (fun _ => true) held n' 22 [c1] = some (ys[1]'(by omega)) := by rw [← List.getElem?_eq_getElem]; simpa using e1
        have g2 : DataW.trod enc Tryd.prog W base (fun _ => true) held n' 3 [c2] = some (ys[2]'(by omega)) := by rw [← List.getElem?_eq_getElem]; simpa using e2
        obtain ⟨k, ek, _⟩ := DataW.trod_int Tryd.underlying3 g0
        obtain ⟨u, eu, _⟩ := DataW.trod_int Tryd.underlying3 g2
        injection ek with ek
        injection eu with eu
        have a0 := hat 0 (by omega)
        have a1 := hat 1 (by omega)
        have a2 := hat 2 (by omega)
        rw [add_add] at a0 a1 a2
        obtain ⟨A', l, c, zs, ez, hz⟩ : ∃ A' l c zs, c1 = .slice A' l c ∧ IsRow .i64 W A' l c zs := by
          rcases open_ints Tryd.underlying22 Tryd.underlying3 h1 g1 with ⟨hcs, _⟩ | ⟨x, l, c, zs, hcs, _, hl, hm, hz, _, hcell, hwz⟩
          · injection hcs with hcs
            exact ⟨none, 0, 0, [], hcs, .inl ⟨rfl, rfl, rfl, rfl⟩⟩
          · injection hcs with hcs
            exact ⟨_, _, _, zs, hcs, .inr ⟨_, rfl, hl, hm, by simpa using hz, hcell, hwz⟩⟩
        exact ⟨k, A', l, c, zs, u, by rw [ek] at a0; simpa using a0, by rw [ez] at a1; simpa using a1, by rw [eu] at a2; simpa using a2, hz⟩
    by_cases h0 : len = 0
    · subst h0
      exact ⟨some a, 0, cap, [], hcs, ⟨rfl, fun hn => absurd hn (by omega)⟩, hmax⟩
    · obtain ⟨k, A', l, c, zs, u, q0, q1, q2, q3⟩ := one 0 (by omega)
      obtain ⟨b, off, spot⟩ := a
      have hspot : spot = none := by simpa [Addr.add] using World.cell?_spot q0
      subst hspot
      obtain ⟨rs, hrl, hrs⟩ := list_of (P := fun i r => ∃ A' c', W.cell? ⟨b, off + i * 3, none⟩ = some (.int .i64 r.k) ∧ W.cell? ⟨b, off + i * 3 + 1, none⟩ = some (.slice A' r.xs.length c') ∧ W.cell? ⟨b, off + i * 3 + 2, none⟩ = some (.int .i64 r.v) ∧ Rd W W.heap.size A' r.xs.length r.xs ∧ r.xs.length ≤ 9223372036854775807) len (fun i hil => by
        obtain ⟨k, A', l, c, zs, u, q0, q1, q2, q3⟩ := one i hil
        have hrd := rd_of_row q3
        have hll := hrd.1
        rw [add_plain] at q0 q1 q2
        exact ⟨⟨k, zs.take l, u⟩, A', c, q0, by rw [hll, Nat.add_assoc]; exact q1, by rw [Nat.add_assoc]; exact q2, by rw [hll]; exact hrd, by rw [hll]; exact row_max q3⟩)
      exact ⟨_, _, _, rs, hcs, ⟨hrl, fun _ => ⟨b, off, rfl, cell_lt q0, hrs⟩⟩, hmax⟩
end Go.Proofs.YtcjdjcpappfkgaaDoor
