import Derived.Test.YtcjdjcpappfkgaaXW4E
import Derived.Test.YtcjdjcpappfkgaaPz
import Derived.Deep.RegionWith
import Derived.Test.YtcjdjcpappfkgaaFresh
import Derived.Test.YtcjdjcpappfkgaaP5S
import Derived.Test.YtcjdjcpappfkgaaP5A
import Derived.Test.YtcjdjcpappfkgaaXRInts
import Derived.Test.YtcjdjcpappfkgaaXPInD
set_option maxRecDepth 8000
namespace Go.Proofs.Ytcjdjcpappfkgaa
open Go.ChangeShapes Go.WideShapes Go.ChangeAt Go.RowKit
/-- a puzzle of the call's own, what is given and the rules' cells apart. -/
def OwnP (w : World) (lo : Nat) (A1 : Option Addr) (n c1 : Nat) (gi : List Int) (g nr : Nat) (rs : List RuleM) : Prop :=
  Ow w lo A1 n c1 gi ∧ ∃ Q : Nat → Prop, OwRd w lo g nr rs Q nr ∧ (∀ b, Q b → b < w.heap.size) ∧ ∀ b, (Value.slice A1 n c1).ownBlock = some b → ¬ Q b
set_option maxHeartbeats 4000000 in
theorem copied_any (s : Int) (Ag : Option Addr) (n cg Bg : Nat) (gi : List Int) (Ar : Option Addr) (nr cr Br : Nat) (rs : List RuleM) (w : World) (hp : PGs w s Ag n cg Bg gi Ar nr cr Br rs) (hn : 0 < n) (hnr : nr ≤ 1048576) (hL : ∀ i, i < nr → 0 < (rat rs i).xs.length) :
    Calls Try.prog 21 #[.agg #[.int .i64 s, .slice Ag n cg, .slice Ar nr cr]] w fun e w' => ∃ A1 c1 g, e = .returned (.agg #[.int .i64 s, .slice A1 n c1, .slice (some ⟨g, 0, none⟩) nr nr]) ∧ OwnP w' w.heap.size A1 n c1 gi g nr rs ∧ Below w.heap.size w w' := by
  have hx0 := pbox_new w s Ag n cg Ar nr cr 27
  have hb0 : Below w.heap.size w (w.alloc (.cells #[.int .i64 s, .slice Ag n cg, .slice Ar nr cr] 27)) := (Below.refl _ _).alloc (Nat.le_refl _) _
  have hs0 : w.heap.size < (w.alloc (.cells #[.int .i64 s, .slice Ag n cg, .slice Ar nr cr] 27)).heap.size := by simp
  obtain ⟨V, hV⟩ : ∃ V, V = (w.alloc (.cells #[.int .i64 s, .slice Ag n cg, .slice Ar nr cr] 27)).alloc (.cells #[.int .i64 0, .slice none 0 0, .slice none 0 0] 27) := ⟨_, rfl⟩
  have hbV : Below w.heap.size w V := by rw [hV]; exact hb0.alloc hb0.size _
  have hsV : V.heap.size = w.heap.size + 1 + 1 := by rw [hV]; simp
  have hxV : PBox V w.heap.size s Ag n cg Ar nr cr := by
    rw [hV]
    exact hx0.below hs0 ((Below.refl _ _).alloc (Nat.le_refl _) _)
  have hrow : V.heap[w.heap.size + 1]? = some (.cells #[.int .i64 0, .slice none 0 0, .slice none 0 0] 27) := by rw [hV]; exact heap_alloc2_new w _ _
  have Hi := Lib.hid puz_info
  have HCl := Lib.hid (fun (w' : World) (hb : Below V.heap.size V w') => clone_any Ag n cg Bg gi w' ((hp.below (hbV.trans (hb.mono hbV.size))).g) ((hp.below (hbV.trans (hb.mono hbV.size))).gB) hn hp.gm)
  have HCR := Lib.hid (fun (w' : World) (hb : Below V.heap.size V w') => copiedRules_any Ar cr nr Br rs w' ((hp.below (hbV.trans (hb.mono hbV.size))).r) ((hp.below (hbV.trans (hb.mono hbV.size))).rB) hnr hL)
  have HX := Lib.hid (fun (w' : World) (hb : Below V.heap.size V w') => (⟨hxV.below (by omega) hb, (hb.block (w.heap.size + 1) (by omega)).trans hrow⟩ : PBox w' w.heap.size s Ag n cg Ar nr cr ∧ w'.heap[w.heap.size + 1]? = some (.cells #[.int .i64 0, .slice none 0 0, .slice none 0 0] 27)))
  have HV := Lib.hid hV
  have HbV := Lib.hid hbV
  have hVd : Below V.heap.size V V.drew := (Below.refl _ _).drew
  obtain ⟨z0, z1, z2⟩ := id hxV
  clear hV hx0 hb0 hs0 hp hxV hrow hL hbV
  go_enter Try.func21, Try.ntmps21
  go_wp2
  rw [← HV.out]
  go_region_with (first
    | (go_at_call 31; (with_reducible refine (HCl.out _ ?hd).mono ?_); (case hd => exact hVd); rintro e w1 ⟨A1, c1, rfl, ho1, hb1d⟩; have hb1 := below_undrew hb1d; clear hb1d; obtain ⟨⟨y0, y1, y2⟩, _⟩ := HX.out _ hb1)
    | (go_at_call 32; (with_reducible refine (HCR.out _ ?hd2).mono ?_); (case hd2 => exact hb1); rintro e w2 ⟨g, rfl, hrd2, hb2⟩; have h2 := step hb1 hb2; obtain ⟨⟨x0, x1, x2⟩, hr2⟩ := HX.out _ h2; have d0 := cell_of_row _ _ 0 _ _ (0, 0) hr2; have d1 := cell_of_row _ _ 1 _ _ (0, 0) hr2; have d2 := cell_of_row _ _ 2 _ _ (0, 0) hr2; have f0 := frozen_of_row _ _ 0 _ _ hr2; have f1 := frozen_of_row _ _ 1 _ _ hr2; have f2 := frozen_of_row _ _ 2 _ _ hr2))
  all_goals
    go_wp2
    have e0 := heap_setCell_same w2 (w.heap.size + 1) 0 _ _ (.int .i64 s) hr2
    have e1 := heap_setCell_same _ (w.heap.size + 1) 1 _ _ (.slice A1 n c1) e0
    have e2 := heap_setCell_same _ (w.heap.size + 1) 2 _ _ (.slice (some ⟨g, 0, none⟩) nr nr) e1
    have hbV := HbV.out
    have h2s := h2.size
    have hbY : Below V.heap.size w2 (((w2.setCell ⟨w.heap.size + 1, 0, none⟩ (.int .i64 s)).setCell ⟨w.heap.size + 1, 1, none⟩ (.slice A1 n c1)).setCell ⟨w.heap.size + 1, 2, none⟩ (.slice (some ⟨g, 0, none⟩) nr nr)) → True := fun _ => trivial
    have hgY : w2.grownBy (((w2.setCell ⟨w.heap.size + 1, 0, none⟩ (.int .i64 s)).setCell ⟨w.heap.size + 1, 1, none⟩ (.slice A1 n c1)).setCell ⟨w.heap.size + 1, 2, none⟩ (.slice (some ⟨g, 0, none⟩) nr nr)) (some (w.heap.size + 1)) := (grown_set.trans grown_set).trans grown_set
    have hB2 : Below w.heap.size w w2 := hbV.trans (h2.mono hbV.size)
    have hBe : Below w.heap.size w (((w2.setCell ⟨w.heap.size + 1, 0, none⟩ (.int .i64 s)).setCell ⟨w.heap.size + 1, 1, none⟩ (.slice A1 n c1)).setCell ⟨w.heap.size + 1, 2, none⟩ (.slice (some ⟨g, 0, none⟩) nr nr)) := ((hB2.setCell (p := ⟨w.heap.size + 1, 0, none⟩) (Nat.le_succ _) _).setCell (p := ⟨w.heap.size + 1, 1, none⟩) (Nat.le_succ _) _).setCell (p := ⟨w.heap.size + 1, 2, none⟩) (Nat.le_succ _) _
    have ho2 := ho1.below hb2
    have hA1 : ∀ b, (Value.slice A1 n c1).ownBlock = some b → w.heap.size + 1 < b ∧ b < w1.heap.size := fun b hb => ⟨by have := ho1.own_lo b hb; have e : V.drew.heap.size = V.heap.size := rfl; omega, ho1.own_hi b hb⟩
    have hV1 := hb1.size
    refine bodyPost_ret (v := .agg #[.int .i64 s, .slice A1 n c1, .slice (some ⟨g, 0, none⟩) nr nr]) (results_cell_row (by rfl) _ _ (w.heap.size + 1) 27 _ (0, 0) _ rfl e2 Try.underlying27 rfl (Hi.out _ _ _ _ _ _ _)) rfl ⟨_, _, _, rfl, ⟨?_, fun b => w1.heap.size ≤ b ∧ b < w2.heap.size, ?_, fun b hb => ?_, fun b hb hq => ?_⟩, hBe⟩
    · exact (Ow.far ho2 hgY (fun b hb e => by have := (hA1 b hb).1; have := Option.some.inj e; omega)).mono (by have e : V.drew.heap.size = V.heap.size := rfl; omega)
    · exact (hrd2.far hgY (by omega)).mono (by omega)
    · have := hgY.size; omega
    · have := (hA1 b hb).2; omega
end Go.Proofs.Ytcjdjcpappfkgaa
set_option maxRecDepth 8000
namespace Go.Proofs.Ytcjdjcpappfkgaa
open Go.ChangeShapes Go.WideShapes Go.ChangeAt Go.RowKit
/-! PuzzleOf. -/
theorem push_newR {w : World} {ops : Array Oper} {rest : List Oper} {o : Oper} {a : Act} {Q : Exit → Act → World → Prop} (hgd : o.guard = none) (s x : Operand)
    (ho : o.op = .call { callee := .builtin .append, args := #[s, x], argTypes := #[25, 25] })
    (b : Nat) (A2 : Option Addr) (m c2 lo lo2 : Nat) (rs2 : List RuleM) (vs2 : List Value) (hs : a.eval s = .slice (some ⟨b, 0, none⟩) 0 0) (hx : a.eval x = .slice A2 m c2) (hl2 : rs2.length = m) (hown2 : w.ownsRow lo2 44 3 (.slice A2 m c2) m vs2) (hin2 : InR w lo (.slice none 0 0) rs2 vs2 m)
    (hlit : w.heap[b]? = some (.cells #[] 44)) (hb : lo ≤ b) (hm : m ≤ 1099511627776) (hlo : lo ≤ w.heap.size)
    (h : ∀ A' c' w', OwR w' lo (.slice A' m c') rs2 m → Below w.heap.size w w' → wpList Try.prog ops Q rest (a.put o.dst (.slice A' m c')) w') :
    wpList Try.prog ops Q (o :: rest) a w := by
  refine wpList_plain hgd fun K hK => ?_
  obtain ⟨A', c', w', hrun, h1, h2⟩ := fresh_rules o.type b A2 m c2 lo lo2 rs2 vs2 hl2 hown2 hin2 hlit hb hm hlo
  unfold Oper.wp
  simp [execOp, ho, resolve, invoke, builtin, hs, hx, hrun, Result.andThen]
  exact hK _ _ (h A' c' w' h1 h2)
theorem results_row_tmpP {P : Program} {fn : Func} {p q : Tmp} {ty : TypeId} (h : fn.results = #[.cell p ty, .tmp q]) (tmps : Array Value) (w : World) (g : Nat) (t : TypeId) (cs : Array Value) (fr : Nat × Nat) (d : TypeDesc) (b : Value)
    (hp : tmps.getD p undef = .pointer (some ⟨g, 0, none⟩)) (hq : tmps.getD q undef = b) (hg : w.heap[g]? = some (.cells cs t fr))
    (hu : P.underlying ty = some d) (hd : (match d with | .struct _ | .array _ _ => true | _ => false) = true) (hi : (P.info? ty).map (·.size) = some cs.size) :
    (results fn tmps).run P w = .ok (.tuple #[.agg cs, b]) w := by
  have hp' : tmps[p]?.getD undef = .pointer (some ⟨g, 0, none⟩) := by simpa using hp
  have hq' : tmps[q]?.getD undef = b := by simpa using hq
  simp [results, h, hp', hq', asAddr, run_loadVar_row w g t ty cs fr d hg hu hd hi]
/-- the zero value and false, or what was given and true. -/
def PoS (ok : Bool) (s : Int) (n : Nat) (L : List Int) (nr : Nat) (rs : List RuleM) (w : World) (e : Ending) (w' : World) : Prop :=
  Below w.heap.size w w' ∧ ((ok = false ∧ e = .returned (.tuple #[.agg #[.int .i64 0, .slice none 0 0, .slice none 0 0], .bool false])) ∨
    (ok = true ∧ ∃ A1 c1 A2 c2, e = .returned (.tuple #[.agg #[.int .i64 s, .slice A1 n c1, .slice A2 nr c2], .bool true]) ∧ Rd w' w'.heap.size A1 n L ∧ RdRs w' w'.heap.size A2 nr rs))
def PoI (ok : Bool) (s : Int) (n : Nat) (L : List Int) (nr : Nat) (rs : List RuleM) (w : World) (e : Ending) (w' : World) : Prop :=
  Below w.heap.size w w' ∧ ((ok = false ∧ e = .returned (.tuple #[.agg #[.int .i64 0, .slice none 0 0, .slice none 0 0], .bool false])) ∨
    (ok = true ∧ ∃ A1 c1 g, e = .returned (.tuple #[.agg #[.int .i64 s, .slice A1 n c1, .slice (some ⟨g, 0, none⟩) nr nr], .bool true]) ∧ OwnP w' w.heap.size A1 n c1 L g nr rs))
set_option maxHeartbeats 4000000 in
theorem implPuzzleOf (Ag : Option Addr) (n cg Bg : Nat) (gi : List Int) (s : Int) (Ar : Option Addr) (nr cr Br : Nat) (rs : List RuleM) (w : World) (hp : PGc w s Ag n cg Bg gi Ar nr cr Br rs) :
    Calls Try.prog 8 #[.slice Ag n cg, .int .i64 s, .slice Ar nr cr] w (PoI (psB s gi rs gi) s n gi nr rs w) := by
  have hb0 : Below w.heap.size w (w.alloc (.cells #[.int .i64 0, .slice none 0 0, .slice none 0 0] 27)) := (Below.refl _ _).alloc (Nat.le_refl _) _
  have hr0 := heap_alloc_new w (.cells #[.int .i64 0, .slice none 0 0, .slice none 0 0] 27)
  obtain ⟨V0, hV0⟩ : ∃ V0, w.alloc (.cells #[.int .i64 0, .slice none 0 0, .slice none 0 0] 27) = V0 := ⟨_, rfl⟩
  have hs0 : V0.heap.size = w.heap.size + 1 := by rw [← hV0]; simp
  rw [hV0] at hb0 hr0
  have hbX : Below V0.heap.size V0 (V0.alloc (.cells #[.int .i64 s, .slice Ag n cg, .slice Ar nr cr] 27)) := (Below.refl _ _).alloc (Nat.le_refl _) _
  have hxX := pbox_new V0 s Ag n cg Ar nr cr 27
  rw [hs0] at hxX
  have hsX : V0.heap.size < (V0.alloc (.cells #[.int .i64 s, .slice Ag n cg, .slice Ar nr cr] 27)).heap.size := by simp
  obtain ⟨V, hV⟩ : ∃ V, V0.alloc (.cells #[.int .i64 s, .slice Ag n cg, .slice Ar nr cr] 27) = V := ⟨_, rfl⟩
  rw [hV] at hbX hxX hsX
  have hbV : Below w.heap.size w V := step hb0 hbX
  have Hone := Lib.hid puz_one
  have Hi := Lib.hid puz_info
  have HPS := Lib.hid (implPuzzleSolved s Ag n cg Bg gi Ar nr cr Br rs Ag n cg Bg gi V (hp.below hbV) (hp.below hbV).g (hp.below hbV).gB hp.gm)
  have HX := Lib.hid (fun (w' : World) (hb : Below V.heap.size V w') => (⟨hxX.below (by omega) hb, (hb.block w.heap.size (by omega)).trans ((hbX.block w.heap.size (by omega)).trans hr0)⟩ : PBox w' (w.heap.size + 1) s Ag n cg Ar nr cr ∧ w'.heap[w.heap.size]? = some (.cells #[.int .i64 0, .slice none 0 0, .slice none 0 0] 27)))
  have HVe : Hid ((w.alloc (.cells #[.int .i64 0, .slice none 0 0, .slice none 0 0] 27)).alloc (.cells #[.int .i64 s, .slice Ag n cg, .slice Ar nr cr] 27) = V) := Lib.hid (by rw [hV0, hV])
  have HbV := Lib.hid hbV
  cases hps : psB s gi rs gi
  · rw [hps] at HPS
    clear hV0 hV hb0 hr0 hbX hxX hp hps hbV
    go_enter Try.func8, Try.ntmps8
    go_wp2_with (first
      | (go_at_call 20; rw [HVe.out]; refine HPS.out.mono ?_; rintro e w1 ⟨rfl, hb1⟩; obtain ⟨_, hr1⟩ := HX.out _ hb1)
      | (refine wpList_store_row rfl 27 _ _ rfl w.heap.size #[.int .i64 0, .slice none 0 0, .slice none 0 0] rfl rfl 27 #[.int .i64 0, .slice none 0 0, .slice none 0 0] hr1 (Hi.out _ _ _ _ _ _ _) rfl (Hone.out _ _ _ _ _ _ _) ?_))
    have hBe : Below w.heap.size w (w1.setRow w.heap.size #[.int .i64 0, .slice none 0 0, .slice none 0 0]) := setRow_below5 (HbV.out.trans (hb1.mono HbV.out.size)) (Nat.le_refl _)
    exact bodyPost_ret (v := .tuple #[.agg #[.int .i64 0, .slice none 0 0, .slice none 0 0], .bool false]) (results_row_tmpP (by rfl) _ _ w.heap.size 27 _ (0, 0) _ _ rfl rfl (setRow_heap _ _ _ _ _ _ hr1) Try.underlying27 rfl (Hi.out _ _ _ _ _ _ _)) rfl ⟨hBe, .inl ⟨by trivial, rfl⟩⟩
  · rw [hps] at HPS
    have hv : pvB s gi rs = true := by
      unfold psB fpB at hps
      simp only [Bool.and_eq_true] at hps
      exact hps.1.1.1
    obtain ⟨t, rfl, hs, hnn, hn16, _⟩ := pv_grid hv hp.g.1
    have hn0 : 0 < n := by simp at hs; rcases hs with rfl | rfl | rfl <;> omega
    have hrl := hp.r.1
    have hnr : nr ≤ 20 := by have := (pv_gv hv).2.1; omega
    have hL : ∀ i, i < nr → 0 < (rat rs i).xs.length := fun i hi => by
      have h1 := (pv_gv hv).2.2 i (by omega)
      obtain ⟨_, h2, _, _⟩ := rv_facts rfl h1
      omega
    have HC := Lib.hid (fun (w' : World) (hb : Below w.heap.size w w') => copied_any (t : Int) Ag n cg Bg gi Ar nr cr Br rs w' (hp.below hb).rd hn0 (by omega) hL)
    clear hV0 hV hb0 hr0 hbX hxX hp hps hbV hs hnn hL hv
    go_enter Try.func8, Try.ntmps8
    go_wp2_with (first
      | (go_at_call 20; rw [HVe.out]; refine HPS.out.mono ?_; rintro e w1 ⟨rfl, hb1⟩; obtain ⟨⟨y0, y1, y2⟩, hr1⟩ := HX.out _ hb1; have h01 := HbV.out.trans (hb1.mono HbV.out.size))
      | (go_at_call 21; refine (HC.out _ h01).mono ?_; rintro e w2 ⟨A3, c3, g, rfl, hown, hb2⟩; have hr2 := (HX.out _ (step hb1 hb2)).2)
      | (refine wpList_store_row rfl 27 _ _ rfl w.heap.size #[.int .i64 (t : Int), .slice A3 n c3, .slice (some ⟨g, 0, none⟩) nr nr] rfl rfl 27 #[.int .i64 0, .slice none 0 0, .slice none 0 0] hr2 (Hi.out _ _ _ _ _ _ _) rfl (Hone.out _ _ _ _ _ _ _) ?_))
    have h02 := step h01 hb2
    have hBe : Below w.heap.size w (w2.setRow w.heap.size #[.int .i64 (t : Int), .slice A3 n c3, .slice (some ⟨g, 0, none⟩) nr nr]) := setRow_below5 h02 (Nat.le_refl _)
    have hs1 := h01.size
    have hlt : w.heap.size < w1.heap.size := by have := hb1.size; omega
    refine bodyPost_ret (v := .tuple #[.agg #[.int .i64 (t : Int), .slice A3 n c3, .slice (some ⟨g, 0, none⟩) nr nr], .bool true]) (results_row_tmpP (by rfl) _ _ w.heap.size 27 _ (0, 0) _ _ rfl rfl (setRow_heap _ _ _ _ _ _ hr2) Try.underlying27 rfl (Hi.out _ _ _ _ _ _ _)) rfl ⟨hBe, .inr ⟨by trivial, A3, c3, g, rfl, ?_⟩⟩
    obtain ⟨o1, Q, o2, o3, o4⟩ := hown
    have hgr : w2.grownBy (w2.setRow w.heap.size #[.int .i64 (t : Int), .slice A3 n c3, .slice (some ⟨g, 0, none⟩) nr nr]) (some w.heap.size) := grown_row
    exact ⟨(Ow.far o1 hgr (fun b hb e => by have := o1.own_lo b hb; have := Option.some.inj e; omega)).mono hs1, Q, (o2.far hgr hlt).mono hs1, fun b hq => Nat.lt_of_lt_of_le (o3 b hq) hgr.size, o4⟩
set_option maxHeartbeats 4000000 in
theorem specPuzzleOf (Ag : Option Addr) (n cg Bg : Nat) (gi : List Int) (s : Int) (Ar : Option Addr) (nr cr Br : Nat) (rs : List RuleM) (w : World) (hp : PGs w s Ag n cg Bg gi Ar nr cr Br rs) (hm2 : nr ≤ 1099511627775) :
    Calls Try.prog 5 #[.slice Ag n cg, .int .i64 s, .slice Ar nr cr] w (PoS (psB s gi rs gi) s n gi nr rs w) := by
  have hrl := hp.r.1
  have hb0 : Below w.heap.size w (w.alloc (.cells #[.int .i64 0, .slice none 0 0, .slice none 0 0] 27)) := (Below.refl _ _).alloc (Nat.le_refl _) _
  have hr0 := heap_alloc_new w (.cells #[.int .i64 0, .slice none 0 0, .slice none 0 0] 27)
  obtain ⟨V0, hV0⟩ : ∃ V0, w.alloc (.cells #[.int .i64 0, .slice none 0 0, .slice none 0 0] 27) = V0 := ⟨_, rfl⟩
  have hs0 : V0.heap.size = w.heap.size + 1 := by rw [← hV0]; simp
  rw [hV0] at hb0 hr0
  have Hone := Lib.hid puz_one
  have Hi := Lib.hid puz_info
  have HOR := Lib.hid (specOwnRules Ar nr cr Br rs V0 (hp.below hb0).r (hp.below hb0).rB hm2)
  have HG := Lib.hid (fun (w' : World) (hb : Below V0.heap.size V0 w') => (⟨(hp.below (step hb0 hb)).g, (hp.below (step hb0 hb)).gB⟩ : Rd w' Bg Ag n gi ∧ Bg ≤ w'.heap.size))
  have HV0 := Lib.hid hV0
  have hgm := hp.gm
  have HR0 := Lib.hid (fun (w' : World) (hb : Below V0.heap.size V0 w') => (hb.block w.heap.size (by omega)).trans hr0)
  have Hb0 := Lib.hid hb0
  clear hV0 hb0 hr0 hp
  go_enter Try.func5, Try.ntmps5
  go_wp2_with fail
  rw [HV0.out]
  refine HOR.out.mono ?_
  rintro e w1 ⟨A1r, c1r, rfl, hor1, hb1⟩
  have hba : Below w1.heap.size w1 (w1.alloc (.cells #[] 3)) := (Below.refl _ _).alloc (Nat.le_refl _) _
  have hb1a := step hb1 hba
  have HO := Lib.hid (Ow.made0 w1 w1.heap.size (Nat.le_refl _))
  have hRa := (HG.out _ hb1a).1
  have hm3 : nr ≤ 1099511627776 := by omega
  cases hps : psB s gi rs gi
  · skip
    go_wp2_with (first
      | (at_builtin; (refine push_new rfl (.tmp 12) (.tmp 13) rfl w1.heap.size (some ⟨w1.heap.size, 0, none⟩) Ag n cg Bg gi rfl rfl HO.out hRa hgm (by simp) ?_); intro A2 c2 w2 ho2 hg2; have hb2 : Below w1.heap.size w1 w2 := hba.grown hg2 hba.size (fun k hk => HO.out.own_lo k hk); have hbl : Below w2.heap.size w2 (w2.alloc (.cells #[] 44)) := (Below.refl _ _).alloc (Nat.le_refl _) _; (obtain ⟨vs, hvo, hvi⟩ := (hor1.below hb2).below hbl); have hlit := heap_alloc_new w2 (.cells #[] 44); have hb1s := hb1.size; have hb2s := hb2.size; have hvi2 : InR (w2.alloc (.cells #[] 44)) V0.heap.size (.slice none 0 0) rs vs nr := (fun i hi => by obtain ⟨A', c', e0, e1, e2, e3, e4, e5⟩ := hvi i hi; exact ⟨A', c', e0, e1, e2, e3, e4, fun g hg e => by simp [Value.ownBlock] at e⟩))
      | (at_builtin; (refine push_newR rfl (.tmp 15) (.tmp 16) rfl w2.heap.size A1r nr c1r V0.heap.size V0.heap.size rs vs rfl rfl hrl hvo hvi2 hlit (by omega) hm3 (by simp; omega) ?_); intro A3 c3 w3 hor3 hb3; have hbX : Below w3.heap.size w3 (w3.alloc (.cells #[.int .i64 s, .slice A2 n c2, .slice A3 nr c3] 27)) := (Below.refl _ _).alloc (Nat.le_refl _) _; have h2X := step hbl (step hb3 hbX); have h0X := step hb1 (step hb2 h2X); have hpX : PGs (w3.alloc (.cells #[.int .i64 s, .slice A2 n c2, .slice A3 nr c3] 27)) s A2 n c2 (w3.alloc (.cells #[.int .i64 s, .slice A2 n c2, .slice A3 nr c3] 27)).heap.size gi A3 nr c3 (w3.alloc (.cells #[.int .i64 s, .slice A2 n c2, .slice A3 nr c3] 27)).heap.size rs := ⟨(ho2.below h2X).rd, Nat.le_refl _, hgm, OwR.rd hrl (hor3.below hbX), Nat.le_refl _, hm3⟩; have HPS := Lib.hid (specPuzzleSolved s A2 n c2 _ gi A3 nr c3 _ rs Ag n cg Bg gi _ hpX (HG.out _ h0X).1 (HG.out _ h0X).2 hgm); have hxp := pbox_new w3 s A2 n c2 A3 nr c3 27; have hsx : w3.heap.size < (w3.alloc (.cells #[.int .i64 s, .slice A2 n c2, .slice A3 nr c3] 27)).heap.size := (by simp))
      | (go_at_call 18; refine HPS.out.mono ?_; rintro e w4 ⟨rfl, hb4⟩; rw [hps]; obtain ⟨x0, x1, x2⟩ := hxp.below hsx hb4; have hr4 := HR0.out _ (step h0X hb4))
      | (refine wpList_store_row rfl 27 _ _ rfl w.heap.size #[.int .i64 0, .slice none 0 0, .slice none 0 0] rfl rfl 27 #[.int .i64 0, .slice none 0 0, .slice none 0 0] hr4 (Hi.out _ _ _ _ _ _ _) rfl (Hone.out _ _ _ _ _ _ _) ?_))
    have hB4 : Below w.heap.size w w4 := Hb0.out.trans ((step h0X hb4).mono Hb0.out.size)
    have hBe : Below w.heap.size w (w4.setRow w.heap.size #[.int .i64 0, .slice none 0 0, .slice none 0 0]) := setRow_below5 hB4 (Nat.le_refl _)
    exact bodyPost_ret (v := .tuple #[.agg #[.int .i64 0, .slice none 0 0, .slice none 0 0], .bool false]) (results_row_tmpP (by rfl) _ _ w.heap.size 27 _ (0, 0) _ _ rfl rfl (setRow_heap _ _ _ _ _ _ hr4) Try.underlying27 rfl (Hi.out _ _ _ _ _ _ _)) rfl ⟨hBe, .inl ⟨by trivial, rfl⟩⟩
  · skip
    go_wp2_with (first
      | (at_builtin; (refine push_new rfl (.tmp 12) (.tmp 13) rfl w1.heap.size (some ⟨w1.heap.size, 0, none⟩) Ag n cg Bg gi rfl rfl HO.out hRa hgm (by simp) ?_); intro A2 c2 w2 ho2 hg2; have hb2 : Below w1.heap.size w1 w2 := hba.grown hg2 hba.size (fun k hk => HO.out.own_lo k hk); have hbl : Below w2.heap.size w2 (w2.alloc (.cells #[] 44)) := (Below.refl _ _).alloc (Nat.le_refl _) _; (obtain ⟨vs, hvo, hvi⟩ := (hor1.below hb2).below hbl); have hlit := heap_alloc_new w2 (.cells #[] 44); have hb1s := hb1.size; have hb2s := hb2.size; have hvi2 : InR (w2.alloc (.cells #[] 44)) V0.heap.size (.slice none 0 0) rs vs nr := (fun i hi => by obtain ⟨A', c', e0, e1, e2, e3, e4, e5⟩ := hvi i hi; exact ⟨A', c', e0, e1, e2, e3, e4, fun g hg e => by simp [Value.ownBlock] at e⟩))
      | (at_builtin; (refine push_newR rfl (.tmp 15) (.tmp 16) rfl w2.heap.size A1r nr c1r V0.heap.size V0.heap.size rs vs rfl rfl hrl hvo hvi2 hlit (by omega) hm3 (by simp; omega) ?_); intro A3 c3 w3 hor3 hb3; have hbX : Below w3.heap.size w3 (w3.alloc (.cells #[.int .i64 s, .slice A2 n c2, .slice A3 nr c3] 27)) := (Below.refl _ _).alloc (Nat.le_refl _) _; have h2X := step hbl (step hb3 hbX); have h0X := step hb1 (step hb2 h2X); have hpX : PGs (w3.alloc (.cells #[.int .i64 s, .slice A2 n c2, .slice A3 nr c3] 27)) s A2 n c2 (w3.alloc (.cells #[.int .i64 s, .slice A2 n c2, .slice A3 nr c3] 27)).heap.size gi A3 nr c3 (w3.alloc (.cells #[.int .i64 s, .slice A2 n c2, .slice A3 nr c3] 27)).heap.size rs := ⟨(ho2.below h2X).rd, Nat.le_refl _, hgm, OwR.rd hrl (hor3.below hbX), Nat.le_refl _, hm3⟩; have HPS := Lib.hid (specPuzzleSolved s A2 n c2 _ gi A3 nr c3 _ rs Ag n cg Bg gi _ hpX (HG.out _ h0X).1 (HG.out _ h0X).2 hgm); have hxp := pbox_new w3 s A2 n c2 A3 nr c3 27; have hsx : w3.heap.size < (w3.alloc (.cells #[.int .i64 s, .slice A2 n c2, .slice A3 nr c3] 27)).heap.size := (by simp))
      | (go_at_call 18; refine HPS.out.mono ?_; rintro e w4 ⟨rfl, hb4⟩; rw [hps]; obtain ⟨x0, x1, x2⟩ := hxp.below hsx hb4; have hr4 := HR0.out _ (step h0X hb4))
      | (refine wpList_store_row rfl 27 _ _ rfl w.heap.size #[.int .i64 s, .slice A2 n c2, .slice A3 nr c3] rfl rfl 27 #[.int .i64 0, .slice none 0 0, .slice none 0 0] hr4 (Hi.out _ _ _ _ _ _ _) rfl (Hone.out _ _ _ _ _ _ _) ?_))
    have hB4 : Below w.heap.size w w4 := Hb0.out.trans ((step h0X hb4).mono Hb0.out.size)
    have hBe : Below w.heap.size w (w4.setRow w.heap.size #[.int .i64 s, .slice A2 n c2, .slice A3 nr c3]) := setRow_below5 hB4 (Nat.le_refl _)
    have h24 : Below w2.heap.size w2 w4 := step h2X hb4
    have h34 : Below w3.heap.size w3 w4 := step hbX hb4
    have hs1 := hb1.size
    have ho4 := Ow.far (ho2.below h24) (grown_row (w := w4) (g := w.heap.size) (cs := #[.int .i64 s, .slice A2 n c2, .slice A3 nr c3])) (fun b hb e => by have := ho2.own_lo b hb; have := Option.some.inj e; omega)
    have hor4 := (hor3.below h34).keptG (grown_row (w := w4) (g := w.heap.size) (cs := #[.int .i64 s, .slice A2 n c2, .slice A3 nr c3])) (by omega)
    exact bodyPost_ret (v := .tuple #[.agg #[.int .i64 s, .slice A2 n c2, .slice A3 nr c3], .bool true]) (results_row_tmpP (by rfl) _ _ w.heap.size 27 _ (0, 0) _ _ rfl rfl (setRow_heap _ _ _ _ _ _ hr4) Try.underlying27 rfl (Hi.out _ _ _ _ _ _ _)) rfl ⟨hBe, .inr ⟨by trivial, A2, c2, A3, c3, rfl, ho4.rd, OwR.rd hrl hor4⟩⟩
end Go.Proofs.Ytcjdjcpappfkgaa
