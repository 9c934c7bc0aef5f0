import Derived.OrdersHeld
import Derived.Test.YtcjdjcpappfkgaaDoorPushAll
import Derived.Test.YtcjdjcpappfkgaaDoorSNp
import Derived.Test.YtcjdjcpappfkgaaDoorSInv
import Derived.Test.YtcjdjcpappfkgaaDoorBase
import Derived.Test.YtcjdjcpappfkgaaDoorZero
import Derived.Deep.RegionLaw
import Derived.Maps.AppendAt
import Derived.Test.YtcjdjcpappfkgaaDoorSM3
import Derived.Deep.RegionHeld3
namespace Go.Proofs.YtcjdjcpappfkgaaDoor
/-! A region whose loads come first while its last operation writes a cell that they read: a condition on the world is kept behind every operation but one, which waits for all that lean on it. -/
section
variable {P : Program} {ops : Array Oper} {Q : Exit → Act → World → Prop} {md : Region.Mode} {S : World → Prop} {z : Nat}

/-- While number i has not come up, none of U may: each waits for another one of U. -/
def shut (md : Region.Mode) (ops : Array Oper) (listed : Array Bool) (U : List Nat) (i : Nat) : Bool :=
  U.all fun u => (listed.getD u true == false) && (u == i || match ops[u]? with
    | some o => o.after.any fun e => Region.binds md e && U.contains e.on
    | none => false)

theorem shut_spec {listed : Array Bool} {U : List Nat} {i u : Nat} (h : shut md ops listed U i = true) (hu : u ∈ U) (hne : u ≠ i) : u ∉ Region.ready md ops listed := by
  intro hr
  obtain ⟨_, o, ho, hall⟩ := mem_ready.1 hr
  have h1 := List.all_eq_true.1 h u hu
  rw [Bool.and_eq_true, Bool.or_eq_true] at h1
  rcases h1.2 with h2 | h2
  · exact hne (by simpa using h2)
  · rw [ho] at h2
    obtain ⟨e, he, hb⟩ := Array.any_eq_true'.1 h2
    rw [Bool.and_eq_true] at hb
    have h3 := hall e he hb.1
    have h4 := List.all_eq_true.1 h e.on (by simpa using hb.2)
    rw [Bool.and_eq_true] at h4
    have h5 : listed.getD e.on true = false := by simpa using h4.1
    rcases Nat.lt_or_ge e.on listed.size with hlt | hge
    · simp [hlt] at h3 h5
      rw [h5] at h3; cases h3
    · simp [Array.getElem?_eq_none hge] at h3

theorem shut_mono {listed : Array Bool} {U : List Nat} {i j : Nat} (h : shut md ops listed U i = true) (hj : j ∈ Region.ready md ops listed) (hne : j ≠ i) : shut md ops (listed.setIfInBounds j true) U i = true := by
  refine List.all_eq_true.2 fun u hu => ?_
  have h1 := List.all_eq_true.1 h u hu
  have hju : j ≠ u := fun e => by subst e; exact shut_spec h hu hne hj
  rw [getD_set_ne true hju]
  exact h1

/-- Whatever order is picked, S holding behind every operation but number z. -/
def wpAnyL (P : Program) (md : Region.Mode) (ops : Array Oper) (Q : Exit → Act → World → Prop) (S : World → Prop) (z : Nat) : Nat → Array Bool → Act → World → Prop
  | 0, listed, a, w => Region.ready md ops listed = [] ∧ Q .normal a w
  | fuel + 1, listed, a, w =>
    (Region.ready md ops listed = [] → Q .normal a w) ∧
    ∀ i ∈ Region.ready md ops listed, wpOp P ops Q i (fun a' w' => (i ≠ z → S w') ∧ wpAnyL P md ops Q S z fuel (listed.setIfInBounds i true) a' w') a w

theorem wpAny_of_L : ∀ (fuel : Nat) (listed : Array Bool) (a : Act) (w : World), wpAnyL P md ops Q S z fuel listed a w → wpAny P md ops Q fuel listed a w
  | 0, _, _, _, h => h
  | fuel + 1, _, _, _, h => ⟨h.1, fun i hi => wpOp_mono (fun a' w' h' => wpAny_of_L fuel _ a' w' h'.2) (h.2 i hi)⟩

theorem wpAnyL_first {i : Nat} {oi : Oper} {v : Value} {U : List Nat} (hi : ops[i]? = some oi) (hsel : ∀ (j : Nat) (o : Oper) cs b, ops[j]? = some o → o.op ≠ .select cs b)
    (hQ : ∀ c a w, Q (.panic c) (a.put oi.dst v) w → Q (.panic c) a w) (hz : z ∈ U) (hzi : z ≠ i) :
    ∀ (fuel : Nat) (listed : Array Bool) (a : Act) (w : World), shut md ops listed U i = true →
      (∀ j oj, ops[j]? = some oj → j ≠ i → listed.getD j true = false → (∀ e ∈ oj.after, Region.binds md e = true → e.on ≠ i) → oi.apart ops oj = true) →
      i ∈ Region.ready md ops listed → YieldsIf P ops S oi v a → S w →
      wpAnyL P md ops Q S z fuel (listed.setIfInBounds i true) (a.put oi.dst v) w → wpAnyL P md ops Q S z (fuel + 1) listed a w := by
  intro fuel
  induction fuel with
  | zero =>
    intro listed a w _ _ hr hy hS H
    refine ⟨fun h => (by rw [h] at hr; cases hr), fun j hj => ?_⟩
    by_cases hji : j = i
    · subst hji; exact hy.wpOp hi hS ⟨fun _ => hS, H⟩
    · have := ready_mono hj hji
      rw [H.1] at this
      cases this
  | succ fuel ih =>
    intro listed a w hU hfree hr hy hS H
    refine ⟨fun h => (by rw [h] at hr; cases hr), fun j hj => ?_⟩
    by_cases hji : j = i
    · subst hji; exact hy.wpOp hi hS ⟨fun _ => hS, H⟩
    · have hjz : j ≠ z := fun e => by subst e; exact shut_spec hU hz hji hj
      have h1 := H.2 j (ready_mono hj hji)
      obtain ⟨hjun, oj, hoj, hall⟩ := mem_ready.1 hj
      have hnot : ∀ e ∈ oj.after, Region.binds md e = true → e.on ≠ i := fun e he hb heq => by
        have h1 := hall e he hb
        have h0 := (mem_ready.1 hr).1
        rw [heq] at h1
        rcases Nat.lt_or_ge i listed.size with h' | h'
        · simp [h'] at h0 h1; rw [h0] at h1; cases h1
        · simp [Array.getElem?_eq_none h'] at h1
      have h2 := wpOp_putIf hoj (hfree j oj hoj hji hjun hnot) (fun cs b => hsel i oi cs b hi) (fun cs b => hsel j oj cs b hoj) hQ hy h1
      have hfree' : ∀ k ok, ops[k]? = some ok → k ≠ i → (listed.setIfInBounds j true).getD k true = false →
          (∀ e ∈ ok.after, Region.binds md e = true → e.on ≠ i) → oi.apart ops ok = true := fun k ok hk hki hun hno => by
        refine hfree k ok hk hki ?_ hno
        by_cases hjk : j = k
        · subst hjk; exact hjun
        · rw [getD_set_ne true hjk] at hun; exact hun
      refine wpOp_mono (fun a' w' h3 => ⟨h3.2.1, ih (listed.setIfInBounds j true) a' w' (shut_mono hU hj hji) hfree' (ready_mono hr (Ne.symm hji)) h3.1 (h3.2.1 hjz) ?_⟩) h2
      rw [Array.setIfInBounds_comm _ _ hji]
      exact h3.2.2

theorem wpAnyL_take (U : List Nat) {i : Nat} {oi : Oper} {v : Value} {fuel : Nat} {listed : Array Bool} {a : Act} {w : World} (hi : ops[i]? = some oi)
    (hs : Region.noSelect ops = true) (hf : Region.free md ops listed i = true) (hr : (Region.ready md ops listed).contains i = true)
    (hu : shut md ops listed U i = true) (hz : U.contains z = true) (hzi : z ≠ i)
    (hQ : ∀ c a w, Q (.panic c) (a.put oi.dst v) w → Q (.panic c) a w) (hy : YieldsIf P ops S oi v a) (hS : S w)
    (h : wpAnyL P md ops Q S z fuel (listed.setIfInBounds i true) (a.put oi.dst v) w) : wpAnyL P md ops Q S z (fuel + 1) listed a w :=
  wpAnyL_first hi (Region.noSelect_spec hs) hQ (by simpa using hz) hzi fuel listed a w hu (Region.free_spec hi hf) (by simpa using hr) hy hS h

/-- The one that may come up comes up. -/
theorem wpAnyL_only {i : Nat} {oi : Oper} {fuel : Nat} {listed : Array Bool} {a : Act} {w : World} (hr : Region.ready md ops listed = [i]) (hi : ops[i]? = some oi)
    (hw : Region.wanted oi (yielded ops a.tmps) = true)
    (h : oi.wp P a w (fun a' w' => (i ≠ z → S w') ∧ wpAnyL P md ops Q S z fuel (listed.setIfInBounds i true) a' w') Q) : wpAnyL P md ops Q S z (fuel + 1) listed a w :=
  ⟨fun h0 => (by rw [hr] at h0; cases h0), fun j hj => by
    rw [hr, List.mem_singleton] at hj
    subst hj
    unfold wpOp
    simp only [hi, hw, if_true]
    exact .inl h⟩

/-- One of two comes up. -/
theorem wpAnyL_two {i j : Nat} {oi oj : Oper} {fuel : Nat} {listed : Array Bool} {a : Act} {w : World} (hr : Region.ready md ops listed = [i, j]) (hi : ops[i]? = some oi) (hj : ops[j]? = some oj)
    (hw : Region.wanted oi (yielded ops a.tmps) = true) (hw' : Region.wanted oj (yielded ops a.tmps) = true)
    (h : oi.wp P a w (fun a' w' => (i ≠ z → S w') ∧ wpAnyL P md ops Q S z fuel (listed.setIfInBounds i true) a' w') Q)
    (h' : oj.wp P a w (fun a' w' => (j ≠ z → S w') ∧ wpAnyL P md ops Q S z fuel (listed.setIfInBounds j true) a' w') Q) : wpAnyL P md ops Q S z (fuel + 1) listed a w :=
  ⟨fun h0 => (by rw [hr] at h0; cases h0), fun k hk => by
    rw [hr, List.mem_cons, List.mem_singleton] at hk
    rcases hk with rfl | rfl
    · unfold wpOp
      simp only [hi, hw, if_true]
      exact .inl h
    · unfold wpOp
      simp only [hj, hw', if_true]
      exact .inl h'⟩

theorem wpAnyL_done {fuel : Nat} {listed : Array Bool} {a : Act} {w : World} (hr : Region.ready md ops listed = []) (h : Q .normal a w) : wpAnyL P md ops Q S z fuel listed a w := by
  cases fuel with
  | zero => exact ⟨hr, h⟩
  | succ n => exact ⟨fun _ => h, by rw [hr]; simp⟩

theorem wp_region_last {id : Nat} {a : Act} {w : World} (hm : P.follows .mixedOrders = true)
    (h : wpAnyL P .any ops Q S z ops.size (Array.replicate ops.size false) a { w with drawn := w.drawn + 1 }) : (Code.region id ops true).wp P Q a w :=
  wp_region_any hm (wpAny_of_L _ _ _ _ h)
end
end Go.Proofs.YtcjdjcpappfkgaaDoor
set_option maxRecDepth 8000
namespace Go.Proofs.YtcjdjcpappfkgaaDoor
open Go.ChangeShapes Go.WideShapes Go.ChangeAt Go.RowKit
/-! The program's own operations of 'x.Cells = append(append([]int{}, x.Cells...), x.Cells[0])', walked in a frame in letters. -/
theorem eval_put_same {a : Act} {t : Nat} {v : Value} (h : t < a.tmps.size) : (a.put (some t) v).eval (.tmp t) = v := by
  simp [Act.put, Act.eval, h]
theorem eval_put_ne {a : Act} {t u : Nat} {v : Value} (h : t ≠ u) : (a.put (some t) v).eval (.tmp u) = a.eval (.tmp u) := by
  simp [Act.put, Act.eval, Array.getElem?_setIfInBounds_ne h]
theorem size_put {a : Act} {d : Option Tmp} {v : Value} : (a.put d v).tmps.size = a.tmps.size := by
  cases d <;> simp [Act.put]
theorem wp_push_all {w : World} {o : Oper} {a : Act} {K : Act → World → Prop} {Q : Exit → Act → World → Prop} (s x : Operand)
    (ho : o.op = .call { callee := .builtin .append, args := #[s, x], argTypes := #[22, 22] })
    (lo : Nat) (A : Option Addr) (n c : Nat) (xs : List Int) (A2 : Option Addr) (m c2 B : Nat) (ys : List Int) (hs : a.eval s = .slice A n c) (hx : a.eval x = .slice A2 m c2) (hown : Ow w lo A n c xs) (hr : Rd w B A2 m ys) (hmn : 0 < m ∨ n = 0)
    (hn : n ≤ 1099511627776) (hm : m ≤ 1099511627776) (hlo : lo ≤ w.heap.size)
    (h : ∀ A' c' w', Ow w' lo A' (n + m) c' (xs ++ ys) → w.grownBy w' (Value.slice A n c).ownBlock → K (a.put o.dst (.slice A' (n + m) c')) w') : o.wp Tryd.prog a w K Q := by
  obtain ⟨A', c', w', hrun, h1, h2, h3⟩ := run_push_all o.type lo A n c xs A2 m c2 B ys hown hr hmn hn hm hlo
  unfold Oper.wp execOp
  simp only [ho, resolve, invoke, builtin, Sem.run_bind, Sem.run_pure, Result.andThen_ok, List.map_toArray, List.map_cons, List.map_nil, hs, hx, hrun]
  exact h A' c' w' h1 h2

abbrev o43_0 : Oper := { dst := some 213, op := .buildSlice 22 0 #[], type := 22, pos := "l20_draw.go:239", after := #[], guard := none }
abbrev o43_1 : Oper := { dst := some 214, op := .fieldAddr 65 (.tmp 18) 1, type := 0, pos := "l20_draw.go:239", after := #[], guard := none }
abbrev o43_2 : Oper := { dst := some 215, op := .load 22 (.tmp 214), type := 22, pos := "l20_draw.go:239", after := #[⟨1, .data⟩], guard := none }
abbrev o43_3 : Oper := { dst := some 216, op := .call { callee := .builtin .append, args := #[.tmp 213, .tmp 215], argTypes := #[22, 22] }, type := 22, pos := "l20_draw.go:239", after := #[⟨0, .data⟩, ⟨2, .data⟩], guard := none }
abbrev o43_4 : Oper := { dst := some 217, op := .fieldAddr 65 (.tmp 18) 1, type := 0, pos := "l20_draw.go:239", after := #[], guard := none }
abbrev o43_5 : Oper := { dst := some 218, op := .load 22 (.tmp 217), type := 22, pos := "l20_draw.go:239", after := #[⟨4, .data⟩], guard := none }
abbrev o43_6 : Oper := { dst := some 219, op := .indexAddr 22 (.tmp 218) (.const (.int .i64 0)), type := 0, pos := "l20_draw.go:239", after := #[⟨5, .data⟩], guard := none }
abbrev o43_7 : Oper := { dst := some 220, op := .load 3 (.tmp 219), type := 3, pos := "l20_draw.go:239", after := #[⟨6, .data⟩], guard := none }
abbrev o43_8 : Oper := { dst := some 221, op := .buildSlice 22 1 #[(0, .tmp 220)], type := 22, pos := "l20_draw.go:239", after := #[⟨7, .data⟩], guard := none }
abbrev o43_9 : Oper := { dst := some 222, op := .call { callee := .builtin .append, args := #[.tmp 216, .tmp 221], argTypes := #[22, 22] }, type := 22, pos := "l20_draw.go:239", after := #[⟨3, .data⟩, ⟨8, .data⟩, ⟨3, .chain⟩], guard := none }
abbrev o43_10 : Oper := { dst := some 223, op := .fieldAddr 65 (.tmp 18) 1, type := 0, pos := "l20_draw.go:239", after := #[⟨0, .phase⟩, ⟨1, .phase⟩, ⟨2, .phase⟩, ⟨3, .phase⟩, ⟨4, .phase⟩, ⟨5, .phase⟩, ⟨6, .phase⟩, ⟨7, .phase⟩, ⟨8, .phase⟩, ⟨9, .phase⟩], guard := none }
abbrev o43_11 : Oper := { dst := none, op := .store 22 (.tmp 223) (.tmp 222), type := 0, pos := "l20_draw.go:239", after := #[⟨10, .data⟩, ⟨9, .data⟩, ⟨9, .chain⟩, ⟨0, .phase⟩, ⟨1, .phase⟩, ⟨2, .phase⟩, ⟨3, .phase⟩, ⟨4, .phase⟩, ⟨5, .phase⟩, ⟨6, .phase⟩, ⟨7, .phase⟩, ⟨8, .phase⟩, ⟨9, .phase⟩], guard := none }
def ops43 : Array Oper := #[o43_0, o43_1, o43_2, o43_3, o43_4, o43_5, o43_6, o43_7, o43_8, o43_9, o43_10, o43_11]

def put43 (a : Act) (p s e i : Value) (u0 u3 u8 u9 : Value) : Act :=
  ((((((((((a.put (some 214) p).put (some 215) s).put (some 217) p).put (some 218) s).put (some 219) e).put (some 220) i).put (some 213) u0).put (some 216) u3).put (some 221) u8).put (some 222) u9).put (some 223) p

theorem tail43 {Q : Exit → Act → World → Prop} (d : Act) (w w5 : World) (X b8 n c1 : Nat) (A1 : Option Addr) (xs : List Int) (x0 : Int) (old : Value) (listed : Array Bool)
    (hr1 : Region.ready .any ops43 listed = [9]) (hr2 : Region.ready .any ops43 (listed.setIfInBounds 9 true) = [10]) (hr3 : Region.ready .any ops43 ((listed.setIfInBounds 9 true).setIfInBounds 10 true) = [11]) (hr4 : Region.ready .any ops43 (((listed.setIfInBounds 9 true).setIfInBounds 10 true).setIfInBounds 11 true) = [])
    (hsz : 223 < d.tmps.size) (h216 : d.eval (.tmp 216) = .slice A1 n c1) (h221 : d.eval (.tmp 221) = .slice (some ⟨b8, 0, none⟩) 1 1) (h18 : d.eval (.tmp 18) = .pointer (some ⟨X, 0, none⟩))
    (hb : Below w.heap.size w w5) (hX : X < w.heap.size) (hc : w.cell? ⟨X, 1, none⟩ = some old) (hf : w.frozen? ⟨X, 1, none⟩ = false)
    (ho : Ow w5 w.heap.size A1 n c1 xs) (hr : Rd w5 w5.heap.size (some ⟨b8, 0, none⟩) 1 [x0]) (hn : n ≤ 1099511627776)
    (h : ∀ A' c' w', Below w.heap.size w w' → Ow w' w.heap.size A' (n + 1) c' (xs ++ [x0]) → Q .normal ((d.put (some 222) (.slice A' (n + 1) c')).put (some 223) (.pointer (some ⟨X, 1, none⟩))) (w'.setCell ⟨X, 1, none⟩ (.slice A' (n + 1) c'))) :
    wpAnyL Tryd.prog .any ops43 Q (fun w' => Below w.heap.size w w') 11 3 listed d w5 := by
  refine wpAnyL_only (oi := o43_9) hr1 rfl rfl ?_
  refine wp_push_all (.tmp 216) (.tmp 221) rfl w.heap.size A1 n c1 xs (some ⟨b8, 0, none⟩) 1 1 w5.heap.size [x0] h216 h221 ho hr (.inl (by omega)) hn (by omega) hb.size ?_
  intro A' c' w6 ho6 hg6
  have hb6 : Below w.heap.size w w6 := hb.grown hg6 hb.size (fun k hk => ho.own_lo k hk)
  refine ⟨fun _ => hb6, ?_⟩
  have f18 : (d.put (some 222) (.slice A' (n + 1) c')).eval (.tmp 18) = .pointer (some ⟨X, 0, none⟩) := (eval_put_ne (by decide)).trans h18
  have f222 : (d.put (some 222) (.slice A' (n + 1) c')).eval (.tmp 222) = .slice A' (n + 1) c' := eval_put_same (by omega)
  have fs : 223 < (d.put (some 222) (.slice A' (n + 1) c')).tmps.size := by rw [size_put]; exact hsz
  have H := h A' c' w6 hb6 ho6
  show wpAnyL Tryd.prog .any ops43 Q _ 11 2 _ (d.put (some 222) (.slice A' (n + 1) c')) w6
  generalize hD : d.put (some 222) (.slice A' (n + 1) c') = D at f18 f222 fs H ⊢
  refine wpAnyL_only (oi := o43_10) hr2 rfl rfl ?_
  have hrun0 : (execOp D.eval o43_10).run Tryd.prog w6 = .ok (.value (.pointer (some ⟨X, 1, none⟩))) w6 := by
    unfold execOp
    simp only [f18]
    go_simp
  unfold Oper.wp
  rw [hrun0]
  refine ⟨fun _ => hb6, ?_⟩
  refine wpAnyL_only (oi := o43_11) hr3 rfl rfl ?_
  show Oper.wp Tryd.prog o43_11 (D.put (some 223) (.pointer (some ⟨X, 1, none⟩))) w6 _ Q
  have e1 : (D.put (some 223) (.pointer (some ⟨X, 1, none⟩))).eval (.tmp 223) = .pointer (some ⟨X, 1, none⟩) := eval_put_same fs
  have e2 : (D.put (some 223) (.pointer (some ⟨X, 1, none⟩))).eval (.tmp 222) = .slice A' (n + 1) c' := (eval_put_ne (by decide)).trans f222
  have hc6 : w6.cell? ⟨X, 1, none⟩ = some old := (hb6.cell (p := ⟨X, 1, none⟩) hX).trans hc
  have hf6 : w6.frozen? ⟨X, 1, none⟩ = false := (World.frozen?_of_block (hb6.block X hX)).trans hf
  generalize hE : D.put (some 223) (.pointer (some ⟨X, 1, none⟩)) = E at e1 e2 H ⊢
  have hrun : (execOp E.eval o43_11).run Tryd.prog w6 = .ok .skip (w6.setCell ⟨X, 1, none⟩ (.slice A' (n + 1) c')) := by
    unfold execOp
    simp only [e1, e2]
    go_simp
  unfold Oper.wp
  rw [hrun]
  exact ⟨fun e => absurd rfl e, wpAnyL_done hr4 H⟩

theorem panic_move {P : Program} {fn : Func} {R : Ending → World → Prop} {K : Act → World → Prop} {id : Nat} (c : List PanicEntry) (a a' : Act) (w : World) (he : a.defers = a'.defers)
    (h : Exit.inBlock id (Exit.then K (bodyPost P fn R)) (.panic c) a w) : Exit.inBlock id (Exit.then K (bodyPost P fn R)) (.panic c) a' w := by
  have h' : a.defers = [] ∧ R (.panicked c) w := h
  show a'.defers = [] ∧ R (.panicked c) w
  exact ⟨he ▸ h'.1, h'.2⟩

theorem region43 {Q : Exit → Act → World → Prop} (a : Act) (w : World) (X g n c : Nat) (xs : List Int) (hsz : 223 < a.tmps.size) (hX : a.eval (.tmp 18) = .pointer (some ⟨X, 0, none⟩)) (hXw : X < w.heap.size)
    (hc1 : w.cell? ⟨X, 1, none⟩ = some (.slice (some ⟨g, 0, none⟩) n c)) (hf1 : w.frozen? ⟨X, 1, none⟩ = false) (hr : Rd w w.heap.size (some ⟨g, 0, none⟩) n xs) (hn0 : 0 < n) (hn : n ≤ 1099511627776)
    (hQ : ∀ c a a' w, a.defers = a'.defers → Q (.panic c) a w → Q (.panic c) a' w)
    (h : ∀ (u0 u3 u8 u9 : Value) (A' : Option Addr) (c' : Nat) (w' : World), Below w.heap.size w w' → Ow w' w.heap.size A' (n + 1) c' (xs ++ [nth xs 0]) →
      Q .normal (put43 a (.pointer (some ⟨X, 1, none⟩)) (.slice (some ⟨g, 0, none⟩) n c) (.pointer (some ⟨g, 0, none⟩)) (.int .i64 (nth xs 0)) u0 u3 u8 u9) (w'.setCell ⟨X, 1, none⟩ (.slice A' (n + 1) c'))) :
    (Code.region 43 ops43 true).wp Tryd.prog Q a w := by
  obtain ⟨b0, off, e0, hgw, hg⟩ := hr.at_ hn0
  cases e0
  rw [Nat.zero_add] at hg
  refine wp_region_last (S := fun w' => Below w.heap.size w w') (z := 11) (by kernel_rfl) ?_
  have hB0 : Below w.heap.size w { w with drawn := w.drawn + 1 } := (Below.refl _ _).drew
  obtain ⟨W, hW⟩ : ∃ W, ({ w with drawn := w.drawn + 1 } : World) = W := ⟨_, rfl⟩
  rw [hW] at hB0 ⊢
  have hS1 : ∀ w', Below w.heap.size w w' → w'.cell? ⟨X, 1, none⟩ = some (.slice (some ⟨g, 0, none⟩) n c) := fun w' hb => (hb.cell (p := ⟨X, 1, none⟩) hXw).trans hc1
  have hS2 : ∀ w', Below w.heap.size w w' → w'.cell? ⟨g, 0, none⟩ = some (.int .i64 (nth xs 0)) := fun w' hb => (hb.cell (p := ⟨g, 0, none⟩) hgw).trans hg
  have hnI : (0 : Int) < n := by omega
  have e18 := hX
  have s0 := hsz
  show wpAnyL Tryd.prog .any ops43 Q _ 11 12 _ _ _
  have r1 : ∀ w', Below w.heap.size w w' → (execOp a.eval o43_1).run Tryd.prog w' = .ok (.value (.pointer (some ⟨X, 1, none⟩))) w' := fun w' hb => by
    have hA := hS1 w' hb
    have hC := hS2 w' hb
    unfold execOp
    simp only [e18]
    go_simp
  refine wpAnyL_take [1, 2, 3, 9, 11] (i := 1) (oi := o43_1) (v := .pointer (some ⟨X, 1, none⟩)) rfl (by kernel_rfl) (by kernel_rfl) (by kernel_rfl) (by kernel_rfl) (by kernel_rfl) (by decide) (fun c x w => hQ c _ _ w rfl) (Or.inl ⟨rfl, r1⟩) hB0 ?_
  show wpAnyL Tryd.prog .any ops43 Q _ 11 11 _ (a.put (some 214) (.pointer (some ⟨X, 1, none⟩))) _
  have s1 : 223 < (a.put (some 214) (.pointer (some ⟨X, 1, none⟩))).tmps.size := by rw [size_put]; exact s0
  have e18' : (a.put (some 214) (.pointer (some ⟨X, 1, none⟩))).eval (.tmp 18) = .pointer (some ⟨X, 0, none⟩) := (eval_put_ne (by decide)).trans e18
  have e214 : (a.put (some 214) (.pointer (some ⟨X, 1, none⟩))).eval (.tmp 214) = .pointer (some ⟨X, 1, none⟩) := eval_put_same (by omega)
  generalize hA1 : a.put (some 214) (.pointer (some ⟨X, 1, none⟩)) = a1 at e18' e214 s1 ⊢
  clear e18; have e18 := e18'; clear e18'
  have r2 : ∀ w', Below w.heap.size w w' → (execOp a1.eval o43_2).run Tryd.prog w' = .ok (.value (.slice (some ⟨g, 0, none⟩) n c)) w' := fun w' hb => by
    have hA := hS1 w' hb
    have hC := hS2 w' hb
    unfold execOp
    simp only [e214]
    go_simp
  refine wpAnyL_take [2, 3, 9, 11] (i := 2) (oi := o43_2) (v := .slice (some ⟨g, 0, none⟩) n c) rfl (by kernel_rfl) (by kernel_rfl) (by kernel_rfl) (by kernel_rfl) (by kernel_rfl) (by decide) (fun c x w => hQ c _ _ w rfl) (Or.inl ⟨rfl, r2⟩) hB0 ?_
  show wpAnyL Tryd.prog .any ops43 Q _ 11 10 _ (a1.put (some 215) (.slice (some ⟨g, 0, none⟩) n c)) _
  have s2 : 223 < (a1.put (some 215) (.slice (some ⟨g, 0, none⟩) n c)).tmps.size := by rw [size_put]; exact s1
  have e18' : (a1.put (some 215) (.slice (some ⟨g, 0, none⟩) n c)).eval (.tmp 18) = .pointer (some ⟨X, 0, none⟩) := (eval_put_ne (by decide)).trans e18
  have e214' : (a1.put (some 215) (.slice (some ⟨g, 0, none⟩) n c)).eval (.tmp 214) = .pointer (some ⟨X, 1, none⟩) := (eval_put_ne (by decide)).trans e214
  have e215 : (a1.put (some 215) (.slice (some ⟨g, 0, none⟩) n c)).eval (.tmp 215) = .slice (some ⟨g, 0, none⟩) n c := eval_put_same (by omega)
  generalize hA2 : a1.put (some 215) (.slice (some ⟨g, 0, none⟩) n c) = a2 at e18' e214' e215 s2 ⊢
  clear e18; have e18 := e18'; clear e18'
  clear e214; have e214 := e214'; clear e214'
  have r4 : ∀ w', Below w.heap.size w w' → (execOp a2.eval o43_4).run Tryd.prog w' = .ok (.value (.pointer (some ⟨X, 1, none⟩))) w' := fun w' hb => by
    have hA := hS1 w' hb
    have hC := hS2 w' hb
    unfold execOp
    simp only [e18]
    go_simp
  refine wpAnyL_take [4, 5, 6, 7, 8, 9, 11] (i := 4) (oi := o43_4) (v := .pointer (some ⟨X, 1, none⟩)) rfl (by kernel_rfl) (by kernel_rfl) (by kernel_rfl) (by kernel_rfl) (by kernel_rfl) (by decide) (fun c x w => hQ c _ _ w rfl) (Or.inl ⟨rfl, r4⟩) hB0 ?_
  show wpAnyL Tryd.prog .any ops43 Q _ 11 9 _ (a2.put (some 217) (.pointer (some ⟨X, 1, none⟩))) _
  have s3 : 223 < (a2.put (some 217) (.pointer (some ⟨X, 1, none⟩))).tmps.size := by rw [size_put]; exact s2
  have e18' : (a2.put (some 217) (.pointer (some ⟨X, 1, none⟩))).eval (.tmp 18) = .pointer (some ⟨X, 0, none⟩) := (eval_put_ne (by decide)).trans e18
  have e214' : (a2.put (some 217) (.pointer (some ⟨X, 1, none⟩))).eval (.tmp 214) = .pointer (some ⟨X, 1, none⟩) := (eval_put_ne (by decide)).trans e214
  have e215' : (a2.put (some 217) (.pointer (some ⟨X, 1, none⟩))).eval (.tmp 215) = .slice (some ⟨g, 0, none⟩) n c := (eval_put_ne (by decide)).trans e215
  have e217 : (a2.put (some 217) (.pointer (some ⟨X, 1, none⟩))).eval (.tmp 217) = .pointer (some ⟨X, 1, none⟩) := eval_put_same (by omega)
  generalize hA3 : a2.put (some 217) (.pointer (some ⟨X, 1, none⟩)) = a3 at e18' e214' e215' e217 s3 ⊢
  clear e18; have e18 := e18'; clear e18'
  clear e214; have e214 := e214'; clear e214'
  clear e215; have e215 := e215'; clear e215'
  have r5 : ∀ w', Below w.heap.size w w' → (execOp a3.eval o43_5).run Tryd.prog w' = .ok (.value (.slice (some ⟨g, 0, none⟩) n c)) w' := fun w' hb => by
    have hA := hS1 w' hb
    have hC := hS2 w' hb
    unfold execOp
    simp only [e217]
    go_simp
  refine wpAnyL_take [5, 6, 7, 8, 9, 11] (i := 5) (oi := o43_5) (v := .slice (some ⟨g, 0, none⟩) n c) rfl (by kernel_rfl) (by kernel_rfl) (by kernel_rfl) (by kernel_rfl) (by kernel_rfl) (by decide) (fun c x w => hQ c _ _ w rfl) (Or.inl ⟨rfl, r5⟩) hB0 ?_
  show wpAnyL Tryd.prog .any ops43 Q _ 11 8 _ (a3.put (some 218) (.slice (some ⟨g, 0, none⟩) n c)) _
  have s4 : 223 < (a3.put (some 218) (.slice (some ⟨g, 0, none⟩) n c)).tmps.size := by rw [size_put]; exact s3
  have e18' : (a3.put (some 218) (.slice (some ⟨g, 0, none⟩) n c)).eval (.tmp 18) = .pointer (some ⟨X, 0, none⟩) := (eval_put_ne (by decide)).trans e18
  have e214' : (a3.put (some 218) (.slice (some ⟨g, 0, none⟩) n c)).eval (.tmp 214) = .pointer (some ⟨X, 1, none⟩) := (eval_put_ne (by decide)).trans e214
  have e215' : (a3.put (some 218) (.slice (some ⟨g, 0, none⟩) n c)).eval (.tmp 215) = .slice (some ⟨g, 0, none⟩) n c := (eval_put_ne (by decide)).trans e215
  have e217' : (a3.put (some 218) (.slice (some ⟨g, 0, none⟩) n c)).eval (.tmp 217) = .pointer (some ⟨X, 1, none⟩) := (eval_put_ne (by decide)).trans e217
  have e218 : (a3.put (some 218) (.slice (some ⟨g, 0, none⟩) n c)).eval (.tmp 218) = .slice (some ⟨g, 0, none⟩) n c := eval_put_same (by omega)
  generalize hA4 : a3.put (some 218) (.slice (some ⟨g, 0, none⟩) n c) = a4 at e18' e214' e215' e217' e218 s4 ⊢
  clear e18; have e18 := e18'; clear e18'
  clear e214; have e214 := e214'; clear e214'
  clear e215; have e215 := e215'; clear e215'
  clear e217; have e217 := e217'; clear e217'
  have r6 : ∀ w', Below w.heap.size w w' → (execOp a4.eval o43_6).run Tryd.prog w' = .ok (.value (.pointer (some ⟨g, 0, none⟩))) w' := fun w' hb => by
    have hA := hS1 w' hb
    have hC := hS2 w' hb
    unfold execOp
    simp only [e218]
    go_simp
  refine wpAnyL_take [6, 7, 8, 9, 11] (i := 6) (oi := o43_6) (v := .pointer (some ⟨g, 0, none⟩)) rfl (by kernel_rfl) (by kernel_rfl) (by kernel_rfl) (by kernel_rfl) (by kernel_rfl) (by decide) (fun c x w => hQ c _ _ w rfl) (Or.inl ⟨rfl, r6⟩) hB0 ?_
  show wpAnyL Tryd.prog .any ops43 Q _ 11 7 _ (a4.put (some 219) (.pointer (some ⟨g, 0, none⟩))) _
  have s5 : 223 < (a4.put (some 219) (.pointer (some ⟨g, 0, none⟩))).tmps.size := by rw [size_put]; exact s4
  have e18' : (a4.put (some 219) (.pointer (some ⟨g, 0, none⟩))).eval (.tmp 18) = .pointer (some ⟨X, 0, none⟩) := (eval_put_ne (by decide)).trans e18
  have e214' : (a4.put (some 219) (.pointer (some ⟨g, 0, none⟩))).eval (.tmp 214) = .pointer (some ⟨X, 1, none⟩) := (eval_put_ne (by decide)).trans e214
  have e215' : (a4.put (some 219) (.pointer (some ⟨g, 0, none⟩))).eval (.tmp 215) = .slice (some ⟨g, 0, none⟩) n c := (eval_put_ne (by decide)).trans e215
  have e217' : (a4.put (some 219) (.pointer (some ⟨g, 0, none⟩))).eval (.tmp 217) = .pointer (some ⟨X, 1, none⟩) := (eval_put_ne (by decide)).trans e217
  have e218' : (a4.put (some 219) (.pointer (some ⟨g, 0, none⟩))).eval (.tmp 218) = .slice (some ⟨g, 0, none⟩) n c := (eval_put_ne (by decide)).trans e218
  have e219 : (a4.put (some 219) (.pointer (some ⟨g, 0, none⟩))).eval (.tmp 219) = .pointer (some ⟨g, 0, none⟩) := eval_put_same (by omega)
  generalize hA5 : a4.put (some 219) (.pointer (some ⟨g, 0, none⟩)) = a5 at e18' e214' e215' e217' e218' e219 s5 ⊢
  clear e18; have e18 := e18'; clear e18'
  clear e214; have e214 := e214'; clear e214'
  clear e215; have e215 := e215'; clear e215'
  clear e217; have e217 := e217'; clear e217'
  clear e218; have e218 := e218'; clear e218'
  have r7 : ∀ w', Below w.heap.size w w' → (execOp a5.eval o43_7).run Tryd.prog w' = .ok (.value (.int .i64 (nth xs 0))) w' := fun w' hb => by
    have hA := hS1 w' hb
    have hC := hS2 w' hb
    unfold execOp
    simp only [e219]
    go_simp
  refine wpAnyL_take [7, 8, 9, 11] (i := 7) (oi := o43_7) (v := .int .i64 (nth xs 0)) rfl (by kernel_rfl) (by kernel_rfl) (by kernel_rfl) (by kernel_rfl) (by kernel_rfl) (by decide) (fun c x w => hQ c _ _ w rfl) (Or.inl ⟨rfl, r7⟩) hB0 ?_
  show wpAnyL Tryd.prog .any ops43 Q _ 11 6 _ (a5.put (some 220) (.int .i64 (nth xs 0))) _
  have s6 : 223 < (a5.put (some 220) (.int .i64 (nth xs 0))).tmps.size := by rw [size_put]; exact s5
  have e18' : (a5.put (some 220) (.int .i64 (nth xs 0))).eval (.tmp 18) = .pointer (some ⟨X, 0, none⟩) := (eval_put_ne (by decide)).trans e18
  have e214' : (a5.put (some 220) (.int .i64 (nth xs 0))).eval (.tmp 214) = .pointer (some ⟨X, 1, none⟩) := (eval_put_ne (by decide)).trans e214
  have e215' : (a5.put (some 220) (.int .i64 (nth xs 0))).eval (.tmp 215) = .slice (some ⟨g, 0, none⟩) n c := (eval_put_ne (by decide)).trans e215
  have e217' : (a5.put (some 220) (.int .i64 (nth xs 0))).eval (.tmp 217) = .pointer (some ⟨X, 1, none⟩) := (eval_put_ne (by decide)).trans e217
  have e218' : (a5.put (some 220) (.int .i64 (nth xs 0))).eval (.tmp 218) = .slice (some ⟨g, 0, none⟩) n c := (eval_put_ne (by decide)).trans e218
  have e219' : (a5.put (some 220) (.int .i64 (nth xs 0))).eval (.tmp 219) = .pointer (some ⟨g, 0, none⟩) := (eval_put_ne (by decide)).trans e219
  have e220 : (a5.put (some 220) (.int .i64 (nth xs 0))).eval (.tmp 220) = .int .i64 (nth xs 0) := eval_put_same (by omega)
  generalize hA6 : a5.put (some 220) (.int .i64 (nth xs 0)) = a6 at e18' e214' e215' e217' e218' e219' e220 s6 ⊢
  clear e18; have e18 := e18'; clear e18'
  clear e214; have e214 := e214'; clear e214'
  clear e215; have e215 := e215'; clear e215'
  clear e217; have e217 := e217'; clear e217'
  clear e218; have e218 := e218'; clear e218'
  clear e219; have e219 := e219'; clear e219'
  -- what is left: two literals and two appends, in three orders
  have done : ∀ (d : Act) (w5 : World) (b8 c1 : Nat) (A1 : Option Addr) (listed : Array Bool) (u0 u3 u8 : Value), d = ((a6.put (some 213) u0).put (some 216) u3).put (some 221) u8 →
      Region.ready .any ops43 listed = [9] → Region.ready .any ops43 (listed.setIfInBounds 9 true) = [10] → Region.ready .any ops43 ((listed.setIfInBounds 9 true).setIfInBounds 10 true) = [11] → Region.ready .any ops43 (((listed.setIfInBounds 9 true).setIfInBounds 10 true).setIfInBounds 11 true) = [] →
      u3 = .slice A1 n c1 → u8 = .slice (some ⟨b8, 0, none⟩) 1 1 → Below w.heap.size w w5 → Ow w5 w.heap.size A1 n c1 xs → Rd w5 w5.heap.size (some ⟨b8, 0, none⟩) 1 [nth xs 0] →
      wpAnyL Tryd.prog .any ops43 Q (fun w' => Below w.heap.size w w') 11 3 listed d w5 := by
    rintro d w5 b8 c1 A1 listed u0 u3 u8 rfl hr1 hr2 hr3 hr4 rfl rfl hb ho hrd
    refine tail43 _ w w5 X b8 n c1 A1 xs (nth xs 0) _ listed hr1 hr2 hr3 hr4 (by simp only [size_put]; exact s6) ?_ (eval_put_same (by simp only [size_put]; omega)) ?_ hb hXw hc1 hf1 ho hrd hn ?_
    · rw [eval_put_ne (by decide), eval_put_same (by simp only [size_put]; omega)]
    · rw [eval_put_ne (by decide), eval_put_ne (by decide), eval_put_ne (by decide)]; exact e18
    · intro A' c' w' hb' ho'
      have := h u0 (.slice A1 n c1) (.slice (some ⟨b8, 0, none⟩) 1 1) (.slice A' (n + 1) c') A' c' w' hb' ho'
      simp only [put43, hA1, hA2, hA3, hA4, hA5, hA6] at this
      exact this
  have lit0 : ∀ (d : Act) (w5 : World) (K : Act → World → Prop), K (d.put (some 213) (.slice (some ⟨w5.heap.size, 0, none⟩) 0 0)) (w5.alloc (.cells #[] 3)) → Oper.wp Tryd.prog o43_0 d w5 K Q := fun d w5 K hK => by
    have hrun : (execOp d.eval o43_0).run Tryd.prog w5 = .ok (.value (.slice (some ⟨w5.heap.size, 0, none⟩) 0 0)) (w5.alloc (.cells #[] 3)) := by
      unfold execOp
      go_simp
    unfold Oper.wp
    rw [hrun]
    exact hK
  have lit8 : ∀ (d : Act) (w5 : World) (K : Act → World → Prop), d.eval (.tmp 220) = .int .i64 (nth xs 0) → K (d.put (some 221) (.slice (some ⟨w5.heap.size, 0, none⟩) 1 1)) (w5.alloc (.cells #[.int .i64 (nth xs 0)] 3)) → Oper.wp Tryd.prog o43_8 d w5 K Q := fun d w5 K he hK => by
    have hrun : (execOp d.eval o43_8).run Tryd.prog w5 = .ok (.value (.slice (some ⟨w5.heap.size, 0, none⟩) 1 1)) (w5.alloc (.cells #[.int .i64 (nth xs 0)] 3)) := by
      unfold execOp
      simp only [List.map_toArray, List.map_cons, List.map_nil, he]
      go_simp
    unfold Oper.wp
    rw [hrun]
    exact hK
  have new1 : ∀ w5 : World, Rd (w5.alloc (.cells #[.int .i64 (nth xs 0)] 3)) (w5.heap.size + 1) (some ⟨w5.heap.size, 0, none⟩) 1 [nth xs 0] := fun w5 => ⟨rfl, fun _ => ⟨w5.heap.size, 0, rfl, by omega, fun k hk => by
    obtain rfl : k = 0 := by omega
    exact cell_of_row _ _ 0 _ _ (0, 0) (heap_alloc_new w5 _)⟩⟩
  have app3 : ∀ (d : Act) (w5 : World) (b0 : Nat) (K : Act → World → Prop), d.eval (.tmp 213) = .slice (some ⟨b0, 0, none⟩) 0 0 → d.eval (.tmp 215) = .slice (some ⟨g, 0, none⟩) n c → Ow w5 w.heap.size (some ⟨b0, 0, none⟩) 0 0 [] → Below w.heap.size w w5 →
      (∀ A1 c1 w6, Ow w6 w.heap.size A1 n c1 xs → w5.grownBy w6 (Value.slice (some ⟨b0, 0, none⟩) 0 0).ownBlock → Below w.heap.size w w6 → K (d.put (some 216) (.slice A1 n c1)) w6) → Oper.wp Tryd.prog o43_3 d w5 K Q := fun d w5 b0 K h1 h2 ho hb hK => by
    refine wp_push_all (.tmp 213) (.tmp 215) rfl w.heap.size _ 0 0 [] _ n c w.heap.size xs h1 h2 ho (hr.below hb) (.inr rfl) (by omega) hn hb.size ?_
    intro A1 c1 w6 ho6 hg6
    rw [Nat.zero_add] at ho6 ⊢
    rw [List.nil_append] at ho6
    exact hK A1 c1 w6 ho6 hg6 (hb.grown hg6 hb.size (fun k hk => ho.own_lo k hk))
  have made : ∀ w5 : World, Below w.heap.size w w5 → Ow (w5.alloc (.cells #[] 3)) w.heap.size (some ⟨w5.heap.size, 0, none⟩) 0 0 [] := fun w5 hb => Ow.made0 _ _ hb.size
  have hBa : ∀ (w5 : World) (o : Obj), Below w.heap.size w w5 → Below w.heap.size w (w5.alloc o) := fun w5 o hb => hb.alloc hb.size o
  refine wpAnyL_two (i := 0) (j := 8) (oi := o43_0) (oj := o43_8) (by kernel_rfl) rfl rfl rfl rfl ?first ?second
  case first =>
    refine lit0 _ _ _ ?_
    have hB1 := hBa W (.cells #[] 3) hB0
    have ho1 := made W hB0
    refine ⟨fun _ => hB1, ?_⟩
    refine wpAnyL_two (i := 3) (j := 8) (oi := o43_3) (oj := o43_8) (by kernel_rfl) rfl rfl rfl rfl ?fa ?fb
    case fa =>
      refine app3 _ _ _ _ (eval_put_same (by omega)) ((eval_put_ne (by decide)).trans e215) ho1 hB1 ?_
      intro A1 c1 w6 ho6 _ hb6
      refine ⟨fun _ => hb6, ?_⟩
      refine wpAnyL_only (i := 8) (oi := o43_8) (by kernel_rfl) rfl rfl ?_
      refine lit8 _ _ _ (by rw [eval_put_ne (by decide), eval_put_ne (by decide)]; exact e220) ?_
      refine ⟨fun _ => hBa _ _ hb6, ?_⟩
      exact done _ _ _ _ _ _ _ _ _ rfl (by kernel_rfl) (by kernel_rfl) (by kernel_rfl) (by kernel_rfl) rfl rfl (hBa _ _ hb6) (ho6.below ((Below.refl _ _).alloc (Nat.le_refl _) _)) (by rw [World.size_alloc]; exact new1 _)
    case fb =>
      refine lit8 _ _ _ (by rw [eval_put_ne (by decide)]; exact e220) ?_
      have hB2 := hBa _ (.cells #[.int .i64 (nth xs 0)] 3) hB1
      refine ⟨fun _ => hB2, ?_⟩
      refine wpAnyL_only (i := 3) (oi := o43_3) (by kernel_rfl) rfl rfl ?_
      refine app3 _ _ _ _ (by rw [eval_put_ne (by decide), eval_put_same (by omega)]) (by rw [eval_put_ne (by decide), eval_put_ne (by decide)]; exact e215) (ho1.below ((Below.refl _ _).alloc (Nat.le_refl _) _)) hB2 ?_
      intro A1 c1 w6 ho6 hg6 hb6
      refine ⟨fun _ => hb6, ?_⟩
      refine done _ _ _ _ _ _ _ _ _ (Act.put_comm _ _ _ (by intro d h1 h2; cases h1; cases h2)) (by kernel_rfl) (by kernel_rfl) (by kernel_rfl) (by kernel_rfl) rfl rfl hb6 ho6 ?_
      have hrd := Rd.grown (G := W.heap.size) (new1 (W.alloc (.cells #[] 3))) hg6 (fun b off e => by cases e; rw [World.size_alloc]; omega) (by simp)
      exact ⟨hrd.1, fun hn => by
        obtain ⟨b, off, e, hl, hc⟩ := hrd.2 hn
        exact ⟨b, off, e, cell_lt (hc 0 hn), hc⟩⟩
  case second =>
    refine lit8 _ _ _ e220 ?_
    have hB1 := hBa W (.cells #[.int .i64 (nth xs 0)] 3) hB0
    refine ⟨fun _ => hB1, ?_⟩
    refine wpAnyL_only (i := 0) (oi := o43_0) (by kernel_rfl) rfl rfl ?_
    refine lit0 _ _ _ ?_
    have hB2 := hBa _ (.cells #[] 3) hB1
    have ho1 := made _ hB1
    refine ⟨fun _ => hB2, ?_⟩
    refine wpAnyL_only (i := 3) (oi := o43_3) (by kernel_rfl) rfl rfl ?_
    refine app3 _ _ _ _ (eval_put_same (by simp only [size_put]; omega)) (by rw [eval_put_ne (by decide), eval_put_ne (by decide)]; exact e215) ho1 hB2 ?_
    intro A1 c1 w6 ho6 hg6 hb6
    refine ⟨fun _ => hb6, ?_⟩
    refine done _ _ _ _ _ _ _ _ _ ((congrArg (fun x : Act => x.put (some 216) (.slice A1 n c1)) (Act.put_comm a6 _ _ (by intro d h1 h2; cases h1; cases h2))).trans (Act.put_comm _ _ _ (by intro d h1 h2; cases h1; cases h2))) (by kernel_rfl) (by kernel_rfl) (by kernel_rfl) (by kernel_rfl) rfl rfl hb6 ho6 ?_
    have hrd := Rd.grown (G := (W.alloc (.cells #[.int .i64 (nth xs 0)] 3)).heap.size) ((new1 W).below ((Below.refl _ _).alloc (by simp) (.cells #[] 3))) hg6 (fun b off e => by cases e; rw [World.size_alloc]; omega) (by simp)
    exact ⟨hrd.1, fun hn => by
      obtain ⟨b, off, e, hl, hc⟩ := hrd.2 hn
      exact ⟨b, off, e, cell_lt (hc 0 hn), hc⟩⟩
end Go.Proofs.YtcjdjcpappfkgaaDoor
namespace Go.Proofs.YtcjdjcpappfkgaaDoor
open Go.ChangeShapes Go.WideShapes Go.ChangeAt Go.RowKit
/-! A region that draws its order and makes values and new blocks alone, but for its last operation, a store. -/
/-- Two frames agree outside some slots. -/
def Off (d : Nat → Nat) (m : Nat) (a a0 : Act) : Prop := a.tmps.size = a0.tmps.size ∧ a.defers = a0.defers ∧ ∀ t, (∀ j, j < m → d j ≠ t) → a.tmps[t]? = a0.tmps[t]?
theorem Off.eval {d : Nat → Nat} {m : Nat} {a a0 : Act} (h : Off d m a a0) {t : Nat} (ht : ∀ j, j < m → d j ≠ t) : a.eval (.tmp t) = a0.eval (.tmp t) := by
  simp [Act.eval, h.2.2 t ht]
theorem wp_region_made {P : Program} {ops : Array Oper} {Q : Exit → Act → World → Prop} {id : Nat} {a0 : Act} {W : World} (m : Nat) (d : Nat → Nat) (G : Nat → Value → World → Prop)
    (hm : P.follows .mixedOrders = true) (hlen : ops.size = m + 1) (hback : ∀ (i : Nat) (o : Oper), ops[i]? = some o → ∀ e ∈ o.after, e.on < i)
    (hd : ∀ i o, i < m → ops[i]? = some o → o.dst = some (d i) ∧ o.guard = none) (hinj : ∀ i j, i < m → j < m → d i = d j → i = j) (hlt : ∀ i, i < m → d i < a0.tmps.size)
    (hl : ∀ o, ops[m]? = some o → o.dst = none ∧ o.guard = none ∧ ∀ j, j < m → ∃ e ∈ o.after, e.on = j ∧ Region.binds .any e = true)
    (hG : ∀ j v w w', Below w.heap.size w w' → G j v w → G j v w')
    (hstep : ∀ i o a w, i < m → ops[i]? = some o → Below W.heap.size W w → Off d m a a0 → (∀ e ∈ o.after, Region.binds .any e = true → G e.on (a.eval (.tmp (d e.on))) w) → ∃ v w', (execOp a.eval o).run P w = .ok (.value v) w' ∧ Below w.heap.size w w' ∧ G i v w')
    (hlast : ∀ o a w, ops[m]? = some o → Below W.heap.size W w → Off d m a a0 → (∀ j, j < m → G j (a.eval (.tmp (d j))) w) → ∃ w', (execOp a.eval o).run P w = .ok .skip w' ∧ Q .normal a w') :
    (Code.region id ops true).wp P Q a0 W := by
  refine wp_region_inv (Inv := fun l a w => l.size = ops.size ∧ ((l.getD m false = false ∧ Below W.heap.size W w ∧ Off d m a a0 ∧ ∀ j, j < m → l.getD j false = true → G j (a.eval (.tmp (d j))) w) ∨ ((∀ j, j < ops.size → l.getD j false = true) ∧ Q .normal a w))) hm hback (fun l a w h => h.1) ?step ?done ?h0
  case done =>
    rintro l a w ⟨hs, h⟩ hall
    rcases h with ⟨h1, _⟩ | ⟨_, h⟩
    · rw [hall m (by omega)] at h1; cases h1
    · exact h
  case h0 =>
    refine ⟨by simp, .inl ⟨by rw [Array.getD_eq_getD_getElem?, Array.getElem?_replicate]; split <;> rfl, (Below.refl W.heap.size W).drew, ⟨rfl, rfl, fun _ _ => rfl⟩, fun j hj hlj => ?_⟩⟩
    simp at hlj
    have : j < ops.size := by omega
    simp [this] at hlj
  case step =>
    rintro l a w i o ⟨hs, h⟩ ho hli hall
    have hi : i < ops.size := (Array.getElem?_eq_some_iff.1 ho).1
    have hil : i < l.size := by omega
    rcases h with ⟨h1, hb, hoff, hg⟩ | ⟨h, _⟩
    · refine wpOp_step ho (fun K hK => ?_)
      have hsz : (l.setIfInBounds i true).size = ops.size := by simpa using hs
      by_cases him : i = m
      · subst him
        obtain ⟨q1, q2, q3⟩ := hl o ho
        have hallj : ∀ j, j < i → l.getD j false = true := fun j hj => by
          obtain ⟨e, he, rfl, hbd⟩ := q3 j hj
          exact hall e he hbd
        obtain ⟨w', hrun, hq⟩ := hlast o a w ho hb hoff (fun j hj => hg j hj (hallj j hj))
        rw [if_pos (by simp [Region.wanted, q2])]
        unfold Oper.wp
        rw [hrun]
        have hput : a.put o.dst undef = a := by rw [q1]; rfl
        refine hK _ _ ⟨hsz, .inr ⟨fun j hj => ?_, ?_⟩⟩
        · by_cases e : j = i
          · subst e; simp [hil]
          · have := hallj j (by omega)
            have hjl : j < l.size := by omega
            have hset : (l.setIfInBounds i true).getD j false = l.getD j false := by simp [Array.getElem?_setIfInBounds_ne (fun e' => e (Eq.symm e'))]
            rw [hset]; exact this
        · first | exact hq | (rw [hput]; exact hq)
      · have him' : i < m := by omega
        obtain ⟨q1, q2⟩ := hd i o him' ho
        have hpre : ∀ e ∈ o.after, Region.binds .any e = true → G e.on (a.eval (.tmp (d e.on))) w := fun e he hbd => hg e.on (Nat.lt_trans (hback i o ho e he) him') (hall e he hbd)
        obtain ⟨v, w', hrun, hb', hgi⟩ := hstep i o a w him' ho hb hoff hpre
        rw [if_pos (by simp [Region.wanted, q2])]
        unfold Oper.wp
        rw [hrun]
        have hdlt : d i < a.tmps.size := by rw [hoff.1]; exact hlt i him'
        have hset : ∀ j, (l.setIfInBounds i true).getD j false = if j = i then true else l.getD j false := fun j => by
          by_cases e : j = i
          · subst e; simp [hil]
          · rw [if_neg e]; simp [Array.getElem?_setIfInBounds_ne (fun e' => e (Eq.symm e'))]
        refine hK _ _ ⟨hsz, .inl ⟨by rw [hset, if_neg (fun e => him e.symm)]; exact h1, step hb hb', ?_, fun j hj hlj => ?_⟩⟩
        · rw [q1]
          refine ⟨by rw [size_put]; exact hoff.1, hoff.2.1, fun t ht => ?_⟩
          rw [← hoff.2.2 t ht]
          simp [Act.put, Array.getElem?_setIfInBounds_ne (ht i him')]
        · rw [q1]
          by_cases e : j = i
          · subst e; rw [eval_put_same hdlt]; exact hgi
          · rw [eval_put_ne (fun e' => e (hinj _ _ hj him' e'.symm))]
            rw [hset, if_neg e] at hlj
            exact hG _ _ _ _ hb' (hg j hj hlj)
    · have := h i hi
      simp [hil] at hli this
      rw [this] at hli; cases hli
/-- What the kernel reckons of a region whose operations write the slots ds, in order, and whose last one is a store that waits for all. -/
def chkOps (ops : Array Oper) (ds : List Nat) : Bool :=
  ops.size == ds.length + 1 && ((List.range ops.size).all fun i => match ops[i]? with
    | some o => o.after.all fun e => decide (e.on < i)
    | none => false) && ((List.range ds.length).all fun i => match ops[i]? with
    | some o => decide (o.dst = some (ds.getD i 0)) && o.guard.isNone
    | none => false) && (match ops[ds.length]? with
    | some o => o.dst.isNone && o.guard.isNone && (List.range ds.length).all fun j => o.after.any fun e => e.on == j && Region.binds .any e
    | none => false) && decide ds.Nodup
theorem wp_region_ds {P : Program} {ops : Array Oper} {Q : Exit → Act → World → Prop} {id : Nat} {a0 : Act} {W : World} (ds : List Nat) (G : Nat → Value → World → Prop)
    (hm : P.follows .mixedOrders = true) (hc : chkOps ops ds = true) (hlt : ∀ t ∈ ds, t < a0.tmps.size)
    (hG : ∀ j v w w', Below w.heap.size w w' → G j v w → G j v w')
    (hstep : ∀ (i : Nat) (o : Oper) (a : Act) (w : World), i < ds.length → ops[i]? = some o → Below W.heap.size W w → (∀ t, t ∉ ds → a.eval (.tmp t) = a0.eval (.tmp t)) → (∀ e ∈ o.after, Region.binds .any e = true → G e.on (a.eval (.tmp (ds.getD e.on 0))) w) → ∃ v w', (execOp a.eval o).run P w = .ok (.value v) w' ∧ Below w.heap.size w w' ∧ G i v w')
    (hlast : ∀ (o : Oper) (a : Act) (w : World), ops[ds.length]? = some o → Below W.heap.size W w → a.defers = a0.defers → a.tmps = ds.foldl (fun tm t => tm.setIfInBounds t (a.tmps.getD t undef)) a0.tmps → (∀ t, t ∉ ds → a.eval (.tmp t) = a0.eval (.tmp t)) → (∀ j, j < ds.length → G j (a.eval (.tmp (ds.getD j 0))) w) → ∃ w', (execOp a.eval o).run P w = .ok .skip w' ∧ Q .normal a w') :
    (Code.region id ops true).wp P Q a0 W := by
  simp only [chkOps, Bool.and_eq_true, beq_iff_eq, List.all_eq_true, List.mem_range, decide_eq_true_eq] at hc
  obtain ⟨⟨⟨⟨c1, c2⟩, c3⟩, c4⟩, c5⟩ := hc
  have hout : ∀ t, t ∉ ds → ∀ j, j < ds.length → ds.getD j 0 ≠ t := fun t ht j hj e => ht (by
    rw [← e, List.getD_eq_getElem?_getD, List.getElem?_eq_getElem hj]; exact List.getElem_mem _)
  have hmem : ∀ j, j < ds.length → ds.getD j 0 ∈ ds := fun j hj => by
    rw [List.getD_eq_getElem?_getD, List.getElem?_eq_getElem hj]; exact List.getElem_mem _
  refine wp_region_made ds.length (fun j => ds.getD j 0) G hm c1 ?back ?hd ?inj (fun i hi => hlt _ (hmem i hi)) ?hl hG ?step ?last
  case back =>
    intro i o ho e he
    have hi : i < ops.size := (Array.getElem?_eq_some_iff.1 ho).1
    have := c2 i hi
    rw [ho] at this
    simp only [Array.all_eq_true_iff_forall_mem, decide_eq_true_eq] at this
    exact this e he
  case hd =>
    intro i o hi ho
    have := c3 i hi
    rw [ho] at this
    simp only [Bool.and_eq_true, decide_eq_true_eq, Option.isNone_iff_eq_none] at this
    exact this
  case inj =>
    intro i j hi hj e
    simp only [List.getD_eq_getElem?_getD, List.getElem?_eq_getElem hi, List.getElem?_eq_getElem hj, Option.getD_some] at e
    exact (List.getElem_inj c5).1 e
  case hl =>
    intro o ho
    rw [ho] at c4
    simp only [Bool.and_eq_true, Option.isNone_iff_eq_none, List.all_eq_true, List.mem_range] at c4
    refine ⟨c4.1.1, c4.1.2, fun j hj => ?_⟩
    obtain ⟨e, he, h⟩ := Array.any_eq_true'.1 (c4.2 j hj)
    rw [Bool.and_eq_true, beq_iff_eq] at h
    exact ⟨e, he, h.1, h.2⟩
  case step =>
    intro i o a w hi ho hb hoff hpre
    exact hstep i o a w hi ho hb (fun t ht => hoff.eval (hout t ht)) hpre
  case last =>
    intro o a w ho hb hoff hpre
    refine hlast o a w ho hb hoff.2.1 (frame_of ds hoff.1 (fun t ht => hoff.2.2 t (hout t ht))) (fun t ht => hoff.eval (hout t ht)) hpre
end Go.Proofs.YtcjdjcpappfkgaaDoor
set_option maxRecDepth 8000
namespace Go.Proofs.YtcjdjcpappfkgaaDoor
open Go.ChangeShapes Go.WideShapes Go.ChangeAt Go.RowKit
/-! What the search is built of: rows of options, rows of rules. -/
theorem own_cells {w : World} {lo sz k cap : Nat} {t : TypeId} {A : Option Addr} {vs : List Value} (h : w.ownsRow lo t sz (.slice A k cap) k vs) (hk : 0 < k) : ∃ g, A = some ⟨g, 0, none⟩ ∧ lo ≤ g ∧ g < w.heap.size ∧ ∀ j u, vs[j]? = some u → w.cell? ⟨g, j, none⟩ = some u := by
  obtain ⟨hvl, hcase⟩ := id h
  rcases hcase with ⟨_, h0⟩ | ⟨g, cap', cur, hv, hlog, hrow, h1, h2, h3, h4⟩
  · omega
  · injection hv with hA _ _
    subst hA
    refine ⟨g, rfl, hlog, (Array.getElem?_eq_some_iff.1 hrow).1, fun j u hj => ?_⟩
    rw [cell_of_row w g j cur _ _ hrow]
    rw [← h4, List.getElem?_take] at hj
    split at hj
    · simpa using hj
    · cases hj
theorem own_kept {w w' : World} {lo sz k : Nat} {t : TypeId} {v : Value} {vs : List Value} {row : Option Nat} (h : w.ownsRow lo t sz v k vs) (hg : w.grownBy w' row) (hne : ∀ g, v.ownBlock = some g → row ≠ some g) : w'.ownsRow lo t sz v k vs := by
  refine World.ownsRow.kept h hg ?_
  cases e : v.ownBlock with
  | none => exact .inl rfl
  | some g => exact .inr (fun he => hne g e he.symm)
theorem own_below {w w' : World} {lo sz k : Nat} {t : TypeId} {v : Value} {vs : List Value} (h : w.ownsRow lo t sz v k vs) (hb : Below w.heap.size w w') : w'.ownsRow lo t sz v k vs :=
  own_kept (row := none) h ⟨hb.os, hb.tape, hb.output, hb.size, fun k hk _ => hb.block k hk⟩ (fun g _ e => by cases e)
/-- what the operations of 'rows[c] = append(rows[c], x)' yield. -/
def PsG (SB f OB c n : Nat) (A : Option Addr) (t cap : Nat) (cells : Array Value) (elT : TypeId) (sz lo : Nat) (vs : List Value) (B : Nat) : Nat → Value → World → Prop
  | 0, v, _ => v = .pointer (some ⟨SB, f, none⟩)
  | 1, v, _ => v = .slice (some ⟨OB, 0, none⟩) n n
  | 2, v, _ => v = .int .i64 (c : Nat)
  | 3, v, _ => v = .pointer (some ⟨SB, f, none⟩)
  | 4, v, _ => v = .slice (some ⟨OB, 0, none⟩) n n
  | 5, v, _ => v = .int .i64 (c : Nat)
  | 6, v, _ => v = .pointer (some ⟨OB, c, none⟩)
  | 7, v, _ => v = .slice A t cap
  | 8, v, _ => v = .agg cells
  | 9, v, w => ∃ g, v = .slice (some ⟨g, 0, none⟩) 1 1 ∧ w.heap[g]? = some (.cells cells elT) ∧ (Value.slice A t cap).ownBlock ≠ some g
  | 10, v, w => ∃ g' cap', v = .slice (some ⟨g', 0, none⟩) (t + 1) cap' ∧ w.ownsRow lo elT sz (.slice (some ⟨g', 0, none⟩) (t + 1) cap') (t + 1) (vs ++ cells.toList) ∧ ((Value.slice A t cap).ownBlock = some g' ∨ B ≤ g')
  | 11, v, _ => v = .pointer (some ⟨OB, c, none⟩)
  | _, _, _ => True
theorem psG_eff {SB f OB c n : Nat} {A : Option Addr} {t cap : Nat} {cells : Array Value} {elT : TypeId} {sz lo : Nat} {vs : List Value} {B : Nat} (j i : Nat) (v : Value) (w1 w2 : World) (hji : j ≠ i) (he : (i = 10 → w1.grownBy w2 (Value.slice A t cap).ownBlock) ∧ (i ≠ 10 → Below w1.heap.size w1 w2)) (h : PsG SB f OB c n A t cap cells elT sz lo vs B j v w1) : PsG SB f OB c n A t cap cells elT sz lo vs B j v w2 := by
  unfold PsG at h ⊢
  split at h
  all_goals first
    | exact h
    | (obtain ⟨g, e, h1, h2⟩ := h
       refine ⟨g, e, ?_, h2⟩
       by_cases hi : i = 10
       · exact ((he.1 hi).block g (Array.getElem?_eq_some_iff.1 h1).1 (fun e2 => h2 e2.symm)).trans h1
       · exact ((he.2 hi).block g (Array.getElem?_eq_some_iff.1 h1).1).trans h1)
    | (obtain ⟨g', cap', e, h1, h2⟩ := h
       exact ⟨g', cap', e, own_below h1 (he.2 (fun e2 => hji e2.symm)), h2⟩)
theorem flat2_get {α β : Type} (f : α → β × β) : ∀ (L : List α) (i : Nat) (hi : i < L.length), (L.flatMap fun x => [(f x).1, (f x).2])[i * 2]? = some (f L[i]).1 ∧ (L.flatMap fun x => [(f x).1, (f x).2])[i * 2 + 1]? = some (f L[i]).2 := by
  intro L
  induction L with
  | nil => intro i hi; cases hi
  | cons a L ih =>
    intro i hi
    match i, hi with
    | 0, _ => simp
    | i + 1, hi =>
      have := ih i (by simpa using hi)
      simp only [List.flatMap_cons, List.cons_append, List.nil_append, show (i + 1) * 2 = i * 2 + 2 by omega, show i * 2 + 2 + 1 = (i * 2 + 1) + 2 by omega, List.getElem?_cons_succ, List.getElem_cons_succ]
      exact this
theorem flat3_get {α β : Type} (f : α → β × β × β) : ∀ (L : List α) (i : Nat) (hi : i < L.length), (L.flatMap fun x => [(f x).1, (f x).2.1, (f x).2.2])[i * 3]? = some (f L[i]).1 ∧ (L.flatMap fun x => [(f x).1, (f x).2.1, (f x).2.2])[i * 3 + 1]? = some (f L[i]).2.1 ∧ (L.flatMap fun x => [(f x).1, (f x).2.1, (f x).2.2])[i * 3 + 2]? = some (f L[i]).2.2 := by
  intro L
  induction L with
  | nil => intro i hi; cases hi
  | cons a L ih =>
    intro i hi
    match i, hi with
    | 0, _ => simp
    | i + 1, hi =>
      have := ih i (by simpa using hi)
      simp only [List.flatMap_cons, List.cons_append, List.nil_append, show (i + 1) * 3 = i * 3 + 3 by omega, show i * 3 + 3 + 1 = (i * 3 + 1) + 3 by omega, show i * 3 + 3 + 2 = (i * 3 + 2) + 3 by omega, List.getElem?_cons_succ, List.getElem_cons_succ]
      exact this
/-- the cells of options. -/
def optP (s c : Nat) (x : Int) : Value × Value := (.int .i64 x, .int .u64 ((itN s c x.toNat : Nat) : Int))
def optV (s c : Nat) (vs : List Int) : List Value := vs.flatMap fun x => [(optP s c x).1, (optP s c x).2]
theorem optV_push (s c : Nat) (vs : List Int) (x : Int) : optV s c (vs ++ [x]) = optV s c vs ++ [.int .i64 x, .int .u64 ((itN s c x.toNat : Nat) : Int)] := by
  simp [optV, optP]
/-- the rules' cells, those of their own slices lying at RA with the capacities RC. -/
def rulP (RA : Nat → Option Addr) (RC : Nat → Nat) (rs : List RuleM) (i : Nat) : Value × Value × Value := (.int .i64 (rat rs i).k, .slice (RA i) (rat rs i).xs.length (RC i), .int .i64 (rat rs i).v)
def rulV (RA : Nat → Option Addr) (RC : Nat → Nat) (rs : List RuleM) (L : List Nat) : List Value := L.flatMap fun i => [(rulP RA RC rs i).1, (rulP RA RC rs i).2.1, (rulP RA RC rs i).2.2]
theorem rulV_push (RA : Nat → Option Addr) (RC : Nat → Nat) (rs : List RuleM) (L : List Nat) (i : Nat) : rulV RA RC rs (L ++ [i]) = rulV RA RC rs L ++ [.int .i64 (rat rs i).k, .slice (RA i) (rat rs i).xs.length (RC i), .int .i64 (rat rs i).v] := by
  simp [rulV, rulP]
/-- the rules below r whose last cell is c. -/
def ixR (rs : List RuleM) (c r : Nat) : List Nat := (List.range r).filter fun i => lastR (rat rs i) == c
theorem ixR_succ (rs : List RuleM) (c r : Nat) : ixR rs c (r + 1) = ixR rs c r ++ (if lastR (rat rs r) = c then [r] else []) := by
  unfold ixR
  rw [List.range_succ, List.filter_append]
  congr 1
  by_cases h : lastR (rat rs r) = c
  · rw [if_pos h]; simp [h]
  · rw [if_neg h]; simp [h]
theorem rulesAt_ix (rs : List RuleM) (c : Nat) : rulesAt rs c = (ixR rs c rs.length).map (rat rs) := by
  unfold rulesAt ixR
  have key : rs = (List.range rs.length).map (rat rs) := by
    apply List.ext_getElem
    · simp
    · intro i h1 h2
      simp [rat, List.getD_eq_getElem?_getD, h1]
  conv => lhs; rw [key]
  rw [List.filter_map]
  rfl
/-- an array of slices. -/
def rowsArr (R : Nat → Value) (n : Nat) : Array Value := ((List.range n).map R).toArray
theorem rowsArr_size (R : Nat → Value) (n : Nat) : (rowsArr R n).size = n := by simp [rowsArr]
theorem rowsArr_get {R : Nat → Value} {n c : Nat} (h : c < n) : (rowsArr R n)[c]? = some (R c) := by simp [rowsArr, h]
def updR (R : Nat → Value) (c : Nat) (v : Value) : Nat → Value := fun j => if j = c then v else R j
theorem rowsArr_set (R : Nat → Value) (n c : Nat) (v : Value) : (rowsArr R n).setIfInBounds c v = rowsArr (updR R c v) n := by
  apply Array.ext_getElem?
  intro i
  rw [Array.getElem?_setIfInBounds]
  by_cases hi : i < n
  · rw [rowsArr_get hi, rowsArr_get hi, rowsArr_size]
    unfold updR
    by_cases e : c = i
    · subst e; rw [if_pos rfl, if_pos hi, if_pos rfl]
    · rw [if_neg e, if_neg (fun e' => e e'.symm)]
  · rw [Array.getElem?_eq_none (by rw [rowsArr_size]; omega), Array.getElem?_eq_none (by rw [rowsArr_size]; omega)]
    split
    · rename_i e; rw [rowsArr_size, if_neg (by omega)]
    · rfl
def Arr (w : World) (g : Nat) (t : TypeId) (R : Nat → Value) (n : Nat) : Prop := w.heap[g]? = some (.cells (rowsArr R n) t)
theorem Arr.lt {w : World} {g n : Nat} {t : TypeId} {R : Nat → Value} (h : Arr w g t R n) : g < w.heap.size := (Array.getElem?_eq_some_iff.1 h).1
theorem Arr.cell {w : World} {g n c : Nat} {t : TypeId} {R : Nat → Value} (h : Arr w g t R n) (hc : c < n) : w.cell? ⟨g, c, none⟩ = some (R c) := (cell_of_row w g c _ _ _ h).trans (rowsArr_get hc)
theorem Arr.free {w : World} {g n : Nat} {t : TypeId} {R : Nat → Value} (h : Arr w g t R n) (c : Nat) : w.frozen? ⟨g, c, none⟩ = false := frozen_of_row w g c _ _ h
theorem Arr.set {w : World} {g n : Nat} {t : TypeId} {R : Nat → Value} (h : Arr w g t R n) (c : Nat) (v : Value) : Arr (w.setCell ⟨g, c, none⟩ v) g t (updR R c v) n := by
  unfold Arr
  rw [heap_setCell_same w g c _ _ _ h, rowsArr_set]
theorem Arr.kept {w w' : World} {g n : Nat} {t : TypeId} {R : Nat → Value} (h : Arr w g t R n) (e : w'.heap[g]? = w.heap[g]?) : Arr w' g t R n := e.trans h
theorem nils_arr (n : Nat) : madeCells #[Value.slice none 0 0] n = rowsArr (fun _ => .slice none 0 0) n := by
  apply Array.toList_inj.1
  rw [toList_madeCells_one]
  simp [rowsArr]
  apply List.ext_getElem <;> simp
theorem rdo_own {w : World} {lo L s c cap : Nat} {A : Option Addr} {vs : List Int} (h : w.ownsRow lo 109 2 (.slice A vs.length cap) vs.length (optV s c vs)) (hL : L ≤ lo) : RdO w L A s c vs := fun hn => by
  obtain ⟨g, rfl, hg, _, hc⟩ := own_cells h hn
  refine ⟨g, rfl, by omega, fun i hi => ?_⟩
  obtain ⟨f1, f2⟩ := flat2_get (optP s c) vs i hi
  have e : nth vs i = vs[i] := by simp [nth, List.getD_eq_getElem?_getD, hi]
  rw [e]
  exact ⟨hc _ _ f1, hc _ _ f2⟩
theorem rdw_own {W0 w : World} {B0 lo L k cap c : Nat} {A : Option Addr} {RA : Nat → Option Addr} {RC : Nat → Nat} {rs : List RuleM} (h : w.ownsRow lo 65 3 (.slice A k cap) k (rulV RA RC rs (ixR rs c rs.length))) (hk : k = (ixR rs c rs.length).length) (hL : L ≤ lo)
    (hR : ∀ i, i < rs.length → Rd W0 B0 (RA i) (rat rs i).xs.length (rat rs i).xs ∧ (rat rs i).xs.length ≤ RC i) : RdW W0 B0 w L A (rulesAt rs c) := fun hn => by
  have hlen : (rulesAt rs c).length = (ixR rs c rs.length).length := by rw [rulesAt_ix, List.length_map]
  obtain ⟨g, rfl, hg, _, hc⟩ := own_cells h (by omega)
  refine ⟨g, rfl, by omega, fun i hi => ?_⟩
  have hi' : i < (ixR rs c rs.length).length := by omega
  obtain ⟨f1, f2, f3⟩ := flat3_get (rulP RA RC rs) (ixR rs c rs.length) i hi'
  have e : rat (rulesAt rs c) i = rat rs (ixR rs c rs.length)[i] := by
    rw [rulesAt_ix]
    show ((ixR rs c rs.length).map (rat rs)).getD i rnone = _
    rw [List.getD_eq_getElem?_getD, List.getElem?_map, List.getElem?_eq_getElem hi']
    rfl
  have hm : (ixR rs c rs.length)[i] < rs.length := by
    have := List.getElem_mem hi'
    exact List.mem_range.1 (List.mem_filter.1 this).1
  rw [e]
  obtain ⟨r1, r2⟩ := hR _ hm
  exact ⟨_, _, hc _ _ f1, hc _ _ f2, hc _ _ f3, r1, r2⟩
theorem ow_row {w : World} {lo g n : Nat} (h : w.heap[g]? = some (.cells (zeroArr n) 3)) (hlo : lo ≤ g) (hn : n ≤ 1099511627776) : Ow w lo (some ⟨g, 0, none⟩) n n (zeros n) := by
  have hz : (zeroArr n).toList = vals (zeros n) := by
    rw [zeroArr, toList_madeCells_one]
    simp [vals, zeros]
  have hsz : (zeroArr n).size = n := by simp [zeroArr, madeCells]
  refine ⟨by simp [vals, zeros], .inr ⟨g, n, zeroArr n, rfl, hlo, h, ?_, ?_, ?_, ?_⟩⟩
  all_goals first | (simp only [maxLen]; omega) | (rw [hsz]; omega) | (rw [hz, Nat.mul_one, List.take_of_length_le (by simp [vals, zeros])]) | omega
theorem rdrc_fun {W : World} {B n : Nat} {A : Option Addr} {rs : List RuleM} (h : RdRc W B A n rs) : ∃ (b off : Nat) (RA : Nat → Option Addr) (RC : Nat → Nat), (0 < n → A = some ⟨b, off, none⟩ ∧ b < B) ∧ ∀ i, i < n → W.cell? ⟨b, off + i * 3, none⟩ = some (.int .i64 (rat rs i).k) ∧ W.cell? ⟨b, off + i * 3 + 1, none⟩ = some (.slice (RA i) (rat rs i).xs.length (RC i)) ∧ W.cell? ⟨b, off + i * 3 + 2, none⟩ = some (.int .i64 (rat rs i).v) ∧ Rd W B (RA i) (rat rs i).xs.length (rat rs i).xs ∧ (rat rs i).xs.length ≤ RC i := by
  by_cases h0 : 0 < n
  · obtain ⟨b, off, e, hlt, hc⟩ := h.2 h0
    have key : ∀ i, ∃ q : Option Addr × Nat, i < n → W.cell? ⟨b, off + i * 3, none⟩ = some (.int .i64 (rat rs i).k) ∧ W.cell? ⟨b, off + i * 3 + 1, none⟩ = some (.slice q.1 (rat rs i).xs.length q.2) ∧ W.cell? ⟨b, off + i * 3 + 2, none⟩ = some (.int .i64 (rat rs i).v) ∧ Rd W B q.1 (rat rs i).xs.length (rat rs i).xs ∧ (rat rs i).xs.length ≤ q.2 := fun i => by
      by_cases hi : i < n
      · obtain ⟨A', c', a0, a1, a2, a3, _, a5⟩ := hc i hi
        exact ⟨(A', c'), fun _ => ⟨a0, a1, a2, a3, a5⟩⟩
      · exact ⟨(none, 0), fun h => absurd h hi⟩
    obtain ⟨f, hf⟩ := Classical.axiomOfChoice key
    exact ⟨b, off, fun i => (f i).1, fun i => (f i).2, fun _ => ⟨e, hlt⟩, hf⟩
  · exact ⟨0, 0, fun _ => none, fun _ => 0, fun h => absurd h h0, fun i hi => absurd hi (by omega)⟩
end Go.Proofs.YtcjdjcpappfkgaaDoor
namespace Go.Proofs.YtcjdjcpappfkgaaDoor
open Go.ChangeShapes Go.WideShapes Go.ChangeAt Go.RowKit

/-- push_int, and where the new slice lies: where the old one lay, or in a block of its own. -/
theorem push_int_at {w : World} {ops : Array Oper} {rest : List Oper} {o : Oper} {a : Act} {Q : Exit → Act → World → Prop} (hgd : o.guard = none) (s x : Operand)
    (ho : o.op = .call { callee := .builtin .append, args := #[s, x], argTypes := #[22, 22] })
    (lo : Nat) (A : Option Addr) (n c : Nat) (xs : List Int) (v : Int) (hs : a.eval s = .slice A n c) (hx : a.eval x = .slice (some ⟨w.heap.size, 0, none⟩) 1 1) (hown : Ow w lo A n c xs) (hn : n ≤ 1099511627776) (hlo : lo ≤ w.heap.size)
    (h : ∀ A' c' w', Ow w' lo A' (n + 1) c' (xs ++ [v]) → (w.alloc (.cells #[.int .i64 v] 3)).grownBy w' (Value.slice A n c).ownBlock → (∀ g, (Value.slice A' (n + 1) c').ownBlock = some g → (Value.slice A n c).ownBlock = some g ∨ w.heap.size < g) → wpList Tryd.prog ops Q rest (a.put o.dst (.slice A' (n + 1) c')) w') :
    wpList Tryd.prog ops Q (o :: rest) a (w.alloc (.cells #[.int .i64 v] 3)) := by
  obtain ⟨i0, hi, hz0, hz1, hz2⟩ := info_parts int_info
  refine Go.wpList_append_own_at (P := Tryd.prog) _ hgd s x 22 ho lo 3 i0 (.int .i64 0) 1 8 Tryd.underlying22 hi hz0 hz1 hz2 rfl (by decide) _ n (vals xs) hs (World.ownsRow.alloc hown _) ⟨w.heap.size, 0, none⟩ 1 1 [.int .i64 v] hx rfl ?_ ?_ (by simp only [maxLen]; omega) (by omega) (by simp; omega) ?_
  · intro j u hj
    match j, hj with
    | 0, hj =>
      simp at hj
      subst hj
      simp [Addr.add]
  · intro u hu
    simp at hu
    subst hu
    rfl
  · intro v' w' h2 h3 _ h5
    obtain ⟨g, cap, hv, _, _⟩ := World.ownsRow.form h2 (by omega)
    subst hv
    refine h _ _ _ (by unfold Ow; rw [vals_append]; exact h2) h3 (fun g' hg' => ?_)
    rcases h5 with h5 | h5
    · left; rw [← h5]; exact hg'
    · right
      rw [h5] at hg'
      simp at hg'
      omega
theorem Ow.kept_ne {w w' : World} {lo : Nat} {A A' : Option Addr} {n c n' c' : Nat} {xs : List Int} (h : Ow w lo A n c xs) (hg : w.grownBy w' (Value.slice A' n' c').ownBlock) (hne : ∀ g, (Value.slice A n c).ownBlock = some g → (Value.slice A' n' c').ownBlock ≠ some g) : Ow w' lo A n c xs := by
  refine World.ownsRow.kept h hg ?_
  cases e : (Value.slice A n c).ownBlock with
  | none => exact .inl rfl
  | some g => exact .inr (fun he => hne g e he.symm)
end Go.Proofs.YtcjdjcpappfkgaaDoor
namespace Go.Proofs.YtcjdjcpappfkgaaDoor
open Go.ChangeShapes Go.WideShapes Go.ChangeAt Go.RowKit

theorem gv_okAll {xs : List Int} {size : Int} {n : Nat} (hg : gv xs size = true) (hl : xs.length = n) : okAll xs size n := fun k hk => gv_nth hg (by rw [hl]; exact hk)

def sqOfG (size : Int) (k : Nat) : Int := ((k : Int) / size + (k : Int)) % size + 1
def sqOfL (size : Int) : List Int := if inr size 2 4 = true then mapTo (sqOfG size) (size * size).toNat else []

def missTo (has : Int → Bool) : Nat → List Int
  | 0 => []
  | v + 1 => missTo has v ++ (if has ((v : Int) + 1) = true then [] else [(v : Int) + 1])
def missL (xs : List Int) (size line : Int) : List Int := if (gv xs size && lineOk size line) = true then missTo (hasTo (lineV xs size line) size.toNat) size.toNat else []
theorem missTo_length (has : Int → Bool) (v : Nat) : (missTo has v).length ≤ v := by
  induction v with
  | zero => simp [missTo]
  | succ v ih => simp only [missTo, List.length_append]; split <;> simp <;> omega
theorem missL_length (xs : List Int) (size line : Int) : (missL xs size line).length ≤ 4 := by
  unfold missL
  split
  · next h =>
    simp only [Bool.and_eq_true] at h
    have := gv_size h.1
    have := missTo_length (hasTo (lineV xs size line) size.toNat) size.toNat
    omega
  · simp
end Go.Proofs.YtcjdjcpappfkgaaDoor
