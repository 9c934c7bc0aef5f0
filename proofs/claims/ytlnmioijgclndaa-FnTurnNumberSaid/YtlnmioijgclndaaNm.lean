import Derived.Test.YtlnmioijgclndaaGs
set_option maxRecDepth 8000
namespace Go.Proofs.Ytlnmioijgclndaa
open Go.ChangeShapes Go.WideShapes Go.ChangeAt Go.RowKit
/-! renaming, and the order of grids. -/
/-- the names that are given after k cells. -/
def nmL (xs : List Int) (k m : Nat) : List Int := mapTo (fun v => ((nmA xs k ((v : Nat) : Int) : Nat) : Int)) m
theorem nmL_length (xs : List Int) (k m : Nat) : (nmL xs k m).length = m := mapTo_length _ _
theorem nmL_nth {xs : List Int} {k m v : Nat} (h : v < m) : nth (nmL xs k m) v = (nmA xs k (v : Int) : Nat) := mapTo_nth h
theorem nmL_zero (xs : List Int) (m : Nat) : vals (nmL xs 0 m) = List.replicate m (.int .i64 0) := by
  apply List.ext_getElem <;> simp [vals, nmL, mapTo, nmA]
theorem nmL_set {xs : List Int} {k m x : Nat} (hn : newAt xs k = true) (hx : nth xs k = (x : Int)) : (vals (nmL xs k m)).set x (.int .i64 ((cntN xs k : Int) + 1)) = vals (nmL xs (k + 1) m) := by
  apply List.ext_getElem
  · simp [vals, nmL, mapTo]
  · intro i h1 h2
    simp only [vals, nmL, mapTo, List.map_map, List.getElem_set, List.getElem_map, List.getElem_range, Function.comp, nmA]
    by_cases e : x = i
    · subst e
      rw [if_pos rfl, if_pos ⟨hn, hx⟩]
      simp
    · rw [if_neg e, if_neg (fun q => e (by have := q.2; rw [hx] at this; omega))]
theorem nmL_same {xs : List Int} {k m : Nat} (hn : newAt xs k = false) : nmL xs (k + 1) m = nmL xs k m := by
  unfold nmL
  congr 1
  funext v
  simp only [nmA]
  rw [if_neg (fun q => by rw [hn] at q; exact absurd q.1 (by simp))]
theorem cntN_t {xs : List Int} {k : Nat} (h : newAt xs k = true) : cntN xs (k + 1) = cntN xs k + 1 := by simp [cntN, h]
theorem cntN_f {xs : List Int} {k : Nat} (h : newAt xs k = false) : cntN xs (k + 1) = cntN xs k := by simp [cntN, h]
theorem rnG_t {xs : List Int} {k : Nat} (h : newAt xs k = true) : rnG xs k = (cntN xs k : Int) + 1 := by
  unfold rnG
  simp only [nmA]
  rw [if_pos ⟨h, trivial⟩]; simp
theorem rnG_f {xs : List Int} {k : Nat} (h : newAt xs k = false) : rnG xs k = (nmA xs k (nth xs k) : Nat) := by
  unfold rnG
  simp only [nmA]
  rw [if_neg (fun q => by rw [h] at q; exact absurd q.1 (by simp))]
/-- 'append(out, v)', v in a block that was laid for it. -/
theorem push_num {w : World} {ops : Array Oper} {rest : List Oper} {o : Oper} {a : Act} {Q : Exit → Act → World → Prop} (hgd : o.guard = none) (s x : Operand)
    (ho : o.op = .call { callee := .builtin .append, args := #[s, x], argTypes := #[23, 23] })
    (lo : Nat) (A : Option Addr) (n c : Nat) (xs : List Int) (v : Int) (g : Nat) (hs : a.eval s = .slice A n c) (hx : a.eval x = .slice (some ⟨g, 0, none⟩) 1 1) (hown : Ow w lo A n c xs) (hrow : w.heap[g]? = some (.cells #[.int .i64 v] 3)) (hn : n ≤ 1099511627776) (hlo : lo ≤ w.heap.size)
    (h : ∀ A' c' w', Ow w' lo A' (n + 1) c' (xs ++ [v]) → w.grownBy w' (Value.slice A n c).ownBlock → wpList Try.prog ops Q rest (a.put o.dst (.slice A' (n + 1) c')) w') :
    wpList Try.prog ops Q (o :: rest) a w := by
  refine wpList_plain hgd fun K hK => ?_
  obtain ⟨i0, hi, hz0, hz1, hz2⟩ := info_parts int_info
  obtain ⟨g', cap, w', hrun, h1, h2, h3, h4⟩ := run_append_lies (P := Try.prog) w 23 o.type lo 3 i0 (.int .i64 0) 1 8 Try.underlying23 hi hz0 hz1 hz2 rfl (by decide) (.slice A n c) n (vals xs) hown ⟨g, 0, none⟩ 1 1 [.int .i64 v] rfl (World.news_of_block (cs := #[.int .i64 v]) hrow) (by simp [Value.oneCell']) (by decide) (by simp only [maxLen]; omega) (by omega) hlo _ rfl
  unfold Oper.wp
  simp [execOp, ho, resolve, invoke, builtin, hs, hx, hrun, Result.andThen]
  exact hK _ _ (h _ cap w' (by unfold Ow; rw [vals_append]; exact h1) h2)
theorem Ow.setOther {w : World} {lo n c g k : Nat} {A : Option Addr} {xs : List Int} {v : Value} (h : Ow w lo A n c xs) (hne : ∀ b, (Value.slice A n c).ownBlock = some b → b ≠ g) : Ow (w.setCell ⟨g, k, none⟩ v) lo A n c xs :=
  h.off (row := some g) ⟨rfl, rfl, rfl, by simp [World.setCell], fun j _ hj => heap_setCell_other w ⟨g, k, none⟩ j v (fun e => hj (by rw [e]))⟩ (fun b hb e => hne b hb (by injection e with e; exact e.symm))
set_option maxHeartbeats 4000000 in
theorem specNames (A : Option Addr) (c n B : Nat) (xs : List Int) (size : Int) (w : World) (h : Rd w B A n xs) (hB : B ≤ w.heap.size) (hm : n ≤ 1099511627776) (h2 : 2 ≤ size) (h4 : size ≤ 4) (hok : ∀ k, k < n → 0 ≤ nth xs k ∧ nth xs k ≤ size) :
    Calls Try.prog 46 #[.slice A n c, .int .i64 size] w (RetN w n (rnL xs n)) := by
  obtain ⟨i0, hi, hz0, hz1, hz2⟩ := info_parts int_info
  obtain ⟨m, hmS⟩ : ∃ m : Nat, size + 1 = (m : Int) := ⟨(size + 1).toNat, by omega⟩
  have hm1 : IntKind.i64.wrap (size + 1) = (m : Int) := by rw [hmS]; exact IntWalk.i64_in _ (by omega)
  have hm2 : wrap64 (size + 1) = (m : Int) := by rw [hmS]; exact IntWalk.wrap64_in _ ⟨by omega, by omega⟩
  have hm5 : m ≤ 5 := by omega
  have Hok := Lib.hid hok; clear hok
  have HmS := Lib.hid hmS; clear hmS
  have Hh := Lib.hid (fun W (hb : Below w.heap.size w W) => h.below (hb.mono hB))
  go_enter Try.func46, Try.ntmps46
  go_wp2_with (refine wpList_make_full _ rfl (.tmp 11) (.tmp 11) 23 rfl w.heap.size 3 i0 (.int .i64 0) 1 Try.underlying23 hi hz0 hz1 .i64 .i64 m m m rfl rfl rfl rfl (by rw [hz2]; omega) (by simp only [maxLen]; omega) (Nat.le_refl _) ?_; intro w1 hown hgr)
  have hb1 : Below w.heap.size w w1 := made_below hgr (Nat.le_refl _)
  have ho1 : Ow w1 w.heap.size (some ⟨w.heap.size, 0, none⟩) m m (nmL xs 0 m) := by
    have h' := hown
    rw [Nat.mul_one] at h'
    unfold Ow
    rw [nmL_zero, ← toList_madeCells_one]
    exact h'
  have hg1 : w.heap.size < w1.heap.size := (World.ownsRow.lt ho1 w.heap.size (by simp [Value.ownBlock])).2
  clear hown hgr hz0 hz1 hz2 hi hm1 hm2
  have ho1' := ho1.below ((Below.refl _ _).alloc (Nat.le_refl _) (.cells #[] 3))
  have hv1 : Ow (w1.alloc (.cells #[] 3)) (w.heap.size + 1) (some ⟨w1.heap.size, 0, none⟩) 0 0 [] := Ow.made0 w1 _ hg1
  have hb1' : Below w.heap.size w (w1.alloc (.cells #[] 3)) := hb1.alloc hb1.size _
  go_loopw [6, 7, 8] (fun nx v i wr => ∃ (k : Nat) (A' : Option Addr) (c' : Nat), k ≤ n ∧ i = .int .i64 k ∧ nx = .int .i64 ((cntN xs k : Int) + 1) ∧ v = .slice A' k c' ∧ Ow wr (w.heap.size + 1) A' k c' (mapTo (rnG xs) k) ∧ Ow wr w.heap.size (some ⟨w.heap.size, 0, none⟩) m m (nmL xs k m) ∧ Below w.heap.size w wr) (fun _ _ i _ => n - (intOf i).toNat)
  case atStart => exact ⟨0, _, _, Nat.zero_le _, rfl, rfl, rfl, hv1, ho1', hb1'⟩
  case round =>
    obtain ⟨k, A', c', hk, rfl, rfl, rfl, ho, hnm, hb⟩ := hrel
    by_cases hlt : k < n
    · obtain ⟨b, off, rfl, hbB, hck⟩ := (Hh.out _ hb).at_ hlt
      obtain ⟨x0, x1⟩ := Hok.out k hlt
      obtain ⟨x, hx⟩ := Int.eq_ofNat_of_zero_le x0
      have hxm : x < m := by have := HmS.out; omega
      have hxmI : (x : Int) < (m : Int) := by omega
      obtain ⟨hcn, hfn⟩ := hnm.cell hxm
      rw [nmL_nth hxm] at hcn
      have hcb : cntN xs k ≤ 1099511627776 := by
        have : ∀ j, cntN xs j ≤ j := fun j => by
          induction j with
          | zero => exact Nat.le_refl _
          | succ j ih => simp only [cntN]; split <;> omega
        have := this k
        omega
      have hlo : w.heap.size + 1 ≤ wr.heap.size := by
        have := (World.ownsRow.lt hnm w.heap.size (by simp [Value.ownBlock])).2
        omega
      have hkN : k ≤ 1099511627776 := by omega
      have hnw := newAt_nm (xs := xs) (k := k)
      rw [hx] at hck x0 x1
      have hOwn : ∀ b, (Value.slice A' k c').ownBlock = some b → b ≠ w.heap.size := fun b hb e => by have := ho.own_lo b hb; omega
      have HOwn := Lib.hid hOwn
      cases hnA : newAt xs k
      · have E1 := Lib.hid (cntN_f hnA)
        have E2 := Lib.hid (nmL_same (m := m) hnA)
        have E3 := rnG_f hnA
        rw [hx] at E3
        rw [← E3] at hcn
        have E4 : Hid (mapTo (rnG xs) k ++ [rnG xs k] = mapTo (rnG xs) (k + 1)) := Lib.hid (mapTo_succ _ _).symm
        have hx2 := hx
        rw [hnA, hx] at hnw
        have Hx := Lib.hid hx
        clear hx hnA hx2
        by_cases hz : x = 0
        · subst hz
          clear hnw E3
          go_wp2_with (at_builtin; (refine push_num rfl (.tmp 39) (.tmp 44) rfl (w.heap.size + 1) A' k c' (mapTo (rnG xs) k) (rnG xs k) wr.heap.size rfl rfl (World.ownsRow.alloc ho _) (heap_alloc_new wr _) hkN (by simp <;> omega) ?_); intro A2 c2 w2 ho2 hg2)
          have hnm2 : Ow w2 w.heap.size (some ⟨w.heap.size, 0, none⟩) m m (nmL xs k m) := Ow.off (World.ownsRow.alloc hnm _) hg2 (fun g hg e => by simp [Value.ownBlock] at hg; exact HOwn.out g e hg.symm)
          have hb2 : Below w.heap.size w w2 := (hb.alloc hb.size _).grown hg2 (by simp <;> omega) (fun g hg => by have := ho.own_lo g hg; omega)
          rw [E4.out] at ho2
          go_roundw
          case rel => exact ⟨k + 1, _, _, by omega, by go_num, by rw [E1.out], rfl, ho2, by rw [E2.out]; exact hnm2, hb2⟩
          case measure => simp [intOf]; omega
        · have hxp : (0 : Int) < (x : Int) := by omega
          have hnz : ¬ (nmA xs k (x : Int) = 0) := by
            intro q
            rw [q] at hnw
            simp at hnw
            omega
          have hnzI : (rnG xs k == 0) = false := by rw [E3]; simp; exact hnz
          have hnzI2 : ¬ (rnG xs k = 0) := by rw [E3]; omega
          clear hnw E3
          go_wp2_with (at_builtin; (refine push_num rfl (.tmp 39) (.tmp 44) rfl (w.heap.size + 1) A' k c' (mapTo (rnG xs) k) (rnG xs k) wr.heap.size rfl rfl (World.ownsRow.alloc ho _) (heap_alloc_new wr _) hkN (by simp <;> omega) ?_); intro A2 c2 w2 ho2 hg2)
          have hnm2 : Ow w2 w.heap.size (some ⟨w.heap.size, 0, none⟩) m m (nmL xs k m) := Ow.off (World.ownsRow.alloc hnm _) hg2 (fun g hg e => by simp [Value.ownBlock] at hg; exact HOwn.out g e hg.symm)
          have hb2 : Below w.heap.size w w2 := (hb.alloc hb.size _).grown hg2 (by simp <;> omega) (fun g hg => by have := ho.own_lo g hg; omega)
          rw [E4.out] at ho2
          go_roundw
          case rel => exact ⟨k + 1, _, _, by omega, by go_num, by rw [E1.out], rfl, ho2, by rw [E2.out]; exact hnm2, hb2⟩
          case measure => simp [intOf]; omega
      · have hst := (World.ownsRow.stored hnm x (.int .i64 ((cntN xs k : Int) + 1))).1
        rw [nmL_set hnA hx] at hst
        have E1 := Lib.hid (cntN_t hnA)
        have E4 : Hid (mapTo (rnG xs) k ++ [(cntN xs k : Int) + 1] = mapTo (rnG xs) (k + 1)) := Lib.hid (by rw [mapTo_succ, rnG_t hnA])
        rw [hnA, hx] at hnw
        have hz : (0 : Int) < (x : Int) ∧ nmA xs k (x : Int) = 0 := by
          simp at hnw
          omega
        obtain ⟨hxp, hz0⟩ := hz
        rw [hz0] at hcn
        have Hx := Lib.hid hx
        have ho3 := ho.setOther (k := x) (v := .int .i64 ((cntN xs k : Int) + 1)) HOwn.out
        have Hst := Lib.hid hst
        have hsz : (wr.setCell ⟨w.heap.size, x, none⟩ (.int .i64 ((cntN xs k : Int) + 1))).heap.size = wr.heap.size := by simp
        have hrow : ((wr.setCell ⟨w.heap.size, x, none⟩ (.int .i64 ((cntN xs k : Int) + 1))).alloc (.cells #[.int .i64 ((cntN xs k : Int) + 1)] 3)).heap[wr.heap.size]? = some (.cells #[.int .i64 ((cntN xs k : Int) + 1)] 3) := by
          rw [← hsz]; exact heap_alloc_new _ _
        have Hrow := Lib.hid hrow
        clear hx hnA hnw hst hrow hz0
        go_wp2_with (at_builtin; (refine push_num rfl (.tmp 39) (.tmp 44) rfl (w.heap.size + 1) A' k c' (mapTo (rnG xs) k) ((cntN xs k : Int) + 1) wr.heap.size rfl rfl (World.ownsRow.alloc ho3 _) Hrow.out hkN (by simp <;> omega) ?_); intro A2 c2 w2 ho2 hg2)
        have hnm2 : Ow w2 w.heap.size (some ⟨w.heap.size, 0, none⟩) m m (nmL xs (k + 1) m) := Ow.off (World.ownsRow.alloc Hst.out _) hg2 (fun g hg e => by simp [Value.ownBlock] at hg; exact HOwn.out g e hg.symm)
        have hb2 : Below w.heap.size w w2 := ((hb.setCell (by simp) _).alloc (by simp <;> omega) _).grown hg2 (by simp <;> omega) (fun g hg => by have := ho.own_lo g hg; omega)
        rw [E4.out] at ho2
        go_roundw
        case rel => exact ⟨k + 1, _, _, by omega, by go_num, by rw [E1.out]; go_num, rfl, ho2, hnm2, hb2⟩
        case measure => simp [intOf]; omega
    · obtain rfl : k = n := by omega
      go_wp2
      go_ret
      exact ⟨_, _, rfl, ho.mono (by omega), hb⟩
/-- a list as a number: the order of grids. -/
def keyT (xs : List Int) : Nat → Int
  | 0 => 0
  | k + 1 => 5 * keyT xs k + nth xs k
def dig (xs : List Int) (n : Nat) : Prop := ∀ k, k < n → 0 ≤ nth xs k ∧ nth xs k ≤ 4
theorem keyT_to {xs ys : List Int} : ∀ {k : Nat}, eqTo xs ys k → keyT xs k = keyT ys k
  | 0, _ => rfl
  | k + 1, h => by simp only [keyT]; rw [keyT_to (fun j hj => h j (by omega)), h k (by omega)]
theorem keyT_lt {xs ys : List Int} {n k : Nat} (hx : dig xs n) (hy : dig ys n) (he : eqTo xs ys k) (hk : k < n) (hlt : nth xs k < nth ys k) : keyT xs n < keyT ys n := by
  have : ∀ m, k + 1 + m ≤ n → keyT xs (k + 1 + m) < keyT ys (k + 1 + m) := fun m => by
    induction m with
    | zero => intro _; simp only [keyT]; rw [keyT_to he]; omega
    | succ m ih =>
      intro hm
      have := ih (by omega)
      have a := hx (k + 1 + m) (by omega)
      have b := hy (k + 1 + m) (by omega)
      show 5 * keyT xs (k + 1 + m) + nth xs (k + 1 + m) < 5 * keyT ys (k + 1 + m) + nth ys (k + 1 + m)
      omega
  have := this (n - (k + 1)) (by omega)
  rwa [show k + 1 + (n - (k + 1)) = n by omega] at this
theorem keyT_inj {xs ys : List Int} : ∀ {n : Nat}, dig xs n → dig ys n → keyT xs n = keyT ys n → eqTo xs ys n
  | 0, _, _, _ => eqTo_zero
  | n + 1, hx, hy, h => by
    simp only [keyT] at h
    have a := hx n (by omega)
    have b := hy n (by omega)
    have h1 : keyT xs n = keyT ys n := by omega
    exact eqTo_succ (keyT_inj (fun k hk => hx k (by omega)) (fun k hk => hy k (by omega)) h1) (by omega)
theorem keyT_eq {xs ys : List Int} {n : Nat} (hx : dig xs n) (hy : dig ys n) (lx : xs.length = n) (ly : ys.length = n) (h : keyT xs n = keyT ys n) : xs = ys :=
  ext_nth (by rw [lx, ly]) (fun k hk => keyT_inj hx hy h k (by omega))
theorem specBefore (A A' : Option Addr) (c c' n B B' : Nat) (xs ys : List Int) (w : World) (h : Rd w B A n xs) (h' : Rd w B' A' n ys) (hm : n ≤ 1099511627776) (hx : dig xs n) (hy : dig ys n) :
    Calls Try.prog 47 #[.slice A n c, .slice A' n c'] w fun e w' => e = .returned (.bool (decide (keyT xs n < keyT ys n))) ∧ Below w.heap.size w w' := by
  have Hx := Lib.hid hx
  have Hy := Lib.hid hy
  clear hx hy
  go_enter Try.func47, Try.ntmps47
  go_wp2
  go_loopw [5] (fun i wr => ∃ k : Nat, k ≤ n ∧ i = .int .i64 k ∧ eqTo xs ys k ∧ Below w.heap.size w wr ∧ Rd wr B A n xs ∧ Rd wr B' A' n ys) (fun i _ => n - (intOf i).toNat)
  case atStart => exact ⟨0, Nat.zero_le _, rfl, eqTo_zero, Below.refl _ _, h, h'⟩
  case round =>
    obtain ⟨k, hk, rfl, heq, hb, hr, hr'⟩ := hrel
    by_cases hlt : k < n
    · obtain ⟨b, off, rfl, hbB, hck⟩ := hr.at_ hlt
      obtain ⟨b', off', rfl, hbB', hck'⟩ := hr'.at_ hlt
      have hltI : (k : Int) < (n : Int) := by omega
      by_cases e : nth xs k = nth ys k
      · have hne : (nth xs k != nth ys k) = false := by simp [e]
        have He := Lib.hid e; clear e
        go_wp2
        go_quiet (fail)
        go_wp2
        go_roundw
        case rel => exact ⟨k + 1, by omega, by go_num, eqTo_succ heq He.out, below_drewN hb _, hr, hr'⟩
        case measure => simp [intOf]; omega
      · have hne : (nth xs k != nth ys k) = true := by simp [e]
        have He := Lib.hid (show decide (nth xs k < nth ys k) = decide (keyT xs n < keyT ys n) by
          rcases Int.lt_or_lt_of_ne e with q | q
          · rw [decide_eq_true q, decide_eq_true (keyT_lt Hx.out Hy.out heq hlt q)]
          · have := keyT_lt Hy.out Hx.out (fun j hj => (heq j hj).symm) hlt q
            rw [decide_eq_false (by omega), decide_eq_false (by omega)])
        clear e
        go_wp2
        go_quiet (fail)
        go_wp2
        go_quiet (fail)
        go_wp2
        go_ret
        exact ⟨by rw [← He.out]; rfl, below_drewN (below_drewN hb _) _⟩
    · obtain rfl : k = n := by omega
      have He := Lib.hid (show decide (keyT xs k < keyT ys k) = false by rw [keyT_to heq]; simp)
      go_wp2
      go_ret
      exact ⟨by rw [He.out]; rfl, hb⟩
end Go.Proofs.Ytlnmioijgclndaa
