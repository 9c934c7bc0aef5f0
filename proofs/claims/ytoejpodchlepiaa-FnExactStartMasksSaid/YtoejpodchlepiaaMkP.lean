import Derived.Test.YtoejpodchlepiaaPInD
set_option maxRecDepth 8000
namespace Go.Proofs.Ytoejpodchlepiaa
open Go.ChangeShapes Go.WideShapes Go.ChangeAt Go.RowKit
/-! marks written into a puzzle of the call's own: what they overwrite is not told, only what stays. -/
/-- only blocks from lo to hi may have changed. -/
structure Bt (lo hi : Nat) (w w' : World) : Prop where
  os : w'.os = w.os
  tape : w'.tape = w.tape
  output : w'.output = w.output
  size : w.heap.size ≤ w'.heap.size
  block : ∀ k, k < w.heap.size → (k < lo ∨ hi ≤ k) → w'.heap[k]? = w.heap[k]?
theorem Bt.refl (lo hi : Nat) (w : World) : Bt lo hi w w := ⟨rfl, rfl, rfl, Nat.le_refl _, fun _ _ _ => rfl⟩
theorem Bt.trans {lo hi : Nat} {w w' w'' : World} (h : Bt lo hi w w') (h' : Bt lo hi w' w'') : Bt lo hi w w'' :=
  ⟨h'.os.trans h.os, h'.tape.trans h.tape, h'.output.trans h.output, Nat.le_trans h.size h'.size, fun k hk ho => (h'.block k (Nat.lt_of_lt_of_le hk h.size) ho).trans (h.block k hk ho)⟩
theorem Bt.setCell {lo hi : Nat} {w w' : World} (h : Bt lo hi w w') {g j : Nat} (hg : lo ≤ g ∧ g < hi) (v : Value) : Bt lo hi w (w'.setCell ⟨g, j, none⟩ v) :=
  h.trans ⟨rfl, rfl, rfl, by simp, fun k _ ho => heap_setCell_other w' ⟨g, j, none⟩ k v (fun e => by have e2 : k = g := e; omega)⟩
theorem Bt.of_below {B lo hi : Nat} {w w' : World} (h : Below B w w') (hB : w.heap.size ≤ B) : Bt lo hi w w' := ⟨h.os, h.tape, h.output, h.size, fun k hk _ => h.block k (Nat.lt_of_lt_of_le hk hB)⟩
theorem Bt.below {lo hi B : Nat} {w w' : World} (h : Bt lo hi w w') (hB : B ≤ lo) (hw : B ≤ w.heap.size) : Below B w w' := ⟨h.os, h.tape, h.output, h.size, fun k hk => h.block k (Nat.lt_of_lt_of_le hk hw) (.inl (Nat.lt_of_lt_of_le hk hB))⟩
theorem ownsRow_bt {w w' : World} {lo n sz : Nat} {e : TypeId} {v : Value} {xs : List Value} (h : w.ownsRow lo e sz v n xs) (hk : ∀ g, v.ownBlock = some g → w'.heap[g]? = w.heap[g]?) : w'.ownsRow lo e sz v n xs := by
  refine ⟨h.1, ?_⟩
  rcases h.2 with h1 | ⟨g, cap, cur, hv, hlo, hg, h1⟩
  · exact .inl h1
  · exact .inr ⟨g, cap, cur, hv, hlo, (hk g (by rw [hv]; rfl)).trans hg, h1⟩
theorem Ow.bt {w w' : World} {lo hi lo' n c : Nat} {A : Option Addr} {xs : List Int} (h : Ow w lo' A n c xs) (hb : Bt lo hi w w') (hh : hi ≤ lo') : Ow w' lo' A n c xs :=
  ownsRow_bt h fun g hg => hb.block g (h.own_hi g hg) (.inr (Nat.le_trans hh (h.own_lo g hg)))
/-- n cells or more, in a block of numbers of the call's own. -/
def Blk (w : World) (lo hi : Nat) (A : Option Addr) (n : Nat) : Prop := 0 < n → ∃ g cs, A = some ⟨g, 0, none⟩ ∧ (lo ≤ g ∧ g < hi) ∧ w.heap[g]? = some (.cells cs 3) ∧ n ≤ cs.size
/-- rows keep their types and sizes. -/
def Sz (w w' : World) : Prop := ∀ (g : Nat) (cs : Array Value) (t : TypeId), w.heap[g]? = some (.cells cs t) → ∃ cs' : Array Value, w'.heap[g]? = some (.cells cs' t) ∧ cs'.size = cs.size ∧ (t ≠ 3 → cs' = cs)
def MkI (lo hi : Nat) (w w' : World) : Prop := Bt lo hi w w' ∧ Sz w w'
theorem MkI.refl (lo hi : Nat) (w : World) : MkI lo hi w w := ⟨Bt.refl _ _ _, fun _ cs _ h => ⟨cs, h, rfl, fun _ => rfl⟩⟩
theorem MkI.trans {lo hi : Nat} {w w' w'' : World} (h : MkI lo hi w w') (h' : MkI lo hi w' w'') : MkI lo hi w w'' := by
  refine ⟨h.1.trans h'.1, fun g cs t hg => ?_⟩
  obtain ⟨c1, h1, s1, e1⟩ := h.2 g cs t hg
  obtain ⟨c2, h2, s2, e2⟩ := h'.2 g c1 t h1
  exact ⟨c2, h2, s2.trans s1, fun ht => (e2 ht).trans (e1 ht)⟩
theorem MkI.set {lo hi g i : Nat} {w : World} {cs : Array Value} (hg : w.heap[g]? = some (.cells cs 3)) (hlo : lo ≤ g ∧ g < hi) (v : Value) : MkI lo hi w (w.setCell ⟨g, i, none⟩ v) := by
  refine ⟨(Bt.refl _ _ _).setCell hlo _, fun b c t hb => ?_⟩
  by_cases e : g = b
  · subst e
    rw [hg] at hb
    injection hb with hb
    injection hb with e1 e2 e3
    subst e1 e2
    exact ⟨_, heap_setCell_same w g i _ _ v hg, by simp, fun h => absurd rfl h⟩
  · exact ⟨c, (heap_setCell_other w ⟨g, i, none⟩ b v (fun e2 => e e2.symm)).trans hb, rfl, fun _ => rfl⟩
theorem Blk.keep {w w' : World} {lo hi n : Nat} {A : Option Addr} (h : Blk w lo hi A n) (hk : ∀ (g : Nat) (cs : Array Value), w.heap[g]? = some (.cells cs 3) → ∃ cs' : Array Value, w'.heap[g]? = some (.cells cs' 3) ∧ cs'.size = cs.size) : Blk w' lo hi A n := fun hn => by
  obtain ⟨g, cs, rfl, hlo, hg, hs⟩ := h hn
  obtain ⟨cs', hg', hs'⟩ := hk g cs hg
  exact ⟨g, cs', rfl, hlo, hg', by omega⟩
theorem Blk.mk_ {w w' : World} {lo hi n : Nat} {A : Option Addr} (h : Blk w lo hi A n) (hk : Sz w w') : Blk w' lo hi A n := h.keep fun g cs hg => by
  obtain ⟨c1, h1, s1, _⟩ := hk g cs _ hg
  exact ⟨c1, h1, s1⟩
theorem Ow.blk {w : World} {lo hi n c : Nat} {A : Option Addr} {xs : List Int} (h : Ow w lo A n c xs) (hh : w.heap.size ≤ hi) : Blk w lo hi A n := fun hn => by
  rcases h.2 with ⟨_, h0⟩ | ⟨g, cap, cur, hv, hlo, hg, h1, h2, h3, h4⟩
  · omega
  · injection hv with hA _ _
    subst hA
    have hl := congrArg List.length h4
    have hl1 := h.1
    simp only [List.length_take, Array.length_toList] at hl
    exact ⟨g, cur, rfl, ⟨hlo, Nat.lt_of_lt_of_le (Array.getElem?_eq_some_iff.1 hg).1 hh⟩, hg, by omega⟩
theorem markIntS_blk (A : Option Addr) (c n lo hi : Nat) (m : Int) (w : World) (h : Blk w lo hi A n) (hm : n ≤ 1099511627776) (h0 : 0 ≤ m) (h1 : m ≤ 4611686018427387904) :
    Calls Try.prog 44 #[.slice A n c, .int .i64 m] w fun e w' => e = .returned (.int .i64 (m + n)) ∧ MkI lo hi w w' := by
  go_enter Try.func44, Try.ntmps44
  go_wp2
  go_loopw [1, 5] (fun q i wr => ∃ k : Nat, k ≤ n ∧ i = .int .i64 k ∧ q = .int .i64 (m + k) ∧ MkI lo hi w wr) (fun _ i _ => n - (intOf i).toNat)
  case atStart => exact ⟨0, Nat.zero_le _, rfl, by simp, MkI.refl _ _ _⟩
  case round =>
    obtain ⟨k, hk, rfl, rfl, hmk⟩ := hrel
    by_cases hlt : k < n
    · obtain ⟨g, cs, rfl, hlo, hrow, hle⟩ := (h.mk_ hmk.2) (by omega)
      have hold : wr.cell? ⟨g, k, none⟩ = some (cs[k]'(by omega)) := by rw [cell_of_row wr g k cs _ (0, 0) hrow]; exact Array.getElem?_eq_getElem _
      have hfr := frozen_of_row wr g k _ _ hrow
      have Hst := Lib.hid (hmk.trans (MkI.set (i := k) hrow hlo (.int .i64 (m + k))))
      clear hrow
      go_wp2
      go_roundw
      case rel => exact ⟨k + 1, by omega, by go_num, by go_num, Hst.out⟩
      case measure => simp [intOf]; omega
    · obtain rfl : k = n := by omega
      go_wp2
      go_ret
      exact ⟨rfl, hmk⟩
/-- a row of rules of the call's own: each has its own cells, somewhere. -/
def RBlk (w : World) (lo hi g nr : Nat) (L : Nat → Nat) : Prop := ∃ cur : Array Value, w.heap[g]? = some (.cells cur 25) ∧ nr * 3 ≤ cur.size ∧ ∀ i, i < nr → ∃ A' c', cur[i * 3 + 1]? = some (.slice A' (L i) c') ∧ Blk w lo hi A' (L i)
theorem RBlk.mk_ {w w' : World} {lo hi g nr : Nat} {L : Nat → Nat} (h : RBlk w lo hi g nr L) (hk : Sz w w') : RBlk w' lo hi g nr L := by
  obtain ⟨cur, hg, hs, hin⟩ := h
  obtain ⟨c1, h1, s1, e1⟩ := hk g cur _ hg
  obtain rfl := e1 (by decide)
  exact ⟨_, h1, hs, fun i hi => by obtain ⟨A', c', e, hb⟩ := hin i hi; exact ⟨A', c', e, hb.mk_ hk⟩⟩
theorem RBlk.set {w : World} {lo hi g nr : Nat} {L : Nat → Nat} (h : RBlk w lo hi g nr L) (j : Nat) (v : Value) (hj : ∀ i, i * 3 + 1 ≠ j) : RBlk (w.setCell ⟨g, j, none⟩ v) lo hi g nr L := by
  obtain ⟨cur, hg, hs, hin⟩ := h
  refine ⟨_, heap_setCell_same w g j _ _ v hg, by simpa using hs, fun i hi => ?_⟩
  obtain ⟨A', c', e, hb⟩ := hin i hi
  refine ⟨A', c', by rw [Array.getElem?_setIfInBounds_ne (fun e2 => hj i e2.symm)]; exact e, hb.keep fun b cs hbc => ⟨cs, (heap_setCell_other w ⟨g, j, none⟩ b v (fun e2 => ?_)).trans hbc, rfl⟩⟩
  have e3 : g = b := e2.symm
  subst e3
  rw [hg] at hbc
  injection hbc with hbc
  injection hbc with _ h2 _
  exact absurd h2 (by decide)
theorem OwR.rblk {w : World} {lo hi g nr c : Nat} {rs : List RuleM} (h : OwR w lo (.slice (some ⟨g, 0, none⟩) nr c) rs nr) (hn : 0 < nr) (hh : w.heap.size ≤ hi) : RBlk w lo hi g nr (fun i => (rat rs i).xs.length) ∧ lo ≤ g ∧ g < hi := by
  obtain ⟨vs, hown, hin⟩ := h
  rcases hown.2 with ⟨_, h0⟩ | ⟨g', cap, cur, hv, hlo, hg, h1, h2, h3, h4⟩
  · omega
  · injection hv with hA _ _
    injection hA with hA
    injection hA with hA _ _
    subst hA
    have hl := congrArg List.length h4
    have hl1 := hown.1
    simp only [List.length_take, Array.length_toList] at hl
    refine ⟨⟨cur, hg, by omega, fun i hi => ?_⟩, hlo, Nat.lt_of_lt_of_le (Array.getElem?_eq_some_iff.1 hg).1 hh⟩
    obtain ⟨A', c', e0, e1, e2, e3, e4, e5⟩ := hin i hi
    rw [← h4, List.getElem?_take] at e1
    split at e1
    · exact ⟨A', c', by simpa using e1, e3.blk hh⟩
    · cases e1
theorem markRuleS_blk (A : Option Addr) (c nr lo hi : Nat) (L : Nat → Nat) (m : Int) (w : World) (h : 0 < nr → ∃ g, A = some ⟨g, 0, none⟩ ∧ (lo ≤ g ∧ g < hi) ∧ RBlk w lo hi g nr L) (hL : ∀ i, i < nr → L i ≤ 1048576) (hn : nr ≤ 1048576) (h0 : 0 ≤ m) (h1 : m ≤ 1099511627776) :
    Calls Try.prog 92 #[.slice A nr c, .int .i64 m] w fun e w' => (∃ q : Int, e = .returned (.int .i64 q) ∧ 0 ≤ q) ∧ Bt lo hi w w' := by
  have HL := Lib.hid hL
  go_enter Try.func92, Try.ntmps92
  go_wp2
  go_loopw [1, 5] (fun q i wr => ∃ (k : Nat) (x : Int), k ≤ nr ∧ i = .int .i64 k ∧ q = .int .i64 x ∧ 0 ≤ x ∧ x ≤ m + k * 1048578 ∧ Bt lo hi w wr ∧ (0 < nr → ∃ g, A = some ⟨g, 0, none⟩ ∧ (lo ≤ g ∧ g < hi) ∧ RBlk wr lo hi g nr L)) (fun _ i _ => nr - (intOf i).toNat)
  case atStart => exact ⟨0, m, Nat.zero_le _, rfl, rfl, h0, by omega, Bt.refl _ _ _, h⟩
  case round =>
    obtain ⟨k, x, hk, rfl, rfl, x0, x1, hb, hr⟩ := hrel
    by_cases hlt : k < nr
    · obtain ⟨g, rfl, hlo, hR⟩ := hr (by omega)
      obtain ⟨cur, hrow, hsz, hin⟩ := id hR
      obtain ⟨A', c', e1, hB⟩ := hin k hlt
      have hLk := HL.out k hlt
      have hx : x ≤ 4398046511104 := by omega
      have hc0 : wr.cell? ⟨g, k * 3, none⟩ = some (cur[k * 3]'(by omega)) := by rw [cell_of_row wr g _ cur _ (0, 0) hrow]; exact Array.getElem?_eq_getElem _
      have hc1 : wr.cell? ⟨g, k * 3 + 1, none⟩ = some (.slice A' (L k) c') := by rw [cell_of_row wr g _ cur _ (0, 0) hrow]; exact e1
      have hf0 := frozen_of_row wr g (k * 3) _ _ hrow
      have hR1 := hR.set (k * 3) (.int .i64 x) (by omega)
      obtain ⟨cur1, hrow1, hsz1, hin1⟩ := id hR1
      have hB1 : Blk (wr.setCell ⟨g, k * 3, none⟩ (.int .i64 x)) lo hi A' (L k) := by
        obtain ⟨A2, c2, e2, hB2⟩ := hin1 k hlt
        have e3 := heap_setCell_same wr g (k * 3) _ _ (.int .i64 x) hrow
        rw [hrow1] at e3
        injection e3 with e3
        injection e3 with e3 _ _
        subst e3
        rw [Array.getElem?_setIfInBounds_ne (by omega), e1] at e2
        injection e2 with e2
        injection e2 with e2 _ _
        subst e2
        exact hB2
      have HC := Lib.hid (markIntS_blk A' c' (L k) lo hi (x + 1) _ hB1 (by omega) (by omega) (by omega))
      have HbS := Lib.hid (fun j y (w' : World) (hb' : Bt lo hi w w') => (Bt.setCell (j := j) hb' hlo y))
      obtain ⟨l, hl⟩ : ∃ l, L k = l := ⟨_, rfl⟩
      rw [hl] at hc1 HC hLk
      have Hl := Lib.hid hl
      clear hrow hin hB e1 hin1 hrow1 hB1 hl
      go_wp2_with (go_at_call 44; refine HC.out.mono ?_; rintro e w5 ⟨rfl, hm5⟩; have hR5 := hR1.mk_ hm5.2; obtain ⟨cur5, hrow5, hsz5, hin5⟩ := id hR5; have hc5 : w5.cell? ⟨g, k * 3 + 2, none⟩ = some (cur5[k * 3 + 2]'(by omega)) := (by rw [cell_of_row w5 g _ cur5 _ (0, 0) hrow5]; exact Array.getElem?_eq_getElem _); have hf5 := frozen_of_row w5 g (k * 3 + 2) _ _ hrow5)
      go_roundw
      case rel => exact ⟨k + 1, x + 1 + l + 1, hlt, by go_num, by go_num, by omega, by omega, HbS.out _ _ _ ((HbS.out _ _ _ hb).trans hm5.1), fun _ => ⟨g, rfl, hlo, hR5.set _ _ (by omega)⟩⟩
      case measure => simp [intOf]; omega
    · obtain rfl : k = nr := by omega
      go_wp2
      go_ret
      exact ⟨⟨_, rfl, x0⟩, hb⟩
theorem markPuzzle_any (s : Int) (A1 : Option Addr) (n c1 g2 nr c2 lo hi : Nat) (gi : List Int) (rs : List RuleM) (m : Int) (w0 w : World) (ho : Ow w0 lo A1 n c1 gi) (hR : OwR w0 lo (.slice (some ⟨g2, 0, none⟩) nr c2) rs nr) (hh : w0.heap.size ≤ hi) (hb : Below w0.heap.size w0 w) (hn : n ≤ 1048576) (hnr : nr ≤ 1048576) (hL : ∀ i, i < nr → (rat rs i).xs.length ≤ 1048576) (h0 : 0 ≤ m) (h1 : m ≤ 1048576) :
    Calls Try.prog 43 #[.agg #[.int .i64 s, .slice A1 n c1, .slice (some ⟨g2, 0, none⟩) nr c2], .int .i64 m] w fun e w' => (∃ q : Int, e = .returned (.int .i64 q) ∧ 0 ≤ q) ∧ Bt lo hi w w' := by
  have hb0 : Below w.heap.size w (w.alloc (.cells #[.int .i64 s, .slice A1 n c1, .slice (some ⟨g2, 0, none⟩) nr c2] 48)) := (Below.refl _ _).alloc (Nat.le_refl _) _
  have hrow0 := heap_alloc_new w (.cells #[.int .i64 s, .slice A1 n c1, .slice (some ⟨g2, 0, none⟩) nr c2] 48)
  obtain ⟨W, hW⟩ : ∃ W, w.alloc (.cells #[.int .i64 s, .slice A1 n c1, .slice (some ⟨g2, 0, none⟩) nr c2] 48) = W := ⟨_, rfl⟩
  rw [hW] at hb0 hrow0
  obtain ⟨z0, z1, z2⟩ : PBox W w.heap.size s A1 n c1 (some ⟨g2, 0, none⟩) nr c2 := ⟨cell_of_row _ _ 0 _ _ (0, 0) hrow0, cell_of_row _ _ 1 _ _ (0, 0) hrow0, cell_of_row _ _ 2 _ _ (0, 0) hrow0⟩
  have hbW : Below w0.heap.size w0 W := step hb hb0
  have hkp : ∀ (g : Nat) (cs : Array Value), w0.heap[g]? = some (.cells cs 3) → ∃ cs' : Array Value, W.heap[g]? = some (.cells cs' 3) ∧ cs'.size = cs.size := fun g cs hg => ⟨cs, (hbW.block g (Array.getElem?_eq_some_iff.1 hg).1).trans hg, rfl⟩
  have hRW : 0 < nr → RBlk W lo hi g2 nr (fun i => (rat rs i).xs.length) ∧ (lo ≤ g2 ∧ g2 < hi) := fun hp => by
    obtain ⟨⟨cur, hg, hs, hin⟩, hl⟩ := hR.rblk hp hh
    exact ⟨⟨cur, (hbW.block g2 (Array.getElem?_eq_some_iff.1 hg).1).trans hg, hs, fun i hi' => by obtain ⟨A', c', e, hB⟩ := hin i hi'; exact ⟨A', c', e, hB.keep hkp⟩⟩, hl⟩
  have HI := Lib.hid (markIntS_blk A1 c1 n lo hi m W ((ho.blk hh).keep hkp) (by omega) h0 (by omega))
  have HRr := Lib.hid (fun (w' : World) (hs : Sz W w') (q : Int) (q0 : 0 ≤ q) (q1 : q ≤ 1099511627776) => markRuleS_blk (some ⟨g2, 0, none⟩) c2 nr lo hi (fun i => (rat rs i).xs.length) q w' (fun hp => ⟨g2, rfl, (hRW hp).2, (hRW hp).1.mk_ hs⟩) hL hnr q0 q1)
  have HB0 := Lib.hid (Bt.of_below (lo := lo) (hi := hi) hb0 (Nat.le_refl _))
  have HW := Lib.hid hW
  clear hW hRW hkp hbW
  go_enter Try.func43, Try.ntmps43
  go_wp2_with fail
  rw [HW.out]
  refine HI.out.mono ?_
  rintro e w1 ⟨rfl, hm1⟩
  obtain ⟨cs1, hrow1, _, e1⟩ := hm1.2 _ _ _ hrow0
  obtain rfl := e1 (by decide)
  obtain ⟨y0, y1, y2⟩ : PBox w1 w.heap.size s A1 n c1 (some ⟨g2, 0, none⟩) nr c2 := ⟨cell_of_row _ _ 0 _ _ (0, 0) hrow1, cell_of_row _ _ 1 _ _ (0, 0) hrow1, cell_of_row _ _ 2 _ _ (0, 0) hrow1⟩
  clear hrow1 hrow0
  have hb1 := HB0.out.trans hm1.1
  have HR1 := Lib.hid (HRr.out w1 hm1.2 (m + n) (by omega) (by omega))
  go_wp2_with (go_at_call 92; refine HR1.out.mono ?_; rintro e w2 ⟨⟨q, rfl, q0⟩, hb2⟩)
  go_ret
  exact ⟨⟨q, rfl, q0⟩, hb1.trans hb2⟩
end Go.Proofs.Ytoejpodchlepiaa
