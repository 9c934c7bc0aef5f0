import Derived.Test.YtkeoflnmbcdmfaaDoorXPInD
import Derived.Test.YtkeoflnmbcdmfaaDoorPz
import Derived.Deep.AppendLies
import Derived.Test.YtkeoflnmbcdmfaaDoorClash
import Derived.Deep.RegionLaw
import Derived.Test.YtkeoflnmbcdmfaaDoorR4P
import Derived.Test.YtkeoflnmbcdmfaaDoorSq
set_option maxRecDepth 8000
namespace Go.Proofs.YtkeoflnmbcdmfaaDoor
open Go.ChangeShapes Go.WideShapes Go.ChangeAt Go.RowKit
/-! marks written into a puzzle of the call's own: what they overwrite is not told, only what stays. -/
/-- only blocks from lo to hi may have changed. -/
structure Bt (lo hi : Nat) (w w' : World) : Prop where
  os : w'.os = w.os
  tape : w'.tape = w.tape
  output : w'.output = w.output
  size : w.heap.size ≤ w'.heap.size
  block : ∀ k, k < w.heap.size → (k < lo ∨ hi ≤ k) → w'.heap[k]? = w.heap[k]?
theorem Bt.refl (lo hi : Nat) (w : World) : Bt lo hi w w := ⟨rfl, rfl, rfl, Nat.le_refl _, fun _ _ _ => rfl⟩
theorem Bt.trans {lo hi : Nat} {w w' w'' : World} (h : Bt lo hi w w') (h' : Bt lo hi w' w'') : Bt lo hi w w'' :=
  ⟨h'.os.trans h.os, h'.tape.trans h.tape, h'.output.trans h.output, Nat.le_trans h.size h'.size, fun k hk ho => (h'.block k (Nat.lt_of_lt_of_le hk h.size) ho).trans (h.block k hk ho)⟩
theorem Bt.setCell {lo hi : Nat} {w w' : World} (h : Bt lo hi w w') {g j : Nat} (hg : lo ≤ g ∧ g < hi) (v : Value) : Bt lo hi w (w'.setCell ⟨g, j, none⟩ v) :=
  h.trans ⟨rfl, rfl, rfl, by simp, fun k _ ho => heap_setCell_other w' ⟨g, j, none⟩ k v (fun e => by have e2 : k = g := e; omega)⟩
theorem Bt.of_below {B lo hi : Nat} {w w' : World} (h : Below B w w') (hB : w.heap.size ≤ B) : Bt lo hi w w' := ⟨h.os, h.tape, h.output, h.size, fun k hk _ => h.block k (Nat.lt_of_lt_of_le hk hB)⟩
theorem Bt.below {lo hi B : Nat} {w w' : World} (h : Bt lo hi w w') (hB : B ≤ lo) (hw : B ≤ w.heap.size) : Below B w w' := ⟨h.os, h.tape, h.output, h.size, fun k hk => h.block k (Nat.lt_of_lt_of_le hk hw) (.inl (Nat.lt_of_lt_of_le hk hB))⟩
theorem ownsRow_bt {w w' : World} {lo n sz : Nat} {e : TypeId} {v : Value} {xs : List Value} (h : w.ownsRow lo e sz v n xs) (hk : ∀ g, v.ownBlock = some g → w'.heap[g]? = w.heap[g]?) : w'.ownsRow lo e sz v n xs := by
  refine ⟨h.1, ?_⟩
  rcases h.2 with h1 | ⟨g, cap, cur, hv, hlo, hg, h1⟩
  · exact .inl h1
  · exact .inr ⟨g, cap, cur, hv, hlo, (hk g (by rw [hv]; rfl)).trans hg, h1⟩
theorem Ow.bt {w w' : World} {lo hi lo' n c : Nat} {A : Option Addr} {xs : List Int} (h : Ow w lo' A n c xs) (hb : Bt lo hi w w') (hh : hi ≤ lo') : Ow w' lo' A n c xs :=
  ownsRow_bt h fun g hg => hb.block g (h.own_hi g hg) (.inr (Nat.le_trans hh (h.own_lo g hg)))
/-- n cells or more, in a block of numbers of the call's own. -/
def Blk (w : World) (lo hi : Nat) (A : Option Addr) (n : Nat) : Prop := 0 < n → ∃ g cs, A = some ⟨g, 0, none⟩ ∧ (lo ≤ g ∧ g < hi) ∧ w.heap[g]? = some (.cells cs 3) ∧ n ≤ cs.size
/-- rows keep their types and sizes. -/
def Sz (w w' : World) : Prop := ∀ (g : Nat) (cs : Array Value) (t : TypeId), w.heap[g]? = some (.cells cs t) → ∃ cs' : Array Value, w'.heap[g]? = some (.cells cs' t) ∧ cs'.size = cs.size ∧ (t ≠ 3 → cs' = cs)
def MkI (lo hi : Nat) (w w' : World) : Prop := Bt lo hi w w' ∧ Sz w w'
theorem MkI.refl (lo hi : Nat) (w : World) : MkI lo hi w w := ⟨Bt.refl _ _ _, fun _ cs _ h => ⟨cs, h, rfl, fun _ => rfl⟩⟩
theorem MkI.trans {lo hi : Nat} {w w' w'' : World} (h : MkI lo hi w w') (h' : MkI lo hi w' w'') : MkI lo hi w w'' := by
  refine ⟨h.1.trans h'.1, fun g cs t hg => ?_⟩
  obtain ⟨c1, h1, s1, e1⟩ := h.2 g cs t hg
  obtain ⟨c2, h2, s2, e2⟩ := h'.2 g c1 t h1
  exact ⟨c2, h2, s2.trans s1, fun ht => (e2 ht).trans (e1 ht)⟩
theorem MkI.set {lo hi g i : Nat} {w : World} {cs : Array Value} (hg : w.heap[g]? = some (.cells cs 3)) (hlo : lo ≤ g ∧ g < hi) (v : Value) : MkI lo hi w (w.setCell ⟨g, i, none⟩ v) := by
  refine ⟨(Bt.refl _ _ _).setCell hlo _, fun b c t hb => ?_⟩
  by_cases e : g = b
  · subst e
    rw [hg] at hb
    injection hb with hb
    injection hb with e1 e2 e3
    subst e1 e2
    exact ⟨_, heap_setCell_same w g i _ _ v hg, by simp, fun h => absurd rfl h⟩
  · exact ⟨c, (heap_setCell_other w ⟨g, i, none⟩ b v (fun e2 => e e2.symm)).trans hb, rfl, fun _ => rfl⟩
theorem Blk.keep {w w' : World} {lo hi n : Nat} {A : Option Addr} (h : Blk w lo hi A n) (hk : ∀ (g : Nat) (cs : Array Value), w.heap[g]? = some (.cells cs 3) → ∃ cs' : Array Value, w'.heap[g]? = some (.cells cs' 3) ∧ cs'.size = cs.size) : Blk w' lo hi A n := fun hn => by
  obtain ⟨g, cs, rfl, hlo, hg, hs⟩ := h hn
  obtain ⟨cs', hg', hs'⟩ := hk g cs hg
  exact ⟨g, cs', rfl, hlo, hg', by omega⟩
theorem Blk.mk_ {w w' : World} {lo hi n : Nat} {A : Option Addr} (h : Blk w lo hi A n) (hk : Sz w w') : Blk w' lo hi A n := h.keep fun g cs hg => by
  obtain ⟨c1, h1, s1, _⟩ := hk g cs _ hg
  exact ⟨c1, h1, s1⟩
theorem Ow.blk {w : World} {lo hi n c : Nat} {A : Option Addr} {xs : List Int} (h : Ow w lo A n c xs) (hh : w.heap.size ≤ hi) : Blk w lo hi A n := fun hn => by
  rcases h.2 with ⟨_, h0⟩ | ⟨g, cap, cur, hv, hlo, hg, h1, h2, h3, h4⟩
  · omega
  · injection hv with hA _ _
    subst hA
    have hl := congrArg List.length h4
    have hl1 := h.1
    simp only [List.length_take, Array.length_toList] at hl
    exact ⟨g, cur, rfl, ⟨hlo, Nat.lt_of_lt_of_le (Array.getElem?_eq_some_iff.1 hg).1 hh⟩, hg, by omega⟩
theorem markIntS_blk (A : Option Addr) (c n lo hi : Nat) (m : Int) (w : World) (h : Blk w lo hi A n) (hm : n ≤ 1099511627776) (h0 : 0 ≤ m) (h1 : m ≤ 4611686018427387904) :
    Calls Tryd.prog 72 #[.slice A n c, .int .i64 m] w fun e w' => e = .returned (.int .i64 (m + n)) ∧ MkI lo hi w w' := by
  go_enter Tryd.func72, Tryd.ntmps72
  go_wp2
  go_loopw [1, 5] (fun q i wr => ∃ k : Nat, k ≤ n ∧ i = .int .i64 k ∧ q = .int .i64 (m + k) ∧ MkI lo hi w wr) (fun _ i _ => n - (intOf i).toNat)
  case atStart => exact ⟨0, Nat.zero_le _, rfl, by simp, MkI.refl _ _ _⟩
  case round =>
    obtain ⟨k, hk, rfl, rfl, hmk⟩ := hrel
    by_cases hlt : k < n
    · obtain ⟨g, cs, rfl, hlo, hrow, hle⟩ := (h.mk_ hmk.2) (by omega)
      have hold : wr.cell? ⟨g, k, none⟩ = some (cs[k]'(by omega)) := by rw [cell_of_row wr g k cs _ (0, 0) hrow]; exact Array.getElem?_eq_getElem _
      have hfr := frozen_of_row wr g k _ _ hrow
      have Hst := Lib.hid (hmk.trans (MkI.set (i := k) hrow hlo (.int .i64 (m + k))))
      clear hrow
      go_wp2
      go_roundw
      case rel => exact ⟨k + 1, by omega, by go_num, by go_num, Hst.out⟩
      case measure => simp [intOf]; omega
    · obtain rfl : k = n := by omega
      go_wp2
      go_ret
      exact ⟨rfl, hmk⟩
/-- a row of rules of the call's own: each has its own cells, somewhere. -/
def RBlk (w : World) (lo hi g nr : Nat) (L : Nat → Nat) : Prop := ∃ cur : Array Value, w.heap[g]? = some (.cells cur 63) ∧ nr * 3 ≤ cur.size ∧ ∀ i, i < nr → ∃ A' c', cur[i * 3 + 1]? = some (.slice A' (L i) c') ∧ Blk w lo hi A' (L i)
theorem RBlk.mk_ {w w' : World} {lo hi g nr : Nat} {L : Nat → Nat} (h : RBlk w lo hi g nr L) (hk : Sz w w') : RBlk w' lo hi g nr L := by
  obtain ⟨cur, hg, hs, hin⟩ := h
  obtain ⟨c1, h1, s1, e1⟩ := hk g cur _ hg
  obtain rfl := e1 (by decide)
  exact ⟨_, h1, hs, fun i hi => by obtain ⟨A', c', e, hb⟩ := hin i hi; exact ⟨A', c', e, hb.mk_ hk⟩⟩
theorem RBlk.set {w : World} {lo hi g nr : Nat} {L : Nat → Nat} (h : RBlk w lo hi g nr L) (j : Nat) (v : Value) (hj : ∀ i, i * 3 + 1 ≠ j) : RBlk (w.setCell ⟨g, j, none⟩ v) lo hi g nr L := by
  obtain ⟨cur, hg, hs, hin⟩ := h
  refine ⟨_, heap_setCell_same w g j _ _ v hg, by simpa using hs, fun i hi => ?_⟩
  obtain ⟨A', c', e, hb⟩ := hin i hi
  refine ⟨A', c', by rw [Array.getElem?_setIfInBounds_ne (fun e2 => hj i e2.symm)]; exact e, hb.keep fun b cs hbc => ⟨cs, (heap_setCell_other w ⟨g, j, none⟩ b v (fun e2 => ?_)).trans hbc, rfl⟩⟩
  have e3 : g = b := e2.symm
  subst e3
  rw [hg] at hbc
  injection hbc with hbc
  injection hbc with _ h2 _
  exact absurd h2 (by decide)
theorem OwR.rblk {w : World} {lo hi g nr c : Nat} {rs : List RuleM} (h : OwR w lo (.slice (some ⟨g, 0, none⟩) nr c) rs nr) (hn : 0 < nr) (hh : w.heap.size ≤ hi) : RBlk w lo hi g nr (fun i => (rat rs i).xs.length) ∧ lo ≤ g ∧ g < hi := by
  obtain ⟨vs, hown, hin⟩ := h
  rcases hown.2 with ⟨_, h0⟩ | ⟨g', cap, cur, hv, hlo, hg, h1, h2, h3, h4⟩
  · omega
  · injection hv with hA _ _
    injection hA with hA
    injection hA with hA _ _
    subst hA
    have hl := congrArg List.length h4
    have hl1 := hown.1
    simp only [List.length_take, Array.length_toList] at hl
    refine ⟨⟨cur, hg, by omega, fun i hi => ?_⟩, hlo, Nat.lt_of_lt_of_le (Array.getElem?_eq_some_iff.1 hg).1 hh⟩
    obtain ⟨A', c', e0, e1, e2, e3, e4, e5⟩ := hin i hi
    rw [← h4, List.getElem?_take] at e1
    split at e1
    · exact ⟨A', c', by simpa using e1, e3.blk hh⟩
    · cases e1
theorem markRuleS_blk (A : Option Addr) (c nr lo hi : Nat) (L : Nat → Nat) (m : Int) (w : World) (h : 0 < nr → ∃ g, A = some ⟨g, 0, none⟩ ∧ (lo ≤ g ∧ g < hi) ∧ RBlk w lo hi g nr L) (hL : ∀ i, i < nr → L i ≤ 1048576) (hn : nr ≤ 1048576) (h0 : 0 ≤ m) (h1 : m ≤ 1099511627776) :
    Calls Tryd.prog 73 #[.slice A nr c, .int .i64 m] w fun e w' => (∃ q : Int, e = .returned (.int .i64 q) ∧ 0 ≤ q ∧ q ≤ 4398046511104) ∧ Bt lo hi w w' := by
  have HL := Lib.hid hL
  go_enter Tryd.func73, Tryd.ntmps73
  go_wp2
  go_loopw [1, 5] (fun q i wr => ∃ (k : Nat) (x : Int), k ≤ nr ∧ i = .int .i64 k ∧ q = .int .i64 x ∧ 0 ≤ x ∧ x ≤ m + k * 1048578 ∧ Bt lo hi w wr ∧ (0 < nr → ∃ g, A = some ⟨g, 0, none⟩ ∧ (lo ≤ g ∧ g < hi) ∧ RBlk wr lo hi g nr L)) (fun _ i _ => nr - (intOf i).toNat)
  case atStart => exact ⟨0, m, Nat.zero_le _, rfl, rfl, h0, by omega, Bt.refl _ _ _, h⟩
  case round =>
    obtain ⟨k, x, hk, rfl, rfl, x0, x1, hb, hr⟩ := hrel
    by_cases hlt : k < nr
    · obtain ⟨g, rfl, hlo, hR⟩ := hr (by omega)
      obtain ⟨cur, hrow, hsz, hin⟩ := id hR
      obtain ⟨A', c', e1, hB⟩ := hin k hlt
      have hLk := HL.out k hlt
      have hx : x ≤ 4398046511104 := by omega
      have hc0 : wr.cell? ⟨g, k * 3, none⟩ = some (cur[k * 3]'(by omega)) := by rw [cell_of_row wr g _ cur _ (0, 0) hrow]; exact Array.getElem?_eq_getElem _
      have hc1 : wr.cell? ⟨g, k * 3 + 1, none⟩ = some (.slice A' (L k) c') := by rw [cell_of_row wr g _ cur _ (0, 0) hrow]; exact e1
      have hf0 := frozen_of_row wr g (k * 3) _ _ hrow
      have hR1 := hR.set (k * 3) (.int .i64 x) (by omega)
      obtain ⟨cur1, hrow1, hsz1, hin1⟩ := id hR1
      have hB1 : Blk (wr.setCell ⟨g, k * 3, none⟩ (.int .i64 x)) lo hi A' (L k) := by
        obtain ⟨A2, c2, e2, hB2⟩ := hin1 k hlt
        have e3 := heap_setCell_same wr g (k * 3) _ _ (.int .i64 x) hrow
        rw [hrow1] at e3
        injection e3 with e3
        injection e3 with e3 _ _
        subst e3
        rw [Array.getElem?_setIfInBounds_ne (by omega), e1] at e2
        injection e2 with e2
        injection e2 with e2 _ _
        subst e2
        exact hB2
      have HC := Lib.hid (markIntS_blk A' c' (L k) lo hi (x + 1) _ hB1 (by omega) (by omega) (by omega))
      have HbS := Lib.hid (fun j y (w' : World) (hb' : Bt lo hi w w') => (Bt.setCell (j := j) hb' hlo y))
      obtain ⟨l, hl⟩ : ∃ l, L k = l := ⟨_, rfl⟩
      rw [hl] at hc1 HC hLk
      have Hl := Lib.hid hl
      clear hrow hin hB e1 hin1 hrow1 hB1 hl
      go_wp2_with (go_at_call 72; refine HC.out.mono ?_; rintro e w5 ⟨rfl, hm5⟩; have hR5 := hR1.mk_ hm5.2; obtain ⟨cur5, hrow5, hsz5, hin5⟩ := id hR5; have hc5 : w5.cell? ⟨g, k * 3 + 2, none⟩ = some (cur5[k * 3 + 2]'(by omega)) := (by rw [cell_of_row w5 g _ cur5 _ (0, 0) hrow5]; exact Array.getElem?_eq_getElem _); have hf5 := frozen_of_row w5 g (k * 3 + 2) _ _ hrow5)
      go_roundw
      case rel => exact ⟨k + 1, x + 1 + l + 1, hlt, by go_num, by go_num, by omega, by omega, HbS.out _ _ _ ((HbS.out _ _ _ hb).trans hm5.1), fun _ => ⟨g, rfl, hlo, hR5.set _ _ (by omega)⟩⟩
      case measure => simp [intOf]; omega
    · obtain rfl : k = nr := by omega
      go_wp2
      go_ret
      exact ⟨⟨_, rfl, x0, by omega⟩, hb⟩
theorem markPuzzle_any (s : Int) (A1 : Option Addr) (n c1 g2 nr c2 lo hi : Nat) (gi : List Int) (rs : List RuleM) (m : Int) (w0 w : World) (ho : Ow w0 lo A1 n c1 gi) (hR : OwR w0 lo (.slice (some ⟨g2, 0, none⟩) nr c2) rs nr) (hh : w0.heap.size ≤ hi) (hb : Below w0.heap.size w0 w) (hn : n ≤ 1048576) (hnr : nr ≤ 1048576) (hL : ∀ i, i < nr → (rat rs i).xs.length ≤ 1048576) (h0 : 0 ≤ m) (h1 : m ≤ 1048576) :
    Calls Tryd.prog 41 #[.agg #[.int .i64 s, .slice A1 n c1, .slice (some ⟨g2, 0, none⟩) nr c2], .int .i64 m] w fun e w' => (∃ q : Int, e = .returned (.int .i64 q) ∧ 0 ≤ q ∧ q ≤ 4398046511104) ∧ Bt lo hi w w' := by
  have hb0 : Below w.heap.size w (w.alloc (.cells #[.int .i64 s, .slice A1 n c1, .slice (some ⟨g2, 0, none⟩) nr c2] 26)) := (Below.refl _ _).alloc (Nat.le_refl _) _
  have hrow0 := heap_alloc_new w (.cells #[.int .i64 s, .slice A1 n c1, .slice (some ⟨g2, 0, none⟩) nr c2] 26)
  obtain ⟨W, hW⟩ : ∃ W, w.alloc (.cells #[.int .i64 s, .slice A1 n c1, .slice (some ⟨g2, 0, none⟩) nr c2] 26) = W := ⟨_, rfl⟩
  rw [hW] at hb0 hrow0
  obtain ⟨z0, z1, z2⟩ : PBox W w.heap.size s A1 n c1 (some ⟨g2, 0, none⟩) nr c2 := ⟨cell_of_row _ _ 0 _ _ (0, 0) hrow0, cell_of_row _ _ 1 _ _ (0, 0) hrow0, cell_of_row _ _ 2 _ _ (0, 0) hrow0⟩
  have hbW : Below w0.heap.size w0 W := step hb hb0
  have hkp : ∀ (g : Nat) (cs : Array Value), w0.heap[g]? = some (.cells cs 3) → ∃ cs' : Array Value, W.heap[g]? = some (.cells cs' 3) ∧ cs'.size = cs.size := fun g cs hg => ⟨cs, (hbW.block g (Array.getElem?_eq_some_iff.1 hg).1).trans hg, rfl⟩
  have hRW : 0 < nr → RBlk W lo hi g2 nr (fun i => (rat rs i).xs.length) ∧ (lo ≤ g2 ∧ g2 < hi) := fun hp => by
    obtain ⟨⟨cur, hg, hs, hin⟩, hl⟩ := hR.rblk hp hh
    exact ⟨⟨cur, (hbW.block g2 (Array.getElem?_eq_some_iff.1 hg).1).trans hg, hs, fun i hi' => by obtain ⟨A', c', e, hB⟩ := hin i hi'; exact ⟨A', c', e, hB.keep hkp⟩⟩, hl⟩
  have HI := Lib.hid (markIntS_blk A1 c1 n lo hi m W ((ho.blk hh).keep hkp) (by omega) h0 (by omega))
  have HRr := Lib.hid (fun (w' : World) (hs : Sz W w') (q : Int) (q0 : 0 ≤ q) (q1 : q ≤ 1099511627776) => markRuleS_blk (some ⟨g2, 0, none⟩) c2 nr lo hi (fun i => (rat rs i).xs.length) q w' (fun hp => ⟨g2, rfl, (hRW hp).2, (hRW hp).1.mk_ hs⟩) hL hnr q0 q1)
  have HB0 := Lib.hid (Bt.of_below (lo := lo) (hi := hi) hb0 (Nat.le_refl _))
  have HW := Lib.hid hW
  clear hW hRW hkp hbW
  go_enter Tryd.func41, Tryd.ntmps41
  go_wp2_with fail
  rw [HW.out]
  refine HI.out.mono ?_
  rintro e w1 ⟨rfl, hm1⟩
  obtain ⟨cs1, hrow1, _, e1⟩ := hm1.2 _ _ _ hrow0
  obtain rfl := e1 (by decide)
  obtain ⟨y0, y1, y2⟩ : PBox w1 w.heap.size s A1 n c1 (some ⟨g2, 0, none⟩) nr c2 := ⟨cell_of_row _ _ 0 _ _ (0, 0) hrow1, cell_of_row _ _ 1 _ _ (0, 0) hrow1, cell_of_row _ _ 2 _ _ (0, 0) hrow1⟩
  clear hrow1 hrow0
  have hb1 := HB0.out.trans hm1.1
  have HR1 := Lib.hid (HRr.out w1 hm1.2 (m + n) (by omega) (by omega))
  go_wp2_with (go_at_call 73; refine HR1.out.mono ?_; rintro e w2 ⟨⟨q, rfl, q0, q1⟩, hb2⟩)
  go_ret
  exact ⟨⟨q, rfl, q0, q1⟩, hb1.trans hb2⟩
end Go.Proofs.YtkeoflnmbcdmfaaDoor
set_option maxRecDepth 8000
namespace Go.Proofs.YtkeoflnmbcdmfaaDoor
open Go.ChangeShapes Go.WideShapes Go.ChangeAt Go.RowKit
/-! marks in a puzzle of the call's own, found again. -/
theorem OwRd.lower {w : World} {lo g n u : Nat} {rs : List RuleM} {Q : Nat → Prop} (h : OwRd w lo g n rs Q u) : OwRd w lo g n rs (fun b => Q b ∧ lo ≤ b) u := by
  obtain ⟨vs, a, b, c⟩ := h
  refine ⟨vs, a, fun i hi => ?_, c⟩
  obtain ⟨A', c', e0, e1, e2, e3, e4, e5⟩ := b i hi
  exact ⟨A', c', e0, e1, e2, e3, e4, fun x hx => ⟨(e5 x hx).1, (e5 x hx).2, e3.own_lo x hx⟩⟩
theorem OwRd.row_lo {w : World} {lo g n u : Nat} {rs : List RuleM} {Q : Nat → Prop} (h : OwRd w lo g n rs Q u) : lo ≤ g := by
  obtain ⟨vs, a, _⟩ := h
  exact (World.ownsRow.lt a g (by simp [Value.ownBlock])).1
/-- a block of ints that is none of the rules' cells may change. -/
theorem OwRd.apart {w w' : World} {lo g n u : Nat} {rs : List RuleM} {Q : Nat → Prop} {r : Option Nat} (h : OwRd w lo g n rs Q u) (hg : w.grownBy w' r) (hr : ∀ b, r = some b → ¬ Q b ∧ ∃ cs, w.heap[b]? = some (.cells cs 3)) : OwRd w' lo g n rs Q u := by
  obtain ⟨vs, a, b, c⟩ := h
  have hrow : ∀ x, r = some x → x ≠ g := fun x hx e => by
    obtain ⟨_, cs, hcs⟩ := hr x hx
    subst e
    rcases a.2 with ⟨h1, _⟩ | ⟨g', cap, cur, hv, _, hgr, _⟩
    · cases h1
    · injection hv with e1 _ _
      injection e1 with e1
      injection e1 with e1 _ _
      subst e1
      rw [hcs] at hgr
      injection hgr with hgr
      injection hgr with _ h2 _
      exact absurd h2 (by decide)
  refine ⟨vs, World.ownsRow.kept a hg ?_, fun i hi => ?_, c⟩
  · cases e : r with
    | none => exact .inr (by simp [Value.ownBlock])
    | some x => exact .inr (fun e2 => by simp [Value.ownBlock] at e2; exact hrow x e e2.symm)
  · obtain ⟨A', c', e0, e1, e2, e3, e4, e5⟩ := b i hi
    exact ⟨A', c', e0, e1, e2, Ow.far e3 hg (fun x hx e => (hr x e).1 (e5 x hx).2), e4, e5⟩
/-- a puzzle of the call's own whose blocks lie from lo to hi. -/
def OwnH (w : World) (lo hi : Nat) (A1 : Option Addr) (n c1 : Nat) (gi : List Int) (g nr : Nat) (rs : List RuleM) : Prop :=
  Ow w lo A1 n c1 gi ∧ (∀ b, (Value.slice A1 n c1).ownBlock = some b → b < hi) ∧ g < hi ∧ ∃ Q : Nat → Prop, OwRd w lo g nr rs Q nr ∧ (∀ b, Q b → b < hi) ∧ ∀ b, (Value.slice A1 n c1).ownBlock = some b → ¬ Q b
theorem OwnP.h {w : World} {lo n c1 g nr : Nat} {A1 : Option Addr} {gi : List Int} {rs : List RuleM} (h : OwnP w lo A1 n c1 gi g nr rs) : OwnH w lo w.heap.size A1 n c1 gi g nr rs := by
  obtain ⟨h1, Q, h2, h3, h4⟩ := h
  refine ⟨h1, h1.own_hi, ?_, Q, h2, h3, h4⟩
  obtain ⟨vs, a, _⟩ := h2
  exact (World.ownsRow.lt a g (by simp [Value.ownBlock])).2
theorem OwnH.below {w w' : World} {lo hi n c1 g nr : Nat} {A1 : Option Addr} {gi : List Int} {rs : List RuleM} (h : OwnH w lo hi A1 n c1 gi g nr rs) (hb : Below w.heap.size w w') : OwnH w' lo hi A1 n c1 gi g nr rs := by
  obtain ⟨h1, h1', h1'', Q, h2, h3, h4⟩ := h
  exact ⟨h1.below hb, h1', h1'', Q, h2.below hb, h3, h4⟩
theorem OwRd.bt {w w' : World} {lo lo' hi' g n u : Nat} {rs : List RuleM} {Q : Nat → Prop} (h : OwRd w lo g n rs Q u) (hb : Bt lo' hi' w w') (hh : hi' ≤ lo) : OwRd w' lo g n rs Q u := by
  obtain ⟨vs, a, b, c⟩ := h
  refine ⟨vs, ownsRow_bt a (fun x hx => hb.block x (World.ownsRow.lt a x hx).2 (.inr (Nat.le_trans hh (World.ownsRow.lt a x hx).1))), fun i hi => ?_, c⟩
  obtain ⟨A', c', e0, e1, e2, e3, e4, e5⟩ := b i hi
  exact ⟨A', c', e0, e1, e2, e3.bt hb hh, e4, e5⟩
theorem OwnH.bt {w w' : World} {lo hi lo' hi' n c1 g nr : Nat} {A1 : Option Addr} {gi : List Int} {rs : List RuleM} (h : OwnH w lo hi A1 n c1 gi g nr rs) (hb : Bt lo' hi' w w') (hh : hi' ≤ lo) : OwnH w' lo hi A1 n c1 gi g nr rs := by
  obtain ⟨h1, h1', h1'', Q, h2, h3, h4⟩ := h
  exact ⟨h1.bt hb hh, h1', h1'', Q, h2.bt hb hh, h3, h4⟩
theorem OwnH.rdrs {w : World} {lo hi n c1 g nr : Nat} {A1 : Option Addr} {gi : List Int} {rs : List RuleM} (h : OwnH w lo hi A1 n c1 gi g nr rs) (hl : rs.length = nr) : RdRs w w.heap.size (some ⟨g, 0, none⟩) nr rs := by
  obtain ⟨_, _, _, Q, h2, _⟩ := h
  exact OwR.rd hl h2.rp.full
/-- what the marks are: from 1 on, what is given first, then rule by rule. -/
def MkZ (w : World) (A1 : Option Addr) (n g nr : Nat) (rs : List RuleM) : Prop := Rd w w.heap.size A1 n (seqI 1 n) ∧ MkS w g nr rs (1 + n)
theorem MkZ.below {w w' : World} {A1 : Option Addr} {n g nr : Nat} {rs : List RuleM} (h : MkZ w A1 n g nr rs) (hb : Below w.heap.size w w') : MkZ w' A1 n g nr rs := ⟨(h.1.below hb).more hb.size, h.2.below hb⟩
theorem markRuleS_nil (w : World) : Calls Tryd.prog 73 #[.slice none 0 0, .int .i64 1] w fun e w' => e = .returned (.int .i64 1) ∧ w = w' := by
  go_enter Tryd.func73, Tryd.ntmps73
  go_wp2
  refine wp_loop_rounds 1 ?_
  rw [rounds_succ]
  go_wp2
  go_ret
  exact ⟨rfl, rfl⟩
theorem heldRuleS_nil (w : World) : Calls Tryd.prog 75 #[.slice none 0 0, .int .i64 1] w fun e w' => e = .returned (.int .i64 1) ∧ w = w' := by
  go_enter Tryd.func75, Tryd.ntmps75
  go_wp2
  refine wp_loop_rounds 1 ?_
  rw [rounds_succ]
  go_wp2
  go_ret
  exact ⟨rfl, rfl⟩
set_option maxHeartbeats 1000000 in
theorem markPuzzle_own (s : Int) (A1 : Option Addr) (n c1 g nr lo hi : Nat) (gi : List Int) (rs : List RuleM) (w : World) (h : OwnH w lo hi A1 n c1 gi g nr rs) (hn : n ≤ 1048576) (hnr : nr ≤ 1000) (hL : ∀ i, i < nr → (rat rs i).xs.length ≤ 1048576) :
    Calls Tryd.prog 41 #[.agg #[.int .i64 s, .slice A1 n c1, .slice (some ⟨g, 0, none⟩) nr nr], .int .i64 1] w fun e w' => e = .returned (.int .i64 (xN (1 + n) rs nr)) ∧ MkZ w' A1 n g nr rs ∧ Bt lo hi w w' := by
  obtain ⟨ho, hoh, hgh, Q, hrd, hQ, hsep⟩ := h
  have hb0 : Below w.heap.size w (w.alloc (.cells #[.int .i64 s, .slice A1 n c1, .slice (some ⟨g, 0, none⟩) nr nr] 26)) := (Below.refl _ _).alloc (Nat.le_refl _) _
  have hx0 := pbox_new w s A1 n c1 (some ⟨g, 0, none⟩) nr nr 26
  obtain ⟨W, hW⟩ : ∃ W, w.alloc (.cells #[.int .i64 s, .slice A1 n c1, .slice (some ⟨g, 0, none⟩) nr nr] 26) = W := ⟨_, rfl⟩
  have hsW : w.heap.size < W.heap.size := by rw [← hW]; simp
  rw [hW] at hb0 hx0
  have hoW := ho.below hb0
  have hrW := hrd.lower.below hb0
  have hlo2 : ∀ b, (Value.slice A1 n c1).ownBlock = some b → lo ≤ b ∧ b < w.heap.size := fun b hb => ⟨ho.own_lo b hb, ho.own_hi b hb⟩
  have HI := Lib.hid (markIntS_any A1 c1 n lo gi 1 W hoW (by omega) (by omega) (by omega))
  obtain ⟨z0, z1, z2⟩ := id hx0
  have HW := Lib.hid hW
  clear hW
  go_enter Tryd.func41, Tryd.ntmps41
  go_wp2_with fail
  rw [HW.out]
  refine HI.out.mono ?_
  rintro e w1 ⟨rfl, ho1, hg1⟩
  rw [marked_all] at ho1
  have hfar : ∀ i, w1.cell? ⟨w.heap.size, i, none⟩ = W.cell? ⟨w.heap.size, i, none⟩ := fun i => hg1.cell_far ⟨w.heap.size, i, none⟩ hsW (fun e => by have := (hlo2 w.heap.size e.symm).2; exact absurd this (Nat.lt_irrefl _))
  obtain ⟨y0, y1, y2⟩ : PBox w1 w.heap.size s A1 n c1 (some ⟨g, 0, none⟩) nr nr := ⟨(hfar 0).trans hx0.1, (hfar 1).trans hx0.2.1, (hfar 2).trans hx0.2.2⟩
  clear hfar
  have hr1 := hrW.apart hg1 (fun b hb => ⟨fun hq => hsep b hb hq.1, hoW.blk_int hb⟩)
  have HR := Lib.hid (markRuleS_own g nr lo rs (fun b => Q b ∧ lo ≤ b) (1 + n) w1 hr1 hL hnr (by omega) (by omega))
  clear z0 z1 z2
  go_wp2_with fail
  refine HR.out.mono ?_
  rintro e w2 ⟨rfl, ⟨cur, hM⟩, hch⟩
  go_wp2
  go_ret
  obtain ⟨cur0, h0⟩ := hr1.mk0 1
  refine ⟨rfl, ⟨?_, hM.mks⟩, ?_⟩
  · have h2 : Ow w2 lo A1 n c1 (seqI 1 n) := ownsRow_bt ho1 (fun b hb => hch.2.2.2.2 b (ho1.own_hi b hb) (fun e => ho1.not_rule h0.row b hb e) (fun hq => hsep b hb hq.1))
    exact h2.rd
  · have hB1 : Bt lo hi w W := Bt.of_below hb0 (Nat.le_refl _)
    have hB2 : Bt lo hi W w1 := ⟨hg1.os, hg1.tape, hg1.output, hg1.size, fun k hk ho' => hg1.block k hk (fun e => by have q1 := (hlo2 k e.symm).1; have q2 := hoh k e.symm; omega)⟩
    exact (hB1.trans hB2).trans ⟨hch.1, hch.2.1, hch.2.2.1, hch.2.2.2.1, fun k hk ho' => hch.2.2.2.2 k hk (fun e => by have := hr1.row_lo; omega) (fun hq => by have := hQ k hq.1; omega)⟩
set_option maxHeartbeats 1000000 in
theorem heldPuzzle_own (s : Int) (A1 : Option Addr) (n c1 g nr : Nat) (rs : List RuleM) (w : World) (h : MkZ w A1 n g nr rs) (hn : n ≤ 1048576) (hnr : nr ≤ 1000) (hL : ∀ i, i < nr → (rat rs i).xs.length ≤ 1048576) :
    Calls Tryd.prog 42 #[.agg #[.int .i64 s, .slice A1 n c1, .slice (some ⟨g, 0, none⟩) nr nr], .int .i64 1] w fun e w' => e = .returned (.int .i64 (xN (1 + n) rs nr)) ∧ Below w.heap.size w w' := by
  have hb0 : Below w.heap.size w (w.alloc (.cells #[.int .i64 s, .slice A1 n c1, .slice (some ⟨g, 0, none⟩) nr nr] 26)) := (Below.refl _ _).alloc (Nat.le_refl _) _
  have hx0 := pbox_new w s A1 n c1 (some ⟨g, 0, none⟩) nr nr 26
  obtain ⟨W, hW⟩ : ∃ W, w.alloc (.cells #[.int .i64 s, .slice A1 n c1, .slice (some ⟨g, 0, none⟩) nr nr] 26) = W := ⟨_, rfl⟩
  rw [hW] at hb0 hx0
  obtain ⟨h1, h2⟩ := h.below hb0
  have HI := Lib.hid (heldIntS_seq A1 c1 n W.heap.size 1 W h1 (by omega) (by omega) (by omega))
  have HR := Lib.hid (heldRuleS_own g nr rs (1 + n) W h2 hL hnr (by omega) (by omega))
  obtain ⟨b0, b1⟩ := xN_bd (m := 1 + (n : Int)) hL (by omega) (Nat.le_refl nr)
  obtain ⟨x, hx⟩ : ∃ x, x = xN (1 + n) rs nr := ⟨_, rfl⟩
  rw [← hx] at HR b0 b1
  rw [← hx]
  have hx1 : ¬ x < 0 := by omega
  have hn1 : ¬ ((1 : Int) + (n : Int) < 0) := by omega
  obtain ⟨z0, z1, z2⟩ := id hx0
  have HW := Lib.hid hW
  clear hW hx b1
  go_enter Tryd.func42, Tryd.ntmps42
  go_wp2_with fail
  rw [HW.out]
  refine HI.out.mono ?_
  rintro e w1 ⟨rfl, rfl⟩
  go_wp2_with (go_at_call 75; refine HR.out.mono ?_; rintro e w2 ⟨rfl, rfl⟩)
  go_ret
  exact ⟨rfl, hb0⟩
theorem eq_nil (w : World) : Calls Tryd.prog 26 #[.agg #[.int .i64 0, .slice none 0 0, .slice none 0 0], .agg #[.int .i64 0, .slice none 0 0, .slice none 0 0]] w fun e w' => e = .returned (.bool true) ∧ Below w.heap.size w w' :=
  eqPuzzle_any 0 none none 0 0 0 0 0 [] none none 0 0 0 0 0 [] w ⟨rfl, fun h => absurd h (by omega)⟩ (Nat.zero_le _) (by omega) ⟨rfl, fun h => absurd h (by omega)⟩ (Nat.zero_le _) ⟨rfl, fun h => absurd h (by omega)⟩ ⟨rfl, fun h => absurd h (by omega)⟩ (Nat.zero_le _) (Nat.zero_le _) (by omega)
theorem mark_nil (w : World) : Calls Tryd.prog 41 #[.agg #[.int .i64 0, .slice none 0 0, .slice none 0 0], .int .i64 1] w fun e w' => e = .returned (.int .i64 1) ∧ Below w.heap.size w w' := by
  have hb0 : Below w.heap.size w (w.alloc (.cells #[.int .i64 0, .slice none 0 0, .slice none 0 0] 26)) := (Below.refl _ _).alloc (Nat.le_refl _) _
  have hx0 := pbox_new w 0 none 0 0 none 0 0 26
  have hs0 : w.heap.size < (w.alloc (.cells #[.int .i64 0, .slice none 0 0, .slice none 0 0] 26)).heap.size := by simp
  have hm : Blk (w.alloc (.cells #[.int .i64 0, .slice none 0 0, .slice none 0 0] 26)) w.heap.size w.heap.size none 0 := fun h => absurd h (by omega)
  have HI := Lib.hid (markIntS_blk none 0 0 w.heap.size w.heap.size 1 _ hm (by omega) (by omega) (by omega))
  have HR := Lib.hid (fun w' => markRuleS_nil w')
  obtain ⟨z0, z1, z2⟩ := id hx0
  go_enter Tryd.func41, Tryd.ntmps41
  go_wp2_with fail
  refine HI.out.mono ?_
  rintro e w1 ⟨rfl, hm1⟩
  have hb1 : Below (w.alloc (.cells #[.int .i64 0, .slice none 0 0, .slice none 0 0] 26)).heap.size (w.alloc (.cells #[.int .i64 0, .slice none 0 0, .slice none 0 0] 26)) w1 := ⟨hm1.1.os, hm1.1.tape, hm1.1.output, hm1.1.size, fun k hk => hm1.1.block k hk (by omega)⟩
  obtain ⟨y0, y1, y2⟩ := hx0.below hs0 hb1
  clear z0 z1 z2
  go_wp2_with (go_at_call 73; refine (HR.out _).mono ?_; rintro e w2 ⟨rfl, rfl⟩)
  go_ret
  exact ⟨rfl, step hb0 hb1⟩
theorem held_nil (w : World) : Calls Tryd.prog 42 #[.agg #[.int .i64 0, .slice none 0 0, .slice none 0 0], .int .i64 1] w fun e w' => e = .returned (.int .i64 1) ∧ Below w.heap.size w w' := by
  have hb0 : Below w.heap.size w (w.alloc (.cells #[.int .i64 0, .slice none 0 0, .slice none 0 0] 26)) := (Below.refl _ _).alloc (Nat.le_refl _) _
  have hx0 := pbox_new w 0 none 0 0 none 0 0 26
  have HI := Lib.hid (fun w' => heldIntS_seq none 0 0 0 1 w' ⟨rfl, fun h => absurd h (by omega)⟩ (by omega) (by omega) (by omega))
  have HR := Lib.hid (fun w' => heldRuleS_nil w')
  obtain ⟨z0, z1, z2⟩ := id hx0
  go_enter Tryd.func42, Tryd.ntmps42
  go_wp2_with (first
    | (go_at_call 74; refine (HI.out _).mono ?_; rintro e w1 ⟨rfl, rfl⟩)
    | (go_at_call 75; refine (HR.out _).mono ?_; rintro e w2 ⟨rfl, rfl⟩))
  go_ret
  exact ⟨rfl, hb0⟩
end Go.Proofs.YtkeoflnmbcdmfaaDoor
set_option maxRecDepth 8000
namespace Go.Proofs.YtkeoflnmbcdmfaaDoor
open Go.ChangeShapes Go.WideShapes Go.ChangeAt Go.RowKit

theorem ints_info : (Tryd.prog.info? 23).map (fun i => (i.zero, i.size, i.bytes)) = some (some (.slice none 0 0), 1, 24) := by kernel_rfl
/-- a slice of slices of the call's own, n elements each; nothing of it lies in block P. -/
def Rows_ (w : World) (lo P : Nat) (v : Value) (Ls : List (List Int)) (n : Nat) : Prop :=
  ∃ A c vs, v = .slice A Ls.length c ∧ w.ownsRow lo 23 1 v Ls.length vs ∧ v.ownBlock ≠ some P ∧ ∀ i, i < Ls.length → ∃ A' c', vs[i]? = some (.slice A' n c') ∧ Ow w lo A' n c' (Ls.getD i []) ∧ ∀ g, (Value.slice A' n c').ownBlock = some g → v.ownBlock ≠ some g ∧ g ≠ P
/-- the variable that holds such a slice, in block P. -/
def Out_ (w : World) (P : Nat) (v : Value) : Prop := w.heap[P]? = some (.cells #[v] 51)
theorem Out_.cell {w : World} {P : Nat} {v : Value} (h : Out_ w P v) : w.cell? ⟨P, 0, none⟩ = some v := cell_of_row _ _ 0 _ _ (0, 0) h
theorem Out_.free {w : World} {P : Nat} {v : Value} (h : Out_ w P v) : w.frozen? ⟨P, 0, none⟩ = false := frozen_of_row w P 0 _ _ h
theorem Out_.lt {w : World} {P : Nat} {v : Value} (h : Out_ w P v) : P < w.heap.size := (Array.getElem?_eq_some_iff.1 h).1
/-- all but the variable's block and the block of what it held is as it was; what it holds lies where it lay, or in a block of its own. -/
def Chg5 (w w' : World) (P : Nat) (v v' : Value) : Prop := w'.os = w.os ∧ w'.tape = w.tape ∧ w'.output = w.output ∧ w.heap.size ≤ w'.heap.size ∧ (∀ k, k < w.heap.size → k ≠ P → v.ownBlock ≠ some k → w'.heap[k]? = w.heap[k]?) ∧ ∀ g, v'.ownBlock = some g → v.ownBlock = some g ∨ w.heap.size ≤ g
theorem Chg5.refl (w : World) (P : Nat) (v : Value) : Chg5 w w P v v := ⟨rfl, rfl, rfl, Nat.le_refl _, fun _ _ _ _ => rfl, fun _ h => .inl h⟩
theorem Chg5.trans {w w1 w2 : World} {P : Nat} {v v1 v2 : Value} (h : Chg5 w w1 P v v1) (h2 : Chg5 w1 w2 P v1 v2) : Chg5 w w2 P v v2 := by
  obtain ⟨a1, a2, a3, a4, a5, a6⟩ := h
  obtain ⟨b1, b2, b3, b4, b5, b6⟩ := h2
  refine ⟨b1.trans a1, b2.trans a2, b3.trans a3, Nat.le_trans a4 b4, fun k hk hP hv => ?_, fun g hg => ?_⟩
  · refine (b5 k (Nat.lt_of_lt_of_le hk a4) hP (fun e => ?_)).trans (a5 k hk hP hv)
    rcases a6 k e with h | h
    · exact hv h
    · omega
  · rcases b6 g hg with h | h
    · exact a6 g h
    · exact .inr (Nat.le_trans a4 h)
theorem Chg5.ofBelow {w w' : World} {P : Nat} {v : Value} (h : Below w.heap.size w w') : Chg5 w w' P v v := ⟨h.os, h.tape, h.output, h.size, fun k hk _ _ => h.block k hk, fun _ h => .inl h⟩
theorem Chg5.cell {w w' : World} {P : Nat} {v v' : Value} (h : Chg5 w w' P v v') {b i : Nat} (hb : b < w.heap.size) (hP : b ≠ P) (hv : v.ownBlock ≠ some b) : w'.cell? ⟨b, i, none⟩ = w.cell? ⟨b, i, none⟩ := World.cell?_of_block (a := ⟨b, i, none⟩) (h.2.2.2.2.1 b hb hP hv)
theorem Chg5.rd {w w' : World} {P : Nat} {v v' : Value} {B : Nat} {A : Option Addr} {n : Nat} {xs : List Int} (h : Rd w B A n xs) (hc : Chg5 w w' P v v') (hB : B ≤ w.heap.size) (hne : ∀ b off, A = some ⟨b, off, none⟩ → b ≠ P ∧ v.ownBlock ≠ some b) : Rd w' B A n xs :=
  ⟨h.1, fun hn => by
    obtain ⟨b, off, e, hlt, hk⟩ := h.2 hn
    exact ⟨b, off, e, hlt, fun k hkn => (hc.cell (by omega) (hne b off e).1 (hne b off e).2).trans (hk k hkn)⟩⟩

/-- the solutions that the search adds: f cells are left, from the cell p on. -/
def tryV (fit : List Int → Bool) (rec : List Int → List (List Int) → List (List Int)) (g : List Int) (p most : Nat) : Nat → Nat → List (List Int) → List (List Int)
  | 0, _, Ls => Ls
  | r + 1, v, Ls => if Ls.length < most then tryV fit rec g p most r (v + 1) (if fit (g.set p (v : Int)) = true then rec (g.set p (v : Int)) Ls else Ls) else Ls
def s5 (fit : List Int → Bool) (s most : Nat) : Nat → List Int → Nat → List (List Int) → List (List Int)
  | 0, g, _, Ls => Ls ++ [g]
  | f + 1, g, p, Ls => if 0 < nth g p then s5 fit s most f g (p + 1) Ls else tryV fit (fun g' L' => s5 fit s most f g' (p + 1) L') g p most s 1 Ls
end Go.Proofs.YtkeoflnmbcdmfaaDoor
namespace Go.Proofs.YtkeoflnmbcdmfaaDoor
open Go.ChangeShapes Go.WideShapes Go.ChangeAt Go.RowKit

theorem pickL_bd {L : List (List Int)} {l : Int} (h0 : 0 ≤ l) : 0 ≤ (pickL L l).2 ∧ (pickL L l).2 ≤ l := by
  by_cases h : l < L.length
  · obtain ⟨y, _, _, e⟩ := pickL_lt h0 h
    rw [e]; exact ⟨Int.le_refl _, h0⟩
  · rw [pickL_ge (by omega)]
    simp; omega
theorem srch_bd {size : Int} {f : Nat} {xs : List Int} {p : Nat} {l : Int} (h0 : 0 ≤ l) : 0 ≤ (srch size f xs p l).2 ∧ (srch size f xs p l).2 ≤ l := by
  rw [srch_sols size f xs p l h0]; exact pickL_bd h0

/-- block L is a variable that holds v. -/
def Box1 (w : World) (L : Nat) (v : Int) : Prop := w.heap[L]? = some (.cells #[.int .i64 v] 3 (0, 0))
theorem Box1.cell {w : World} {L : Nat} {v : Int} (h : Box1 w L v) : w.cell? ⟨L, 0, none⟩ = some (.int .i64 v) := cell_of_row _ _ 0 _ _ _ h
theorem Box1.free {w : World} {L : Nat} {v : Int} (h : Box1 w L v) : w.frozen? ⟨L, 0, none⟩ = false := frozen_of_row w L 0 _ _ h
theorem Box1.lt {w : World} {L : Nat} {v : Int} (h : Box1 w L v) : L < w.heap.size := cell_lt h.cell
theorem Box1.set_ {w : World} {L : Nat} {v : Int} (h : Box1 w L v) (u : Int) : Box1 (w.setCell ⟨L, 0, none⟩ (.int .i64 u)) L u ∧ w.grownBy (w.setCell ⟨L, 0, none⟩ (.int .i64 u)) (some L) :=
  ⟨heap_setCell_same w L 0 _ _ _ h, ⟨rfl, rfl, rfl, by simp [World.setCell], fun k _ hk => heap_setCell_other w ⟨L, 0, none⟩ k _ (fun e => hk (by rw [e]))⟩⟩
theorem Box1.below {w w' : World} {L : Nat} {v : Int} (h : Box1 w L v) (hb : Below w.heap.size w w') : Box1 w' L v := (hb.block L h.lt).trans h

def SrchPost (w : World) (n L : Nat) (r : Option (List Int) × Int) (e : Ending) (w' : World) : Prop :=
  w.grownBy w' (some L) ∧ Box1 w' L r.2 ∧
    match r.1 with
    | some y => ∃ A' c', e = .returned (.slice A' n c') ∧ Rd w' w'.heap.size A' n y
    | none => e = .returned (.slice none 0 0)
theorem okAll_set {xs : List Int} {size v : Int} {n p : Nat} (h : okAll xs size n) (hl : xs.length = n) (hp : p < n) (v0 : 0 ≤ v) (v1 : v ≤ size) : okAll (xs.set p v) size n := by
  intro k hk
  rw [nth_set (by omega)]
  split
  · exact ⟨v0, v1⟩
  · exact h k hk
theorem grown_below {w w' : World} {L B : Nat} (h : w.grownBy w' (some L)) (hL : B ≤ L) (hB : B ≤ w.heap.size) : Below B w w' := (Below.refl _ _).grown h hB (fun k hk => by cases hk; exact hL)
theorem below_grown {w w1 w2 : World} {L : Nat} (h : w.grownBy w1 (some L)) (hb : Below w1.heap.size w1 w2) : w.grownBy w2 (some L) :=
  ⟨hb.os.trans h.os, hb.tape.trans h.tape, hb.output.trans h.output, Nat.le_trans h.size hb.size, fun k hk hne => (hb.block k (Nat.lt_of_lt_of_le hk h.size)).trans (h.block k hk hne)⟩
theorem tryFrom_clash {rec : List Int → Int → Option (List Int) × Int} {xs : List Int} {size : Int} {p r v : Nat} {l : Int} (h : clash (xs.set p (v : Int)) size = true) : tryFrom rec xs size p (r + 1) v l = tryFrom rec xs size p r (v + 1) l := by
  rw [tryFrom, if_pos h]
theorem tryFrom_some {rec : List Int → Int → Option (List Int) × Int} {xs y : List Int} {size : Int} {p r v : Nat} {l l' : Int} (h : clash (xs.set p (v : Int)) size = false) (hr : rec (xs.set p (v : Int)) l = (some y, l')) : tryFrom rec xs size p (r + 1) v l = (some y, l') := by
  rw [tryFrom, if_neg (by simp [h]), hr]
theorem tryFrom_none {rec : List Int → Int → Option (List Int) × Int} {xs : List Int} {size : Int} {p r v : Nat} {l l' : Int} (h : clash (xs.set p (v : Int)) size = false) (hr : rec (xs.set p (v : Int)) l = (none, l')) : tryFrom rec xs size p (r + 1) v l = tryFrom rec xs size p r (v + 1) l' := by
  rw [tryFrom, if_neg (by simp [h]), hr]

theorem specSearch (size : Int) (n L : Nat) (h2 : 2 ≤ size) (h4 : size ≤ 4) (hn : Hid ((n : Int) = size * size)) (hn4 : 4 ≤ n) (hn16 : n ≤ 16) (f : Nat) : ∀ (A : Option Addr) (c B : Nat) (xs : List Int) (p : Nat) (left : Int) (w : World),
    p + f = n → Rd w B A n xs → B ≤ w.heap.size → (∀ b off, A = some ⟨b, off, none⟩ → b ≠ L) → Hid (okAll xs size n) → Box1 w L left → 0 ≤ left → left ≤ 9223372036854775807 →
    Calls Tryd.prog 124 #[.slice A n c, .int .i64 size, .int .i64 p, .pointer (some ⟨L, 0, none⟩)] w (SrchPost w n L (srch size f xs p left)) := by
  induction f with
  | zero =>
    intro A c B xs p left w hp hr hB hne hok hx l0 l1
    obtain rfl : p = n := by omega
    have hnn : ((p : Int) == (p : Int)) = true := by simp
    have hc := hx.cell
    have hf := hx.free
    by_cases h0 : left = 0
    · have hz : (left == 0) = true := by simp [h0]
      have hs := Lib.hid (show srch size 0 xs p left = (some xs, left) by rw [srch, if_pos h0])
      clear h0
      go_enter Tryd.func124, Tryd.ntmps124
      go_wp2
      go_ret
      rw [hs.out]
      exact ⟨World.grownBy.refl _ _, hx, A, c, rfl, hr.more hB⟩
    · have hz : (left == 0) = false := by simp [h0]
      have hs := Lib.hid (show srch size 0 xs p left = (none, left - 1) by rw [srch, if_neg h0])
      have hpos : 1 ≤ left := by omega
      clear h0
      go_enter Tryd.func124, Tryd.ntmps124
      go_wp2
      go_ret
      rw [hs.out]
      exact ⟨(hx.set_ _).2, (hx.set_ _).1, rfl⟩
  | succ f ih =>
    intro A c B xs p left w hp hr hB hne hok hx l0 l1
    have hlen := Lib.hid hr.1
    have hLlt := hx.lt
    have hpn : p < n := by omega
    obtain ⟨b, off, rfl, hb, hcp⟩ := hr.at_ hpn
    have hbL := hne b off rfl
    clear hne hcp
    have hpp : ((p : Int) == (n : Int)) = false := by simp; omega
    have Hp := Lib.hid (show (p + 1) + f = n by omega)
    clear hp
    have Ih := Lib.hid ih; clear ih
    have hsz : size.toNat = size := Int.toNat_of_nonneg (by omega)
    have Hsz := Lib.hid hsz; clear hsz
    have hS := Lib.hid (show srch size (f + 1) xs p left = tryFrom (fun ys l => srch size f ys (p + 1) l) xs size p size.toNat 1 left from rfl)
    go_enter Tryd.func124, Tryd.ntmps124
    go_wp2
    go_loopw [9] (fun i wr => ∃ (v : Nat) (l : Int), 1 ≤ v ∧ (v : Int) ≤ size + 1 ∧ i = .int .i64 v ∧ Hid (srch size (f + 1) xs p left = tryFrom (fun ys l => srch size f ys (p + 1) l) xs size p (size.toNat + 1 - v) v l) ∧ w.grownBy wr (some L) ∧ Box1 wr L l ∧ 0 ≤ l ∧ l ≤ 9223372036854775807) (fun i _ => (size + 1 - intOf i).toNat)
    case atStart => exact ⟨1, left, by omega, by omega, rfl, hS, World.grownBy.refl _ _, hx, l0, l1⟩
    case round =>
      obtain ⟨v, l, v1, v2, rfl, hS', hg, hx', l0', l1'⟩ := hrel
      by_cases hlt : (v : Int) ≤ size
      · have hr' : Rd wr B (some ⟨b, off, none⟩) n xs := by
          refine ⟨hr.1, fun hn0 => ?_⟩
          obtain ⟨b', off', he, hb', hcc⟩ := hr.2 hn0
          cases he
          exact ⟨b, off, rfl, hb, fun k hk => (World.cell?_of_block (a := ⟨b, off + k, none⟩) (hg.block b (by omega) (fun e => hbL (by injection e)))).trans (hcc k hk)⟩
        have hwr := hg.size
        go_wp2_with (at_builtin; refine push_some rfl (.tmp 32) (.tmp 33) rfl wr.heap.size (some ⟨wr.heap.size, 0, none⟩) 0 0 [] b off n c B xs rfl rfl (Ow.made0 _ _ (Nat.le_refl _)) (hr'.alloc (by omega) _) (by omega) (by omega) (by simp) ?_; intro A1 c1 w1 ho1 hg1; simp only [Nat.zero_add, List.nil_append] at ho1; obtain ⟨g, rfl, hlog, hgw⟩ := ho1.form (by omega); obtain ⟨hcq, hfq⟩ := ho1.cell hpn)
        have ho2 : Ow (w1.setCell ⟨g, p, none⟩ (.int .i64 v)) wr.heap.size (some ⟨g, 0, none⟩) n c1 (xs.set p (v : Int)) := by
          have := (World.ownsRow.stored ho1 p (.int .i64 (v : Int))).1
          rw [vals_set] at this
          exact this
        have hb2 : Below wr.heap.size wr (w1.setCell ⟨g, p, none⟩ (.int .i64 v)) := (((Below.refl _ _).alloc (Nat.le_refl _) _).grown hg1 (by simp) (fun k hk => (Ow.made0 wr wr.heap.size (Nat.le_refl _)).own_lo k hk)).setCell hlog _
        generalize w1.setCell ⟨g, p, none⟩ (.int .i64 (v : Int)) = W2 at *
        have hx2 := hx'.below hb2
        have hok2 := Lib.hid (okAll_set hok.out hlen.out hpn (by omega : (0 : Int) ≤ (v : Int)) hlt)
        have hgL : g ≠ L := by have := hx'.lt; omega
        have hr2 : size.toNat + 1 - v = (size.toNat - v) + 1 := by have := Hsz.out; omega
        have hr3 : size.toNat - v = size.toNat + 1 - (v + 1) := by have := Hsz.out; omega
        have HS : srch size (f + 1) xs p left = tryFrom (fun ys l => srch size f ys (p + 1) l) xs size p ((size.toNat - v) + 1) v l := by rw [← hr2]; exact hS'.out
        have HS' := Lib.hid HS
        have Hr3 := Lib.hid hr3
        have hne3 : ∀ b' off' : Nat, (some ⟨g, 0, none⟩ : Option Addr) = some ⟨b', off', none⟩ → b' ≠ L := fun b' off' he => by cases he; exact hgL
        clear HS hr2 hr3 hS' hS hcq hfq hg1 ho1
        cases hcl : clash (xs.set p (v : Int)) size
        · refine (specClash _ _ _ _ _ _ _ ho2.rd (Nat.le_refl _) h2 h4 hn hok2).mono ?_
          rintro e w3 ⟨rfl, hb3⟩
          rw [hcl]
          have ho3 := ho2.below hb3
          have hx3 := hx2.below hb3
          have hg3 : w.grownBy w3 (some L) := below_grown (below_grown hg hb2) hb3
          cases hrr : srch size f (xs.set p (v : Int)) (p + 1) l with
          | mk o l2 =>
            have Hrr := Lib.hid hrr
            obtain ⟨bd0, bd1⟩ : 0 ≤ l2 ∧ l2 ≤ l := by
              have hbd := srch_bd (size := size) (f := f) (xs := xs.set p (v : Int)) (p := p + 1) l0'
              rw [hrr] at hbd
              exact hbd
            clear hrr
            cases o with
            | none =>
              have Hn := Lib.hid (tryFrom_none (rec := fun ys l => srch size f ys (p + 1) l) (r := size.toNat - v) hcl Hrr.out)
              clear hcl
              go_wp2_with (go_at_call 124; rw [show ((p : Int) + 1) = ((p + 1 : Nat) : Int) from by omega]; refine (Ih.out _ _ _ _ _ _ _ Hp.out ho3.rd (Nat.le_refl _) hne3 hok2 hx3 l0' l1').mono ?_; rintro e w4 hpost; rw [Hrr.out] at hpost; obtain ⟨hg4, hx4, rfl⟩ := hpost)
              go_roundw
              case rel => exact ⟨v + 1, l2, by omega, by omega, by go_num, by rw [← Hr3.out]; exact HS'.out.trans Hn.out, hg3.trans hg4, hx4, bd0, by omega⟩
              case measure => simp [intOf]; omega
            | some y =>
              have Hn := Lib.hid (tryFrom_some (rec := fun ys l => srch size f ys (p + 1) l) (r := size.toNat - v) hcl Hrr.out)
              clear hcl
              go_wp2_with (go_at_call 124; rw [show ((p : Int) + 1) = ((p + 1 : Nat) : Int) from by omega]; refine (Ih.out _ _ _ _ _ _ _ Hp.out ho3.rd (Nat.le_refl _) hne3 hok2 hx3 l0' l1').mono ?_; rintro e w4 hpost; rw [Hrr.out] at hpost; obtain ⟨hg4, hx4, A4, c4, rfl, hr4⟩ := hpost)
              go_ret
              rw [HS'.out, Hn.out]
              exact ⟨hg3.trans hg4, hx4, A4, c4, rfl, hr4⟩
        · have Hn := Lib.hid (tryFrom_clash (rec := fun ys l => srch size f ys (p + 1) l) (r := size.toNat - v) (l := l) hcl)
          refine (specClash _ _ _ _ _ _ _ ho2.rd (Nat.le_refl _) h2 h4 hn hok2).mono ?_
          rintro e w3 ⟨rfl, hb3⟩
          rw [hcl]
          clear hcl
          go_wp2
          go_roundw
          case rel => exact ⟨v + 1, l, by omega, by omega, by go_num, by rw [← Hr3.out]; exact HS'.out.trans Hn.out, below_grown (below_grown hg hb2) hb3, hx2.below hb3, l0', l1'⟩
          case measure => simp [intOf]; omega
      · go_wp2
        go_ret
        have e : size.toNat + 1 - v = 0 := by have := Hsz.out; omega
        rw [hS'.out, e]
        exact ⟨hg, hx', rfl⟩
end Go.Proofs.YtkeoflnmbcdmfaaDoor
set_option maxRecDepth 8000
namespace Go.Proofs.YtkeoflnmbcdmfaaDoor
open Go.ChangeShapes Go.WideShapes Go.ChangeAt Go.RowKit

theorem rows_push {w W0 w3 w4 : World} {P lo n : Nat} {v : Value} {Ls : List (List Int)} {vs : List Value} {A1 : Option Addr} {c1 g' cap : Nat} {g : List Int} {o : Obj} (hb0 : Below w.heap.size w W0) (ho : Out_ w P v) (hown : w.ownsRow lo 23 1 v Ls.length vs)
    (hin : ∀ i, i < Ls.length → ∃ A' c', vs[i]? = some (.slice A' n c') ∧ Ow w lo A' n c' (Ls.getD i []) ∧ ∀ g, (Value.slice A' n c').ownBlock = some g → v.ownBlock ≠ some g ∧ g ≠ P) (hvP : v.ownBlock ≠ some P) (hlow : lo ≤ w.heap.size)
    (hbA : Below W0.heap.size W0 w3) (ho3 : Ow w3 W0.heap.size A1 n c1 g) (h4 : w4.ownsRow lo 23 1 (.slice (some ⟨g', 0, none⟩) (Ls.length + 1) cap) (Ls.length + 1) (vs ++ [.slice A1 n c1])) (hg4 : (w3.alloc o).grownBy w4 v.ownBlock) (hl4 : v.ownBlock = some g' ∨ g' = (w3.alloc o).heap.size) :
    Out_ (w4.setCell ⟨P, 0, none⟩ (.slice (some ⟨g', 0, none⟩) (Ls.length + 1) cap)) P (.slice (some ⟨g', 0, none⟩) (Ls.length + 1) cap) ∧ Rows_ (w4.setCell ⟨P, 0, none⟩ (.slice (some ⟨g', 0, none⟩) (Ls.length + 1) cap)) lo P (.slice (some ⟨g', 0, none⟩) (Ls.length + 1) cap) (Ls ++ [g]) n ∧ Chg5 w (w4.setCell ⟨P, 0, none⟩ (.slice (some ⟨g', 0, none⟩) (Ls.length + 1) cap)) P v (.slice (some ⟨g', 0, none⟩) (Ls.length + 1) cap) := by
  have hB3 : Below w.heap.size w w3 := hb0.trans (hbA.mono hb0.size)
  have hB4 : Below w.heap.size w (w3.alloc o) := hB3.alloc hB3.size o
  have hs0 := hb0.size
  have hs3 := hbA.size
  have hP := ho.lt
  have ho4 : Out_ w4 P v := (hg4.block P (by rw [World.size_alloc]; omega) (fun e => hvP e.symm)).trans ((hB4.block P hP).trans ho)
  have hg5 : w4.grownBy (w4.setCell ⟨P, 0, none⟩ (.slice (some ⟨g', 0, none⟩) (Ls.length + 1) cap)) (some P) := grown_set
  have hg'P : g' ≠ P := by
    rcases hl4 with h | h
    · exact fun e => hvP (by rw [h, e])
    · rw [World.size_alloc] at h; omega
  have hg'lo : lo ≤ g' ∧ g' < w4.heap.size := World.ownsRow.lt h4 g' (by simp [Value.ownBlock])
  refine ⟨?_, ⟨some ⟨g', 0, none⟩, cap, vs ++ [.slice A1 n c1], by rw [List.length_append]; rfl, ?_, by simp only [Value.ownBlock]; intro e; injection e with e; exact hg'P e, fun i hi => ?_⟩, ?_⟩
  · unfold Out_
    rw [heap_setCell_same w4 P 0 _ _ _ ho4]
    rfl
  · rw [List.length_append]
    exact World.ownsRow.kept h4 hg5 (by rw [show (Value.slice (some ⟨g', 0, none⟩) (Ls.length + 1) cap).ownBlock = some g' by simp [Value.ownBlock]]; exact .inr (fun e => by injection e with e; omega))
  · rw [List.length_append, List.length_singleton] at hi
    have hvl : vs.length = Ls.length := by have := hown.1; simpa using this
    by_cases hlt : i < Ls.length
    · obtain ⟨A', c', e1, e2, e3⟩ := hin i hlt
      refine ⟨A', c', by rw [List.getElem?_append_left (by omega)]; exact e1, ?_, fun b hb => ?_⟩
      · rw [show (Ls ++ [g]).getD i [] = Ls.getD i [] by simp [List.getD_eq_getElem?_getD, List.getElem?_append_left hlt]]
        exact ((e2.below hB4).far hg4 (fun b hb => (e3 b hb).1)).far hg5 (fun b hb e => by injection e with e; exact (e3 b hb).2 e.symm)
      · have h1 := e2.own_hi b hb
        rw [show (Value.slice (some ⟨g', 0, none⟩) (Ls.length + 1) cap).ownBlock = some g' by simp [Value.ownBlock]]
        refine ⟨fun e => ?_, (e3 b hb).2⟩
        injection e with e
        subst e
        rcases hl4 with h | h
        · exact (e3 g' hb).1 h
        · rw [World.size_alloc] at h; omega
    · obtain rfl : i = Ls.length := by omega
      refine ⟨A1, c1, by rw [← hvl, List.getElem?_append_right (Nat.le_refl _)]; simp, ?_, fun b hb => ?_⟩
      · rw [show (Ls ++ [g]).getD Ls.length [] = g by simp [List.getD_eq_getElem?_getD]]
        have e4 : Ow (w3.alloc o) W0.heap.size A1 n c1 g := World.ownsRow.alloc ho3 o
        exact ((e4.far hg4 (fun b hb e => by have h1 := ho3.own_lo b hb; have h2 := (World.ownsRow.lt hown b e).2; omega)).far hg5 (fun b hb e => by have := ho3.own_lo b hb; injection e with e; omega)).mono (by omega)
      · have h1 := ho3.own_hi b hb
        have h2 := ho3.own_lo b hb
        rw [show (Value.slice (some ⟨g', 0, none⟩) (Ls.length + 1) cap).ownBlock = some g' by simp [Value.ownBlock]]
        refine ⟨fun e => ?_, by omega⟩
        injection e with e
        subst e
        rcases hl4 with h | h
        · have := (World.ownsRow.lt hown g' h).2; omega
        · rw [World.size_alloc] at h; omega
  · refine ⟨?_, ?_, ?_, ?_, fun k hk hkP hkv => ?_, fun b hb => ?_⟩
    · exact hg5.os.trans (hg4.os.trans hB4.os)
    · exact hg5.tape.trans (hg4.tape.trans hB4.tape)
    · exact hg5.output.trans (hg4.output.trans hB4.output)
    · exact Nat.le_trans hB4.size (Nat.le_trans hg4.size hg5.size)
    · exact (hg5.block k (Nat.lt_of_lt_of_le hk (Nat.le_trans hB4.size hg4.size)) (fun e => hkP (by injection e))).trans ((hg4.block k (Nat.lt_of_lt_of_le hk hB4.size) (fun e => hkv e.symm)).trans (hB4.block k hk))
    · rw [show (Value.slice (some ⟨g', 0, none⟩) (Ls.length + 1) cap).ownBlock = some g' by simp [Value.ownBlock]] at hb
      injection hb with hb
      subst hb
      rcases hl4 with h | h
      · exact .inl h
      · exact .inr (by rw [World.size_alloc] at h; omega)
theorem Rows_.below {w w' : World} {lo P : Nat} {v : Value} {Ls : List (List Int)} {n : Nat} (h : Rows_ w lo P v Ls n) (hb : Below w.heap.size w w') : Rows_ w' lo P v Ls n := by
  obtain ⟨A, c, vs, e, hown, hvP, hin⟩ := h
  refine ⟨A, c, vs, e, World.ownsRow.kept hown (row := none) ⟨hb.os, hb.tape, hb.output, hb.size, fun k hk _ => hb.block k hk⟩ (by
    cases e : v.ownBlock
    · exact .inl rfl
    · exact .inr (by simp)), hvP, fun i hi => ?_⟩
  obtain ⟨A', c', e1, e2, e3⟩ := hin i hi
  exact ⟨A', c', e1, e2.below hb, e3⟩
theorem Rows_.own {w : World} {lo P : Nat} {v : Value} {Ls : List (List Int)} {n : Nat} (h : Rows_ w lo P v Ls n) : ∀ g, v.ownBlock = some g → lo ≤ g ∧ g < w.heap.size := by
  obtain ⟨A, c, vs, rfl, hown, hvP, hin⟩ := h
  exact World.ownsRow.lt hown
theorem Chg5.below {w w' : World} {P lo B : Nat} {v v' : Value} (h : Chg5 w w' P v v') (hv : ∀ g, v.ownBlock = some g → lo ≤ g) (hP : B ≤ P) (hlo : B ≤ lo) (hB : B ≤ w.heap.size) : Below B w w' :=
  ⟨h.1, h.2.1, h.2.2.1, h.2.2.2.1, fun k hk => h.2.2.2.2.1 k (Nat.lt_of_lt_of_le hk hB) (by omega) (fun e => by have := hv k e; omega)⟩
theorem Rd.rd' {w w' : World} {P : Nat} {v v' : Value} {B : Nat} {A : Option Addr} {n : Nat} {xs : List Int} (h : Rd w B A n xs) (hc : Chg5 w w' P v v') (hB : B ≤ w.heap.size) (hne : ∀ b off, A = some ⟨b, off, none⟩ → b ≠ P ∧ v.ownBlock ≠ some b) : Rd w' B A n xs := Chg5.rd h hc hB hne
theorem s5_len (fit : List Int → Bool) (s most : Nat) : ∀ f g p Ls, Ls.length < most → (s5 fit s most f g p Ls).length ≤ most := by
  intro f
  induction f with
  | zero => intro g p Ls h; simp only [s5, List.length_append, List.length_singleton]; omega
  | succ f ih =>
    intro g p Ls h
    have key : ∀ r v (Ls : List (List Int)), Ls.length ≤ most → (tryV fit (fun g' L' => s5 fit s most f g' (p + 1) L') g p most r v Ls).length ≤ most := by
      intro r
      induction r with
      | zero => intro v Ls h; exact h
      | succ r ihr =>
        intro v Ls h
        simp only [tryV]
        split
        · next h2 =>
          refine ihr _ _ ?_
          split
          · exact ih _ _ _ h2
          · exact h
        · exact h
    simp only [s5]
    split
    · exact ih _ _ _ h
    · exact key _ _ _ (Nat.le_of_lt h)
def Post5 (w : World) (P lo n : Nat) (v : Value) (Ls : List (List Int)) (e : Ending) (w' : World) : Prop := e = .returned (.tuple #[]) ∧ ∃ v', Out_ w' P v' ∧ Rows_ w' lo P v' Ls n ∧ Chg5 w w' P v v'
set_option maxHeartbeats 2000000 in
theorem specSearch5 (s : Nat) (Ag : Option Addr) (n cg Bg : Nat) (gi : List Int) (Ar : Option Addr) (nr cr Br : Nat) (rs : List RuleM) (hs : s ∈ [2, 3, 4]) (hn : Hid ((n : Int) = (s : Int) * s)) (hn16 : n ≤ 16) (P lo most : Nat) (hBg' : Bg ≤ lo) (hBr' : Br ≤ lo) (hlo : lo ≤ P) (hmr : nr ≤ 1099511627776) (hm : most ≤ 1000) (N : Nat) :
    ∀ (A : Option Addr) (c B : Nat) (g : List Int) (at_ : Nat) (v : Value) (Ls : List (List Int)) (w : World), n - at_ = N → at_ ≤ n → Rd w Bg Ag n gi → RdRs w Br Ar nr rs → Rd w B A n g → B ≤ w.heap.size → (∀ b off, A = some ⟨b, off, none⟩ → b ≠ P ∧ v.ownBlock ≠ some b) → Hid (okAll g s n) → Out_ w P v → Rows_ w lo P v Ls n → Ls.length < most → lo ≤ w.heap.size →
    Calls Tryd.prog 94 #[.agg #[.int .i64 s, .slice Ag n cg, .slice Ar nr cr], .slice A n c, .int .i64 at_, .int .i64 most, .pointer (some ⟨P, 0, none⟩)] w (Post5 w P lo n v (s5 (fitB s gi rs) s most (n - at_) g at_ Ls)) := by
  have hBg : Bg ≤ P := Nat.le_trans hBg' hlo
  have hBr : Br ≤ P := Nat.le_trans hBr' hlo
  induction N using Nat.strongRecOn with
  | _ N ih =>
    intro A c B g at_ v Ls w hN hat hgi hr h hB hne hok ho hrw hL hlow
    have Ih := Lib.hid ih; clear ih
    have HN := Lib.hid hN; clear hN
    obtain ⟨i0, hi, hz0, hz1, hz2⟩ := info_parts ints_info
    have hx0 := pbox_new w s Ag n cg Ar nr cr 26
    have hb0 : Below w.heap.size w (w.alloc (.cells #[.int .i64 s, .slice Ag n cg, .slice Ar nr cr] 26)) := (Below.refl _ _).alloc (Nat.le_refl _) _
    have hs0 : w.heap.size < (w.alloc (.cells #[.int .i64 s, .slice Ag n cg, .slice Ar nr cr] 26)).heap.size := by simp
    go_enter Tryd.func94, Tryd.ntmps94
    go_wp2
    obtain ⟨W0, hW0⟩ : ∃ W0, W0 = w.alloc (.cells #[.int .i64 s, .slice Ag n cg, .slice Ar nr cr] 26) := ⟨_, rfl⟩
    rw [← hW0] at hx0 hb0 hs0
    rw [← hW0]
    clear hW0
    have h0 := h.below (hb0.mono hB)
    go_loopw [2] (fun i wr => wr = W0 ∧ ∃ p : Nat, at_ ≤ p ∧ p ≤ n ∧ i = .int .i64 p ∧ Hid (s5 (fitB s gi rs) s most (n - at_) g at_ Ls = s5 (fitB s gi rs) s most (n - p) g p Ls)) (fun i _ => n - (intOf i).toNat)
    case atStart => exact ⟨rfl, at_, Nat.le_refl _, hat, rfl, Lib.hid rfl⟩
    case round =>
      obtain ⟨rfl, p, hp1, hp2, rfl, hsk⟩ := hrel
      by_cases hlt : p < n
      · obtain ⟨b, off, hA, hbB, hck⟩ := h0.at_ hlt
        subst hA
        obtain ⟨x0, x4⟩ := hok.out p hlt
        have hf : n - p = (n - (p + 1)) + 1 := by omega
        by_cases hx : 0 < nth g p
        · have hsk2 := Lib.hid (show s5 (fitB s gi rs) s most (n - at_) g at_ Ls = s5 (fitB s gi rs) s most (n - (p + 1)) g (p + 1) Ls by rw [hsk.out, hf]; simp only [s5]; rw [if_pos hx])
          clear hf
          go_wp2
          go_roundw
          case rel => exact ⟨by trivial, p + 1, by omega, by omega, by go_num, hsk2⟩
          case measure => simp [intOf]; omega
        · have hsk2 := Lib.hid (show s5 (fitB s gi rs) s most (n - at_) g at_ Ls = tryV (fitB s gi rs) (fun g' L' => s5 (fitB s gi rs) s most (n - (p + 1)) g' (p + 1) L') g p most s 1 Ls by rw [hsk.out, hf]; simp only [s5]; rw [if_neg hx])
          have hpn : ((p : Int) == (n : Int)) = false := by simp only [beq_eq_false_iff_ne]; omega
          have hgw := hgi.below (hb0.mono (Nat.le_trans hBg (Nat.le_of_lt ho.lt)))
          have hrw0 := hr.below (hb0.mono (Nat.le_trans hBr (Nat.le_of_lt ho.lt)))
          have hout0 : Out_ wr P v := (hb0.block P ho.lt).trans ho
          have hrows0 := hrw.below hb0
          have hPw := hout0.lt
          have hvo := hrw.own
          have hww := hb0.size
          have hvw : v.ownBlock ≠ some w.heap.size := fun e => by have := (hvo _ e).2; omega
          have hwP : w.heap.size ≠ P := by have := ho.lt; omega
          clear hf hsk
          go_wp2
          obtain ⟨W0, hW⟩ : ∃ W0, W0 = wr := ⟨_, rfl⟩
          rw [← hW]
          rw [← hW] at hx0 hb0 hs0 h0 hck hgw hrw0 hout0 hrows0 hPw hww
          clear hW
          go_loopw [10] (fun i wr => ∃ (q : Nat) (vv : Value) (L' : List (List Int)), 1 ≤ q ∧ q ≤ s + 1 ∧ i = .int .i64 q ∧ Hid (tryV (fitB s gi rs) (fun g' L' => s5 (fitB s gi rs) s most (n - (p + 1)) g' (p + 1) L') g p most s 1 Ls = tryV (fitB s gi rs) (fun g' L' => s5 (fitB s gi rs) s most (n - (p + 1)) g' (p + 1) L') g p most (s + 1 - q) q L') ∧ Out_ wr P vv ∧ Rows_ wr lo P vv L' n ∧ Chg5 W0 wr P v vv ∧ L'.length ≤ most) (fun i _ => s + 1 - (intOf i).toNat)
          case atStart => exact ⟨1, v, Ls, by omega, by omega, rfl, Lib.hid (by rw [Nat.add_sub_cancel]), hout0, hrows0, Chg5.refl _ _ _, Nat.le_of_lt hL⟩
          case round =>
            obtain ⟨q, vv, L', hq1, hq2, rfl, htv, hout, hrows, hchg, hLm⟩ := hrel
            have hoc := hout.cell
            obtain ⟨Ao, co, vs, rfl, hown, hvP2, hin⟩ := id hrows
            have b0 := (hchg.cell hs0 hwP hvw).trans hx0.1
            have b1 := (hchg.cell hs0 hwP hvw).trans hx0.2.1
            have b2 := (hchg.cell hs0 hwP hvw).trans hx0.2.2
            have hfin := (Chg5.ofBelow (P := P) (v := v) hb0).trans hchg
            have hsW := hchg.2.2.2.1
            by_cases hqs : q ≤ s
            · have hqs' : (q : Int) ≤ (s : Int) := by omega
              by_cases hlm : L'.length < most
              · have hlm' : (L'.length : Int) < (most : Int) := by omega
                have hneW : ∀ b' off', (some ⟨b, off, none⟩ : Option Addr) = some ⟨b', off', none⟩ → b' ≠ P ∧ v.ownBlock ≠ some b' := fun b' off' e => hne b' off' e
                have hBW : B ≤ W0.heap.size := Nat.le_trans hB hww
                have hr' : Rd wr B (some ⟨b, off, none⟩) n g := h0.rd' hchg hBW hneW
                have hbP : Below lo W0 wr := hchg.below (fun g hg => (hvo g hg).1) hlo (Nat.le_refl _) (by omega)
                have hgw2 := hgw.below (hbP.mono hBg')
                have hrw2 := hrw0.below (hbP.mono hBr')
                have hlowr : lo ≤ wr.heap.size := by omega
                have hwwr : w.heap.size < wr.heap.size := by omega
                go_wp2_with (at_builtin; (refine push_some rfl (.tmp 53) (.tmp 54) rfl wr.heap.size (some ⟨wr.heap.size, 0, none⟩) 0 0 [] b off n c B g rfl rfl (Ow.made0 _ _ (Nat.le_refl _)) (hr'.alloc (by omega) _) (by omega) (by omega) (by simp) ?_); (intro A1 c1 w1 ho1 hg1); (simp only [Nat.zero_add, List.nil_append] at ho1); (obtain ⟨gb, rfl, hlog, hgw1⟩ := ho1.form (by omega)); (obtain ⟨hcq, hfq⟩ := ho1.cell hlt); (have hbw1 : Below wr.heap.size wr w1 := ((Below.refl _ _).alloc (Nat.le_refl _) _).grown hg1 (by simp) (fun k hk => (Ow.made0 wr wr.heap.size (Nat.le_refl _)).own_lo k hk)); (have hgbw : w.heap.size ≠ gb := by omega); (have d0 := (cell_other5 (k := p) (v := .int .i64 (q : Int)) hgbw).trans ((hbw1.cell (p := ⟨w.heap.size, 0, none⟩) hwwr).trans b0)); (have d1 := (cell_other5 (k := p) (v := .int .i64 (q : Int)) hgbw).trans ((hbw1.cell (p := ⟨w.heap.size, 1, none⟩) hwwr).trans b1)); (have d2 := (cell_other5 (k := p) (v := .int .i64 (q : Int)) hgbw).trans ((hbw1.cell (p := ⟨w.heap.size, 2, none⟩) hwwr).trans b2)))
                have ho2 : Ow (w1.setCell ⟨gb, p, none⟩ (.int .i64 q)) wr.heap.size (some ⟨gb, 0, none⟩) n c1 (g.set p (q : Int)) := by
                  have := (World.ownsRow.stored ho1 p (.int .i64 (q : Int))).1
                  rw [vals_set] at this
                  exact this
                have hb2 : Below wr.heap.size wr (w1.setCell ⟨gb, p, none⟩ (.int .i64 q)) := (((Below.refl _ _).alloc (Nat.le_refl _) _).grown hg1 (by simp) (fun k hk => (Ow.made0 wr wr.heap.size (Nat.le_refl _)).own_lo k hk)).setCell hlog _
                generalize w1.setCell ⟨gb, p, none⟩ (.int .i64 (q : Int)) = W2 at *
                have hok2 := Lib.hid (okAll_set hok.out h.1 hlt (by omega : (0 : Int) ≤ (q : Int)) hqs')
                have hBP : P ≤ wr.heap.size := Nat.le_of_lt hout.lt
                have HF := Lib.hid (specFits s Ag n cg Bg gi Ar nr cr Br rs (some ⟨gb, 0, none⟩) c1 W2.heap.size (g.set p (q : Int)) W2 (hgw2.below (hb2.mono (Nat.le_trans hBg hBP))) (Nat.le_trans (Nat.le_trans hBg hBP) hb2.size) (hrw2.below (hb2.mono (Nat.le_trans hBr hBP))) (Nat.le_trans (Nat.le_trans hBr hBP) hb2.size) hmr ho2.rd (Nat.le_refl _) hs hn hok2)
                have hstep : s + 1 - q = (s - q) + 1 := by omega
                have hstep2 : s + 1 - (q + 1) = s - q := by omega
                have hs4 : s ≤ 4 := by simp at hs; omega
                have hPr := hout.lt
                have hlt2 := World.ownsRow.lt hown
                have hne3 : ∀ b' off' : Nat, (some ⟨gb, 0, none⟩ : Option Addr) = some ⟨b', off', none⟩ → b' ≠ P ∧ (Value.slice Ao L'.length co).ownBlock ≠ some b' := fun b' off' e => by
                  cases e
                  exact ⟨by omega, fun e => by have := (hlt2 _ e).2; omega⟩
                have hout2 : Out_ W2 P (.slice Ao L'.length co) := (hb2.block P hPr).trans hout
                have hrows2 : Rows_ W2 lo P (.slice Ao L'.length co) L' n := hrows.below hb2
                have hc2 : Chg5 W0 W2 P v (.slice Ao L'.length co) := hchg.trans (Chg5.ofBelow hb2)
                have hs2 := hb2.size
                clear hcq hfq hg1 ho1 hbw1 hoc hrows hout hown hin hfin hchg b0 b1 b2
                refine HF.out.mono ?_
                rintro e w3 ⟨rfl, hb3⟩
                have hs3 := hb3.size
                have hwW2 : w.heap.size < W2.heap.size := by omega
                have e0 := (hb3.cell (p := ⟨w.heap.size, 0, none⟩) hwW2).trans d0
                have e1 := (hb3.cell (p := ⟨w.heap.size, 1, none⟩) hwW2).trans d1
                have e2 := (hb3.cell (p := ⟨w.heap.size, 2, none⟩) hwW2).trans d2
                have hout3 : Out_ w3 P (.slice Ao L'.length co) := (hb3.block P hout2.lt).trans hout2
                have hrows3 := hrows2.below hb3
                have hc3 : Chg5 W0 w3 P v (.slice Ao L'.length co) := hc2.trans (Chg5.ofBelow hb3)
                have hg3 := (hgw2.below (hb2.mono (Nat.le_trans hBg hBP))).below (hb3.mono (Nat.le_trans (Nat.le_trans hBg hBP) hb2.size))
                have hr3 := (hrw2.below (hb2.mono (Nat.le_trans hBr hBP))).below (hb3.mono (Nat.le_trans (Nat.le_trans hBr hBP) hb2.size))
                have ho3 := ho2.below hb3
                clear hout2 hrows2 hc2 hgw2 hrw2 ho2 d0 d1 d2
                cases hft : fitB s gi rs (g.set p (q : Int))
                · have Hn := Lib.hid (show tryV (fitB s gi rs) (fun g' L' => s5 (fitB s gi rs) s most (n - (p + 1)) g' (p + 1) L') g p most (s + 1 - q) q L' = tryV (fitB s gi rs) (fun g' L' => s5 (fitB s gi rs) s most (n - (p + 1)) g' (p + 1) L') g p most (s + 1 - (q + 1)) (q + 1) L' by rw [hstep, hstep2]; simp only [tryV]; rw [if_pos hlm, hft]; rfl)
                  have Ht := Lib.hid (htv.out.trans Hn.out)
                  clear hstep hstep2 hft Hn
                  go_wp2
                  go_roundw
                  case rel => exact ⟨q + 1, _, L', by omega, by omega, by go_num, Ht, hout3, hrows3, hc3, hLm⟩
                  case measure => simp [intOf]; omega
                · have Hn := Lib.hid (show tryV (fitB s gi rs) (fun g' L' => s5 (fitB s gi rs) s most (n - (p + 1)) g' (p + 1) L') g p most (s + 1 - q) q L' = tryV (fitB s gi rs) (fun g' L' => s5 (fitB s gi rs) s most (n - (p + 1)) g' (p + 1) L') g p most (s + 1 - (q + 1)) (q + 1) (s5 (fitB s gi rs) s most (n - (p + 1)) (g.set p (q : Int)) (p + 1) L') by rw [hstep, hstep2]; simp only [tryV]; rw [if_pos hlm, hft]; rfl)
                  have Ht := Lib.hid (htv.out.trans Hn.out)
                  have Hl := Lib.hid (s5_len (fitB s gi rs) s most (n - (p + 1)) (g.set p (q : Int)) (p + 1) L' hlm)
                  have Hm := Lib.hid (show n - (p + 1) < N by have := HN.out; omega)
                  have hp1n : p + 1 ≤ n := hlt
                  have hlow3 : lo ≤ w3.heap.size := by omega
                  clear hstep hstep2 hft Hn
                  go_wp2_with (go_at_call 94; (rw [show ((p : Int) + 1) = ((p + 1 : Nat) : Int) from by omega]); (refine (Ih.out _ Hm.out _ _ _ _ _ _ _ _ rfl hp1n hg3 hr3 ho3.rd (Nat.le_refl _) hne3 hok2 hout3 hrows3 hlm hlow3).mono ?_); rintro e w4 ⟨rfl, v4, hout4, hrows4, hchg4⟩)
                  go_roundw
                  case rel => exact ⟨q + 1, _, _, by omega, by omega, by go_num, Ht, hout4, hrows4, hc3.trans hchg4, Hl.out⟩
                  case measure => simp [intOf]; omega
              · have hlm' : decide ((L'.length : Int) < (most : Int)) = false := by simp; omega
                have HL := Lib.hid (show s5 (fitB s gi rs) s most (n - at_) g at_ Ls = L' by rw [hsk2.out, htv.out, show s + 1 - q = (s - q) + 1 by omega]; simp only [tryV]; rw [if_neg hlm])
                go_wp2
                (try simp only [Exit.inBlock, Exit.then])
                refine bodyPost_ret (results_none rfl _ _ _) rfl ?_
                rw [HL.out]
                exact ⟨rfl, _, hout, hrows, hfin⟩
            · have hqs' : decide ((q : Int) ≤ (s : Int)) = false := by simp; omega
              have HL := Lib.hid (show s5 (fitB s gi rs) s most (n - at_) g at_ Ls = L' by rw [hsk2.out, htv.out, show s + 1 - q = 0 by omega]; rfl)
              go_wp2
              (try simp only [Exit.inBlock, Exit.then])
              refine bodyPost_ret (results_none rfl _ _ _) rfl ?_
              rw [HL.out]
              exact ⟨rfl, _, hout, hrows, hfin⟩
      · obtain rfl : p = n := by omega
        obtain ⟨Ao, co, vs, rfl, hown, hvP, hin⟩ := id hrw
        have ho1 : Out_ wr P (.slice Ao Ls.length co) := (hb0.block P ho.lt).trans ho
        have hoc := ho1.cell
        have hof := ho1.free
        have HR := Lib.hid (fun w' (hb : Below wr.heap.size wr w') => h0.below (hb.mono (Nat.le_trans hB hb0.size)))
        have hown0 : wr.ownsRow lo 23 1 (.slice Ao Ls.length co) Ls.length vs := World.ownsRow.kept hown (row := none) ⟨hb0.os, hb0.tape, hb0.output, hb0.size, fun k hk _ => hb0.block k hk⟩ (by
          cases e : (Value.slice Ao Ls.length co).ownBlock
          · exact .inl rfl
          · exact .inr (by simp))
        have HO : Hid (∀ w', Below wr.heap.size wr w' → w'.ownsRow lo 23 1 (.slice Ao Ls.length co) Ls.length vs) := Lib.hid (fun w' hb => World.ownsRow.kept hown0 (row := none) ⟨hb.os, hb.tape, hb.output, hb.size, fun k hk _ => hb.block k hk⟩ (by
          cases e : (Value.slice Ao Ls.length co).ownBlock
          · exact .inl rfl
          · exact .inr (by simp)))
        have hPw := ho1.lt
        have hlow' : lo ≤ wr.heap.size := by omega
        have HL := Lib.hid (show s5 (fitB s gi rs) s most (p - at_) g at_ Ls = Ls ++ [g] by rw [hsk.out, Nat.sub_self]; rfl)
        have hpp : ((p : Int) == (p : Int)) = true := by simp
        go_wp2
        go_region_law (first
          | (refine step_push_new (by rfl) _ _ (by rfl) wr.heap.size (some ⟨wr.heap.size, 0, none⟩) A p c B g (by rfl) (by rfl) (Ow.made0 _ _ (Nat.le_refl _)) (HR.out _ (below_d1 _ _)) (by omega) (below_d1 _ _).size ?_; intro A1 c1 w3 ho3 hg3 hl3; have hbA : Below wr.heap.size wr w3 := below_push (below_d1 _ _) (Ow.made0 _ _ (Nat.le_refl _)) (Nat.le_refl _) (below_d1 _ _).size hg3; have hoc3 := (hbA.cell (p := ⟨P, 0, none⟩) hPw).trans hoc; have hP3 := Nat.lt_of_lt_of_le hPw hbA.size)
          | (refine step_append_lies _ (by rfl) _ _ 51 (by rfl) lo 23 i0 (.slice none 0 0) 1 24 Tryd.underlying51 hi hz0 hz1 hz2 (by rfl) (by decide) (.slice Ao Ls.length co) Ls.length vs (by rfl) (HO.out _ (hbA.alloc hbA.size _)) ⟨w3.heap.size, 0, none⟩ 1 1 [.slice A1 p c1] (by rfl) (by rfl) (World.news_of_block (cs := #[.slice A1 p c1]) (t := 23) (fr := (0, 0)) (heap_alloc_new w3 _)) (by simp [Value.oneCell']) (by decide) (by simp only [maxLen]; omega) (by omega) (Nat.le_trans hlow' (hbA.alloc hbA.size _).size) _ rfl ?_; intro g' cap w4 h4 hg4 hl4 hlt4; have ho4 : Out_ w4 P (.slice Ao Ls.length co) := (hg4.block P (Nat.lt_of_lt_of_le hPw (hbA.alloc hbA.size _).size) (fun e => hvP e.symm)).trans (((hbA.alloc hbA.size _).block P hPw).trans ho1); have hoc4 := ho4.cell; have hof4 := ho4.free))
        all_goals
          go_wp2
          (try simp only [Exit.inBlock, Exit.then])
          refine bodyPost_ret (results_none rfl _ _ _) rfl ?_
          rw [HL.out]
          obtain ⟨q1, q2, q3⟩ := rows_push hb0 ho hown hin hvP hlow hbA ho3 h4 hg4 hl4
          exact ⟨rfl, _, q1, q2, q3⟩
end Go.Proofs.YtkeoflnmbcdmfaaDoor
set_option maxRecDepth 8000
namespace Go.Proofs.YtkeoflnmbcdmfaaDoor
open Go.ChangeShapes Go.WideShapes Go.ChangeAt Go.RowKit

/-- the first solutions, at most so many. -/
def allS (s : Int) (most n : Nat) (gi : List Int) (rs : List RuleM) : List (List Int) := if fpB s gi rs gi = true then s5 (fitB s gi rs) s.toNat most n gi 0 [] else []
theorem allS_len (s : Int) (most n : Nat) (gi : List Int) (rs : List RuleM) (h : 0 < most) : (allS s most n gi rs).length ≤ most := by
  unfold allS
  split
  · exact s5_len _ _ _ _ _ _ _ (by simpa using h)
  · exact Nat.zero_le _
/-- what a valid puzzle's own grid is. -/
theorem pv_grid {s : Int} {gi : List Int} {rs : List RuleM} {ng : Nat} (h : pvB s gi rs = true) (hl : gi.length = ng) : ∃ t : Nat, s = t ∧ t ∈ [2, 3, 4] ∧ (ng : Int) = (t : Int) * t ∧ ng ≤ 16 ∧ okAll gi t ng := by
  obtain ⟨hgi, _, _⟩ := pv_gv h
  obtain ⟨s2, s4⟩ := gv_size hgi
  obtain ⟨t, rfl⟩ := Int.eq_ofNat_of_zero_le (by omega : 0 ≤ s)
  have hs : t ∈ [2, 3, 4] := by
    have : t = 2 ∨ t = 3 ∨ t = 4 := by omega
    simpa using this
  have e1 := gv_len hgi
  rw [hl] at e1
  refine ⟨t, rfl, hs, e1, by have := (sq_bd s2 s4).2; omega, fun i hi => gv_nth hgi (by rw [hl]; exact hi)⟩
set_option maxHeartbeats 2000000 in
theorem specAll (s : Int) (most : Nat) (Ag : Option Addr) (n cg Bg : Nat) (gi : List Int) (Ar : Option Addr) (nr cr Br : Nat) (rs : List RuleM) (w : World) (hp : PGs w s Ag n cg Bg gi Ar nr cr Br rs) (h0 : 0 < most) (h1 : most ≤ 1000) :
    Calls Tryd.prog 51 #[.agg #[.int .i64 s, .slice Ag n cg, .slice Ar nr cr], .int .i64 most] w fun e w' => ∃ P v, e = .returned v ∧ Rows_ w' (w.heap.size + 1) P v (allS s most n gi rs) n ∧ Below w.heap.size w w' := by
  have hx0 := pbox_new w s Ag n cg Ar nr cr 26
  have hb0 : Below w.heap.size w (w.alloc (.cells #[.int .i64 s, .slice Ag n cg, .slice Ar nr cr] 26)) := (Below.refl _ _).alloc (Nat.le_refl _) _
  have hs0 : w.heap.size < (w.alloc (.cells #[.int .i64 s, .slice Ag n cg, .slice Ar nr cr] 26)).heap.size := by simp
  have HF := Lib.hid (fun w' (hb : Below w.heap.size w w') => specPuzzleFits s Ag n cg Bg gi Ar nr cr Br rs Ag n cg Bg gi w' (hp.below hb) (hp.below hb).g (hp.below hb).gB hp.gm)
  obtain ⟨U, hU⟩ : ∃ U, U = ((w.alloc (.cells #[.int .i64 s, .slice Ag n cg, .slice Ar nr cr] 26)).alloc (.cells #[] 23)).alloc (.cells #[.slice (some ⟨w.heap.size + 1, 0, none⟩) 0 0] 51) := ⟨_, rfl⟩
  have hbU : Below w.heap.size w U := by rw [hU]; exact (hb0.alloc hb0.size _).alloc (by simp; omega) _
  have hsU : U.heap.size = w.heap.size + 1 + 1 + 1 := by rw [hU]; simp
  have hwU : w.heap.size < U.heap.size := by omega
  obtain ⟨c0, c1, c2⟩ : PBox U w.heap.size s Ag n cg Ar nr cr := by
    rw [hU]
    exact hx0.below hs0 (((Below.refl _ _).alloc (Nat.le_refl _) _).alloc (by simp) _)
  have hout : Out_ U (w.heap.size + 1 + 1) (.slice (some ⟨w.heap.size + 1, 0, none⟩) 0 0) := by
    have := heap_alloc_new ((w.alloc (.cells #[.int .i64 s, .slice Ag n cg, .slice Ar nr cr] 26)).alloc (.cells #[] 23)) (.cells #[.slice (some ⟨w.heap.size + 1, 0, none⟩) 0 0] 51)
    rw [World.size_alloc, World.size_alloc] at this
    unfold Out_
    rw [hU]
    exact this
  have hrows : Rows_ U (w.heap.size + 1) (w.heap.size + 1 + 1) (.slice (some ⟨w.heap.size + 1, 0, none⟩) 0 0) [] n := by
    refine ⟨some ⟨w.heap.size + 1, 0, none⟩, 0, [], rfl, ?_, by simp [Value.ownBlock], fun i hi => absurd hi (by simp)⟩
    have h : ((w.alloc (.cells #[.int .i64 s, .slice Ag n cg, .slice Ar nr cr] 26)).alloc (.cells #[] 23)).ownsRow (w.heap.size + 1) 23 1 (.slice (some ⟨(w.alloc (.cells #[.int .i64 s, .slice Ag n cg, .slice Ar nr cr] 26)).heap.size, 0, none⟩) 0 0) 0 [] := World.ownsRow_made _ #[] 0 (by simp) (by simp [maxLen]) rfl
    rw [World.size_alloc] at h
    rw [hU]
    exact World.ownsRow.alloc h _
  cases hf : fpB s gi rs gi
  · have HL := Lib.hid (show allS s most n gi rs = [] by simp [allS, hf])
    go_enter Tryd.func51, Tryd.ntmps51
    go_wp2_with (go_at_call 93; (rw [← hU]; refine (HF.out _ hbU).mono ?_); rintro e w1 ⟨rfl, hb1⟩; rw [hf]; have hout1 : Out_ w1 _ _ := (hb1.block _ hout.lt).trans hout; have hoc := hout1.cell)
    go_ret
    exact ⟨_, _, rfl, by rw [HL.out]; exact hrows.below hb1, step hbU hb1⟩
  · obtain ⟨t, rfl, hs, hn', hn16, hok'⟩ := pv_grid (show pvB s gi rs = true by simp only [fpB, Bool.and_eq_true] at hf; exact hf.1.1) hp.g.1
    have hn := Lib.hid hn'
    have hok := Lib.hid hok'
    clear hn' hok'
    have Hne : Hid (∀ b' off' : Nat, Ag = some ⟨b', off', none⟩ → b' ≠ w.heap.size + 1 + 1 ∧ (Value.slice (some ⟨w.heap.size + 1, 0, none⟩) 0 0).ownBlock ≠ some b') := Lib.hid (fun b' off' e => by
      obtain ⟨b, off, hA, hbB, _⟩ := hp.g.at_ (k := 0) (by have := hn.out; simp at hs; rcases hs with h | h | h <;> subst h <;> omega)
      rw [hA] at e
      cases e
      have := hp.gB
      exact ⟨by omega, by simp only [Value.ownBlock]; intro e; injection e with e; omega⟩)
    have HS := Lib.hid (fun w' (hb : Below U.heap.size U w') => specSearch5 t Ag n cg Bg gi Ar nr cr Br rs hs hn hn16 (w.heap.size + 1 + 1) (w.heap.size + 1) most (Nat.le_trans hp.gB (Nat.le_succ _)) (Nat.le_trans hp.rB (Nat.le_succ _)) (Nat.le_succ _) hp.rm h1 n Ag cg Bg gi 0 (.slice (some ⟨w.heap.size + 1, 0, none⟩) 0 0) [] w' (Nat.sub_zero _) (Nat.zero_le _) ((hp.below hbU).below hb).g ((hp.below hbU).below hb).r ((hp.below hbU).below hb).g ((hp.below hbU).below hb).gB Hne.out hok ((hb.block _ hout.lt).trans hout) (hrows.below hb) (by simpa using h0) (by have := hb.size; omega))
    have HL := Lib.hid (show allS t most n gi rs = s5 (fitB t gi rs) t most n gi 0 [] by simp [allS, hf])
    go_enter Tryd.func51, Tryd.ntmps51
    go_wp2_with (first | (go_at_call 93; (rw [← hU]; refine (HF.out _ hbU).mono ?_); (rintro e w1 ⟨rfl, hb1⟩; rw [hf]); obtain ⟨d0, d1, d2⟩ : PBox w1 w.heap.size t Ag n cg Ar nr cr := PBox.below ⟨c0, c1, c2⟩ hwU hb1) | (go_at_call 94; (refine (HS.out _ hb1).mono ?_); (rintro e w2 ⟨rfl, v2, hout2, hrows2, hchg2⟩); have hoc := hout2.cell))
    go_ret
    refine ⟨_, _, rfl, by rw [HL.out]; exact hrows2, (step hbU hb1).trans (hchg2.below (lo := w.heap.size + 1) (fun g hg => ?_) (by omega) (by omega) (by have := hb1.size; omega))⟩
    simp only [Value.ownBlock] at hg
    injection hg with hg
    omega
end Go.Proofs.YtkeoflnmbcdmfaaDoor
set_option maxRecDepth 8000
namespace Go.Proofs.YtkeoflnmbcdmfaaDoor
open Go.ChangeShapes Go.WideShapes Go.ChangeAt Go.RowKit
/-! All ways to give cells values of their masks, as a list, in order. -/
def allW (ms : List Int) : Nat → List Int → List (List Int)
  | 0, vs => [vs]
  | d + 1, vs => (bitsTo (nth ms vs.length).toNat 4).flatMap fun x => allW ms d (vs ++ [x])
theorem bits_flat {β : Type} (M u : Nat) (f : Int → List β) : (bitsTo M (u + 1)).flatMap f = (bitsTo M u).flatMap f ++ (if M.testBit (u + 1) = true then f ((u : Int) + 1) else []) := by
  simp only [bitsTo, List.flatMap_append]
  split <;> simp
theorem bits_mem {M u : Nat} {y : Int} (h : y ∈ bitsTo M u) : 1 ≤ y ∧ y ≤ (u : Int) := by
  induction u with
  | zero => simp [bitsTo] at h
  | succ u ih =>
    simp only [bitsTo, List.mem_append] at h
    rcases h with h | h
    · have := ih h; omega
    · split at h
      · simp at h; omega
      · simp at h
theorem allW_len {ms : List Int} : ∀ {d : Nat} {vs ys : List Int}, ys ∈ allW ms d vs → ys.length = vs.length + d := by
  intro d
  induction d with
  | zero => intro vs ys h; simp [allW] at h; subst h; rfl
  | succ d ih =>
    intro vs ys h
    simp only [allW, List.mem_flatMap] at h
    obtain ⟨x, _, h⟩ := h
    have := ih h
    rw [List.length_append, List.length_singleton] at this
    omega
theorem allW_small {ms : List Int} : ∀ {d : Nat} {vs ys : List Int}, (∀ i, i < vs.length → 1 ≤ nth vs i ∧ nth vs i ≤ 4) → ys ∈ allW ms d vs → ∀ i, i < vs.length + d → 1 ≤ nth ys i ∧ nth ys i ≤ 4 := by
  intro d
  induction d with
  | zero => intro vs ys hv h; simp [allW] at h; subst h; simpa using hv
  | succ d ih =>
    intro vs ys hv h
    simp only [allW, List.mem_flatMap] at h
    obtain ⟨x, hx, h⟩ := h
    have hx' := bits_mem hx
    intro i hi
    refine ih (fun j hj => ?_) h i (by rw [List.length_append, List.length_singleton]; omega)
    rw [List.length_append, List.length_singleton] at hj
    rw [nth_push rfl]
    split
    · exact hv j (by assumption)
    · rw [if_pos (by omega)]; omega
theorem foldN_foldl (step : Int → List Nat → List Nat) (L : List Int) (F : List Nat) : ∀ t, t ≤ L.length → foldN step L t F = (L.take t).foldl (fun G x => step x G) F := by
  intro t
  induction t with
  | zero => intro _; simp [foldN]
  | succ t ih =>
    intro ht
    simp only [foldN]
    rw [ih (by omega), List.take_add_one, List.foldl_append, List.getElem?_eq_getElem (by omega)]
    simp [nth, List.getD_eq_getElem?_getD, List.getElem?_eq_getElem (show t < L.length by omega)]
def orWay (k v : Int) (G : List Nat) (ys : List Int) : List Nat := if holdsB k v ys = true then orTo ys G G.length else G
def orAll (G : List Nat) (ys : List Int) : List Nat := orTo ys G G.length
theorem waysF_fold (k v : Int) (xs ms pm : List Int) : ∀ d vs F, (∀ i, vs.length ≤ i → i < vs.length + d → maskVals (nth ms (nth xs i).toNat) = bitsTo (nth pm i).toNat 4) → waysF k v xs ms d vs F = (allW pm d vs).foldl (orWay k v) F := by
  intro d
  induction d with
  | zero => intro vs F _; rfl
  | succ d ih =>
    intro vs F h
    simp only [waysF, allW]
    rw [h vs.length (Nat.le_refl _) (by omega), foldN_foldl _ _ _ _ (Nat.le_refl _), List.take_length, List.foldl_flatMap]
    congr 1
    funext G x
    refine ih _ _ fun i h1 h2 => h i ?_ ?_
    · rw [List.length_append, List.length_singleton] at h1; omega
    · rw [List.length_append, List.length_singleton] at h2; omega
theorem fold_filter (k v : Int) (L : List (List Int)) (F : List Nat) : L.foldl (orWay k v) F = (L.filter (holdsB k v)).foldl orAll F := by
  rw [List.foldl_filter]
  rfl
theorem orAll_length (G : List Nat) (ys : List Int) : (orAll G ys).length = G.length := orTo_length _ _ _
theorem orAll_lt {n : Nat} {G : List Nat} {ys : List Int} (h : lt32 G) (hl : G.length = n) (hv : small4 ys n) : lt32 (orAll G ys) := orTo_lt h hl hv
theorem foldAll_inv {n : Nat} : ∀ (L : List (List Int)) (G : List Nat), (∀ ys ∈ L, small4 ys n) → G.length = n → lt32 G → (L.foldl orAll G).length = n ∧ lt32 (L.foldl orAll G) := by
  intro L
  induction L with
  | nil => intro G _ h1 h2; exact ⟨h1, h2⟩
  | cons y L ih =>
    intro G hs h1 h2
    exact ih _ (fun z hz => hs z (List.mem_cons_of_mem _ hz)) (by rw [orAll_length, h1]) (orAll_lt h2 h1 (hs y (List.mem_cons_self ..)))
theorem foldAll_pos : ∀ (L : List (List Int)) (G : List Nat), 0 < G.length → G.getD 0 0 ≠ 0 → (L.foldl orAll G).getD 0 0 ≠ 0 := by
  intro L
  induction L with
  | nil => intro G _ h; exact h
  | cons y L ih =>
    intro G hl h
    refine ih _ (by rw [orAll_length]; exact hl) ?_
    unfold orAll
    rw [orTo_get hl, if_pos hl]
    intro e
    exact h (Nat.or_eq_zero_iff.1 e).1
theorem foldAll_zero (L : List (List Int)) (n : Nat) (hn : 0 < n) : (nth (nats (L.foldl orAll (zerosN n))) 0 != 0) = !L.isEmpty := by
  rw [nats_nth]
  cases L with
  | nil => simp [zerosN, List.getD_eq_getElem?_getD, hn]
  | cons y L =>
    have hz : 0 < (zerosN n).length := by simp [zerosN]; exact hn
    have h1 : (orAll (zerosN n) y).getD 0 0 ≠ 0 := by
      unfold orAll
      rw [orTo_get hz, if_pos hz]
      intro e
      have := (Nat.or_eq_zero_iff.1 e).2
      exact absurd this (by have := Nat.two_pow_pos (nth y 0).toNat; omega)
    have := foldAll_pos L _ (by rw [orAll_length]; exact hz) h1
    simp only [List.foldl_cons, List.isEmpty_cons, Bool.not_false, bne_iff_ne, ne_eq]
    omega
end Go.Proofs.YtkeoflnmbcdmfaaDoor
set_option maxRecDepth 8000
namespace Go.Proofs.YtkeoflnmbcdmfaaDoor
open Go.ChangeShapes Go.WideShapes Go.ChangeAt Go.RowKit
/-! What a rule leaves to its cells, by the list of all ways. -/
theorem maskVals_ok {m : Int} (h0 : 0 ≤ m) (h1 : m ≤ 30) (h2 : m.tmod 2 = 0) : maskVals m = bitsTo m.toNat 4 := by
  unfold maskVals
  rw [if_pos (by simp only [mvOk, inr, Bool.and_eq_true, decide_eq_true_eq, beq_iff_eq]; exact ⟨⟨h0, h1⟩, h2⟩)]
def waysN (k v : Int) (pm : List Int) (n : Nat) : List (List Int) := (allW pm n []).filter (holdsB k v)
theorem rm_ways {k v s : Int} {xs ms : List Int} {n : Nat} (hl : xs.length = n) (hv : rv k xs v s = true) (hm : mvd ms s = true) :
    rmL k xs v ms s = nats ((waysN k v (pks ms xs n) n).foldl orAll (zerosN n)) := by
  subst hl
  obtain ⟨hs, _, _, hx⟩ := rv_facts rfl hv
  obtain ⟨_, hml, _, hmk⟩ := mvd_at hm
  unfold rmL rmN waysN
  rw [hv, hm, Bool.true_and, if_pos rfl, waysF_fold k v xs ms (pks ms xs xs.length) _ _ _ (fun i h1 h2 => ?_), fold_filter]
  have hi : i < xs.length := by simpa using h2
  obtain ⟨a, b⟩ := hx i hi
  obtain ⟨m0, m1, m2⟩ := hmk (nth xs i).toNat (by omega)
  rw [pks_nth hi]
  exact maskVals_ok m0 m1 m2
theorem em_pks {g xs : List Int} {s : Int} {n : Nat} (hx : ∀ i, i < n → (nth xs i).toNat < g.length) : pks (emL g s) xs n = emL (pks g xs n) s := by
  apply ext_nth (by rw [pks_length]; unfold emL; rw [mapTo_length, pks_length])
  intro i hi
  rw [pks_length] at hi
  rw [pks_nth hi]
  unfold emL
  rw [mapTo_nth (hx i hi), mapTo_nth (by rw [pks_length]; exact hi)]
  unfold emG emN
  rw [pks_nth hi]
theorem rp_ways {k v : Int} {s : Nat} {xs g : List Int} {n : Nat} (hl : xs.length = n) (hv : rv k xs v s = true) (hg : gv g s = true) (hs : s ∈ [2, 3, 4]) :
    rpB k xs v g s = !((allW (emL (pks g xs n) s) n []).filter (holdsB k v)).isEmpty := by
  obtain ⟨_, ⟨hn1, hn4⟩, _, _⟩ := rv_facts hl hv
  obtain ⟨_, hin⟩ := pks_small hl hv hg
  unfold rpB
  rw [hv, hg, Bool.true_and, Bool.true_and, rm_ways hl hv (emL_valid hs hg), foldAll_zero _ _ (by omega), em_pks (fun i hi => by have := hin i hi; omega)]
  rfl
end Go.Proofs.YtkeoflnmbcdmfaaDoor
namespace Go.Proofs.YtkeoflnmbcdmfaaDoor
open Go.ChangeShapes Go.WideShapes Go.ChangeAt Go.RowKit

/-- two of four are the same and not 0. -/
def dup4 (a b c d : Int) : Bool := (decide (0 < b) && a == b) || ((decide (0 < c) && (a == c || b == c)) || (decide (0 < d) && (a == d || (b == d || c == d))))
def fast16 : List Int → Bool
  | [a, b, c, d, e, f, g, h, i, j, k, l, m, n, o, p] => dup4 a b c d || (dup4 e f g h || (dup4 i j k l || (dup4 m n o p || (dup4 a e i m || (dup4 b f j n || (dup4 c g k o || dup4 d h l p))))))
  | _ => false
theorem dup4_is (f : Nat → Int) : dupTo f 4 = dup4 (f 0) (f 1) (f 2) (f 3) := by
  simp [dupTo, dup4, hasTo, List.range_succ, Bool.or_assoc]
theorem fast16_is (xs : List Int) (h : xs.length = 16) : clash xs 4 = fast16 xs := by
  match xs, h with
  | [a, b, c, d, e, f, g, h, i, j, k, l, m, n, o, p], _ =>
    have e8 : ((2 : Int) * 4).toNat = 8 := rfl
    have e4 : (4 : Int).toNat = 4 := rfl
    simp only [clash, e8, e4, clashTo, dup4_is, Bool.false_or, Bool.or_assoc, fast16]
    rfl

def solsFG (rec : List Int → List (List Int)) (chk : List Int → Bool) (xs : List Int) (p : Nat) : Nat → Nat → List (List Int)
  | 0, _ => []
  | r + 1, v => (if chk (xs.set p v) = true then [] else rec (xs.set p v)) ++ solsFG rec chk xs p r (v + 1)
def solsG (chk : List Int → Bool) (m : Nat) : Nat → List Int → Nat → List (List Int)
  | 0, xs, _ => [xs]
  | f + 1, xs, p => solsFG (fun ys => solsG chk m f ys (p + 1)) chk xs p m 1
theorem solsFG_is {rec rec' : List Int → List (List Int)} {chk : List Int → Bool} {size : Int} {n : Nat} (hc : ∀ ys, ys.length = n → clash ys size = chk ys) (hr : ∀ ys, ys.length = n → rec ys = rec' ys) {xs : List Int} (hx : xs.length = n) (p : Nat) :
    ∀ r v, solsFrom rec xs size p r v = solsFG rec' chk xs p r v := by
  intro r
  induction r with
  | zero => intro v; rfl
  | succ r ih =>
    intro v
    have hl : (xs.set p (v : Int)).length = n := by simpa using hx
    simp only [solsFrom, solsFG]
    rw [hc _ hl, hr _ hl, ih]
theorem solsG_is {chk : List Int → Bool} {size : Int} {n : Nat} (hc : ∀ ys, ys.length = n → clash ys size = chk ys) : ∀ (f : Nat) (xs : List Int) (p : Nat), xs.length = n → sols size f xs p = solsG chk size.toNat f xs p := by
  intro f
  induction f with
  | zero => intro xs p _; rfl
  | succ f ih =>
    intro xs p hx
    simp only [sols, solsG]
    exact solsFG_is hc (fun ys hy => ih ys (p + 1) hy) hx p _ _
theorem solsG4 : (solsG fast16 4 16 (zeros 16) 0).length = 576 := by decide +kernel
theorem sols4 : (sols 4 16 (zeros 16) 0).length = 576 := by
  rw [solsG_is fast16_is 16 (zeros 16) 0 (by decide)]
  exact solsG4
end Go.Proofs.YtkeoflnmbcdmfaaDoor
