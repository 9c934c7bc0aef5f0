import Derived.Test.YtchcmgaohcldjaaGreatDoorXPInD
import Derived.Test.YtchcmgaohcldjaaGreatDoorQ4R
import Derived.Deep.Slices
import Derived.Deep.Fields
import Derived.Lib.SmallJoins
import Derived.ChangeSame
import Derived.Deep.RegionWith
import Derived.Deep.CutRange
import Derived.Deep.CutBlock
import Derived.Test.YtchcmgaohcldjaaGreatDoorC1
import Derived.Test.YtchcmgaohcldjaaGreatDoorXNr
import Derived.Test.YtchcmgaohcldjaaGreatDoorLR
import Derived.Deep.DeepCutAuto
import Derived.Test.YtchcmgaohcldjaaGreatDoorXI7
import Derived.Test.YtchcmgaohcldjaaGreatDoorXTb
set_option maxRecDepth 8000
namespace Go.Proofs.YtchcmgaohcldjaaGreatDoor
open Go.ChangeShapes Go.WideShapes Go.ChangeAt Go.RowKit
/-! marks written into a puzzle of the call's own: what they overwrite is not told, only what stays. -/
/-- only blocks from lo to hi may have changed. -/
structure Bt (lo hi : Nat) (w w' : World) : Prop where
  os : w'.os = w.os
  tape : w'.tape = w.tape
  output : w'.output = w.output
  size : w.heap.size ≤ w'.heap.size
  block : ∀ k, k < w.heap.size → (k < lo ∨ hi ≤ k) → w'.heap[k]? = w.heap[k]?
theorem Bt.refl (lo hi : Nat) (w : World) : Bt lo hi w w := ⟨rfl, rfl, rfl, Nat.le_refl _, fun _ _ _ => rfl⟩
theorem Bt.trans {lo hi : Nat} {w w' w'' : World} (h : Bt lo hi w w') (h' : Bt lo hi w' w'') : Bt lo hi w w'' :=
  ⟨h'.os.trans h.os, h'.tape.trans h.tape, h'.output.trans h.output, Nat.le_trans h.size h'.size, fun k hk ho => (h'.block k (Nat.lt_of_lt_of_le hk h.size) ho).trans (h.block k hk ho)⟩
theorem Bt.setCell {lo hi : Nat} {w w' : World} (h : Bt lo hi w w') {g j : Nat} (hg : lo ≤ g ∧ g < hi) (v : Value) : Bt lo hi w (w'.setCell ⟨g, j, none⟩ v) :=
  h.trans ⟨rfl, rfl, rfl, by simp, fun k _ ho => heap_setCell_other w' ⟨g, j, none⟩ k v (fun e => by have e2 : k = g := e; omega)⟩
theorem Bt.of_below {B lo hi : Nat} {w w' : World} (h : Below B w w') (hB : w.heap.size ≤ B) : Bt lo hi w w' := ⟨h.os, h.tape, h.output, h.size, fun k hk _ => h.block k (Nat.lt_of_lt_of_le hk hB)⟩
theorem Bt.below {lo hi B : Nat} {w w' : World} (h : Bt lo hi w w') (hB : B ≤ lo) (hw : B ≤ w.heap.size) : Below B w w' := ⟨h.os, h.tape, h.output, h.size, fun k hk => h.block k (Nat.lt_of_lt_of_le hk hw) (.inl (Nat.lt_of_lt_of_le hk hB))⟩
theorem ownsRow_bt {w w' : World} {lo n sz : Nat} {e : TypeId} {v : Value} {xs : List Value} (h : w.ownsRow lo e sz v n xs) (hk : ∀ g, v.ownBlock = some g → w'.heap[g]? = w.heap[g]?) : w'.ownsRow lo e sz v n xs := by
  refine ⟨h.1, ?_⟩
  rcases h.2 with h1 | ⟨g, cap, cur, hv, hlo, hg, h1⟩
  · exact .inl h1
  · exact .inr ⟨g, cap, cur, hv, hlo, (hk g (by rw [hv]; rfl)).trans hg, h1⟩
theorem Ow.bt {w w' : World} {lo hi lo' n c : Nat} {A : Option Addr} {xs : List Int} (h : Ow w lo' A n c xs) (hb : Bt lo hi w w') (hh : hi ≤ lo') : Ow w' lo' A n c xs :=
  ownsRow_bt h fun g hg => hb.block g (h.own_hi g hg) (.inr (Nat.le_trans hh (h.own_lo g hg)))
/-- n cells or more, in a block of numbers of the call's own. -/
def Blk (w : World) (lo hi : Nat) (A : Option Addr) (n : Nat) : Prop := 0 < n → ∃ g cs, A = some ⟨g, 0, none⟩ ∧ (lo ≤ g ∧ g < hi) ∧ w.heap[g]? = some (.cells cs 3) ∧ n ≤ cs.size
/-- rows keep their types and sizes. -/
def Sz (w w' : World) : Prop := ∀ (g : Nat) (cs : Array Value) (t : TypeId), w.heap[g]? = some (.cells cs t) → ∃ cs' : Array Value, w'.heap[g]? = some (.cells cs' t) ∧ cs'.size = cs.size ∧ (t ≠ 3 → cs' = cs)
def MkI (lo hi : Nat) (w w' : World) : Prop := Bt lo hi w w' ∧ Sz w w'
theorem MkI.refl (lo hi : Nat) (w : World) : MkI lo hi w w := ⟨Bt.refl _ _ _, fun _ cs _ h => ⟨cs, h, rfl, fun _ => rfl⟩⟩
theorem MkI.trans {lo hi : Nat} {w w' w'' : World} (h : MkI lo hi w w') (h' : MkI lo hi w' w'') : MkI lo hi w w'' := by
  refine ⟨h.1.trans h'.1, fun g cs t hg => ?_⟩
  obtain ⟨c1, h1, s1, e1⟩ := h.2 g cs t hg
  obtain ⟨c2, h2, s2, e2⟩ := h'.2 g c1 t h1
  exact ⟨c2, h2, s2.trans s1, fun ht => (e2 ht).trans (e1 ht)⟩
theorem MkI.set {lo hi g i : Nat} {w : World} {cs : Array Value} (hg : w.heap[g]? = some (.cells cs 3)) (hlo : lo ≤ g ∧ g < hi) (v : Value) : MkI lo hi w (w.setCell ⟨g, i, none⟩ v) := by
  refine ⟨(Bt.refl _ _ _).setCell hlo _, fun b c t hb => ?_⟩
  by_cases e : g = b
  · subst e
    rw [hg] at hb
    injection hb with hb
    injection hb with e1 e2 e3
    subst e1 e2
    exact ⟨_, heap_setCell_same w g i _ _ v hg, by simp, fun h => absurd rfl h⟩
  · exact ⟨c, (heap_setCell_other w ⟨g, i, none⟩ b v (fun e2 => e e2.symm)).trans hb, rfl, fun _ => rfl⟩
theorem Blk.keep {w w' : World} {lo hi n : Nat} {A : Option Addr} (h : Blk w lo hi A n) (hk : ∀ (g : Nat) (cs : Array Value), w.heap[g]? = some (.cells cs 3) → ∃ cs' : Array Value, w'.heap[g]? = some (.cells cs' 3) ∧ cs'.size = cs.size) : Blk w' lo hi A n := fun hn => by
  obtain ⟨g, cs, rfl, hlo, hg, hs⟩ := h hn
  obtain ⟨cs', hg', hs'⟩ := hk g cs hg
  exact ⟨g, cs', rfl, hlo, hg', by omega⟩
theorem Blk.mk_ {w w' : World} {lo hi n : Nat} {A : Option Addr} (h : Blk w lo hi A n) (hk : Sz w w') : Blk w' lo hi A n := h.keep fun g cs hg => by
  obtain ⟨c1, h1, s1, _⟩ := hk g cs _ hg
  exact ⟨c1, h1, s1⟩
theorem Ow.blk {w : World} {lo hi n c : Nat} {A : Option Addr} {xs : List Int} (h : Ow w lo A n c xs) (hh : w.heap.size ≤ hi) : Blk w lo hi A n := fun hn => by
  rcases h.2 with ⟨_, h0⟩ | ⟨g, cap, cur, hv, hlo, hg, h1, h2, h3, h4⟩
  · omega
  · injection hv with hA _ _
    subst hA
    have hl := congrArg List.length h4
    have hl1 := h.1
    simp only [List.length_take, Array.length_toList] at hl
    exact ⟨g, cur, rfl, ⟨hlo, Nat.lt_of_lt_of_le (Array.getElem?_eq_some_iff.1 hg).1 hh⟩, hg, by omega⟩
theorem markIntS_blk (A : Option Addr) (c n lo hi : Nat) (m : Int) (w : World) (h : Blk w lo hi A n) (hm : n ≤ 1099511627776) (h0 : 0 ≤ m) (h1 : m ≤ 4611686018427387904) :
    Calls Tryz.prog 62 #[.slice A n c, .int .i64 m] w fun e w' => e = .returned (.int .i64 (m + n)) ∧ MkI lo hi w w' := by
  go_enter Tryz.func62, Tryz.ntmps62
  go_wp2
  go_loopw [1, 5] (fun q i wr => ∃ k : Nat, k ≤ n ∧ i = .int .i64 k ∧ q = .int .i64 (m + k) ∧ MkI lo hi w wr) (fun _ i _ => n - (intOf i).toNat)
  case atStart => exact ⟨0, Nat.zero_le _, rfl, by simp, MkI.refl _ _ _⟩
  case round =>
    obtain ⟨k, hk, rfl, rfl, hmk⟩ := hrel
    by_cases hlt : k < n
    · obtain ⟨g, cs, rfl, hlo, hrow, hle⟩ := (h.mk_ hmk.2) (by omega)
      have hold : wr.cell? ⟨g, k, none⟩ = some (cs[k]'(by omega)) := by rw [cell_of_row wr g k cs _ (0, 0) hrow]; exact Array.getElem?_eq_getElem _
      have hfr := frozen_of_row wr g k _ _ hrow
      have Hst := Lib.hid (hmk.trans (MkI.set (i := k) hrow hlo (.int .i64 (m + k))))
      clear hrow
      go_wp2
      go_roundw
      case rel => exact ⟨k + 1, by omega, by go_num, by go_num, Hst.out⟩
      case measure => simp [intOf]; omega
    · obtain rfl : k = n := by omega
      go_wp2
      go_ret
      exact ⟨rfl, hmk⟩
/-- a row of rules of the call's own: each has its own cells, somewhere. -/
def RBlk (w : World) (lo hi g nr : Nat) (L : Nat → Nat) : Prop := ∃ cur : Array Value, w.heap[g]? = some (.cells cur 73) ∧ nr * 3 ≤ cur.size ∧ ∀ i, i < nr → ∃ A' c', cur[i * 3 + 1]? = some (.slice A' (L i) c') ∧ Blk w lo hi A' (L i)
theorem RBlk.mk_ {w w' : World} {lo hi g nr : Nat} {L : Nat → Nat} (h : RBlk w lo hi g nr L) (hk : Sz w w') : RBlk w' lo hi g nr L := by
  obtain ⟨cur, hg, hs, hin⟩ := h
  obtain ⟨c1, h1, s1, e1⟩ := hk g cur _ hg
  obtain rfl := e1 (by decide)
  exact ⟨_, h1, hs, fun i hi => by obtain ⟨A', c', e, hb⟩ := hin i hi; exact ⟨A', c', e, hb.mk_ hk⟩⟩
theorem RBlk.set {w : World} {lo hi g nr : Nat} {L : Nat → Nat} (h : RBlk w lo hi g nr L) (j : Nat) (v : Value) (hj : ∀ i, i * 3 + 1 ≠ j) : RBlk (w.setCell ⟨g, j, none⟩ v) lo hi g nr L := by
  obtain ⟨cur, hg, hs, hin⟩ := h
  refine ⟨_, heap_setCell_same w g j _ _ v hg, by simpa using hs, fun i hi => ?_⟩
  obtain ⟨A', c', e, hb⟩ := hin i hi
  refine ⟨A', c', by rw [Array.getElem?_setIfInBounds_ne (fun e2 => hj i e2.symm)]; exact e, hb.keep fun b cs hbc => ⟨cs, (heap_setCell_other w ⟨g, j, none⟩ b v (fun e2 => ?_)).trans hbc, rfl⟩⟩
  have e3 : g = b := e2.symm
  subst e3
  rw [hg] at hbc
  injection hbc with hbc
  injection hbc with _ h2 _
  exact absurd h2 (by decide)
theorem OwR.rblk {w : World} {lo hi g nr c : Nat} {rs : List RuleM} (h : OwR w lo (.slice (some ⟨g, 0, none⟩) nr c) rs nr) (hn : 0 < nr) (hh : w.heap.size ≤ hi) : RBlk w lo hi g nr (fun i => (rat rs i).xs.length) ∧ lo ≤ g ∧ g < hi := by
  obtain ⟨vs, hown, hin⟩ := h
  rcases hown.2 with ⟨_, h0⟩ | ⟨g', cap, cur, hv, hlo, hg, h1, h2, h3, h4⟩
  · omega
  · injection hv with hA _ _
    injection hA with hA
    injection hA with hA _ _
    subst hA
    have hl := congrArg List.length h4
    have hl1 := hown.1
    simp only [List.length_take, Array.length_toList] at hl
    refine ⟨⟨cur, hg, by omega, fun i hi => ?_⟩, hlo, Nat.lt_of_lt_of_le (Array.getElem?_eq_some_iff.1 hg).1 hh⟩
    obtain ⟨A', c', e0, e1, e2, e3, e4, e5⟩ := hin i hi
    rw [← h4, List.getElem?_take] at e1
    split at e1
    · exact ⟨A', c', by simpa using e1, e3.blk hh⟩
    · cases e1
theorem markRuleS_blk (A : Option Addr) (c nr lo hi : Nat) (L : Nat → Nat) (m : Int) (w : World) (h : 0 < nr → ∃ g, A = some ⟨g, 0, none⟩ ∧ (lo ≤ g ∧ g < hi) ∧ RBlk w lo hi g nr L) (hL : ∀ i, i < nr → L i ≤ 1048576) (hn : nr ≤ 1048576) (h0 : 0 ≤ m) (h1 : m ≤ 1099511627776) :
    Calls Tryz.prog 114 #[.slice A nr c, .int .i64 m] w fun e w' => (∃ q : Int, e = .returned (.int .i64 q) ∧ 0 ≤ q ∧ q ≤ 4398046511104) ∧ Bt lo hi w w' := by
  have HL := Lib.hid hL
  go_enter Tryz.func114, Tryz.ntmps114
  go_wp2
  go_loopw [1, 5] (fun q i wr => ∃ (k : Nat) (x : Int), k ≤ nr ∧ i = .int .i64 k ∧ q = .int .i64 x ∧ 0 ≤ x ∧ x ≤ m + k * 1048578 ∧ Bt lo hi w wr ∧ (0 < nr → ∃ g, A = some ⟨g, 0, none⟩ ∧ (lo ≤ g ∧ g < hi) ∧ RBlk wr lo hi g nr L)) (fun _ i _ => nr - (intOf i).toNat)
  case atStart => exact ⟨0, m, Nat.zero_le _, rfl, rfl, h0, by omega, Bt.refl _ _ _, h⟩
  case round =>
    obtain ⟨k, x, hk, rfl, rfl, x0, x1, hb, hr⟩ := hrel
    by_cases hlt : k < nr
    · obtain ⟨g, rfl, hlo, hR⟩ := hr (by omega)
      obtain ⟨cur, hrow, hsz, hin⟩ := id hR
      obtain ⟨A', c', e1, hB⟩ := hin k hlt
      have hLk := HL.out k hlt
      have hx : x ≤ 4398046511104 := by omega
      have hc0 : wr.cell? ⟨g, k * 3, none⟩ = some (cur[k * 3]'(by omega)) := by rw [cell_of_row wr g _ cur _ (0, 0) hrow]; exact Array.getElem?_eq_getElem _
      have hc1 : wr.cell? ⟨g, k * 3 + 1, none⟩ = some (.slice A' (L k) c') := by rw [cell_of_row wr g _ cur _ (0, 0) hrow]; exact e1
      have hf0 := frozen_of_row wr g (k * 3) _ _ hrow
      have hR1 := hR.set (k * 3) (.int .i64 x) (by omega)
      obtain ⟨cur1, hrow1, hsz1, hin1⟩ := id hR1
      have hB1 : Blk (wr.setCell ⟨g, k * 3, none⟩ (.int .i64 x)) lo hi A' (L k) := by
        obtain ⟨A2, c2, e2, hB2⟩ := hin1 k hlt
        have e3 := heap_setCell_same wr g (k * 3) _ _ (.int .i64 x) hrow
        rw [hrow1] at e3
        injection e3 with e3
        injection e3 with e3 _ _
        subst e3
        rw [Array.getElem?_setIfInBounds_ne (by omega), e1] at e2
        injection e2 with e2
        injection e2 with e2 _ _
        subst e2
        exact hB2
      have HC := Lib.hid (markIntS_blk A' c' (L k) lo hi (x + 1) _ hB1 (by omega) (by omega) (by omega))
      have HbS := Lib.hid (fun j y (w' : World) (hb' : Bt lo hi w w') => (Bt.setCell (j := j) hb' hlo y))
      obtain ⟨l, hl⟩ : ∃ l, L k = l := ⟨_, rfl⟩
      rw [hl] at hc1 HC hLk
      have Hl := Lib.hid hl
      clear hrow hin hB e1 hin1 hrow1 hB1 hl
      go_wp2_with (go_at_call 62; refine HC.out.mono ?_; rintro e w5 ⟨rfl, hm5⟩; have hR5 := hR1.mk_ hm5.2; obtain ⟨cur5, hrow5, hsz5, hin5⟩ := id hR5; have hc5 : w5.cell? ⟨g, k * 3 + 2, none⟩ = some (cur5[k * 3 + 2]'(by omega)) := (by rw [cell_of_row w5 g _ cur5 _ (0, 0) hrow5]; exact Array.getElem?_eq_getElem _); have hf5 := frozen_of_row w5 g (k * 3 + 2) _ _ hrow5)
      go_roundw
      case rel => exact ⟨k + 1, x + 1 + l + 1, hlt, by go_num, by go_num, by omega, by omega, HbS.out _ _ _ ((HbS.out _ _ _ hb).trans hm5.1), fun _ => ⟨g, rfl, hlo, hR5.set _ _ (by omega)⟩⟩
      case measure => simp [intOf]; omega
    · obtain rfl : k = nr := by omega
      go_wp2
      go_ret
      exact ⟨⟨_, rfl, x0, by omega⟩, hb⟩
theorem markPuzzle_any (s : Int) (A1 : Option Addr) (n c1 g2 nr c2 lo hi : Nat) (gi : List Int) (rs : List RuleM) (m : Int) (w0 w : World) (ho : Ow w0 lo A1 n c1 gi) (hR : OwR w0 lo (.slice (some ⟨g2, 0, none⟩) nr c2) rs nr) (hh : w0.heap.size ≤ hi) (hb : Below w0.heap.size w0 w) (hn : n ≤ 1048576) (hnr : nr ≤ 1048576) (hL : ∀ i, i < nr → (rat rs i).xs.length ≤ 1048576) (h0 : 0 ≤ m) (h1 : m ≤ 1048576) :
    Calls Tryz.prog 61 #[.agg #[.int .i64 s, .slice A1 n c1, .slice (some ⟨g2, 0, none⟩) nr c2], .int .i64 m] w fun e w' => (∃ q : Int, e = .returned (.int .i64 q) ∧ 0 ≤ q ∧ q ≤ 4398046511104) ∧ Bt lo hi w w' := by
  have hb0 : Below w.heap.size w (w.alloc (.cells #[.int .i64 s, .slice A1 n c1, .slice (some ⟨g2, 0, none⟩) nr c2] 26)) := (Below.refl _ _).alloc (Nat.le_refl _) _
  have hrow0 := heap_alloc_new w (.cells #[.int .i64 s, .slice A1 n c1, .slice (some ⟨g2, 0, none⟩) nr c2] 26)
  obtain ⟨W, hW⟩ : ∃ W, w.alloc (.cells #[.int .i64 s, .slice A1 n c1, .slice (some ⟨g2, 0, none⟩) nr c2] 26) = W := ⟨_, rfl⟩
  rw [hW] at hb0 hrow0
  obtain ⟨z0, z1, z2⟩ : PBox W w.heap.size s A1 n c1 (some ⟨g2, 0, none⟩) nr c2 := ⟨cell_of_row _ _ 0 _ _ (0, 0) hrow0, cell_of_row _ _ 1 _ _ (0, 0) hrow0, cell_of_row _ _ 2 _ _ (0, 0) hrow0⟩
  have hbW : Below w0.heap.size w0 W := step hb hb0
  have hkp : ∀ (g : Nat) (cs : Array Value), w0.heap[g]? = some (.cells cs 3) → ∃ cs' : Array Value, W.heap[g]? = some (.cells cs' 3) ∧ cs'.size = cs.size := fun g cs hg => ⟨cs, (hbW.block g (Array.getElem?_eq_some_iff.1 hg).1).trans hg, rfl⟩
  have hRW : 0 < nr → RBlk W lo hi g2 nr (fun i => (rat rs i).xs.length) ∧ (lo ≤ g2 ∧ g2 < hi) := fun hp => by
    obtain ⟨⟨cur, hg, hs, hin⟩, hl⟩ := hR.rblk hp hh
    exact ⟨⟨cur, (hbW.block g2 (Array.getElem?_eq_some_iff.1 hg).1).trans hg, hs, fun i hi' => by obtain ⟨A', c', e, hB⟩ := hin i hi'; exact ⟨A', c', e, hB.keep hkp⟩⟩, hl⟩
  have HI := Lib.hid (markIntS_blk A1 c1 n lo hi m W ((ho.blk hh).keep hkp) (by omega) h0 (by omega))
  have HRr := Lib.hid (fun (w' : World) (hs : Sz W w') (q : Int) (q0 : 0 ≤ q) (q1 : q ≤ 1099511627776) => markRuleS_blk (some ⟨g2, 0, none⟩) c2 nr lo hi (fun i => (rat rs i).xs.length) q w' (fun hp => ⟨g2, rfl, (hRW hp).2, (hRW hp).1.mk_ hs⟩) hL hnr q0 q1)
  have HB0 := Lib.hid (Bt.of_below (lo := lo) (hi := hi) hb0 (Nat.le_refl _))
  have HW := Lib.hid hW
  clear hW hRW hkp hbW
  go_enter Tryz.func61, Tryz.ntmps61
  go_wp2_with fail
  rw [HW.out]
  refine HI.out.mono ?_
  rintro e w1 ⟨rfl, hm1⟩
  obtain ⟨cs1, hrow1, _, e1⟩ := hm1.2 _ _ _ hrow0
  obtain rfl := e1 (by decide)
  obtain ⟨y0, y1, y2⟩ : PBox w1 w.heap.size s A1 n c1 (some ⟨g2, 0, none⟩) nr c2 := ⟨cell_of_row _ _ 0 _ _ (0, 0) hrow1, cell_of_row _ _ 1 _ _ (0, 0) hrow1, cell_of_row _ _ 2 _ _ (0, 0) hrow1⟩
  clear hrow1 hrow0
  have hb1 := HB0.out.trans hm1.1
  have HR1 := Lib.hid (HRr.out w1 hm1.2 (m + n) (by omega) (by omega))
  go_wp2_with (go_at_call 114; refine HR1.out.mono ?_; rintro e w2 ⟨⟨q, rfl, q0, q1⟩, hb2⟩)
  go_ret
  exact ⟨⟨q, rfl, q0, q1⟩, hb1.trans hb2⟩
end Go.Proofs.YtchcmgaohcldjaaGreatDoor
set_option maxRecDepth 8000
namespace Go.Proofs.YtchcmgaohcldjaaGreatDoor
open Go.ChangeShapes Go.WideShapes Go.ChangeAt Go.RowKit
theorem row_max {k : IntKind} {w : World} {a : Option Addr} {len cap : Nat} {zs : List Int} (h : IsRow k w a len cap zs) : len ≤ 9223372036854775807 := by
  rcases h with ⟨rfl, rfl, rfl, rfl⟩ | ⟨x, rfl, hl, hm, _⟩
  · omega
  · simp only [maxLen] at hm; omega
theorem below_undrew {w w2 : World} (h : Below w.drew.heap.size w.drew w2) : Below w.heap.size w w2 := ⟨h.os, h.tape, h.output, h.size, h.block⟩
end Go.Proofs.YtchcmgaohcldjaaGreatDoor
set_option maxRecDepth 8000
namespace Go.Proofs.YtchcmgaohcldjaaGreatDoor
open Go.ChangeShapes Go.WideShapes Go.ChangeAt Go.RowKit Go.Deep
/-! A slice of rules that came in, as it reads. -/
theorem list_of {P : Nat → RuleM → Prop} : ∀ n, (∀ i, i < n → ∃ r, P i r) → ∃ rs : List RuleM, rs.length = n ∧ ∀ i, i < n → P i (rat rs i) := by
  intro n
  induction n with
  | zero => intro _; exact ⟨[], rfl, fun i hi => absurd hi (by omega)⟩
  | succ n ih =>
    intro h
    obtain ⟨rs, hl, hp⟩ := ih (fun i hi => h i (by omega))
    obtain ⟨r, hr⟩ := h n (by omega)
    refine ⟨rs ++ [r], by simp [hl], fun i hi => ?_⟩
    by_cases e : i < n
    · have : rat (rs ++ [r]) i = rat rs i := by simp [rat, List.getD_eq_getElem?_getD, List.getElem?_append_left (by omega : i < rs.length)]
      rw [this]; exact hp i e
    · obtain rfl : i = n := by omega
      have : rat (rs ++ [r]) i = r := by simp [rat, List.getD_eq_getElem?_getD, ← hl]
      rw [this]; exact hr
theorem add_plain (b off i : Nat) : (⟨b, off, none⟩ : Addr).add i = ⟨b, off + i, none⟩ := by unfold Addr.add; split <;> simp_all
theorem open_rules {H : Type} {enc : TypeId × Value → H} {W : World} {base : Nat} {held : Bool} {fs : Array Field} {fuel : Nat} {v : Value} {x : DataW H × List MemPlace}
    (he : Tryz.prog.underlying 162 = some (.struct fs)) (hone : oneCellFields Tryz.prog fs = true) (hC : Tryz.prog.cellsOf 162 = 3) (hfs : fs.size = 3)
    (t0 : (fs[0]?).map (·.type) = some 3) (t1 : (fs[1]?).map (·.type) = some 23) (t2 : (fs[2]?).map (·.type) = some 3) (h1 : Tryz.prog.cellsOf 3 = 1)
    (h : DataW.trod enc Tryz.prog W base (fun _ => true) held fuel 57 [v] = some x) :
    ∃ A len cap rs, v = .slice A len cap ∧ RdRx W W.heap.size A len rs ∧ len ≤ 9223372036854775807 := by
  rcases open_slice Tryz.underlying57 h with ⟨hcs, _⟩ | ⟨a, len, cap, m, nf, D, Pl, hcs, hb, hl, hm, hmm, _, hi⟩
  · injection hcs with hcs
    exact ⟨none, 0, 0, [], hcs, ⟨rfl, fun hn => absurd hn (by omega)⟩, by omega⟩
  · injection hcs with hcs
    have hlm : len ≤ m := by rw [hmm]; simpa using hl
    have hmax : len ≤ 9223372036854775807 := by simp only [maxLen] at hm; omega
    -- one element
    have one : ∀ i, i < len → ∃ (k : Int) (A' : Option Addr) (l c : Nat) (zs : List Int) (u : Int), W.cell? (a.add (i * 3)) = some (.int .i64 k) ∧ W.cell? (a.add (i * 3 + 1)) = some (.slice A' l c) ∧ W.cell? (a.add (i * 3 + 2)) = some (.int .i64 u) ∧ IsRow .i64 W A' l c zs := fun i hil => by
      obtain ⟨cs', hc, ht⟩ := hi i (by omega)
      rw [hC] at hc
      obtain ⟨ys, n', _, _, hlen, hyl, hf⟩ := DataW.trod_struct he ht
      obtain ⟨_, hcl, hat⟩ := World.cells?_some hc
      match cs', hcl with
      | [c0, c1, c2], _ =>
        obtain ⟨f0, hf0⟩ : ∃ f, fs[0]? = some f := ⟨fs[0], Array.getElem?_eq_getElem (by omega)⟩
        obtain ⟨f1, hf1⟩ : ∃ f, fs[1]? = some f := ⟨fs[1], Array.getElem?_eq_getElem (by omega)⟩
        obtain ⟨f2, hf2⟩ : ∃ f, fs[2]? = some f := ⟨fs[2], Array.getElem?_eq_getElem (by omega)⟩
        obtain ⟨o0, k0⟩ := hone_of hone 0 f0 hf0
        obtain ⟨o1, k1⟩ := hone_of hone 1 f1 hf1
        obtain ⟨o2, k2⟩ := hone_of hone 2 f2 hf2
        have e0 := hf 0 f0 hf0
        have e1 := hf 1 f1 hf1
        have e2 := hf 2 f2 hf2
        rw [o0, k0] at e0
        rw [o1, k1] at e1
        rw [o2, k2] at e2
        rw [hf0] at t0
        rw [hf1] at t1
        rw [hf2] at t2
        have t0' : f0.type = 3 := by simpa using t0
        have t1' : f1.type = 23 := by simpa using t1
        have t2' : f2.type = 3 := by simpa using t2
        rw [t0'] at e0
        rw [t1'] at e1
        rw [t2'] at e2
        have g0 : DataW.trod enc Tryz.prog W base (fun _ => true) held n' 3 [c0] = some (ys[0]'(by omega)) := by rw [← List.getElem?_eq_getElem]; simpa using e0
        have g1 : DataW.trod enc Tryz.prog W base (fun _ => true) held n' 23 [c1] = some (ys[1]'(by omega)) := by rw [← List.getElem?_eq_getElem]; simpa using e1
        have g2 : DataW.trod enc Tryz.prog W base (fun _ => true) held n' 3 [c2] = some (ys[2]'(by omega)) := by rw [← List.getElem?_eq_getElem]; simpa using e2
        obtain ⟨k, ek, _⟩ := DataW.trod_int Tryz.underlying3 g0
        obtain ⟨u, eu, _⟩ := DataW.trod_int Tryz.underlying3 g2
        injection ek with ek
        injection eu with eu
        have a0 := hat 0 (by omega)
        have a1 := hat 1 (by omega)
        have a2 := hat 2 (by omega)
        rw [add_add] at a0 a1 a2
        obtain ⟨A', l, c, zs, ez, hz⟩ : ∃ A' l c zs, c1 = .slice A' l c ∧ IsRow .i64 W A' l c zs := by
          rcases open_ints Tryz.underlying23 Tryz.underlying3 h1 g1 with ⟨hcs, _⟩ | ⟨x, l, c, zs, hcs, _, hl, hm, hz, _, hcell, hwz⟩
          · injection hcs with hcs
            exact ⟨none, 0, 0, [], hcs, .inl ⟨rfl, rfl, rfl, rfl⟩⟩
          · injection hcs with hcs
            exact ⟨_, _, _, zs, hcs, .inr ⟨_, rfl, hl, hm, by simpa using hz, hcell, hwz⟩⟩
        exact ⟨k, A', l, c, zs, u, by rw [ek] at a0; simpa using a0, by rw [ez] at a1; simpa using a1, by rw [eu] at a2; simpa using a2, hz⟩
    by_cases h0 : len = 0
    · subst h0
      exact ⟨some a, 0, cap, [], hcs, ⟨rfl, fun hn => absurd hn (by omega)⟩, hmax⟩
    · obtain ⟨k, A', l, c, zs, u, q0, q1, q2, q3⟩ := one 0 (by omega)
      obtain ⟨b, off, spot⟩ := a
      have hspot : spot = none := by simpa [Addr.add] using World.cell?_spot q0
      subst hspot
      obtain ⟨rs, hrl, hrs⟩ := list_of (P := fun i r => ∃ A' c', W.cell? ⟨b, off + i * 3, none⟩ = some (.int .i64 r.k) ∧ W.cell? ⟨b, off + i * 3 + 1, none⟩ = some (.slice A' r.xs.length c') ∧ W.cell? ⟨b, off + i * 3 + 2, none⟩ = some (.int .i64 r.v) ∧ Rd W W.heap.size A' r.xs.length r.xs ∧ r.xs.length ≤ 9223372036854775807) len (fun i hil => by
        obtain ⟨k, A', l, c, zs, u, q0, q1, q2, q3⟩ := one i hil
        have hrd := rd_of_row q3
        have hll := hrd.1
        rw [add_plain] at q0 q1 q2
        exact ⟨⟨k, zs.take l, u⟩, A', c, q0, by rw [hll, Nat.add_assoc]; exact q1, by rw [Nat.add_assoc]; exact q2, by rw [hll]; exact hrd, by rw [hll]; exact row_max q3⟩)
      exact ⟨_, _, _, rs, hcs, ⟨hrl, fun _ => ⟨b, off, rfl, cell_lt q0, hrs⟩⟩, hmax⟩
end Go.Proofs.YtchcmgaohcldjaaGreatDoor
set_option maxRecDepth 8000
namespace Go.Proofs.YtchcmgaohcldjaaGreatDoor
open Go.ChangeShapes Go.WideShapes Go.ChangeAt Go.RowKit
theorem Ow.far8 {w w' : World} {lo n c : Nat} {A : Option Addr} {xs : List Int} (h : Ow w lo A n c xs) {r : Option Nat} (hg : w.grownBy w' r) (hr : ∀ g, r = some g → g < lo) : Ow w' lo A n c xs :=
  World.ownsRow.kept h (row := r) hg (by
    cases e : (Value.slice A n c).ownBlock with
    | none => exact .inl rfl
    | some g => exact .inr (fun e2 => by have h1 := h.own_lo g e; have h2 := hr g e2.symm; omega))
theorem naL_len8 {s most : Int} {gi m : List Int} {rs : List RuleM} : (naL s gi rs m most).length ≤ m.length := naL_len
set_option maxHeartbeats 4000000 in
theorem exactNarrowAll_walk (s : Int) (Ag : Option Addr) (cg ng : Nat) (gi : List Int) (Ar : Option Addr) (cr nr : Nat) (rs : List RuleM) (A : Option Addr) (c nm : Nat) (m : List Int) (most : Int) (w : World) (hgi : Rd w w.heap.size Ag ng gi) (hgm : ng ≤ 9223372036854775807) (hr : RdRx w w.heap.size Ar nr rs) (hrm : nr ≤ 9223372036854775807) (b_s : -9223372036854775808 ≤ s ∧ s ≤ 9223372036854775807) (hmm : Rd w w.heap.size A nm m) (hm64 : B64 m) (_b : -9223372036854775808 ≤ most ∧ most ≤ 9223372036854775807) (hT : Tz w) :
    Calls Tryz.prog 13 #[.agg #[.int .i64 s, .slice Ag ng cg, .slice Ar nr cr], .slice A nm c, .int .i64 most] w fun e w' => e = .returned (.bool true) ∧ Below w.heap.size w w' := by
  have hx0 := pbox_new w s Ag ng cg Ar nr cr 59
  have hb0 : Below w.heap.size w (w.alloc (.cells #[.int .i64 s, .slice Ag ng cg, .slice Ar nr cr] 59)) := (Below.refl _ _).alloc (Nat.le_refl _) _
  by_cases hn : nm ≤ 1048576
  · have hm : nm ≤ 1099511627776 := by omega
    have hs0 : (w.alloc (.cells #[.int .i64 s, .slice Ag ng cg, .slice Ar nr cr] 59)).heap.size = w.heap.size + 1 := by simp
    obtain ⟨W, hW⟩ : ∃ W, w.alloc (.cells #[.int .i64 s, .slice Ag ng cg, .slice Ar nr cr] 59) = W := ⟨_, rfl⟩
    rw [hW] at hx0 hb0 hs0
    have HX := Lib.hid (fun w' (hb : Below W.heap.size W w') => hx0.below (by omega : w.heap.size < W.heap.size) hb)
    have HB := Lib.hid (fun w' (hb : Below W.heap.size W w') => step hb0 hb)
    have HMS := Lib.hid (fun w' (hb : Below W.heap.size W w') => toIntS_any A c nm w.heap.size m w' (hmm.below (step hb0 hb)) (step hb0 hb).size hm)
    have hrl := Lib.hid hr.1
    have hml := Lib.hid hmm.1
    have HSZ := Lib.hid (fun w' (hb : Below w.heap.size w w') => szPuzzle_any s Ag cg ng Ar cr nr w.heap.size rs 1048576 w' hgm (hr.below hb) hb.size hrm (by omega) (by omega))
    have HSZ0 := Lib.hid (HSZ.out _ hb0)
    have HTZ := Lib.hid (fun w' (hb : Below W.heap.size W w') => hT.below hT.lt (step hb0 hb))
    obtain ⟨a0, a1, a2⟩ := id hx0
    have HW := Lib.hid hW
    clear hW
    go_enter Tryz.func13, Tryz.ntmps13
    go_wp2_with fail
    rw [HW.out]
    refine HSZ0.out.mono ?_
    rintro e w1 ⟨r, rfl, hb1, hr1⟩
    rcases hr1 with rfl | ⟨r0, hl1, hl2, hl3⟩
    · go_wp2
      go_ret
      exact ⟨rfl, HB.out _ hb1⟩
    have hrneg : ¬ r < 0 := by omega
    have hng20 : ng ≤ 1048576 := by omega
    have hmg : ng ≤ 1099511627776 := by omega
    have hmr : nr ≤ 1099511627776 := by omega
    have hnr : nr ≤ 1048576 := by omega
    have HL20 := Lib.hid (show ∀ i, i < nr → (rat rs i).xs.length ≤ 1048576 from fun i hi => by have := hl3 i hi; omega)
    have HRS := Lib.hid (fun w' (hb : Below w.heap.size w w') => (hr.below hb).small (fun i hi => by have := hl3 i hi; omega))
    have HTP := Lib.hid (fun w' (hb : Below w.heap.size w w') => toPuzzle_any s Ag cg ng w.heap.size gi Ar cr nr w.heap.size rs w' (hgi.below hb) hb.size hmg (HRS.out _ hb) hb.size hnr)
    clear hl1 hl2 hl3
    have hlen : (naL s gi rs m most).length ≤ 1048576 := by have := naL_len8 (s := s) (gi := gi) (rs := rs) (m := m) (most := most); rw [hml.out] at this; omega
    have hsame := same_refl (naL s gi rs m most)
    have hsamem := same_refl m
    obtain ⟨c0, c1, c2⟩ := HX.out _ hb1
    go_wp2_with fail
    refine (HTP.out _ (HB.out _ hb1)).mono ?_
    rintro e w2 ⟨A2, g2, rfl, ho2, hor2, hb2⟩
    have h02 := step hb1 hb2
    have hp2 : PGs w2 s A2 ng ng w2.heap.size gi (some ⟨g2, 0, none⟩) nr nr w2.heap.size rs := ⟨ho2.rd, Nat.le_refl _, hmg, hor2.rd hrl.out, Nat.le_refl _, hmr⟩
    go_wp2_with fail
    refine (HMS.out _ h02).mono ?_
    rintro e w2a ⟨rfl, ho2a, hb2a⟩
    have h02a := step h02 hb2a
    have hp2a := hp2.below hb2a
    go_wp2_with fail
    refine (specNarrowAllX _ _ _ _ _ _ _ _ _ _ _ _ _ _ _ _ most _ hp2a ho2a.rd (Nat.le_refl _) hm b_s).mono ?_
    rintro e w3 ⟨A0, n0, cA0, rfl, ho0, hb3⟩
    obtain rfl := ho0.len
    have h03 := step h02a hb3
    have HR0 := Lib.hid (fun w' (hb : Below w3.heap.size w3 w') => ho0.rd.below hb)
    obtain ⟨d0, d1, d2⟩ := HX.out _ h03
    clear ho2 hor2 hp2 ho2a hp2a
    go_wp2_with fail
    refine (HTP.out _ (HB.out _ h03)).mono ?_
    rintro e w4 ⟨A4, g4, rfl, ho4, hor4, hb4⟩
    have hy4 := pbox_new w4 s A4 ng ng (some ⟨g4, 0, none⟩) nr nr 26
    have hb5 : Below w4.heap.size w4 (w4.alloc (.cells #[.int .i64 s, .slice A4 ng ng, .slice (some ⟨g4, 0, none⟩) nr nr] 26)) := (Below.refl _ _).alloc (Nat.le_refl _) _
    have hs5 : (w4.alloc (.cells #[.int .i64 s, .slice A4 ng ng, .slice (some ⟨g4, 0, none⟩) nr nr] 26)).heap.size = w4.heap.size + 1 := by simp
    obtain ⟨w5, hw5⟩ : ∃ w5, w4.alloc (.cells #[.int .i64 s, .slice A4 ng ng, .slice (some ⟨g4, 0, none⟩) nr nr] 26) = w5 := ⟨_, rfl⟩
    rw [hw5] at hy4 hb5 hs5
    have hpc4 : PGc w4 s A4 ng ng w4.heap.size gi (some ⟨g4, 0, none⟩) nr nr w4.heap.size rs := ⟨ho4.rd, Nat.le_refl _, hmg, hor4.rdc hrl.out, Nat.le_refl _, hmr⟩
    have HP4 := Lib.hid (fun w' (hb : Below w4.heap.size w4 w') => hpc4.below hb)
    have HY := Lib.hid (fun w' (hb : Below w5.heap.size w5 w') => hy4.below (by omega : w4.heap.size < w5.heap.size) hb)
    have h35 := step hb4 hb5
    have Hw5 := Lib.hid hw5
    have HMS5 := Lib.hid (HMS.out _ (step h03 h35))
    have HO4 := Lib.hid ho4
    have HOR4 := Lib.hid hor4
    obtain ⟨e0, e1, e2⟩ := id hy4
    clear hw5 hpc4 ho4 hor4
    go_wp2_with fail
    rw [Hw5.out]
    refine HMS5.out.mono ?_
    rintro e w5a ⟨rfl, ho5a, hb5a⟩
    rw [hs5] at ho5a
    have h55 := hb5a
    have h35a := step h35 h55
    have HI5 := Lib.hid ((implNarrowAll _ _ _ _ _ _ _ _ _ _ _ _ nm _ _ _ most _ (HP4.out _ (step hb5 h55)) ho5a.rd (Nat.le_refl _) hm64 hm (HTZ.out _ (step h03 h35a)) b_s))
    have HO5 := Lib.hid (fun w' (hb : Below w5a.heap.size w5a w') => ho5a.below hb)
    have HX1 := Lib.hid (fun g hg => ho5a.own_hi g hg)
    obtain ⟨e0, e1, e2⟩ := HY.out _ h55
    go_wp2_with fail
    refine HI5.out.mono ?_
    rintro e w6 ⟨A1, n1, cA1, rfl, hog, hb6⟩
    obtain rfl := hog.len
    have h56 := step h55 hb6
    have h36 := step h35a hb6
    obtain ⟨f0, f1, f2⟩ := HX.out _ (step h03 h36)
    obtain ⟨g0, g1, g2'⟩ := HY.out _ h56
    have hne : (naR s gi rs m most != naR s gi rs m most) = false := by simp
    have h5a6 := hb6
    go_wp2_with fail
    refine (eqIntS_any _ _ _ _ _ _ _ _ _ _ _ hog.rd (HR0.out _ h36) (by omega)).mono ?_
    rintro e w8 ⟨rfl, hb8⟩
    have h38 := step h36 hb8
    have h58 := step h56 hb8
    have h5a8 := step h5a6 hb8
    have hog8 := hog.below hb8
    obtain ⟨i0, i1, i2⟩ := HX.out _ (step h03 h38)
    obtain ⟨j0, j1, j2⟩ := HY.out _ h58
    have hBA : Below w.heap.size w w8.drew := (HB.out _ (step h03 h38)).drew
    have hP8 := (HP4.out _ (step hb5 h58)).rd
    clear a0 a1 a2 c0 c1 c2 d0 d1 d2 e0 e1 e2 f0 f1 f2 g0 g1 g2'
    go_upto_region 13 with fail
    go_cut [60] from 19 (fun bv wx => bv = .bool false ∧ Below w8.heap.size w8 wx)
    case first =>
      go_wp2
      go_region_with (first | (go_at_call 57; (with_reducible refine (HTP.out _ ?hd).mono ?_); (case hd => exact hBA); rintro e w7 ⟨A7, g7, rfl, ho8, hor8, hb8d⟩; have hb8' := below_undrew hb8d; clear hb8d; obtain ⟨q0, q1, q2⟩ := HY.out _ (step h58 hb8'); have hp8 := hP8.below hb8'; have hgr8 := ho8.rd; have hrr8 := hor8.rd hrl.out) | (go_at_call 60; (with_reducible refine (eqPuzzle_any s A4 A7 ng ng ng _ _ gi (some ⟨g4, 0, none⟩) (some ⟨g7, 0, none⟩) nr nr nr _ _ rs _ hp8.g hp8.gB hmg hgr8 ?hB hp8.r hrr8 hp8.rB ?hB2 hmr).mono ?_); (case hB => exact Nat.le_refl _); (case hB2 => exact Nat.le_refl _); rintro e w8' ⟨rfl, hb9⟩))
      all_goals
        go_wp2
        go_meet
        case rel => first | exact ⟨rfl, step hb8' hb9⟩ | exact ⟨by trivial, step hb8' hb9⟩ | exact step hb8' hb9
    case rest =>
      obtain ⟨rfl, hbx⟩ := hcut
      have h3c := step h38 hbx
      have h5c := step h58 hbx
      have h5ac := step h5a8 hbx
      have hogc := hog8.below hbx
      obtain ⟨i0, i1, i2⟩ := HX.out _ (step h03 h3c)
      obtain ⟨j0, j1, j2⟩ := HY.out _ h5c
      go_wp2_with fail
      refine (HMS.out _ (step h03 h3c)).mono ?_
      rintro e w8b ⟨rfl, ho8b, hb8b⟩
      have h5ab := step h5ac hb8b
      go_wp2_with fail
      refine (eqIntS_any _ _ _ _ _ _ _ _ _ _ _ (HO5.out _ h5ab).rd ho8b.rd hm).mono ?_
      rintro e w8c ⟨rfl, hb8c⟩
      have h3d := step (step h3c hb8b) hb8c
      have h5d := step (step h5c hb8b) hb8c
      have h5ad := step h5ab hb8c
      have hogd := (hogc.below hb8b).below hb8c
      obtain ⟨j0, j1, j2⟩ := HY.out _ h5d
      have HMk := Lib.hid (markPuzzle_any s A4 ng ng g4 nr nr w3.heap.size w4.heap.size gi rs 1 w4 w8c HO4.out HOR4.out (Nat.le_refl _) (step hb5 h5d) hng20 hnr HL20.out (by omega) (by omega))
      have hwc := h3d.size
      have hw5s := h5d.size
      have hw5as := h55.size
      go_wp2_with fail
      refine HMk.out.mono ?_
      rintro e w9 ⟨⟨q, rfl, q0, q1⟩, hbm⟩
      have h39 : Below w3.heap.size w3 w9 := h3d.trans (hbm.below (Nat.le_refl _) hwc)
      have hog9 := hogd.bt hbm (by have := h35a.size; omega)
      have hom9 := (HO5.out _ h5ad).bt hbm (by omega)
      clear hbm hogc hog8 hog hogd
      go_wp2_with fail
      refine (markIntS_any _ _ _ _ _ _ _ hom9 (by omega) (by omega) (by omega)).mono ?_
      rintro e w9b ⟨rfl, _, hg9b⟩
      have hw5al := h35.size
      have h39b : Below w3.heap.size w3 w9b := h39.trans (below_own hg9b (fun g hg => by have q1 := hom9.own_lo g hg; omega) h39.size)
      have hog9b := hog9.far8 hg9b HX1.out
      have hkn : ¬ q + (nm : Int) < 0 := by omega
      clear hom9 hg9b hog9
      go_wp2_with fail
      refine (eqIntS_any _ _ _ _ _ _ _ _ _ _ _ hog9b.rd (HR0.out _ h39b) (by omega)).mono ?_
      rintro e w10 ⟨rfl, hb10⟩
      have h310 := step h39b hb10
      have hog10 := hog9b.below hb10
      go_wp2_with fail
      refine (markIntS_any _ _ _ _ _ _ _ hog10 (by omega) (by omega) (by omega)).mono ?_
      rintro e w11 ⟨rfl, hog11, hg11⟩
      rw [marked_all] at hog11
      have h311 : Below w3.heap.size w3 w11 := h310.trans (below_own hg11 (fun g hg => by have q1 := hog10.own_lo g hg; omega) h310.size)
      clear hg11
      go_wp2_with fail
      refine (heldIntS_seq _ _ _ _ _ _ hog11.rd (by omega) (by omega) (by omega)).mono ?_
      rintro e w11' ⟨rfl, rfl⟩
      obtain ⟨k0, k1, k2⟩ := HX.out _ (step h03 h311)
      go_wp2_with fail
      refine (HTP.out _ (HB.out _ (step h03 h311))).mono ?_
      rintro e w12 ⟨A12, g12, rfl, ho12, hor12, hb12⟩
      have hpc12 : PGc w12 s A12 ng ng w12.heap.size gi (some ⟨g12, 0, none⟩) nr nr w12.heap.size rs := ⟨ho12.rd, Nat.le_refl _, hmg, hor12.rdc hrl.out, Nat.le_refl _, hmr⟩
      have h312 := step h311 hb12
      go_wp2_with fail
      refine (HMS.out _ (step h03 h312)).mono ?_
      rintro e w12b ⟨rfl, ho12b, hb12b⟩
      have h312b := step h312 hb12b
      have hpc12b := hpc12.below hb12b
      have HI13 := Lib.hid ((implNarrowAll _ _ _ _ _ _ _ _ _ _ _ _ nm _ _ _ most _ hpc12b ho12b.rd (Nat.le_refl _) hm64 hm (HTZ.out _ (step h03 h312b)) b_s))
      go_wp2_with fail
      refine HI13.out.mono ?_
      rintro e w13 ⟨A13, n13, c13, rfl, ho13, hb13⟩
      obtain rfl := ho13.len
      have h313 := step h312b hb13
      go_wp2_with fail
      refine (eqIntS_any _ _ _ _ _ _ _ _ _ _ _ ho13.rd (HR0.out _ h313) (by omega)).mono ?_
      rintro e w14 ⟨rfl, hb14⟩
      have h314 := step h313 hb14
      go_wp2_with fail
      refine (heldIntS_seq _ _ _ _ _ _ ((((hog11.below hb12).below hb12b).below hb13).below hb14).rd (by omega) (by omega) (by omega)).mono ?_
      rintro e w15 ⟨rfl, rfl⟩
      go_wp2
      go_ret
      exact ⟨rfl, HB.out _ (step h03 h314)⟩
  · go_enter Tryz.func13, Tryz.ntmps13
    go_wp2
    go_ret
    exact ⟨rfl, hb0⟩
end Go.Proofs.YtchcmgaohcldjaaGreatDoor
set_option maxRecDepth 8000
namespace Go.Proofs.YtchcmgaohcldjaaGreatDoor
open Go.ChangeShapes Go.WideShapes Go.ChangeAt Go.RowKit
/-- the box of a cell. -/
def boxC (k : Nat) : Int := ((k / 8 * 2 + k % 4 / 2 : Nat) : Int)
/-- the numbers of the regions are valid. -/
def regB (rg : List Int) (s : Int) : Bool := (rg.all fun x => inr x 0 (s - 1)) && inr s 2 4 && ((rg.length : Int) == s * s)
end Go.Proofs.YtchcmgaohcldjaaGreatDoor
set_option maxRecDepth 8000
namespace Go.Proofs.YtchcmgaohcldjaaGreatDoor
open Go.ChangeShapes Go.WideShapes Go.ChangeAt Go.RowKit
/-- the cells before the u-th that lie in a region. -/
def pickTo (rg : List Int) (r : Int) : Nat → List Int
  | 0 => []
  | u + 1 => if nth rg u = r then pickTo rg r u ++ [(u : Int)] else pickTo rg r u
def cellsL (rg : List Int) (s r : Int) (n : Nat) : List Int := if regB rg s = true then pickTo rg r n else []
end Go.Proofs.YtchcmgaohcldjaaGreatDoor
set_option maxRecDepth 8000
namespace Go.Proofs.YtchcmgaohcldjaaGreatDoor
open Go.ChangeShapes Go.WideShapes Go.ChangeAt Go.RowKit
/-- the rules of the regions before the u-th. -/
def rrTo (rg : List Int) (s : Int) (n : Nat) : Nat → List RuleM
  | 0 => []
  | u + 1 => if 2 ≤ (cellsL rg s u n).length then rrTo rg s n u ++ [⟨1, cellsL rg s u n, 0⟩] else rrTo rg s n u
end Go.Proofs.YtchcmgaohcldjaaGreatDoor
set_option maxRecDepth 8000
namespace Go.Proofs.YtchcmgaohcldjaaGreatDoor
open Go.ChangeShapes Go.WideShapes Go.ChangeAt Go.RowKit
/-- a drawn rule in block X, and a drawn grid: each in memory of its own. -/
def CaseRel (w0 : World) (B G P X : Nat) (k : Int) (A : Option Addr) (n c : Nat) (v : Int) (xs : List Int) (gv : Value) (wx : World) : Prop :=
  wx.heap[X]? = some (.cells #[.int .i64 k, .slice A n c, .int .i64 v] 73) ∧ Ow wx w0.heap.size A n c xs ∧ (∀ b, (Value.slice A n c).ownBlock = some b → b ≠ X) ∧
    (∃ (gb ng cg : Nat) (g : List Int), gv = .slice (some ⟨gb, 0, none⟩) ng cg ∧ Ow wx w0.heap.size (some ⟨gb, 0, none⟩) ng cg g ∧ 4 ≤ ng ∧ ng ≤ 16 ∧ gb ≠ X ∧ ∀ b, (Value.slice A n c).ownBlock = some b → b ≠ gb) ∧ Rdr wx B G P ∧ w0.grownBy wx (some G)
theorem CaseRel.keep {w0 wx wy : World} {B G P P' X : Nat} {k : Int} {A : Option Addr} {n c : Nat} {v : Int} {xs : List Int} {gv : Value} (h : CaseRel w0 B G P X k A n c v xs gv wx) (hG : G < w0.heap.size) (hX : w0.heap.size ≤ X) (hg : wx.grownBy wy (some G)) (hr : Rdr wy B G P') : CaseRel w0 B G P' X k A n c v xs gv wy := by
  obtain ⟨h1, h2, h3, ⟨gb, ng, cg, g, h4, h5, h6, h7, h8, h9⟩, h10, h11⟩ := h
  have hXl : X < wx.heap.size := (Array.getElem?_eq_some_iff.1 h1).1
  exact ⟨(hg.block X hXl (fun e => by injection e with e; omega)).trans h1, h2.keptG hg hG, h3, ⟨gb, ng, cg, g, h4, h5.keptG hg hG, h6, h7, h8, h9⟩, hr, h11.trans hg⟩
theorem CaseRel.alloc {w0 wx : World} {B G P X : Nat} {k : Int} {A : Option Addr} {n c : Nat} {v : Int} {xs : List Int} {gv : Value} (h : CaseRel w0 B G P X k A n c v xs gv wx) (hG : G < w0.heap.size) (hB : B ≤ w0.heap.size) (hX : w0.heap.size ≤ X) (o : Obj) : CaseRel w0 B G P X k A n c v xs gv (wx.alloc o) :=
  h.keep hG hX (only_alloc (World.grownBy.refl _ _) o) (h.2.2.2.2.1.alloc (Nat.le_trans hB h.2.2.2.2.2.size) o)
end Go.Proofs.YtchcmgaohcldjaaGreatDoor
set_option maxRecDepth 8000
namespace Go.Proofs.YtchcmgaohcldjaaGreatDoor
open Go.ChangeShapes Go.WideShapes Go.ChangeAt Go.RowKit
end Go.Proofs.YtchcmgaohcldjaaGreatDoor
set_option maxRecDepth 8000
namespace Go.Proofs.YtchcmgaohcldjaaGreatDoor
open Go.ChangeShapes Go.WideShapes Go.ChangeAt Go.RowKit
/-- what a draw of a puzzle hands back: a puzzle that can be read, of blocks of its own. -/
def DrewPuz (w : World) (B G P : Nat) (m : Int) (e : Ending) (w' : World) : Prop :=
  ∃ (s : Int) (A1 : Option Addr) (n c1 : Nat) (gi : List Int) (A2 : Option Addr) (nr c2 : Nat) (rs : List RuleM), e = .returned (.agg #[.int .i64 s, .slice A1 n c1, .slice A2 nr c2]) ∧ 2 ≤ s ∧ s ≤ 4 ∧ Rd w' w'.heap.size A1 n gi ∧ n ≤ 16 ∧ (∀ b off, A1 = some ⟨b, off, none⟩ → w.heap.size ≤ b) ∧ OwR w' w.heap.size (.slice A2 nr c2) rs nr ∧ rs.length = nr ∧ nr ≤ 100 ∧ Rdr w' B G P ∧ w.grownBy w' (some G) ∧ (m < 1 → pvB s gi rs = true)
/-- the word between the parts: a puzzle of own blocks in block Pz, at most N rules. -/
def PSt (w2 : World) (B G P Pz : Nat) (s : Int) (N : Nat) (wr : World) : Prop :=
  ∃ (A1 : Option Addr) (n c1 : Nat) (gi : List Int) (A2 : Option Addr) (nr c2 : Nat) (rs : List RuleM), wr.heap[Pz]? = some (.cells #[.int .i64 s, .slice A1 n c1, .slice A2 nr c2] 26) ∧ (n : Int) = s * s ∧ Ow wr w2.heap.size A1 n c1 gi ∧ OwR wr w2.heap.size (.slice A2 nr c2) rs nr ∧ rs.length = nr ∧ nr ≤ N ∧ Rdr wr B G P ∧ w2.grownBy wr (some G) ∧ SpQ wr w2.heap.size (.slice A2 nr c2) nr (fun g => (Value.slice A1 n c1).ownBlock ≠ some g) ∧ (N < 10 → pvB s gi rs = true)
theorem pv_nil {s : Int} {g : List Int} (h : gv g s = true) : pvB s g [] = true := by simp [pvB, h]
theorem below_ownR {w w' : World} {N lo n sz : Nat} {v : Value} {e : TypeId} {xs : List Value} (hown : w.ownsRow lo e sz v n xs) (hN : N ≤ lo) (hNw : N ≤ w.heap.size) (hg : w.grownBy w' v.ownBlock) : Below N w w' :=
  ⟨hg.os, hg.tape, hg.output, hg.size, fun k hk => hg.block k (Nat.lt_of_lt_of_le hk hNw) (fun e2 => by have := (World.ownsRow.lt hown k e2.symm).1; omega)⟩
theorem ownsRow_cellX {w : World} {lo sz n X j : Nat} {e t : TypeId} {v u : Value} {xs : List Value} {cs : Array Value} (h : w.ownsRow lo e sz v n xs) (hX : w.heap[X]? = some (.cells cs t)) (hne : t ≠ e) : (w.setCell ⟨X, j, none⟩ u).ownsRow lo e sz v n xs := by
  refine World.ownsRow.kept h (row := some X) grown_set ?_
  rcases h.2 with ⟨rfl, _⟩ | ⟨g, cap, cur, rfl, hb, hg, _⟩
  · exact .inl rfl
  · refine .inr (fun e2 => ?_)
    have e3 : g = X := by simpa [Value.ownBlock] using e2
    subst e3
    rw [hX] at hg
    injection hg with hg
    injection hg with _ h2 _
    exact hne h2
theorem SpQ.cellX {w : World} {lo k X j : Nat} {v u : Value} {Q : Nat → Prop} {cs : Array Value} (h : SpQ w lo v k Q) (hX : w.heap[X]? = some (.cells cs 26)) : SpQ (w.setCell ⟨X, j, none⟩ u) lo v k Q := h.map fun _ hown => ownsRow_cellX hown hX (by decide)
theorem OwR.cellX {w : World} {lo k X j : Nat} {v u : Value} {rs : List RuleM} {cs : Array Value} (h : OwR w lo v rs k) (hX : w.heap[X]? = some (.cells cs 26)) : OwR (w.setCell ⟨X, j, none⟩ u) lo v rs k := by
  obtain ⟨vs, hown, hin⟩ := h
  refine ⟨vs, ownsRow_cellX hown hX (by decide), fun i hi => ?_⟩
  obtain ⟨A', c', e0, e1, e2, e3, e4, e5⟩ := hin i hi
  exact ⟨A', c', e0, e1, e2, ownsRow_cellX e3 hX (by decide), e4, e5⟩
/-- rules pushed and stored: by 'append' to the rules at wr, behind what a call and literals made. -/
theorem pst_push {w2 wr w5 w6 : World} {B G P' Pz N n c1 nr c2 nr' c' : Nat} {s : Int} {A1 A2 A' : Option Addr} {gi : List Int} {rs rs' : List RuleM} (hrow : wr.heap[Pz]? = some (.cells #[.int .i64 s, .slice A1 n c1, .slice A2 nr c2] 26)) (hn : (n : Int) = s * s) (ho : Ow wr w2.heap.size A1 n c1 gi)
    (hR : OwR wr w2.heap.size (.slice A2 nr c2) rs nr) (hg : w2.grownBy wr (some G)) (hG : G < w2.heap.size) (hPz : w2.heap.size ≤ Pz) (hB : B ≤ w2.heap.size)
    (hr5 : Rdr w5 B G P') (hg5 : wr.grownBy w5 (some G)) (hR6 : OwR w6 w2.heap.size (.slice A' nr' c') rs' nr') (hl' : rs'.length = nr') (hN : nr' ≤ N) (hg6 : w5.grownBy w6 (Value.slice A2 nr c2).ownBlock) (hS6 : SpQ w6 w2.heap.size (.slice A' nr' c') nr' (fun g => (Value.slice A1 n c1).ownBlock ≠ some g)) (hV : N < 10 → pvB s gi rs' = true) :
    PSt w2 B G P' Pz s N (w6.setCell ⟨Pz, 2, none⟩ (.slice A' nr' c')) := by
  obtain ⟨vs, hown, _⟩ := hR.keptL hg5 hG
  have hrow5 := (hg5.block Pz (Array.getElem?_eq_some_iff.1 hrow).1 (by intro e; injection e with e; omega)).trans hrow
  have hrow6 := row_own hrow5 hown (by decide) hg6
  have ho6 := ow_own (ho.keptG hg5 hG) hown (by decide) hg6
  have hg25 := hg.trans hg5
  have hb56 := below_ownR hown (Nat.le_refl _) hg25.size hg6
  have hr6 := hr5.belowN hb56 hG hB
  have hg26 := grown_own hg25 hown (Nat.le_refl _) hg6
  exact ⟨A1, n, c1, gi, A', nr', c', rs', heap_setCell_same w6 Pz 2 _ _ _ hrow6, hn, ownsRow_cellX ho6 hrow6 (by decide), hR6.cellX hrow6, hl', hN, hr6.belowN ((Below.refl _ _).setCell hPz _) hG hB, grown_low hg26 ((Below.refl _ _).setCell hPz _), hS6.cellX hrow6, hV⟩
/-- what one operation of the region that pushes a drawn rule may do. -/
def RelP (w2 : World) (B G Pz P' : Nat) (w w' : World) : Prop :=
  w.heap.size ≤ w'.heap.size ∧ (w2.grownBy w (some G) → w2.grownBy w' (some G)) ∧ (∀ cs, w.heap[Pz]? = some (.cells cs 26) → w'.heap[Pz]? = some (.cells cs 26)) ∧ (∀ A n c xs, Ow w w2.heap.size A n c xs → Ow w' w2.heap.size A n c xs) ∧ (w2.heap.size ≤ w.heap.size → Rdr w B G P' → Rdr w' B G P')
/-- the values, in the order of the text. -/
def RuleG (w2 : World) (G Pz : Nat) (s : Int) (Ag : Option Addr) (ng cg : Nat) (A2 : Option Addr) (nr c2 : Nat) (X : Option Nat) (gi : List Int) (m' : Int) : Nat → Value → World → Prop
  | 0, v, _ => v = .pointer (some ⟨Pz, 2, none⟩)
  | 1, v, _ => v = .slice A2 nr c2
  | 2, v, _ => v = .pointer (some ⟨G, 0, none⟩)
  | 3, v, _ => v = .slice Ag ng cg
  | 4, v, _ => v = .int .i64 s
  | 5, v, w => ∃ k A n c u xs, v = .agg #[.int .i64 k, .slice A n c, .int .i64 u] ∧ Ow w w2.heap.size A n c xs ∧ n ≤ 5 ∧ (m' < 1 → rv k xs u s = true) ∧ ∀ g, (Value.slice A n c).ownBlock = some g → X ≠ some g
  | 6, v, w => ∃ b k A n c u xs, v = .slice (some ⟨b, 0, none⟩) 1 1 ∧ w.heap[b]? = some (.cells #[.int .i64 k, .slice A n c, .int .i64 u] 73) ∧ Ow w w2.heap.size A n c xs ∧ n ≤ 5 ∧ some b ≠ (Value.slice A2 nr c2).ownBlock ∧ b ≠ G ∧ (m' < 1 → rv k xs u s = true) ∧ ∀ g, (Value.slice A n c).ownBlock = some g → X ≠ some g
  | 7, v, w => ∃ A' c' rs', v = .slice A' (nr + 1) c' ∧ OwR w w2.heap.size (.slice A' (nr + 1) c') rs' (nr + 1) ∧ rs'.length = nr + 1 ∧ SpQ w w2.heap.size (.slice A' (nr + 1) c') (nr + 1) (fun g => X ≠ some g) ∧ (m' < 1 → pvB s gi rs' = true)
  | 8, v, _ => v = .pointer (some ⟨Pz, 2, none⟩)
  | _, _, _ => True
/-- the word at the end: the given cells can be read, they need not be the whole of their row. -/
def FSt (w2 : World) (B G P Pz : Nat) (s m : Int) (wr : World) : Prop :=
  ∃ (A1 : Option Addr) (n c1 : Nat) (gi : List Int) (A2 : Option Addr) (nr c2 : Nat) (rs : List RuleM), wr.heap[Pz]? = some (.cells #[.int .i64 s, .slice A1 n c1, .slice A2 nr c2] 26) ∧ n ≤ 16 ∧ Rd wr wr.heap.size A1 n gi ∧ (∀ b off, A1 = some ⟨b, off, none⟩ → w2.heap.size ≤ b) ∧ OwR wr w2.heap.size (.slice A2 nr c2) rs nr ∧ rs.length = nr ∧ nr ≤ 100 ∧ Rdr wr B G P ∧ w2.grownBy wr (some G) ∧ (m < 1 → pvB s gi rs = true)
end Go.Proofs.YtchcmgaohcldjaaGreatDoor
