import Derived.Test.YtcjdjcpappfkgaaXPInD
import Derived.Test.YtcjdjcpappfkgaaXP10
import Derived.Test.YtcjdjcpappfkgaaXW4E
import Derived.Deep.Slices
import Derived.Deep.Fields
import Derived.Lib.SmallJoins
import Derived.ChangeSame
set_option maxRecDepth 8000
namespace Go.Proofs.Ytcjdjcpappfkgaa
open Go.ChangeShapes Go.WideShapes Go.ChangeAt Go.RowKit
/-! marks written into a puzzle of the call's own: what they overwrite is not told, only what stays. -/
/-- only blocks from lo to hi may have changed. -/
structure Bt (lo hi : Nat) (w w' : World) : Prop where
  os : w'.os = w.os
  tape : w'.tape = w.tape
  output : w'.output = w.output
  size : w.heap.size ≤ w'.heap.size
  block : ∀ k, k < w.heap.size → (k < lo ∨ hi ≤ k) → w'.heap[k]? = w.heap[k]?
theorem Bt.refl (lo hi : Nat) (w : World) : Bt lo hi w w := ⟨rfl, rfl, rfl, Nat.le_refl _, fun _ _ _ => rfl⟩
theorem Bt.trans {lo hi : Nat} {w w' w'' : World} (h : Bt lo hi w w') (h' : Bt lo hi w' w'') : Bt lo hi w w'' :=
  ⟨h'.os.trans h.os, h'.tape.trans h.tape, h'.output.trans h.output, Nat.le_trans h.size h'.size, fun k hk ho => (h'.block k (Nat.lt_of_lt_of_le hk h.size) ho).trans (h.block k hk ho)⟩
theorem Bt.setCell {lo hi : Nat} {w w' : World} (h : Bt lo hi w w') {g j : Nat} (hg : lo ≤ g ∧ g < hi) (v : Value) : Bt lo hi w (w'.setCell ⟨g, j, none⟩ v) :=
  h.trans ⟨rfl, rfl, rfl, by simp, fun k _ ho => heap_setCell_other w' ⟨g, j, none⟩ k v (fun e => by have e2 : k = g := e; omega)⟩
theorem Bt.of_below {B lo hi : Nat} {w w' : World} (h : Below B w w') (hB : w.heap.size ≤ B) : Bt lo hi w w' := ⟨h.os, h.tape, h.output, h.size, fun k hk _ => h.block k (Nat.lt_of_lt_of_le hk hB)⟩
theorem Bt.below {lo hi B : Nat} {w w' : World} (h : Bt lo hi w w') (hB : B ≤ lo) (hw : B ≤ w.heap.size) : Below B w w' := ⟨h.os, h.tape, h.output, h.size, fun k hk => h.block k (Nat.lt_of_lt_of_le hk hw) (.inl (Nat.lt_of_lt_of_le hk hB))⟩
theorem ownsRow_bt {w w' : World} {lo n sz : Nat} {e : TypeId} {v : Value} {xs : List Value} (h : w.ownsRow lo e sz v n xs) (hk : ∀ g, v.ownBlock = some g → w'.heap[g]? = w.heap[g]?) : w'.ownsRow lo e sz v n xs := by
  refine ⟨h.1, ?_⟩
  rcases h.2 with h1 | ⟨g, cap, cur, hv, hlo, hg, h1⟩
  · exact .inl h1
  · exact .inr ⟨g, cap, cur, hv, hlo, (hk g (by rw [hv]; rfl)).trans hg, h1⟩
theorem Ow.bt {w w' : World} {lo hi lo' n c : Nat} {A : Option Addr} {xs : List Int} (h : Ow w lo' A n c xs) (hb : Bt lo hi w w') (hh : hi ≤ lo') : Ow w' lo' A n c xs :=
  ownsRow_bt h fun g hg => hb.block g (h.own_hi g hg) (.inr (Nat.le_trans hh (h.own_lo g hg)))
/-- n cells or more, in a block of numbers of the call's own. -/
def Blk (w : World) (lo hi : Nat) (A : Option Addr) (n : Nat) : Prop := 0 < n → ∃ g cs, A = some ⟨g, 0, none⟩ ∧ (lo ≤ g ∧ g < hi) ∧ w.heap[g]? = some (.cells cs 3) ∧ n ≤ cs.size
/-- rows keep their types and sizes. -/
def Sz (w w' : World) : Prop := ∀ (g : Nat) (cs : Array Value) (t : TypeId), w.heap[g]? = some (.cells cs t) → ∃ cs' : Array Value, w'.heap[g]? = some (.cells cs' t) ∧ cs'.size = cs.size ∧ (t ≠ 3 → cs' = cs)
def MkI (lo hi : Nat) (w w' : World) : Prop := Bt lo hi w w' ∧ Sz w w'
theorem MkI.refl (lo hi : Nat) (w : World) : MkI lo hi w w := ⟨Bt.refl _ _ _, fun _ cs _ h => ⟨cs, h, rfl, fun _ => rfl⟩⟩
theorem MkI.trans {lo hi : Nat} {w w' w'' : World} (h : MkI lo hi w w') (h' : MkI lo hi w' w'') : MkI lo hi w w'' := by
  refine ⟨h.1.trans h'.1, fun g cs t hg => ?_⟩
  obtain ⟨c1, h1, s1, e1⟩ := h.2 g cs t hg
  obtain ⟨c2, h2, s2, e2⟩ := h'.2 g c1 t h1
  exact ⟨c2, h2, s2.trans s1, fun ht => (e2 ht).trans (e1 ht)⟩
theorem MkI.set {lo hi g i : Nat} {w : World} {cs : Array Value} (hg : w.heap[g]? = some (.cells cs 3)) (hlo : lo ≤ g ∧ g < hi) (v : Value) : MkI lo hi w (w.setCell ⟨g, i, none⟩ v) := by
  refine ⟨(Bt.refl _ _ _).setCell hlo _, fun b c t hb => ?_⟩
  by_cases e : g = b
  · subst e
    rw [hg] at hb
    injection hb with hb
    injection hb with e1 e2 e3
    subst e1 e2
    exact ⟨_, heap_setCell_same w g i _ _ v hg, by simp, fun h => absurd rfl h⟩
  · exact ⟨c, (heap_setCell_other w ⟨g, i, none⟩ b v (fun e2 => e e2.symm)).trans hb, rfl, fun _ => rfl⟩
theorem Blk.keep {w w' : World} {lo hi n : Nat} {A : Option Addr} (h : Blk w lo hi A n) (hk : ∀ (g : Nat) (cs : Array Value), w.heap[g]? = some (.cells cs 3) → ∃ cs' : Array Value, w'.heap[g]? = some (.cells cs' 3) ∧ cs'.size = cs.size) : Blk w' lo hi A n := fun hn => by
  obtain ⟨g, cs, rfl, hlo, hg, hs⟩ := h hn
  obtain ⟨cs', hg', hs'⟩ := hk g cs hg
  exact ⟨g, cs', rfl, hlo, hg', by omega⟩
theorem Blk.mk_ {w w' : World} {lo hi n : Nat} {A : Option Addr} (h : Blk w lo hi A n) (hk : Sz w w') : Blk w' lo hi A n := h.keep fun g cs hg => by
  obtain ⟨c1, h1, s1, _⟩ := hk g cs _ hg
  exact ⟨c1, h1, s1⟩
theorem Ow.blk {w : World} {lo hi n c : Nat} {A : Option Addr} {xs : List Int} (h : Ow w lo A n c xs) (hh : w.heap.size ≤ hi) : Blk w lo hi A n := fun hn => by
  rcases h.2 with ⟨_, h0⟩ | ⟨g, cap, cur, hv, hlo, hg, h1, h2, h3, h4⟩
  · omega
  · injection hv with hA _ _
    subst hA
    have hl := congrArg List.length h4
    have hl1 := h.1
    simp only [List.length_take, Array.length_toList] at hl
    exact ⟨g, cur, rfl, ⟨hlo, Nat.lt_of_lt_of_le (Array.getElem?_eq_some_iff.1 hg).1 hh⟩, hg, by omega⟩
theorem markIntS_blk (A : Option Addr) (c n lo hi : Nat) (m : Int) (w : World) (h : Blk w lo hi A n) (hm : n ≤ 1099511627776) (h0 : 0 ≤ m) (h1 : m ≤ 4611686018427387904) :
    Calls Try.prog 12 #[.slice A n c, .int .i64 m] w fun e w' => e = .returned (.int .i64 (m + n)) ∧ MkI lo hi w w' := by
  go_enter Try.func12, Try.ntmps12
  go_wp2
  go_loopw [1, 5] (fun q i wr => ∃ k : Nat, k ≤ n ∧ i = .int .i64 k ∧ q = .int .i64 (m + k) ∧ MkI lo hi w wr) (fun _ i _ => n - (intOf i).toNat)
  case atStart => exact ⟨0, Nat.zero_le _, rfl, by simp, MkI.refl _ _ _⟩
  case round =>
    obtain ⟨k, hk, rfl, rfl, hmk⟩ := hrel
    by_cases hlt : k < n
    · obtain ⟨g, cs, rfl, hlo, hrow, hle⟩ := (h.mk_ hmk.2) (by omega)
      have hold : wr.cell? ⟨g, k, none⟩ = some (cs[k]'(by omega)) := by rw [cell_of_row wr g k cs _ (0, 0) hrow]; exact Array.getElem?_eq_getElem _
      have hfr := frozen_of_row wr g k _ _ hrow
      have Hst := Lib.hid (hmk.trans (MkI.set (i := k) hrow hlo (.int .i64 (m + k))))
      clear hrow
      go_wp2
      go_roundw
      case rel => exact ⟨k + 1, by omega, by go_num, by go_num, Hst.out⟩
      case measure => simp [intOf]; omega
    · obtain rfl : k = n := by omega
      go_wp2
      go_ret
      exact ⟨rfl, hmk⟩
/-- a row of rules of the call's own: each has its own cells, somewhere. -/
def RBlk (w : World) (lo hi g nr : Nat) (L : Nat → Nat) : Prop := ∃ cur : Array Value, w.heap[g]? = some (.cells cur 44) ∧ nr * 3 ≤ cur.size ∧ ∀ i, i < nr → ∃ A' c', cur[i * 3 + 1]? = some (.slice A' (L i) c') ∧ Blk w lo hi A' (L i)
theorem RBlk.mk_ {w w' : World} {lo hi g nr : Nat} {L : Nat → Nat} (h : RBlk w lo hi g nr L) (hk : Sz w w') : RBlk w' lo hi g nr L := by
  obtain ⟨cur, hg, hs, hin⟩ := h
  obtain ⟨c1, h1, s1, e1⟩ := hk g cur _ hg
  obtain rfl := e1 (by decide)
  exact ⟨_, h1, hs, fun i hi => by obtain ⟨A', c', e, hb⟩ := hin i hi; exact ⟨A', c', e, hb.mk_ hk⟩⟩
theorem RBlk.set {w : World} {lo hi g nr : Nat} {L : Nat → Nat} (h : RBlk w lo hi g nr L) (j : Nat) (v : Value) (hj : ∀ i, i * 3 + 1 ≠ j) : RBlk (w.setCell ⟨g, j, none⟩ v) lo hi g nr L := by
  obtain ⟨cur, hg, hs, hin⟩ := h
  refine ⟨_, heap_setCell_same w g j _ _ v hg, by simpa using hs, fun i hi => ?_⟩
  obtain ⟨A', c', e, hb⟩ := hin i hi
  refine ⟨A', c', by rw [Array.getElem?_setIfInBounds_ne (fun e2 => hj i e2.symm)]; exact e, hb.keep fun b cs hbc => ⟨cs, (heap_setCell_other w ⟨g, j, none⟩ b v (fun e2 => ?_)).trans hbc, rfl⟩⟩
  have e3 : g = b := e2.symm
  subst e3
  rw [hg] at hbc
  injection hbc with hbc
  injection hbc with _ h2 _
  exact absurd h2 (by decide)
theorem OwR.rblk {w : World} {lo hi g nr c : Nat} {rs : List RuleM} (h : OwR w lo (.slice (some ⟨g, 0, none⟩) nr c) rs nr) (hn : 0 < nr) (hh : w.heap.size ≤ hi) : RBlk w lo hi g nr (fun i => (rat rs i).xs.length) ∧ lo ≤ g ∧ g < hi := by
  obtain ⟨vs, hown, hin⟩ := h
  rcases hown.2 with ⟨_, h0⟩ | ⟨g', cap, cur, hv, hlo, hg, h1, h2, h3, h4⟩
  · omega
  · injection hv with hA _ _
    injection hA with hA
    injection hA with hA _ _
    subst hA
    have hl := congrArg List.length h4
    have hl1 := hown.1
    simp only [List.length_take, Array.length_toList] at hl
    refine ⟨⟨cur, hg, by omega, fun i hi => ?_⟩, hlo, Nat.lt_of_lt_of_le (Array.getElem?_eq_some_iff.1 hg).1 hh⟩
    obtain ⟨A', c', e0, e1, e2, e3, e4, e5⟩ := hin i hi
    rw [← h4, List.getElem?_take] at e1
    split at e1
    · exact ⟨A', c', by simpa using e1, e3.blk hh⟩
    · cases e1
theorem markRuleS_blk (A : Option Addr) (c nr lo hi : Nat) (L : Nat → Nat) (m : Int) (w : World) (h : 0 < nr → ∃ g, A = some ⟨g, 0, none⟩ ∧ (lo ≤ g ∧ g < hi) ∧ RBlk w lo hi g nr L) (hL : ∀ i, i < nr → L i ≤ 1048576) (hn : nr ≤ 1048576) (h0 : 0 ≤ m) (h1 : m ≤ 1099511627776) :
    Calls Try.prog 13 #[.slice A nr c, .int .i64 m] w fun e w' => (∃ q : Int, e = .returned (.int .i64 q) ∧ 0 ≤ q ∧ q ≤ 4398046511104) ∧ Bt lo hi w w' := by
  have HL := Lib.hid hL
  go_enter Try.func13, Try.ntmps13
  go_wp2
  go_loopw [1, 5] (fun q i wr => ∃ (k : Nat) (x : Int), k ≤ nr ∧ i = .int .i64 k ∧ q = .int .i64 x ∧ 0 ≤ x ∧ x ≤ m + k * 1048578 ∧ Bt lo hi w wr ∧ (0 < nr → ∃ g, A = some ⟨g, 0, none⟩ ∧ (lo ≤ g ∧ g < hi) ∧ RBlk wr lo hi g nr L)) (fun _ i _ => nr - (intOf i).toNat)
  case atStart => exact ⟨0, m, Nat.zero_le _, rfl, rfl, h0, by omega, Bt.refl _ _ _, h⟩
  case round =>
    obtain ⟨k, x, hk, rfl, rfl, x0, x1, hb, hr⟩ := hrel
    by_cases hlt : k < nr
    · obtain ⟨g, rfl, hlo, hR⟩ := hr (by omega)
      obtain ⟨cur, hrow, hsz, hin⟩ := id hR
      obtain ⟨A', c', e1, hB⟩ := hin k hlt
      have hLk := HL.out k hlt
      have hx : x ≤ 4398046511104 := by omega
      have hc0 : wr.cell? ⟨g, k * 3, none⟩ = some (cur[k * 3]'(by omega)) := by rw [cell_of_row wr g _ cur _ (0, 0) hrow]; exact Array.getElem?_eq_getElem _
      have hc1 : wr.cell? ⟨g, k * 3 + 1, none⟩ = some (.slice A' (L k) c') := by rw [cell_of_row wr g _ cur _ (0, 0) hrow]; exact e1
      have hf0 := frozen_of_row wr g (k * 3) _ _ hrow
      have hR1 := hR.set (k * 3) (.int .i64 x) (by omega)
      obtain ⟨cur1, hrow1, hsz1, hin1⟩ := id hR1
      have hB1 : Blk (wr.setCell ⟨g, k * 3, none⟩ (.int .i64 x)) lo hi A' (L k) := by
        obtain ⟨A2, c2, e2, hB2⟩ := hin1 k hlt
        have e3 := heap_setCell_same wr g (k * 3) _ _ (.int .i64 x) hrow
        rw [hrow1] at e3
        injection e3 with e3
        injection e3 with e3 _ _
        subst e3
        rw [Array.getElem?_setIfInBounds_ne (by omega), e1] at e2
        injection e2 with e2
        injection e2 with e2 _ _
        subst e2
        exact hB2
      have HC := Lib.hid (markIntS_blk A' c' (L k) lo hi (x + 1) _ hB1 (by omega) (by omega) (by omega))
      have HbS := Lib.hid (fun j y (w' : World) (hb' : Bt lo hi w w') => (Bt.setCell (j := j) hb' hlo y))
      obtain ⟨l, hl⟩ : ∃ l, L k = l := ⟨_, rfl⟩
      rw [hl] at hc1 HC hLk
      have Hl := Lib.hid hl
      clear hrow hin hB e1 hin1 hrow1 hB1 hl
      go_wp2_with (go_at_call 12; refine HC.out.mono ?_; rintro e w5 ⟨rfl, hm5⟩; have hR5 := hR1.mk_ hm5.2; obtain ⟨cur5, hrow5, hsz5, hin5⟩ := id hR5; have hc5 : w5.cell? ⟨g, k * 3 + 2, none⟩ = some (cur5[k * 3 + 2]'(by omega)) := (by rw [cell_of_row w5 g _ cur5 _ (0, 0) hrow5]; exact Array.getElem?_eq_getElem _); have hf5 := frozen_of_row w5 g (k * 3 + 2) _ _ hrow5)
      go_roundw
      case rel => exact ⟨k + 1, x + 1 + l + 1, hlt, by go_num, by go_num, by omega, by omega, HbS.out _ _ _ ((HbS.out _ _ _ hb).trans hm5.1), fun _ => ⟨g, rfl, hlo, hR5.set _ _ (by omega)⟩⟩
      case measure => simp [intOf]; omega
    · obtain rfl : k = nr := by omega
      go_wp2
      go_ret
      exact ⟨⟨_, rfl, x0, by omega⟩, hb⟩
theorem markPuzzle_any (s : Int) (A1 : Option Addr) (n c1 g2 nr c2 lo hi : Nat) (gi : List Int) (rs : List RuleM) (m : Int) (w0 w : World) (ho : Ow w0 lo A1 n c1 gi) (hR : OwR w0 lo (.slice (some ⟨g2, 0, none⟩) nr c2) rs nr) (hh : w0.heap.size ≤ hi) (hb : Below w0.heap.size w0 w) (hn : n ≤ 1048576) (hnr : nr ≤ 1048576) (hL : ∀ i, i < nr → (rat rs i).xs.length ≤ 1048576) (h0 : 0 ≤ m) (h1 : m ≤ 1048576) :
    Calls Try.prog 14 #[.agg #[.int .i64 s, .slice A1 n c1, .slice (some ⟨g2, 0, none⟩) nr c2], .int .i64 m] w fun e w' => (∃ q : Int, e = .returned (.int .i64 q) ∧ 0 ≤ q ∧ q ≤ 4398046511104) ∧ Bt lo hi w w' := by
  have hb0 : Below w.heap.size w (w.alloc (.cells #[.int .i64 s, .slice A1 n c1, .slice (some ⟨g2, 0, none⟩) nr c2] 27)) := (Below.refl _ _).alloc (Nat.le_refl _) _
  have hrow0 := heap_alloc_new w (.cells #[.int .i64 s, .slice A1 n c1, .slice (some ⟨g2, 0, none⟩) nr c2] 27)
  obtain ⟨W, hW⟩ : ∃ W, w.alloc (.cells #[.int .i64 s, .slice A1 n c1, .slice (some ⟨g2, 0, none⟩) nr c2] 27) = W := ⟨_, rfl⟩
  rw [hW] at hb0 hrow0
  obtain ⟨z0, z1, z2⟩ : PBox W w.heap.size s A1 n c1 (some ⟨g2, 0, none⟩) nr c2 := ⟨cell_of_row _ _ 0 _ _ (0, 0) hrow0, cell_of_row _ _ 1 _ _ (0, 0) hrow0, cell_of_row _ _ 2 _ _ (0, 0) hrow0⟩
  have hbW : Below w0.heap.size w0 W := step hb hb0
  have hkp : ∀ (g : Nat) (cs : Array Value), w0.heap[g]? = some (.cells cs 3) → ∃ cs' : Array Value, W.heap[g]? = some (.cells cs' 3) ∧ cs'.size = cs.size := fun g cs hg => ⟨cs, (hbW.block g (Array.getElem?_eq_some_iff.1 hg).1).trans hg, rfl⟩
  have hRW : 0 < nr → RBlk W lo hi g2 nr (fun i => (rat rs i).xs.length) ∧ (lo ≤ g2 ∧ g2 < hi) := fun hp => by
    obtain ⟨⟨cur, hg, hs, hin⟩, hl⟩ := hR.rblk hp hh
    exact ⟨⟨cur, (hbW.block g2 (Array.getElem?_eq_some_iff.1 hg).1).trans hg, hs, fun i hi' => by obtain ⟨A', c', e, hB⟩ := hin i hi'; exact ⟨A', c', e, hB.keep hkp⟩⟩, hl⟩
  have HI := Lib.hid (markIntS_blk A1 c1 n lo hi m W ((ho.blk hh).keep hkp) (by omega) h0 (by omega))
  have HRr := Lib.hid (fun (w' : World) (hs : Sz W w') (q : Int) (q0 : 0 ≤ q) (q1 : q ≤ 1099511627776) => markRuleS_blk (some ⟨g2, 0, none⟩) c2 nr lo hi (fun i => (rat rs i).xs.length) q w' (fun hp => ⟨g2, rfl, (hRW hp).2, (hRW hp).1.mk_ hs⟩) hL hnr q0 q1)
  have HB0 := Lib.hid (Bt.of_below (lo := lo) (hi := hi) hb0 (Nat.le_refl _))
  have HW := Lib.hid hW
  clear hW hRW hkp hbW
  go_enter Try.func14, Try.ntmps14
  go_wp2_with fail
  rw [HW.out]
  refine HI.out.mono ?_
  rintro e w1 ⟨rfl, hm1⟩
  obtain ⟨cs1, hrow1, _, e1⟩ := hm1.2 _ _ _ hrow0
  obtain rfl := e1 (by decide)
  obtain ⟨y0, y1, y2⟩ : PBox w1 w.heap.size s A1 n c1 (some ⟨g2, 0, none⟩) nr c2 := ⟨cell_of_row _ _ 0 _ _ (0, 0) hrow1, cell_of_row _ _ 1 _ _ (0, 0) hrow1, cell_of_row _ _ 2 _ _ (0, 0) hrow1⟩
  clear hrow1 hrow0
  have hb1 := HB0.out.trans hm1.1
  have HR1 := Lib.hid (HRr.out w1 hm1.2 (m + n) (by omega) (by omega))
  go_wp2_with (go_at_call 13; refine HR1.out.mono ?_; rintro e w2 ⟨⟨q, rfl, q0, q1⟩, hb2⟩)
  go_ret
  exact ⟨⟨q, rfl, q0, q1⟩, hb1.trans hb2⟩
end Go.Proofs.Ytcjdjcpappfkgaa
set_option maxRecDepth 8000
namespace Go.Proofs.Ytcjdjcpappfkgaa
open Go.ChangeShapes Go.WideShapes Go.ChangeAt Go.RowKit
/-! marks in a puzzle of the call's own, found again. -/
theorem OwRd.lower {w : World} {lo g n u : Nat} {rs : List RuleM} {Q : Nat → Prop} (h : OwRd w lo g n rs Q u) : OwRd w lo g n rs (fun b => Q b ∧ lo ≤ b) u := by
  obtain ⟨vs, a, b, c⟩ := h
  refine ⟨vs, a, fun i hi => ?_, c⟩
  obtain ⟨A', c', e0, e1, e2, e3, e4, e5⟩ := b i hi
  exact ⟨A', c', e0, e1, e2, e3, e4, fun x hx => ⟨(e5 x hx).1, (e5 x hx).2, e3.own_lo x hx⟩⟩
theorem OwRd.row_lo {w : World} {lo g n u : Nat} {rs : List RuleM} {Q : Nat → Prop} (h : OwRd w lo g n rs Q u) : lo ≤ g := by
  obtain ⟨vs, a, _⟩ := h
  exact (World.ownsRow.lt a g (by simp [Value.ownBlock])).1
/-- a block of ints that is none of the rules' cells may change. -/
theorem OwRd.apart {w w' : World} {lo g n u : Nat} {rs : List RuleM} {Q : Nat → Prop} {r : Option Nat} (h : OwRd w lo g n rs Q u) (hg : w.grownBy w' r) (hr : ∀ b, r = some b → ¬ Q b ∧ ∃ cs, w.heap[b]? = some (.cells cs 3)) : OwRd w' lo g n rs Q u := by
  obtain ⟨vs, a, b, c⟩ := h
  have hrow : ∀ x, r = some x → x ≠ g := fun x hx e => by
    obtain ⟨_, cs, hcs⟩ := hr x hx
    subst e
    rcases a.2 with ⟨h1, _⟩ | ⟨g', cap, cur, hv, _, hgr, _⟩
    · cases h1
    · injection hv with e1 _ _
      injection e1 with e1
      injection e1 with e1 _ _
      subst e1
      rw [hcs] at hgr
      injection hgr with hgr
      injection hgr with _ h2 _
      exact absurd h2 (by decide)
  refine ⟨vs, World.ownsRow.kept a hg ?_, fun i hi => ?_, c⟩
  · cases e : r with
    | none => exact .inr (by simp [Value.ownBlock])
    | some x => exact .inr (fun e2 => by simp [Value.ownBlock] at e2; exact hrow x e e2.symm)
  · obtain ⟨A', c', e0, e1, e2, e3, e4, e5⟩ := b i hi
    exact ⟨A', c', e0, e1, e2, Ow.far e3 hg (fun x hx e => (hr x e).1 (e5 x hx).2), e4, e5⟩
/-- a puzzle of the call's own whose blocks lie from lo to hi. -/
def OwnH (w : World) (lo hi : Nat) (A1 : Option Addr) (n c1 : Nat) (gi : List Int) (g nr : Nat) (rs : List RuleM) : Prop :=
  Ow w lo A1 n c1 gi ∧ (∀ b, (Value.slice A1 n c1).ownBlock = some b → b < hi) ∧ g < hi ∧ ∃ Q : Nat → Prop, OwRd w lo g nr rs Q nr ∧ (∀ b, Q b → b < hi) ∧ ∀ b, (Value.slice A1 n c1).ownBlock = some b → ¬ Q b
theorem OwnP.h {w : World} {lo n c1 g nr : Nat} {A1 : Option Addr} {gi : List Int} {rs : List RuleM} (h : OwnP w lo A1 n c1 gi g nr rs) : OwnH w lo w.heap.size A1 n c1 gi g nr rs := by
  obtain ⟨h1, Q, h2, h3, h4⟩ := h
  refine ⟨h1, h1.own_hi, ?_, Q, h2, h3, h4⟩
  obtain ⟨vs, a, _⟩ := h2
  exact (World.ownsRow.lt a g (by simp [Value.ownBlock])).2
theorem OwnH.below {w w' : World} {lo hi n c1 g nr : Nat} {A1 : Option Addr} {gi : List Int} {rs : List RuleM} (h : OwnH w lo hi A1 n c1 gi g nr rs) (hb : Below w.heap.size w w') : OwnH w' lo hi A1 n c1 gi g nr rs := by
  obtain ⟨h1, h1', h1'', Q, h2, h3, h4⟩ := h
  exact ⟨h1.below hb, h1', h1'', Q, h2.below hb, h3, h4⟩
theorem OwRd.bt {w w' : World} {lo lo' hi' g n u : Nat} {rs : List RuleM} {Q : Nat → Prop} (h : OwRd w lo g n rs Q u) (hb : Bt lo' hi' w w') (hh : hi' ≤ lo) : OwRd w' lo g n rs Q u := by
  obtain ⟨vs, a, b, c⟩ := h
  refine ⟨vs, ownsRow_bt a (fun x hx => hb.block x (World.ownsRow.lt a x hx).2 (.inr (Nat.le_trans hh (World.ownsRow.lt a x hx).1))), fun i hi => ?_, c⟩
  obtain ⟨A', c', e0, e1, e2, e3, e4, e5⟩ := b i hi
  exact ⟨A', c', e0, e1, e2, e3.bt hb hh, e4, e5⟩
theorem OwnH.bt {w w' : World} {lo hi lo' hi' n c1 g nr : Nat} {A1 : Option Addr} {gi : List Int} {rs : List RuleM} (h : OwnH w lo hi A1 n c1 gi g nr rs) (hb : Bt lo' hi' w w') (hh : hi' ≤ lo) : OwnH w' lo hi A1 n c1 gi g nr rs := by
  obtain ⟨h1, h1', h1'', Q, h2, h3, h4⟩ := h
  exact ⟨h1.bt hb hh, h1', h1'', Q, h2.bt hb hh, h3, h4⟩
theorem OwnH.rdrs {w : World} {lo hi n c1 g nr : Nat} {A1 : Option Addr} {gi : List Int} {rs : List RuleM} (h : OwnH w lo hi A1 n c1 gi g nr rs) (hl : rs.length = nr) : RdRs w w.heap.size (some ⟨g, 0, none⟩) nr rs := by
  obtain ⟨_, _, _, Q, h2, _⟩ := h
  exact OwR.rd hl h2.rp.full
/-- what the marks are: from 1 on, what is given first, then rule by rule. -/
def MkZ (w : World) (A1 : Option Addr) (n g nr : Nat) (rs : List RuleM) : Prop := Rd w w.heap.size A1 n (seqI 1 n) ∧ MkS w g nr rs (1 + n)
theorem MkZ.below {w w' : World} {A1 : Option Addr} {n g nr : Nat} {rs : List RuleM} (h : MkZ w A1 n g nr rs) (hb : Below w.heap.size w w') : MkZ w' A1 n g nr rs := ⟨(h.1.below hb).more hb.size, h.2.below hb⟩
theorem markRuleS_nil (w : World) : Calls Try.prog 13 #[.slice none 0 0, .int .i64 1] w fun e w' => e = .returned (.int .i64 1) ∧ w = w' := by
  go_enter Try.func13, Try.ntmps13
  go_wp2
  refine wp_loop_rounds 1 ?_
  rw [rounds_succ]
  go_wp2
  go_ret
  exact ⟨rfl, rfl⟩
theorem heldRuleS_nil (w : World) : Calls Try.prog 24 #[.slice none 0 0, .int .i64 1] w fun e w' => e = .returned (.int .i64 1) ∧ w = w' := by
  go_enter Try.func24, Try.ntmps24
  go_wp2
  refine wp_loop_rounds 1 ?_
  rw [rounds_succ]
  go_wp2
  go_ret
  exact ⟨rfl, rfl⟩
set_option maxHeartbeats 1000000 in
theorem markPuzzle_own (s : Int) (A1 : Option Addr) (n c1 g nr lo hi : Nat) (gi : List Int) (rs : List RuleM) (w : World) (h : OwnH w lo hi A1 n c1 gi g nr rs) (hn : n ≤ 1048576) (hnr : nr ≤ 1000) (hL : ∀ i, i < nr → (rat rs i).xs.length ≤ 1048576) :
    Calls Try.prog 14 #[.agg #[.int .i64 s, .slice A1 n c1, .slice (some ⟨g, 0, none⟩) nr nr], .int .i64 1] w fun e w' => e = .returned (.int .i64 (xN (1 + n) rs nr)) ∧ MkZ w' A1 n g nr rs ∧ Bt lo hi w w' := by
  obtain ⟨ho, hoh, hgh, Q, hrd, hQ, hsep⟩ := h
  have hb0 : Below w.heap.size w (w.alloc (.cells #[.int .i64 s, .slice A1 n c1, .slice (some ⟨g, 0, none⟩) nr nr] 27)) := (Below.refl _ _).alloc (Nat.le_refl _) _
  have hx0 := pbox_new w s A1 n c1 (some ⟨g, 0, none⟩) nr nr 27
  obtain ⟨W, hW⟩ : ∃ W, w.alloc (.cells #[.int .i64 s, .slice A1 n c1, .slice (some ⟨g, 0, none⟩) nr nr] 27) = W := ⟨_, rfl⟩
  have hsW : w.heap.size < W.heap.size := by rw [← hW]; simp
  rw [hW] at hb0 hx0
  have hoW := ho.below hb0
  have hrW := hrd.lower.below hb0
  have hlo2 : ∀ b, (Value.slice A1 n c1).ownBlock = some b → lo ≤ b ∧ b < w.heap.size := fun b hb => ⟨ho.own_lo b hb, ho.own_hi b hb⟩
  have HI := Lib.hid (markIntS_any A1 c1 n lo gi 1 W hoW (by omega) (by omega) (by omega))
  obtain ⟨z0, z1, z2⟩ := id hx0
  have HW := Lib.hid hW
  clear hW
  go_enter Try.func14, Try.ntmps14
  go_wp2_with fail
  rw [HW.out]
  refine HI.out.mono ?_
  rintro e w1 ⟨rfl, ho1, hg1⟩
  rw [marked_all] at ho1
  have hfar : ∀ i, w1.cell? ⟨w.heap.size, i, none⟩ = W.cell? ⟨w.heap.size, i, none⟩ := fun i => hg1.cell_far ⟨w.heap.size, i, none⟩ hsW (fun e => by have := (hlo2 w.heap.size e.symm).2; exact absurd this (Nat.lt_irrefl _))
  obtain ⟨y0, y1, y2⟩ : PBox w1 w.heap.size s A1 n c1 (some ⟨g, 0, none⟩) nr nr := ⟨(hfar 0).trans hx0.1, (hfar 1).trans hx0.2.1, (hfar 2).trans hx0.2.2⟩
  clear hfar
  have hr1 := hrW.apart hg1 (fun b hb => ⟨fun hq => hsep b hb hq.1, hoW.blk_int hb⟩)
  have HR := Lib.hid (markRuleS_own g nr lo rs (fun b => Q b ∧ lo ≤ b) (1 + n) w1 hr1 hL hnr (by omega) (by omega))
  clear z0 z1 z2
  go_wp2_with fail
  refine HR.out.mono ?_
  rintro e w2 ⟨rfl, ⟨cur, hM⟩, hch⟩
  go_wp2
  go_ret
  obtain ⟨cur0, h0⟩ := hr1.mk0 1
  refine ⟨rfl, ⟨?_, hM.mks⟩, ?_⟩
  · have h2 : Ow w2 lo A1 n c1 (seqI 1 n) := ownsRow_bt ho1 (fun b hb => hch.2.2.2.2 b (ho1.own_hi b hb) (fun e => ho1.not_rule h0.row b hb e) (fun hq => hsep b hb hq.1))
    exact h2.rd
  · have hB1 : Bt lo hi w W := Bt.of_below hb0 (Nat.le_refl _)
    have hB2 : Bt lo hi W w1 := ⟨hg1.os, hg1.tape, hg1.output, hg1.size, fun k hk ho' => hg1.block k hk (fun e => by have q1 := (hlo2 k e.symm).1; have q2 := hoh k e.symm; omega)⟩
    exact (hB1.trans hB2).trans ⟨hch.1, hch.2.1, hch.2.2.1, hch.2.2.2.1, fun k hk ho' => hch.2.2.2.2 k hk (fun e => by have := hr1.row_lo; omega) (fun hq => by have := hQ k hq.1; omega)⟩
set_option maxHeartbeats 1000000 in
theorem heldPuzzle_own (s : Int) (A1 : Option Addr) (n c1 g nr : Nat) (rs : List RuleM) (w : World) (h : MkZ w A1 n g nr rs) (hn : n ≤ 1048576) (hnr : nr ≤ 1000) (hL : ∀ i, i < nr → (rat rs i).xs.length ≤ 1048576) :
    Calls Try.prog 15 #[.agg #[.int .i64 s, .slice A1 n c1, .slice (some ⟨g, 0, none⟩) nr nr], .int .i64 1] w fun e w' => e = .returned (.int .i64 (xN (1 + n) rs nr)) ∧ Below w.heap.size w w' := by
  have hb0 : Below w.heap.size w (w.alloc (.cells #[.int .i64 s, .slice A1 n c1, .slice (some ⟨g, 0, none⟩) nr nr] 27)) := (Below.refl _ _).alloc (Nat.le_refl _) _
  have hx0 := pbox_new w s A1 n c1 (some ⟨g, 0, none⟩) nr nr 27
  obtain ⟨W, hW⟩ : ∃ W, w.alloc (.cells #[.int .i64 s, .slice A1 n c1, .slice (some ⟨g, 0, none⟩) nr nr] 27) = W := ⟨_, rfl⟩
  rw [hW] at hb0 hx0
  obtain ⟨h1, h2⟩ := h.below hb0
  have HI := Lib.hid (heldIntS_seq A1 c1 n W.heap.size 1 W h1 (by omega) (by omega) (by omega))
  have HR := Lib.hid (heldRuleS_own g nr rs (1 + n) W h2 hL hnr (by omega) (by omega))
  obtain ⟨b0, b1⟩ := xN_bd (m := 1 + (n : Int)) hL (by omega) (Nat.le_refl nr)
  obtain ⟨x, hx⟩ : ∃ x, x = xN (1 + n) rs nr := ⟨_, rfl⟩
  rw [← hx] at HR b0 b1
  rw [← hx]
  have hx1 : ¬ x < 0 := by omega
  have hn1 : ¬ ((1 : Int) + (n : Int) < 0) := by omega
  obtain ⟨z0, z1, z2⟩ := id hx0
  have HW := Lib.hid hW
  clear hW hx b1
  go_enter Try.func15, Try.ntmps15
  go_wp2_with fail
  rw [HW.out]
  refine HI.out.mono ?_
  rintro e w1 ⟨rfl, rfl⟩
  go_wp2_with (go_at_call 24; refine HR.out.mono ?_; rintro e w2 ⟨rfl, rfl⟩)
  go_ret
  exact ⟨rfl, hb0⟩
theorem eq_nil (w : World) : Calls Try.prog 9 #[.agg #[.int .i64 0, .slice none 0 0, .slice none 0 0], .agg #[.int .i64 0, .slice none 0 0, .slice none 0 0]] w fun e w' => e = .returned (.bool true) ∧ Below w.heap.size w w' :=
  eqPuzzle_any 0 none none 0 0 0 0 0 [] none none 0 0 0 0 0 [] w ⟨rfl, fun h => absurd h (by omega)⟩ (Nat.zero_le _) (by omega) ⟨rfl, fun h => absurd h (by omega)⟩ (Nat.zero_le _) ⟨rfl, fun h => absurd h (by omega)⟩ ⟨rfl, fun h => absurd h (by omega)⟩ (Nat.zero_le _) (Nat.zero_le _) (by omega)
theorem mark_nil (w : World) : Calls Try.prog 14 #[.agg #[.int .i64 0, .slice none 0 0, .slice none 0 0], .int .i64 1] w fun e w' => e = .returned (.int .i64 1) ∧ Below w.heap.size w w' := by
  have hb0 : Below w.heap.size w (w.alloc (.cells #[.int .i64 0, .slice none 0 0, .slice none 0 0] 27)) := (Below.refl _ _).alloc (Nat.le_refl _) _
  have hx0 := pbox_new w 0 none 0 0 none 0 0 27
  have hs0 : w.heap.size < (w.alloc (.cells #[.int .i64 0, .slice none 0 0, .slice none 0 0] 27)).heap.size := by simp
  have hm : Blk (w.alloc (.cells #[.int .i64 0, .slice none 0 0, .slice none 0 0] 27)) w.heap.size w.heap.size none 0 := fun h => absurd h (by omega)
  have HI := Lib.hid (markIntS_blk none 0 0 w.heap.size w.heap.size 1 _ hm (by omega) (by omega) (by omega))
  have HR := Lib.hid (fun w' => markRuleS_nil w')
  obtain ⟨z0, z1, z2⟩ := id hx0
  go_enter Try.func14, Try.ntmps14
  go_wp2_with fail
  refine HI.out.mono ?_
  rintro e w1 ⟨rfl, hm1⟩
  have hb1 : Below (w.alloc (.cells #[.int .i64 0, .slice none 0 0, .slice none 0 0] 27)).heap.size (w.alloc (.cells #[.int .i64 0, .slice none 0 0, .slice none 0 0] 27)) w1 := ⟨hm1.1.os, hm1.1.tape, hm1.1.output, hm1.1.size, fun k hk => hm1.1.block k hk (by omega)⟩
  obtain ⟨y0, y1, y2⟩ := hx0.below hs0 hb1
  clear z0 z1 z2
  go_wp2_with (go_at_call 13; refine (HR.out _).mono ?_; rintro e w2 ⟨rfl, rfl⟩)
  go_ret
  exact ⟨rfl, step hb0 hb1⟩
theorem held_nil (w : World) : Calls Try.prog 15 #[.agg #[.int .i64 0, .slice none 0 0, .slice none 0 0], .int .i64 1] w fun e w' => e = .returned (.int .i64 1) ∧ Below w.heap.size w w' := by
  have hb0 : Below w.heap.size w (w.alloc (.cells #[.int .i64 0, .slice none 0 0, .slice none 0 0] 27)) := (Below.refl _ _).alloc (Nat.le_refl _) _
  have hx0 := pbox_new w 0 none 0 0 none 0 0 27
  have HI := Lib.hid (fun w' => heldIntS_seq none 0 0 0 1 w' ⟨rfl, fun h => absurd h (by omega)⟩ (by omega) (by omega) (by omega))
  have HR := Lib.hid (fun w' => heldRuleS_nil w')
  obtain ⟨z0, z1, z2⟩ := id hx0
  go_enter Try.func15, Try.ntmps15
  go_wp2_with (first
    | (go_at_call 23; refine (HI.out _).mono ?_; rintro e w1 ⟨rfl, rfl⟩)
    | (go_at_call 24; refine (HR.out _).mono ?_; rintro e w2 ⟨rfl, rfl⟩))
  go_ret
  exact ⟨rfl, hb0⟩
end Go.Proofs.Ytcjdjcpappfkgaa
set_option maxRecDepth 8000
namespace Go.Proofs.Ytcjdjcpappfkgaa
open Go.ChangeShapes Go.WideShapes Go.ChangeAt Go.RowKit Go.Deep
/-! A slice of rules that came in, as it reads. -/
theorem list_of {P : Nat → RuleM → Prop} : ∀ n, (∀ i, i < n → ∃ r, P i r) → ∃ rs : List RuleM, rs.length = n ∧ ∀ i, i < n → P i (rat rs i) := by
  intro n
  induction n with
  | zero => intro _; exact ⟨[], rfl, fun i hi => absurd hi (by omega)⟩
  | succ n ih =>
    intro h
    obtain ⟨rs, hl, hp⟩ := ih (fun i hi => h i (by omega))
    obtain ⟨r, hr⟩ := h n (by omega)
    refine ⟨rs ++ [r], by simp [hl], fun i hi => ?_⟩
    by_cases e : i < n
    · have : rat (rs ++ [r]) i = rat rs i := by simp [rat, List.getD_eq_getElem?_getD, List.getElem?_append_left (by omega : i < rs.length)]
      rw [this]; exact hp i e
    · obtain rfl : i = n := by omega
      have : rat (rs ++ [r]) i = r := by simp [rat, List.getD_eq_getElem?_getD, ← hl]
      rw [this]; exact hr
theorem add_plain (b off i : Nat) : (⟨b, off, none⟩ : Addr).add i = ⟨b, off + i, none⟩ := by unfold Addr.add; split <;> simp_all
theorem open_rules {H : Type} {enc : TypeId × Value → H} {W : World} {base : Nat} {held : Bool} {fs : Array Field} {fuel : Nat} {v : Value} {x : DataW H × List MemPlace}
    (he : Try.prog.underlying 41 = some (.struct fs)) (hone : oneCellFields Try.prog fs = true) (hC : Try.prog.cellsOf 41 = 3) (hfs : fs.size = 3)
    (t0 : (fs[0]?).map (·.type) = some 3) (t1 : (fs[1]?).map (·.type) = some 22) (t2 : (fs[2]?).map (·.type) = some 3) (h1 : Try.prog.cellsOf 3 = 1)
    (h : DataW.trod enc Try.prog W base (fun _ => true) held fuel 23 [v] = some x) :
    ∃ A len cap rs, v = .slice A len cap ∧ RdRx W W.heap.size A len rs ∧ len ≤ 9223372036854775807 := by
  rcases open_slice Try.underlying23 h with ⟨hcs, _⟩ | ⟨a, len, cap, m, nf, D, Pl, hcs, hb, hl, hm, hmm, _, hi⟩
  · injection hcs with hcs
    exact ⟨none, 0, 0, [], hcs, ⟨rfl, fun hn => absurd hn (by omega)⟩, by omega⟩
  · injection hcs with hcs
    have hlm : len ≤ m := by rw [hmm]; simpa using hl
    have hmax : len ≤ 9223372036854775807 := by simp only [maxLen] at hm; omega
    -- one element
    have one : ∀ i, i < len → ∃ (k : Int) (A' : Option Addr) (l c : Nat) (zs : List Int) (u : Int), W.cell? (a.add (i * 3)) = some (.int .i64 k) ∧ W.cell? (a.add (i * 3 + 1)) = some (.slice A' l c) ∧ W.cell? (a.add (i * 3 + 2)) = some (.int .i64 u) ∧ IsRow .i64 W A' l c zs := fun i hil => by
      obtain ⟨cs', hc, ht⟩ := hi i (by omega)
      rw [hC] at hc
      obtain ⟨ys, n', _, _, hlen, hyl, hf⟩ := DataW.trod_struct he ht
      obtain ⟨_, hcl, hat⟩ := World.cells?_some hc
      match cs', hcl with
      | [c0, c1, c2], _ =>
        obtain ⟨f0, hf0⟩ : ∃ f, fs[0]? = some f := ⟨fs[0], Array.getElem?_eq_getElem (by omega)⟩
        obtain ⟨f1, hf1⟩ : ∃ f, fs[1]? = some f := ⟨fs[1], Array.getElem?_eq_getElem (by omega)⟩
        obtain ⟨f2, hf2⟩ : ∃ f, fs[2]? = some f := ⟨fs[2], Array.getElem?_eq_getElem (by omega)⟩
        obtain ⟨o0, k0⟩ := hone_of hone 0 f0 hf0
        obtain ⟨o1, k1⟩ := hone_of hone 1 f1 hf1
        obtain ⟨o2, k2⟩ := hone_of hone 2 f2 hf2
        have e0 := hf 0 f0 hf0
        have e1 := hf 1 f1 hf1
        have e2 := hf 2 f2 hf2
        rw [o0, k0] at e0
        rw [o1, k1] at e1
        rw [o2, k2] at e2
        rw [hf0] at t0
        rw [hf1] at t1
        rw [hf2] at t2
        have t0' : f0.type = 3 := by simpa using t0
        have t1' : f1.type = 22 := by simpa using t1
        have t2' : f2.type = 3 := by simpa using t2
        rw [t0'] at e0
        rw [t1'] at e1
        rw [t2'] at e2
        have g0 : DataW.trod enc Try.prog W base (fun _ => true) held n' 3 [c0] = some (ys[0]'(by omega)) := by rw [← List.getElem?_eq_getElem]; simpa using e0
        have g1 : DataW.trod enc Try.prog W base (fun _ => true) held n' 22 [c1] = some (ys[1]'(by omega)) := by rw [← List.getElem?_eq_getElem]; simpa using e1
        have g2 : DataW.trod enc Try.prog W base (fun _ => true) held n' 3 [c2] = some (ys[2]'(by omega)) := by rw [← List.getElem?_eq_getElem]; simpa using e2
        obtain ⟨k, ek, _⟩ := DataW.trod_int Try.underlying3 g0
        obtain ⟨u, eu, _⟩ := DataW.trod_int Try.underlying3 g2
        injection ek with ek
        injection eu with eu
        have a0 := hat 0 (by omega)
        have a1 := hat 1 (by omega)
        have a2 := hat 2 (by omega)
        rw [add_add] at a0 a1 a2
        obtain ⟨A', l, c, zs, ez, hz⟩ : ∃ A' l c zs, c1 = .slice A' l c ∧ IsRow .i64 W A' l c zs := by
          rcases open_ints Try.underlying22 Try.underlying3 h1 g1 with ⟨hcs, _⟩ | ⟨x, l, c, zs, hcs, _, hl, hm, hz, _, hcell, hwz⟩
          · injection hcs with hcs
            exact ⟨none, 0, 0, [], hcs, .inl ⟨rfl, rfl, rfl, rfl⟩⟩
          · injection hcs with hcs
            exact ⟨_, _, _, zs, hcs, .inr ⟨_, rfl, hl, hm, by simpa using hz, hcell, hwz⟩⟩
        exact ⟨k, A', l, c, zs, u, by rw [ek] at a0; simpa using a0, by rw [ez] at a1; simpa using a1, by rw [eu] at a2; simpa using a2, hz⟩
    by_cases h0 : len = 0
    · subst h0
      exact ⟨some a, 0, cap, [], hcs, ⟨rfl, fun hn => absurd hn (by omega)⟩, hmax⟩
    · obtain ⟨k, A', l, c, zs, u, q0, q1, q2, q3⟩ := one 0 (by omega)
      obtain ⟨b, off, spot⟩ := a
      have hspot : spot = none := by simpa [Addr.add] using World.cell?_spot q0
      subst hspot
      obtain ⟨rs, hrl, hrs⟩ := list_of (P := fun i r => ∃ A' c', W.cell? ⟨b, off + i * 3, none⟩ = some (.int .i64 r.k) ∧ W.cell? ⟨b, off + i * 3 + 1, none⟩ = some (.slice A' r.xs.length c') ∧ W.cell? ⟨b, off + i * 3 + 2, none⟩ = some (.int .i64 r.v) ∧ Rd W W.heap.size A' r.xs.length r.xs ∧ r.xs.length ≤ 9223372036854775807) len (fun i hil => by
        obtain ⟨k, A', l, c, zs, u, q0, q1, q2, q3⟩ := one i hil
        have hrd := rd_of_row q3
        have hll := hrd.1
        rw [add_plain] at q0 q1 q2
        exact ⟨⟨k, zs.take l, u⟩, A', c, q0, by rw [hll, Nat.add_assoc]; exact q1, by rw [Nat.add_assoc]; exact q2, by rw [hll]; exact hrd, by rw [hll]; exact row_max q3⟩)
      exact ⟨_, _, _, rs, hcs, ⟨hrl, fun _ => ⟨b, off, rfl, cell_lt q0, hrs⟩⟩, hmax⟩
end Go.Proofs.Ytcjdjcpappfkgaa
