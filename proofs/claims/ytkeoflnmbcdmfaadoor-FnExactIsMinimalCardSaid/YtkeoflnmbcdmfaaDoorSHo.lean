import Derived.Test.YtkeoflnmbcdmfaaDoorSOwnP
import Derived.Deep.MidRow
import Derived.Deep.RegionHeld3
import Derived.Test.YtkeoflnmbcdmfaaDoorPz
import Derived.Test.YtkeoflnmbcdmfaaDoorQ4R
import Derived.Deep.Slices
import Derived.Deep.Fields
import Derived.Lib.SmallJoins
import Derived.ChangeSame
import Derived.Deep.RegionWith
import Derived.Deep.CutRange
import Derived.Deep.CutBlock
set_option maxRecDepth 8000
namespace Go.Proofs.YtkeoflnmbcdmfaaDoor
open Go.ChangeShapes Go.WideShapes Go.ChangeAt Go.RowKit

theorem grown_tr {a b c : World} {r : Option Nat} (h : a.grownBy b r) (k : b.grownBy c r) : a.grownBy c r := h.trans k
theorem setCells3 (w : World) (g o : Nat) (x y z : Value) : w.setCells g o [x, y, z] = ((w.setCell ⟨g, o, none⟩ x).setCell ⟨g, o + 1, none⟩ y).setCell ⟨g, o + 2, none⟩ z := rfl
theorem row_setCells3 {w : World} {g o : Nat} {cur : Array Value} {t : TypeId} (x y z : Value) (h : w.heap[g]? = some (.cells cur t (0, 0))) :
    (w.setCells g o [x, y, z]).heap[g]? = some (.cells (((cur.setIfInBounds o x).setIfInBounds (o + 1) y).setIfInBounds (o + 2) z) t (0, 0)) := by
  rw [setCells3]
  exact heap_setCell_same _ g (o + 2) _ _ z (heap_setCell_same _ g (o + 1) _ _ y (heap_setCell_same w g o _ _ x h))
theorem grown_setCells3 {w : World} {g o : Nat} {x y z : Value} : w.grownBy (w.setCells g o [x, y, z]) (some g) := by
  rw [setCells3]
  exact grown_tr (grown_tr grown_set grown_set) grown_set
theorem below_setCells3 {N : Nat} {w0 w : World} {g o : Nat} {x y z : Value} (h : Below N w0 w) (hg : N ≤ g) : Below N w0 (w.setCells g o [x, y, z]) := by
  rw [setCells3]
  exact ((h.setCell (p := ⟨g, o, none⟩) hg _).setCell (p := ⟨g, o + 1, none⟩) hg _).setCell (p := ⟨g, o + 2, none⟩) hg _
/-- n rules' cells in a slice of the call's own, the first u of them filled. -/
def OwRp (w : World) (lo : Nat) (g n : Nat) (rs : List RuleM) (u : Nat) : Prop :=
  ∃ vs, w.ownsRow lo 63 3 (.slice (some ⟨g, 0, none⟩) n n) n vs ∧ ∀ i, i < u → ∃ A' c', vs[i * 3]? = some (.int .i64 (rat rs i).k) ∧ vs[i * 3 + 1]? = some (.slice A' (rat rs i).xs.length c') ∧ vs[i * 3 + 2]? = some (.int .i64 (rat rs i).v) ∧ Ow w lo A' (rat rs i).xs.length c' (rat rs i).xs ∧ (rat rs i).xs.length ≤ 1099511627776 ∧ ∀ b, (Value.slice A' (rat rs i).xs.length c').ownBlock = some b → (Value.slice (some ⟨g, 0, none⟩) n n).ownBlock ≠ some b
theorem OwRp.below {w w' : World} {lo g n : Nat} {rs : List RuleM} {k : Nat} (h : OwRp w lo g n rs k) (hb : Below w.heap.size w w') : OwRp w' lo g n rs k := by
  obtain ⟨vs, hown, hin⟩ := h
  refine ⟨vs, World.ownsRow.kept hown (row := none) ⟨hb.os, hb.tape, hb.output, hb.size, fun k hk _ => hb.block k hk⟩ (by
    cases e : (Value.slice (some ⟨g, 0, none⟩) n n).ownBlock
    · exact .inl rfl
    · exact .inr (by simp)), fun i hi => ?_⟩
  obtain ⟨A', c', e0, e1, e2, e3, e4, e5⟩ := hin i hi
  exact ⟨A', c', e0, e1, e2, e3.below hb, e4, e5⟩
theorem OwRp.full {w : World} {lo g n : Nat} {rs : List RuleM} (h : OwRp w lo g n rs n) : OwR w lo (.slice (some ⟨g, 0, none⟩) n n) rs n := h
theorem OwRp.there {w : World} {lo g n : Nat} {rs : List RuleM} {k u : Nat} (h : OwRp w lo g n rs k) (hu : u < n) : w.there g (u * 3) 3 := by
  obtain ⟨vs, ⟨hvl, hcase⟩, _⟩ := h
  rcases hcase with ⟨h1, _⟩ | ⟨g', cap, cur, hv, h2, h3, h4, h5, h6, h7⟩
  · cases h1
  · injection hv with e1 _ e2
    injection e1 with e1
    injection e1 with e1 _ _
    subst e1
    intro j hj
    have hlt : u * 3 + j < cur.size := by rw [h6]; have := Nat.mul_le_mul_right 3 (show u + 1 ≤ cap by omega); omega
    refine ⟨?_, frozen_of_row w g (u * 3 + j) cur _ h3⟩
    rw [cell_of_row w g (u * 3 + j) cur _ (0, 0) h3]
    simp [hlt]
theorem OwRp.put {w w3 : World} {lo g n u c3 : Nat} {rs : List RuleM} {A3 : Option Addr} (h : OwRp w lo g n rs u) (hlo : lo ≤ w.heap.size) (hu : u < n) (hb : Below w.heap.size w w3)
    (ho3 : Ow w3 w.heap.size A3 (rat rs u).xs.length c3 (rat rs u).xs) (hm : (rat rs u).xs.length ≤ 1099511627776) :
    OwRp (w3.setCells g (u * 3) [.int .i64 (rat rs u).k, .slice A3 (rat rs u).xs.length c3, .int .i64 (rat rs u).v]) lo g n rs (u + 1) := by
  have hgw : g < w.heap.size := by
    obtain ⟨vs, hown, _⟩ := h
    exact (World.ownsRow.lt hown g (by simp [Value.ownBlock])).2
  obtain ⟨vs, ⟨hvl, hcase⟩, hin⟩ := h.below hb
  rcases hcase with ⟨h1, _⟩ | ⟨g', cap, cur, hv, h2, h3, h4, h5, h6, h7⟩
  · cases h1
  · injection hv with e1 _ e2
    injection e1 with e1
    injection e1 with e1 _ _
    subst e1 e2
    have hvl3 : u * 3 + 2 < vs.length := by rw [hvl]; omega
    refine ⟨((vs.set (u * 3) (.int .i64 (rat rs u).k)).set (u * 3 + 1) (.slice A3 (rat rs u).xs.length c3)).set (u * 3 + 2) (.int .i64 (rat rs u).v), ⟨by simp [hvl], .inr ⟨g, n, _, rfl, h2, row_setCells3 _ _ _ h3, h4, h5, by simp [h6], ?_⟩⟩, fun i hi => ?_⟩
    · simp only [Array.toList_setIfInBounds, List.take_set, h7]
    · by_cases e : i = u
      · subst e
        refine ⟨A3, c3, ?_, ?_, ?_, ?_, hm, fun b hbb e => ?_⟩
        · rw [List.getElem?_set_ne (by omega), List.getElem?_set_ne (by omega), List.getElem?_set_self (by omega)]
        · rw [List.getElem?_set_ne (by omega), List.getElem?_set_self (by simp; omega)]
        · rw [List.getElem?_set_self (by simp; omega)]
        · exact (Ow.far ho3 (row := some g) grown_setCells3 (fun b hbb e => by have := ho3.own_lo b hbb; injection e with e; omega)).mono hlo
        · have h8 := ho3.own_lo b hbb
          simp [Value.ownBlock] at e
          omega
      · obtain ⟨A', c', e0, e1, e2, e3, e4, e5⟩ := hin i (by omega)
        refine ⟨A', c', ?_, ?_, ?_, ?_, e4, e5⟩
        · rw [List.getElem?_set_ne (by omega), List.getElem?_set_ne (by omega), List.getElem?_set_ne (by omega)]; exact e0
        · rw [List.getElem?_set_ne (by omega), List.getElem?_set_ne (by omega), List.getElem?_set_ne (by omega)]; exact e1
        · rw [List.getElem?_set_ne (by omega), List.getElem?_set_ne (by omega), List.getElem?_set_ne (by omega)]; exact e2
        · exact Ow.far e3 (row := some g) grown_setCells3 (fun b hbb e => e5 b hbb (by have := Option.some.inj e; simp [Value.ownBlock, this]))

/-- a slice of rules, their cells as many as a slice can have. -/
def RdRx (w : World) (B : Nat) (A : Option Addr) (n : Nat) (rs : List RuleM) : Prop :=
  rs.length = n ∧ (0 < n → ∃ b off, A = some ⟨b, off, none⟩ ∧ b < B ∧ ∀ i, i < n → ∃ A' c', w.cell? ⟨b, off + i * 3, none⟩ = some (.int .i64 (rat rs i).k) ∧ w.cell? ⟨b, off + i * 3 + 1, none⟩ = some (.slice A' (rat rs i).xs.length c') ∧ w.cell? ⟨b, off + i * 3 + 2, none⟩ = some (.int .i64 (rat rs i).v) ∧ Rd w B A' (rat rs i).xs.length (rat rs i).xs ∧ (rat rs i).xs.length ≤ 9223372036854775807)
theorem RdRx.below {w w' : World} {B : Nat} {A : Option Addr} {n : Nat} {rs : List RuleM} (h : RdRx w B A n rs) (hb : Below B w w') : RdRx w' B A n rs :=
  ⟨h.1, fun hn => by
    obtain ⟨b, off, e, hlt, hc⟩ := h.2 hn
    refine ⟨b, off, e, hlt, fun i hi => ?_⟩
    obtain ⟨A', c', h0, h1, h2, h3, h4⟩ := hc i hi
    exact ⟨A', c', (hb.cell (p := ⟨b, off + i * 3, none⟩) hlt).trans h0, (hb.cell (p := ⟨b, off + i * 3 + 1, none⟩) hlt).trans h1, (hb.cell (p := ⟨b, off + i * 3 + 2, none⟩) hlt).trans h2, h3.below hb, h4⟩⟩
theorem RdRx.small {w : World} {B : Nat} {A : Option Addr} {n : Nat} {rs : List RuleM} (h : RdRx w B A n rs) (hs : ∀ i, i < n → (rat rs i).xs.length ≤ 1099511627776) : RdRs w B A n rs :=
  ⟨h.1, fun hn => by
    obtain ⟨b, off, e, hlt, hc⟩ := h.2 hn
    refine ⟨b, off, e, hlt, fun i hi => ?_⟩
    obtain ⟨A', c', h0, h1, h2, h3, _⟩ := hc i hi
    exact ⟨A', c', h0, h1, h2, h3, hs i hi⟩⟩
end Go.Proofs.YtkeoflnmbcdmfaaDoor
set_option maxRecDepth 8000
namespace Go.Proofs.YtkeoflnmbcdmfaaDoor
open Go.ChangeShapes Go.WideShapes Go.ChangeAt Go.RowKit
/-! Puzzles that come in, and their copies. -/
theorem OwRp.zero_ {w : World} {lo g n : Nat} {rs : List RuleM} {vs : List Value} (h : w.ownsRow lo 63 3 (.slice (some ⟨g, 0, none⟩) n n) n vs) : OwRp w lo g n rs 0 := ⟨vs, h, fun i hi => absurd hi (by omega)⟩
set_option maxHeartbeats 1000000 in
theorem toRuleS_any (A : Option Addr) (c n B : Nat) (rs : List RuleM) (w : World) (h : RdRs w B A n rs) (hB : B ≤ w.heap.size) (hm : n ≤ 1048576) :
    Calls Tryd.prog 59 #[.slice A n c] w fun e w' => ∃ g, e = .returned (.slice (some ⟨g, 0, none⟩) n n) ∧ OwR w' w.heap.size (.slice (some ⟨g, 0, none⟩) n n) rs n ∧ Below w.heap.size w w' := by
  obtain ⟨i0, hi, hz0, hz1, hz2⟩ := info_parts rule_parts
  have HR := Lib.hid (fun (w' : World) (hb : Below w.heap.size w w') => h.below (hb.mono hB))
  have Hi : Hid (∀ k A m c v, (Tryd.prog.info? 63).map (·.size) = some (#[Value.int .i64 k, .slice A m c, .int .i64 v] : Array Value).size) := Lib.hid (fun _ _ _ _ _ => by rw [hi]; simpa using hz1)
  have Hone : Hid (∀ k A m c v, ((#[Value.int .i64 k, .slice A m c, .int .i64 v] : Array Value).all (·.oneCell')) = true) := Lib.hid (fun _ _ _ _ _ => by simp [Value.oneCell'])
  go_enter Tryd.func59, Tryd.ntmps59
  go_wp2_with (refine wpList_make_full _ rfl (.tmp 6) (.tmp 6) 24 rfl w.heap.size 63 i0 (.agg #[.int .i64 0, .slice none 0 0, .int .i64 0]) 3 Tryd.underlying24 hi hz0 hz1 .i64 .i64 n n n rfl rfl rfl rfl (by rw [hz2]; omega) (by simp only [maxLen]; omega) (Nat.le_refl _) ?_; intro w3 hown hgr; have hb3 := made_below hgr (Nat.le_refl _); have ho3 := OwRp.zero_ (rs := rs) hown)
  go_loopw [4] (fun i wr => ∃ u : Nat, u ≤ n ∧ i = .int .i64 u ∧ OwRp wr w.heap.size w.heap.size n rs u ∧ Below w.heap.size w wr) (fun i _ => n - (intOf i).toNat)
  case atStart => exact ⟨0, Nat.zero_le _, rfl, ho3, hb3⟩
  case round =>
    obtain ⟨u, hu, rfl, ho, hb⟩ := hrel
    by_cases hlt : u < n
    · obtain ⟨b, off, rfl, hbB, hcc⟩ := (HR.out _ hb).2 (by omega)
      obtain ⟨A', c', r0, r1, r2, r3, r4⟩ := hcc u hlt
      have hth := ho.there hlt
      have Hput := Lib.hid (fun (w3 : World) (A3 : Option Addr) (c3 : Nat) (hb' : Below wr.heap.size wr w3) (ho3 : Ow w3 wr.heap.size A3 (rat rs u).xs.length c3 (rat rs u).xs) => ho.put (Nat.le_trans (Nat.le_refl _) hb.size) hlt hb' ho3 r4)
      have Hth := Lib.hid (fun (w3 : World) (hb' : Below wr.heap.size wr w3) => (ho.below hb').there hlt)
      obtain ⟨rk, hrk⟩ : ∃ x, x = (rat rs u).k := ⟨_, rfl⟩
      obtain ⟨rx, hrx⟩ : ∃ x, x = (rat rs u).xs := ⟨_, rfl⟩
      obtain ⟨rvv, hrv⟩ : ∃ x, x = (rat rs u).v := ⟨_, rfl⟩
      rw [← hrk] at r0 Hput
      rw [← hrx] at r1 r3 r4 Hput
      rw [← hrv] at r2 Hput
      have HC := Lib.hid (toRule_any rk A' rx.length c' B rx rvv wr r3 (Nat.le_trans hB hb.size) r4)
      clear hrk hrx hrv hcc
      have hin : (u : Int) < (n : Int) := by omega
      go_wp2_with (first | (go_at_call 97; refine HC.out.mono ?_; rintro e w4 ⟨A4, rfl, ho4, hb4⟩) | (refine wpList_store_mid rfl 63 _ _ rfl w.heap.size (u * 3) #[.int .i64 rk, .slice A4 rx.length rx.length, .int .i64 rvv] rfl rfl (Hth.out _ hb4) (Hi.out _ _ _ _ _) (Hone.out _ _ _ _ _) ?_))
      go_roundw
      case rel => exact ⟨u + 1, by omega, by go_num, Hput.out _ _ _ hb4 ho4, below_setCells3 (step hb hb4) (Nat.le_refl _)⟩
      case measure => simp [intOf]; omega
    · obtain rfl : u = n := by omega
      go_wp2
      go_ret
      exact ⟨_, rfl, ho.full, hb⟩
end Go.Proofs.YtkeoflnmbcdmfaaDoor
set_option maxRecDepth 8000
namespace Go.Proofs.YtkeoflnmbcdmfaaDoor
open Go.ChangeShapes Go.WideShapes Go.ChangeAt Go.RowKit
set_option maxHeartbeats 1000000 in
theorem szRuleS_any (A : Option Addr) (c n B : Nat) (rs : List RuleM) (l : Int) (w : World) (h : RdRx w B A n rs) (hB : B ≤ w.heap.size) (hm : n ≤ 9223372036854775807) (h0 : 0 ≤ l) (h1 : l ≤ 1099511627776) :
    Calls Tryd.prog 56 #[.slice A n c, .int .i64 l] w fun e w' => ∃ r : Int, e = .returned (.int .i64 r) ∧ Below w.heap.size w w' ∧ (r = -1 ∨ (0 ≤ r ∧ (n : Int) ≤ l ∧ ∀ i, i < n → ((rat rs i).xs.length : Int) ≤ l)) := by
  have HR := Lib.hid (fun (w' : World) (hb : Below w.heap.size w w') => h.below (hb.mono hB))
  have e1 : wrap64 (l - n) = l - n := IntWalk.wrap64_in _ ⟨by omega, by omega⟩
  by_cases hn : (n : Int) ≤ l
  · have hq4 : ¬ l - (n : Int) < 0 := by omega
    have HQ := Lib.hid (show 0 ≤ l - (n : Int) ∧ l - (n : Int) ≤ l by omega)
    have HN := Lib.hid hn
    clear hn
    go_enter Tryd.func56, Tryd.ntmps56
    go_wp2
    go_loopw [1, 5] (fun lv i wr => ∃ (u : Nat) (q : Int), u ≤ n ∧ 0 ≤ q ∧ q ≤ l ∧ lv = .int .i64 q ∧ i = .int .i64 u ∧ Hid (∀ j, j < u → ((rat rs j).xs.length : Int) ≤ l) ∧ Below w.heap.size w wr) (fun _ i _ => n - (intOf i).toNat)
    case atStart => exact ⟨0, _, Nat.zero_le _, HQ.out.1, HQ.out.2, rfl, rfl, Lib.hid (fun j hj => absurd hj (by omega)), Below.refl _ _⟩
    case round =>
      obtain ⟨u, q, hu, hq0', hq1', rfl, rfl, hall, hb⟩ := hrel
      by_cases hlt : u < n
      · obtain ⟨b, off, rfl, hbB, hcc⟩ := (HR.out _ hb).2 (by omega)
        obtain ⟨A', c', r0, r1, r2, r3, r4⟩ := hcc u hlt
        obtain ⟨rx, hrx⟩ : ∃ x, x = (rat rs u).xs := ⟨_, rfl⟩
        rw [← hrx] at r1 r3 r4
        have HC := Lib.hid (szRule_any A' c' rx.length (rat rs u).k (rat rs u).v q wr r4 hq0' (by omega))
        have hin : (u : Int) < (n : Int) := by omega
        by_cases hfit : (rx.length : Int) ≤ q
        · obtain ⟨q2, hq2⟩ : ∃ z, q - (rx.length : Int) = z := ⟨_, rfl⟩
          rw [if_pos hfit, hq2] at HC
          have hq5 : ¬ q2 < 0 := by omega
          have Hall2 := Lib.hid (show ∀ j, j < u + 1 → ((rat rs j).xs.length : Int) ≤ l from fun j hj => by
            by_cases e : j = u
            · subst e; rw [← hrx]; omega
            · exact hall.out j (by omega))
          have HQ := Lib.hid (show 0 ≤ q2 ∧ q2 ≤ l by omega)
          clear hq2 hfit hcc hrx
          go_wp2_with (go_at_call 96; refine HC.out.mono ?_; rintro e w4 ⟨rfl, hb4⟩)
          go_roundw
          case rel => exact ⟨u + 1, q2, by omega, HQ.out.1, HQ.out.2, rfl, by go_num, Hall2, step hb hb4⟩
          case measure => simp [intOf]; omega
        · rw [if_neg hfit] at HC
          clear hcc hrx
          go_wp2_with (go_at_call 96; refine HC.out.mono ?_; rintro e w4 ⟨rfl, hb4⟩)
          go_ret
          exact ⟨-1, rfl, step hb hb4, .inl rfl⟩
      · obtain rfl : u = n := by omega
        go_wp2
        go_ret
        exact ⟨q, rfl, hb, .inr ⟨hq0', HN.out, hall.out⟩⟩
  · have hq4 : l - (n : Int) < 0 := by omega
    go_enter Tryd.func56, Tryd.ntmps56
    go_wp2
    go_ret
    exact ⟨-1, rfl, Below.refl _ _, .inl rfl⟩
set_option maxHeartbeats 1000000 in
theorem szPuzzle_any (s : Int) (Ag : Option Addr) (cg ng : Nat) (Ar : Option Addr) (cr nr B : Nat) (rs : List RuleM) (l : Int) (w : World) (hg : ng ≤ 9223372036854775807) (h : RdRx w B Ar nr rs) (hB : B ≤ w.heap.size) (hm : nr ≤ 9223372036854775807) (h0 : 0 ≤ l) (h1 : l ≤ 1099511627776) :
    Calls Tryd.prog 23 #[.agg #[.int .i64 s, .slice Ag ng cg, .slice Ar nr cr], .int .i64 l] w fun e w' => ∃ r : Int, e = .returned (.int .i64 r) ∧ Below w.heap.size w w' ∧ (r = -1 ∨ (0 ≤ r ∧ (ng : Int) ≤ l ∧ (nr : Int) ≤ l ∧ ∀ i, i < nr → ((rat rs i).xs.length : Int) ≤ l)) := by
  have hx := pbox_new w s Ag ng cg Ar nr cr 37
  have hb0 : Below w.heap.size w (w.alloc (.cells #[.int .i64 s, .slice Ag ng cg, .slice Ar nr cr] 37)) := (Below.refl _ _).alloc (Nat.le_refl _) _
  obtain ⟨a0, a1, a2⟩ := id hx
  have HC := Lib.hid (fun w => szIntS_any Ag cg ng l w hg h0 h1)
  by_cases hn : (ng : Int) ≤ l
  · obtain ⟨q, hq⟩ : ∃ z, l - (ng : Int) = z := ⟨_, rfl⟩
    rw [if_pos hn, hq] at HC
    have hq5 : ¬ q < 0 := by omega
    have HN := Lib.hid hn
    have HQ := Lib.hid (show 0 ≤ q ∧ q ≤ l by omega)
    have HS := Lib.hid (fun w' (hb : Below w.heap.size w w') => szRuleS_any Ar cr nr B rs q w' (h.below (hb.mono hB)) (Nat.le_trans hB hb.size) hm (by omega) (by omega))
    clear hq hn
    go_enter Tryd.func23, Tryd.ntmps23
    go_wp2_with (first | (go_at_call 55; go_loud (refine (HC.out _).mono ?_; rintro e w1 ⟨rfl, rfl⟩)) | (go_at_call 56; go_loud (refine (HS.out _ hb0).mono ?_; rintro e w2 ⟨r, rfl, hb2, hr⟩)))
    · go_ret
      rename_i hneg
      exact ⟨-1, rfl, step hb0 hb2, .inl rfl⟩
    · go_ret
      rename_i hneg
      rcases hr with rfl | ⟨r0, r1, r2⟩
      · omega
      · exact ⟨r, rfl, step hb0 hb2, .inr ⟨r0, HN.out, Int.le_trans r1 HQ.out.2, fun i hi => Int.le_trans (r2 i hi) HQ.out.2⟩⟩
  · rw [if_neg hn] at HC
    go_enter Tryd.func23, Tryd.ntmps23
    go_wp2_with (go_at_call 55; refine (HC.out _).mono ?_; rintro e w1 ⟨rfl, rfl⟩)
    go_ret
    exact ⟨-1, rfl, hb0, .inl rfl⟩
end Go.Proofs.YtkeoflnmbcdmfaaDoor
set_option maxRecDepth 8000
namespace Go.Proofs.YtkeoflnmbcdmfaaDoor
open Go.ChangeShapes Go.WideShapes Go.ChangeAt Go.RowKit
theorem OwR.keptG {w w' : World} {lo G k : Nat} {v : Value} {rs : List RuleM} (h : OwR w lo v rs k) (hg : w.grownBy w' (some G)) (hG : G < lo) : OwR w' lo v rs k := by
  obtain ⟨vs, hown, hin⟩ := h
  refine ⟨vs, World.ownsRow.kept hown hg (by
    cases e : v.ownBlock
    · exact .inl rfl
    · refine .inr (fun e2 => ?_)
      have h1 := (World.ownsRow.lt hown _ e).1
      have h2 := Option.some.inj e2
      omega), fun i hi => ?_⟩
  obtain ⟨A', c', e0, e1, e2, e3, e4, e5⟩ := hin i hi
  exact ⟨A', c', e0, e1, e2, Ow.far e3 hg (fun g hgg e => by have h1 := e3.own_lo g hgg; have h2 := Option.some.inj e; omega), e4, e5⟩
theorem grown_setRow {w : World} {g : Nat} {cs : Array Value} : w.grownBy (w.setRow g cs) (some g) :=
  ⟨rfl, rfl, rfl, by simp, fun k hk hne => by unfold World.setRow; simp only [Array.getElem?_modify]; rw [if_neg (fun e => hne (by rw [e]))]⟩
set_option maxHeartbeats 1000000 in
theorem eqRuleS_any (A A2 : Option Addr) (c c2 n B B2 : Nat) (rs : List RuleM) (w : World) (h : RdRs w B A n rs) (h2 : RdRs w B2 A2 n rs) (hB : B ≤ w.heap.size) (hB2 : B2 ≤ w.heap.size) (hm : n ≤ 1099511627776) :
    Calls Tryd.prog 61 #[.slice A n c, .slice A2 n c2] w fun e w' => e = .returned (.bool true) ∧ Below w.heap.size w w' := by
  have HR := Lib.hid (fun (w' : World) (hb : Below w.heap.size w w') => h.below (hb.mono hB))
  have HR2 := Lib.hid (fun (w' : World) (hb : Below w.heap.size w w') => h2.below (hb.mono hB2))
  have hnn : ((n : Int) != (n : Int)) = false := by simp
  go_enter Tryd.func61, Tryd.ntmps61
  go_wp2
  go_loopw [5] (fun i wr => ∃ u : Nat, u ≤ n ∧ i = .int .i64 u ∧ Below w.heap.size w wr) (fun i _ => n - (intOf i).toNat)
  case atStart => exact ⟨0, Nat.zero_le _, rfl, Below.refl _ _⟩
  case round =>
    obtain ⟨u, hu, rfl, hb⟩ := hrel
    by_cases hlt : u < n
    · obtain ⟨b, off, rfl, hbB, hcc⟩ := (HR.out _ hb).2 (by omega)
      obtain ⟨b2, off2, rfl, hbB2, hcc2⟩ := (HR2.out _ hb).2 (by omega)
      obtain ⟨A', c', r0, r1, r2, r3, r4⟩ := hcc u hlt
      obtain ⟨A'', c'', t0, t1, t2, t3, t4⟩ := hcc2 u hlt
      obtain ⟨rk, hrk⟩ : ∃ x, x = (rat rs u).k := ⟨_, rfl⟩
      obtain ⟨rx, hrx⟩ : ∃ x, x = (rat rs u).xs := ⟨_, rfl⟩
      obtain ⟨rvv, hrv⟩ : ∃ x, x = (rat rs u).v := ⟨_, rfl⟩
      rw [← hrk] at r0 t0
      rw [← hrx] at r1 r3 r4 t1 t3
      rw [← hrv] at r2 t2
      have hbw : b < wr.heap.size := cell_lt r0
      have hbw2 : b2 < wr.heap.size := cell_lt t0
      have HC := Lib.hid (fun w' (hbb : Below wr.heap.size wr w') => eqRule_any A' A'' c' c'' rx.length rx.length B B2 rx rx rk rvv rk rvv w' (r3.below (hbb.mono (Nat.le_trans hB hb.size))) (t3.below (hbb.mono (Nat.le_trans hB2 hb.size))) (Nat.le_trans (Nat.le_trans hB hb.size) hbb.size) (Nat.le_trans (Nat.le_trans hB2 hb.size) hbb.size) r4 rfl rfl rfl)
      have HS : Hid (∀ w', Below wr.heap.size wr w' → w'.cell? ⟨b, off + u * 3, none⟩ = some (.int .i64 rk) ∧ w'.cell? ⟨b, off + u * 3 + 1, none⟩ = some (.slice A' rx.length c') ∧ w'.cell? ⟨b, off + u * 3 + 2, none⟩ = some (.int .i64 rvv) ∧ w'.cell? ⟨b2, off2 + u * 3, none⟩ = some (.int .i64 rk) ∧ w'.cell? ⟨b2, off2 + u * 3 + 1, none⟩ = some (.slice A'' rx.length c'') ∧ w'.cell? ⟨b2, off2 + u * 3 + 2, none⟩ = some (.int .i64 rvv)) :=
        Lib.hid (fun w' hb => ⟨(hb.cell (p := ⟨b, off + u * 3, none⟩) hbw).trans r0, (hb.cell (p := ⟨b, off + u * 3 + 1, none⟩) hbw).trans r1, (hb.cell (p := ⟨b, off + u * 3 + 2, none⟩) hbw).trans r2, (hb.cell (p := ⟨b2, off2 + u * 3, none⟩) hbw2).trans t0, (hb.cell (p := ⟨b2, off2 + u * 3 + 1, none⟩) hbw2).trans t1, (hb.cell (p := ⟨b2, off2 + u * 3 + 2, none⟩) hbw2).trans t2⟩)
      have hin : (u : Int) < (n : Int) := by omega
      have Hlt := Lib.hid hlt
      clear hrk hrx hrv hcc hcc2
      go_wp2
      go_region_held3 (fun w' => w'.cell? ⟨b, off + u * 3, none⟩ = some (.int .i64 rk) ∧ w'.cell? ⟨b, off + u * 3 + 1, none⟩ = some (.slice A' rx.length c') ∧ w'.cell? ⟨b, off + u * 3 + 2, none⟩ = some (.int .i64 rvv) ∧ w'.cell? ⟨b2, off2 + u * 3, none⟩ = some (.int .i64 rk) ∧ w'.cell? ⟨b2, off2 + u * 3 + 1, none⟩ = some (.slice A'' rx.length c'') ∧ w'.cell? ⟨b2, off2 + u * 3 + 2, none⟩ = some (.int .i64 rvv))
        (first | go_keep | exact HS.out _ hb5)
        ((go_simp; go_at_call 98; refine (HC.out _ (Below.refl _ _).drew).mono ?_; rintro e w5 ⟨rfl, hb4⟩; have hb5 : Below wr.heap.size wr w5 := ((Below.refl _ _).drew).trans hb4))
      go_wp2
      go_roundw
      case rel => exact ⟨u + 1, Hlt.out, by go_num, hb.trans (hb5.mono hb.size)⟩
      case measure => have := Hlt.out; simp [intOf]; omega
    · obtain rfl : u = n := by omega
      go_wp2
      go_ret
      exact ⟨rfl, hb⟩
set_option maxHeartbeats 1000000 in
theorem eqPuzzle_any (s : Int) (Ag Ag2 : Option Addr) (cg cg2 ng Bg Bg2 : Nat) (g : List Int) (Ar Ar2 : Option Addr) (cr cr2 nr B B2 : Nat) (rs : List RuleM) (w : World) (hg : Rd w Bg Ag ng g) (hBg : Bg ≤ w.heap.size) (hmg : ng ≤ 1099511627776) (hg2 : Rd w Bg2 Ag2 ng g) (hBg2 : Bg2 ≤ w.heap.size) (h : RdRs w B Ar nr rs) (h2 : RdRs w B2 Ar2 nr rs) (hB : B ≤ w.heap.size) (hB2 : B2 ≤ w.heap.size) (hm : nr ≤ 1099511627776) :
    Calls Tryd.prog 26 #[.agg #[.int .i64 s, .slice Ag ng cg, .slice Ar nr cr], .agg #[.int .i64 s, .slice Ag2 ng cg2, .slice Ar2 nr cr2]] w fun e w' => e = .returned (.bool true) ∧ Below w.heap.size w w' := by
  have hx := pbox_new w s Ag ng cg Ar nr cr 26
  have hb0 : Below w.heap.size w (w.alloc (.cells #[.int .i64 s, .slice Ag ng cg, .slice Ar nr cr] 26)) := (Below.refl _ _).alloc (Nat.le_refl _) _
  have hs0 : w.heap.size < (w.alloc (.cells #[.int .i64 s, .slice Ag ng cg, .slice Ar nr cr] 26)).heap.size := by simp
  have hx2 := pbox_new (w.alloc (.cells #[.int .i64 s, .slice Ag ng cg, .slice Ar nr cr] 26)) s Ag2 ng cg2 Ar2 nr cr2 26
  obtain ⟨U, hU⟩ : ∃ U, U = (w.alloc (.cells #[.int .i64 s, .slice Ag ng cg, .slice Ar nr cr] 26)).alloc (.cells #[.int .i64 s, .slice Ag2 ng cg2, .slice Ar2 nr cr2] 26) := ⟨_, rfl⟩
  rw [World.size_alloc, ← hU] at hx2
  have hx1 : PBox U w.heap.size s Ag ng cg Ar nr cr := by rw [hU]; exact hx.below hs0 ((Below.refl _ _).alloc (Nat.le_refl _) _)
  have hbU : Below w.heap.size w U := by rw [hU]; exact hb0.alloc hb0.size _
  have hsU : U.heap.size = w.heap.size + 1 + 1 := by rw [hU]; simp
  have hs1 : w.heap.size < U.heap.size := by omega
  have hs2 : w.heap.size + 1 < U.heap.size := by omega
  obtain ⟨a0, a1, a2⟩ := id hx1
  obtain ⟨b0, b1, b2⟩ := id hx2
  have hss : (s != s) = false := by simp
  have hsame := same_refl g
  have HI := Lib.hid (eqIntS_any Ag Ag2 cg cg2 ng ng Bg Bg2 g g U (hg.below (hbU.mono hBg)) (hg2.below (hbU.mono hBg2)) hmg)
  rw [hsame] at HI
  have HE := Lib.hid (fun w' (hb : Below w.heap.size w w') => eqRuleS_any Ar Ar2 cr cr2 nr B B2 rs w' (h.below (hb.mono hB)) (h2.below (hb.mono hB2)) (Nat.le_trans hB hb.size) (Nat.le_trans hB2 hb.size) hm)
  have HU := Lib.hid hU
  clear hU hx hsU
  go_enter Tryd.func26, Tryd.ntmps26
  go_wp2_with (first | (go_at_call 60; rw [← HU.out]; refine HI.out.mono ?_; rintro e w2 ⟨rfl, hb2⟩; have h02 := step hbU hb2; obtain ⟨d0, d1, d2⟩ := hx1.below hs1 hb2; obtain ⟨e0, e1, e2⟩ := hx2.below hs2 hb2) | (go_at_call 61; refine (HE.out _ h02).mono ?_; rintro e w3 ⟨rfl, hb3⟩))
  go_ret
  exact ⟨rfl, step h02 hb3⟩
set_option maxHeartbeats 1000000 in
theorem toPuzzle_any (s : Int) (Ag : Option Addr) (cg n Bg : Nat) (g : List Int) (Ar : Option Addr) (cr nr B : Nat) (rs : List RuleM) (w : World) (hg : Rd w Bg Ag n g) (hBg : Bg ≤ w.heap.size) (hmg : n ≤ 1099511627776) (h : RdRs w B Ar nr rs) (hB : B ≤ w.heap.size) (hm : nr ≤ 1048576) :
    Calls Tryd.prog 25 #[.agg #[.int .i64 s, .slice Ag n cg, .slice Ar nr cr]] w fun e w' => ∃ A1 g2, e = .returned (.agg #[.int .i64 s, .slice A1 n n, .slice (some ⟨g2, 0, none⟩) nr nr]) ∧ Ow w' w.heap.size A1 n n g ∧ OwR w' w.heap.size (.slice (some ⟨g2, 0, none⟩) nr nr) rs nr ∧ Below w.heap.size w w' := by
  have Hone := Lib.hid puz_one
  have Hi := Lib.hid puz_info
  have hx0 := pbox_new w s Ag n cg Ar nr cr 37
  have hb0 : Below w.heap.size w (w.alloc (.cells #[.int .i64 s, .slice Ag n cg, .slice Ar nr cr] 37)) := (Below.refl _ _).alloc (Nat.le_refl _) _
  have hs0 : w.heap.size < (w.alloc (.cells #[.int .i64 s, .slice Ag n cg, .slice Ar nr cr] 37)).heap.size := by simp
  obtain ⟨V, hV⟩ : ∃ V, V = ((w.alloc (.cells #[.int .i64 s, .slice Ag n cg, .slice Ar nr cr] 37)).alloc (.cells #[.int .i64 0, .slice none 0 0, .slice none 0 0] 26)).alloc (.cells #[.int .i64 s, .slice none 0 0, .slice none 0 0] 26) := ⟨_, rfl⟩
  have hbV : Below w.heap.size w V := by rw [hV]; exact (hb0.alloc hb0.size _).alloc (by simp; omega) _
  have hsV : V.heap.size = w.heap.size + 1 + 1 + 1 := by rw [hV]; simp
  have hv2 : V.heap[w.heap.size + 1 + 1]? = some (.cells #[.int .i64 s, .slice none 0 0, .slice none 0 0] 26) := by
    have := heap_alloc2_new (w.alloc (.cells #[.int .i64 s, .slice Ag n cg, .slice Ar nr cr] 37)) (.cells #[.int .i64 0, .slice none 0 0, .slice none 0 0] 26) (.cells #[.int .i64 s, .slice none 0 0, .slice none 0 0] 26)
    rw [World.size_alloc] at this
    rw [hV]
    exact this
  have hv1 : V.heap[w.heap.size + 1]? = some (.cells #[.int .i64 0, .slice none 0 0, .slice none 0 0] 26) := by
    have := heap_alloc2_old (w.alloc (.cells #[.int .i64 s, .slice Ag n cg, .slice Ar nr cr] 37)) (.cells #[.int .i64 0, .slice none 0 0, .slice none 0 0] 26) (.cells #[.int .i64 s, .slice none 0 0, .slice none 0 0] 26)
    rw [World.size_alloc] at this
    rw [hV]
    exact this
  have hx1 : PBox V w.heap.size s Ag n cg Ar nr cr := by
    rw [hV]
    exact hx0.below hs0 (((Below.refl _ _).alloc (Nat.le_refl _) _).alloc (by simp) _)
  obtain ⟨k0, k1, k2⟩ := id hx1
  have hwV : w.heap.size ≤ V.heap.size := by omega
  have hwV0 : w.heap.size < V.heap.size := by omega
  have hwV1 : w.heap.size + 1 < V.heap.size := by omega
  have hwV2 : w.heap.size + 1 + 1 < V.heap.size := by omega
  have hne02 : w.heap.size + 1 + 1 ≠ w.heap.size := by omega
  have hne12 : w.heap.size + 1 ≠ w.heap.size + 1 + 1 := by omega
  have hle2 : w.heap.size ≤ w.heap.size + 1 + 1 := by omega
  have HG := Lib.hid (toIntS_any Ag cg n Bg g V (hg.below (hbV.mono hBg)) (Nat.le_trans hBg hwV) hmg)
  have HRR := Lib.hid (fun w' (hb : Below w.heap.size w w') => toRuleS_any Ar cr nr B rs w' (h.below (hb.mono hB)) (Nat.le_trans hB hb.size) hm)
  have HV := Lib.hid hV
  have HsV := Lib.hid hsV
  have HbV := Lib.hid hbV
  clear hV hsV hbV hx0 hb0 hs0
  go_enter Tryd.func25, Tryd.ntmps25
  go_wp2_with fail
  rw [← HV.out]
  refine HG.out.mono ?_
  rintro e w1 ⟨rfl, ho1, hbw1⟩
  have f1 := (hbw1.block (w.heap.size + 1) hwV1).trans hv1
  have f2 := (hbw1.block (w.heap.size + 1 + 1) hwV2).trans hv2
  obtain ⟨j0, j1, j2⟩ := hx1.below hwV0 hbw1
  have m0 : w1.cell? ⟨w.heap.size + 1 + 1, 0, none⟩ = some (.int .i64 s) := cell_of_row _ _ 0 _ _ (0, 0) f2
  have m1 : w1.cell? ⟨w.heap.size + 1 + 1, 1, none⟩ = some (.slice none 0 0) := cell_of_row _ _ 1 _ _ (0, 0) f2
  have fz := frozen_of_row w1 (w.heap.size + 1 + 1) 1 _ _ f2
  obtain ⟨W2, hW2⟩ : ∃ W2, w1.setCell ⟨w.heap.size + 1 + 1, 1, none⟩ (.slice (some ⟨V.heap.size, 0, none⟩) n n) = W2 := ⟨_, rfl⟩
  have g1 : W2.heap[w.heap.size + 1]? = some (.cells #[.int .i64 0, .slice none 0 0, .slice none 0 0] 26) := by rw [← hW2]; exact (heap_setCell_other w1 ⟨w.heap.size + 1 + 1, 1, none⟩ (w.heap.size + 1) _ hne12).trans f1
  have g2 : W2.heap[w.heap.size + 1 + 1]? = some (.cells #[.int .i64 s, .slice (some ⟨V.heap.size, 0, none⟩) n n, .slice none 0 0] 26) := by rw [← hW2]; exact heap_setCell_same w1 (w.heap.size + 1 + 1) 1 _ _ (.slice (some ⟨V.heap.size, 0, none⟩) n n) f2
  have hb2 : Below w.heap.size w W2 := by rw [← hW2]; exact (HbV.out.trans (hbw1.mono hwV)).setCell (p := ⟨w.heap.size + 1 + 1, 1, none⟩) hle2 _
  have hj2 : W2.cell? ⟨w.heap.size, 2, none⟩ = some (.slice Ar nr cr) := by rw [← hW2]; exact (World.cell?_setCell_far w1 ⟨w.heap.size + 1 + 1, 1, none⟩ ⟨w.heap.size, 2, none⟩ _ hne02).trans j2
  have ho2 : Ow W2 V.heap.size (some ⟨V.heap.size, 0, none⟩) n n g := by rw [← hW2]; exact ho1.far (row := some (w.heap.size + 1 + 1)) grown_set (fun b hb e => by have := ho1.own_lo b hb; injection e with e; omega)
  have hs2 : w.heap.size + 1 + 1 < W2.heap.size := (Array.getElem?_eq_some_iff.1 g2).1
  have HR2 := Lib.hid (HRR.out W2 hb2)
  clear f1 f2 k0 k1 k2 hv1 hv2
  go_wp2_with fail
  (try rw [hW2])
  refine HR2.out.mono ?_
  rintro e w3 ⟨gr, rfl, ho3, hb3⟩
  have q1 := (hb3.block (w.heap.size + 1) (by omega)).trans g1
  have q2 := (hb3.block (w.heap.size + 1 + 1) hs2).trans g2
  have fz3 := frozen_of_row w3 (w.heap.size + 1 + 1) 2 _ _ q2
  have p2 : w3.cell? ⟨w.heap.size + 1 + 1, 2, none⟩ = some (.slice none 0 0) := cell_of_row _ _ 2 _ _ (0, 0) q2
  have r1 := (heap_setCell_other w3 ⟨w.heap.size + 1 + 1, 2, none⟩ (w.heap.size + 1) (.slice (some ⟨gr, 0, none⟩) nr nr) hne12).trans q1
  have r2 := heap_setCell_same w3 (w.heap.size + 1 + 1) 2 _ _ (.slice (some ⟨gr, 0, none⟩) nr nr) q2
  go_wp2_with (first
    | (refine wpList_load_row rfl 26 _ rfl (w.heap.size + 1 + 1) rfl 26 #[.int .i64 s, .slice (some ⟨V.heap.size, 0, none⟩) n n, .slice (some ⟨gr, 0, none⟩) nr nr] (0, 0) _ r2 Tryd.underlying26 rfl (Hi.out _ _ _ _ _ _ _) ?_)
    | (refine wpList_store_row rfl 26 _ _ rfl (w.heap.size + 1) #[.int .i64 s, .slice (some ⟨V.heap.size, 0, none⟩) n n, .slice (some ⟨gr, 0, none⟩) nr nr] rfl rfl 26 #[.int .i64 0, .slice none 0 0, .slice none 0 0] r1 (Hi.out _ _ _ _ _ _ _) rfl (Hone.out _ _ _ _ _ _ _) ?_))
  have hB3 : Below w.heap.size w w3 := step hb2 hb3
  have hBe : Below w.heap.size w ((w3.setCell ⟨w.heap.size + 1 + 1, 2, none⟩ (.slice (some ⟨gr, 0, none⟩) nr nr)).setRow (w.heap.size + 1) #[.int .i64 s, .slice (some ⟨V.heap.size, 0, none⟩) n n, .slice (some ⟨gr, 0, none⟩) nr nr]) := setRow_below5 (hB3.setCell (p := ⟨w.heap.size + 1 + 1, 2, none⟩) hle2 _) (by omega)
  have HsV' := HsV.out
  have ho2' := ho2.below hb3
  refine bodyPost_ret (v := .agg #[.int .i64 s, .slice (some ⟨V.heap.size, 0, none⟩) n n, .slice (some ⟨gr, 0, none⟩) nr nr]) (results_cell_row (by rfl) _ _ (w.heap.size + 1) 26 _ (0, 0) _ rfl (setRow_heap _ _ _ _ _ _ r1) Tryd.underlying26 rfl (Hi.out _ _ _ _ _ _ _)) rfl ⟨_, _, rfl, ?own, ?ownr, hBe⟩
  case own =>
    refine (((ho2'.far (row := some (w.heap.size + 1 + 1)) grown_set (fun b hb e => by have := ho2.own_lo b hb; injection e with e; omega)).row5 (fun b hb => ?_)).mono (by omega))
    have := ho2.own_lo b hb
    omega
  case ownr => exact ((ho3.keptG grown_set hs2).keptG grown_setRow (by omega)).mono (by omega)
end Go.Proofs.YtkeoflnmbcdmfaaDoor
set_option maxRecDepth 8000
namespace Go.Proofs.YtkeoflnmbcdmfaaDoor
open Go.ChangeShapes Go.WideShapes Go.ChangeAt Go.RowKit

theorem row_max {k : IntKind} {w : World} {a : Option Addr} {len cap : Nat} {zs : List Int} (h : IsRow k w a len cap zs) : len ≤ 9223372036854775807 := by
  rcases h with ⟨rfl, rfl, rfl, rfl⟩ | ⟨x, rfl, hl, hm, _⟩
  · omega
  · simp only [maxLen] at hm; omega
theorem below_undrew {w w2 : World} (h : Below w.drew.heap.size w.drew w2) : Below w.heap.size w w2 := ⟨h.os, h.tape, h.output, h.size, h.block⟩
theorem szRule_big (A : Option Addr) (c n : Nat) (k v : Int) (w : World) (hn : ¬ n ≤ 1048576) (hm : n ≤ 9223372036854775807) :
    Calls Tryd.prog 96 #[.agg #[.int .i64 k, .slice A n c, .int .i64 v], .int .i64 1048576] w fun e w' => e = .returned (.int .i64 (-1)) ∧ Below w.heap.size w w' := by
  refine (szRule_any A c n k v 1048576 w hm (by omega) (by omega)).mono ?_
  rintro e w' ⟨rfl, hb⟩
  exact ⟨by rw [if_neg (by omega)], hb⟩
end Go.Proofs.YtkeoflnmbcdmfaaDoor
set_option maxRecDepth 8000
namespace Go.Proofs.YtkeoflnmbcdmfaaDoor
open Go.ChangeShapes Go.WideShapes Go.ChangeAt Go.RowKit Go.Deep
/-! A slice of rules that came in, as it reads. -/
theorem list_of {P : Nat → RuleM → Prop} : ∀ n, (∀ i, i < n → ∃ r, P i r) → ∃ rs : List RuleM, rs.length = n ∧ ∀ i, i < n → P i (rat rs i) := by
  intro n
  induction n with
  | zero => intro _; exact ⟨[], rfl, fun i hi => absurd hi (by omega)⟩
  | succ n ih =>
    intro h
    obtain ⟨rs, hl, hp⟩ := ih (fun i hi => h i (by omega))
    obtain ⟨r, hr⟩ := h n (by omega)
    refine ⟨rs ++ [r], by simp [hl], fun i hi => ?_⟩
    by_cases e : i < n
    · have : rat (rs ++ [r]) i = rat rs i := by simp [rat, List.getD_eq_getElem?_getD, List.getElem?_append_left (by omega : i < rs.length)]
      rw [this]; exact hp i e
    · obtain rfl : i = n := by omega
      have : rat (rs ++ [r]) i = r := by simp [rat, List.getD_eq_getElem?_getD, ← hl]
      rw [this]; exact hr
theorem add_plain (b off i : Nat) : (⟨b, off, none⟩ : Addr).add i = ⟨b, off + i, none⟩ := by unfold Addr.add; split <;> simp_all
theorem open_rules {H : Type} {enc : TypeId × Value → H} {W : World} {base : Nat} {held : Bool} {fs : Array Field} {fuel : Nat} {v : Value} {x : DataW H × List MemPlace}
    (he : Tryd.prog.underlying 105 = some (.struct fs)) (hone : oneCellFields Tryd.prog fs = true) (hC : Tryd.prog.cellsOf 105 = 3) (hfs : fs.size = 3)
    (t0 : (fs[0]?).map (·.type) = some 3) (t1 : (fs[1]?).map (·.type) = some 23) (t2 : (fs[2]?).map (·.type) = some 3) (h1 : Tryd.prog.cellsOf 3 = 1)
    (h : DataW.trod enc Tryd.prog W base (fun _ => true) held fuel 35 [v] = some x) :
    ∃ A len cap rs, v = .slice A len cap ∧ RdRx W W.heap.size A len rs ∧ len ≤ 9223372036854775807 := by
  rcases open_slice Tryd.underlying35 h with ⟨hcs, _⟩ | ⟨a, len, cap, m, nf, D, Pl, hcs, hb, hl, hm, hmm, _, hi⟩
  · injection hcs with hcs
    exact ⟨none, 0, 0, [], hcs, ⟨rfl, fun hn => absurd hn (by omega)⟩, by omega⟩
  · injection hcs with hcs
    have hlm : len ≤ m := by rw [hmm]; simpa using hl
    have hmax : len ≤ 9223372036854775807 := by simp only [maxLen] at hm; omega
    -- one element
    have one : ∀ i, i < len → ∃ (k : Int) (A' : Option Addr) (l c : Nat) (zs : List Int) (u : Int), W.cell? (a.add (i * 3)) = some (.int .i64 k) ∧ W.cell? (a.add (i * 3 + 1)) = some (.slice A' l c) ∧ W.cell? (a.add (i * 3 + 2)) = some (.int .i64 u) ∧ IsRow .i64 W A' l c zs := fun i hil => by
      obtain ⟨cs', hc, ht⟩ := hi i (by omega)
      rw [hC] at hc
      obtain ⟨ys, n', _, _, hlen, hyl, hf⟩ := DataW.trod_struct he ht
      obtain ⟨_, hcl, hat⟩ := World.cells?_some hc
      match cs', hcl with
      | [c0, c1, c2], _ =>
        obtain ⟨f0, hf0⟩ : ∃ f, fs[0]? = some f := ⟨fs[0], Array.getElem?_eq_getElem (by omega)⟩
        obtain ⟨f1, hf1⟩ : ∃ f, fs[1]? = some f := ⟨fs[1], Array.getElem?_eq_getElem (by omega)⟩
        obtain ⟨f2, hf2⟩ : ∃ f, fs[2]? = some f := ⟨fs[2], Array.getElem?_eq_getElem (by omega)⟩
        obtain ⟨o0, k0⟩ := hone_of hone 0 f0 hf0
        obtain ⟨o1, k1⟩ := hone_of hone 1 f1 hf1
        obtain ⟨o2, k2⟩ := hone_of hone 2 f2 hf2
        have e0 := hf 0 f0 hf0
        have e1 := hf 1 f1 hf1
        have e2 := hf 2 f2 hf2
        rw [o0, k0] at e0
        rw [o1, k1] at e1
        rw [o2, k2] at e2
        rw [hf0] at t0
        rw [hf1] at t1
        rw [hf2] at t2
        have t0' : f0.type = 3 := by simpa using t0
        have t1' : f1.type = 23 := by simpa using t1
        have t2' : f2.type = 3 := by simpa using t2
        rw [t0'] at e0
        rw [t1'] at e1
        rw [t2'] at e2
        have g0 : DataW.trod enc Tryd.prog W base (fun _ => true) held n' 3 [c0] = some (ys[0]'(by omega)) := by rw [← List.getElem?_eq_getElem]; simpa using e0
        have g1 : DataW.trod enc Tryd.prog W base (fun _ => true) held n' 23 [c1] = some (ys[1]'(by omega)) := by rw [← List.getElem?_eq_getElem]; simpa using e1
        have g2 : DataW.trod enc Tryd.prog W base (fun _ => true) held n' 3 [c2] = some (ys[2]'(by omega)) := by rw [← List.getElem?_eq_getElem]; simpa using e2
        obtain ⟨k, ek, _⟩ := DataW.trod_int Tryd.underlying3 g0
        obtain ⟨u, eu, _⟩ := DataW.trod_int Tryd.underlying3 g2
        injection ek with ek
        injection eu with eu
        have a0 := hat 0 (by omega)
        have a1 := hat 1 (by omega)
        have a2 := hat 2 (by omega)
        rw [add_add] at a0 a1 a2
        obtain ⟨A', l, c, zs, ez, hz⟩ : ∃ A' l c zs, c1 = .slice A' l c ∧ IsRow .i64 W A' l c zs := by
          rcases open_ints Tryd.underlying23 Tryd.underlying3 h1 g1 with ⟨hcs, _⟩ | ⟨x, l, c, zs, hcs, _, hl, hm, hz, _, hcell, hwz⟩
          · injection hcs with hcs
            exact ⟨none, 0, 0, [], hcs, .inl ⟨rfl, rfl, rfl, rfl⟩⟩
          · injection hcs with hcs
            exact ⟨_, _, _, zs, hcs, .inr ⟨_, rfl, hl, hm, by simpa using hz, hcell, hwz⟩⟩
        exact ⟨k, A', l, c, zs, u, by rw [ek] at a0; simpa using a0, by rw [ez] at a1; simpa using a1, by rw [eu] at a2; simpa using a2, hz⟩
    by_cases h0 : len = 0
    · subst h0
      exact ⟨some a, 0, cap, [], hcs, ⟨rfl, fun hn => absurd hn (by omega)⟩, hmax⟩
    · obtain ⟨k, A', l, c, zs, u, q0, q1, q2, q3⟩ := one 0 (by omega)
      obtain ⟨b, off, spot⟩ := a
      have hspot : spot = none := by simpa [Addr.add] using World.cell?_spot q0
      subst hspot
      obtain ⟨rs, hrl, hrs⟩ := list_of (P := fun i r => ∃ A' c', W.cell? ⟨b, off + i * 3, none⟩ = some (.int .i64 r.k) ∧ W.cell? ⟨b, off + i * 3 + 1, none⟩ = some (.slice A' r.xs.length c') ∧ W.cell? ⟨b, off + i * 3 + 2, none⟩ = some (.int .i64 r.v) ∧ Rd W W.heap.size A' r.xs.length r.xs ∧ r.xs.length ≤ 9223372036854775807) len (fun i hil => by
        obtain ⟨k, A', l, c, zs, u, q0, q1, q2, q3⟩ := one i hil
        have hrd := rd_of_row q3
        have hll := hrd.1
        rw [add_plain] at q0 q1 q2
        exact ⟨⟨k, zs.take l, u⟩, A', c, q0, by rw [hll, Nat.add_assoc]; exact q1, by rw [Nat.add_assoc]; exact q2, by rw [hll]; exact hrd, by rw [hll]; exact row_max q3⟩)
      exact ⟨_, _, _, rs, hcs, ⟨hrl, fun _ => ⟨b, off, rfl, cell_lt q0, hrs⟩⟩, hmax⟩
end Go.Proofs.YtkeoflnmbcdmfaaDoor
set_option maxRecDepth 8000
namespace Go.Proofs.YtkeoflnmbcdmfaaDoor
open Go.ChangeShapes Go.WideShapes Go.ChangeAt Go.RowKit
/-! marks written into a puzzle of the call's own: what they overwrite is not told, only what stays. -/
/-- only blocks from lo to hi may have changed. -/
structure Bt (lo hi : Nat) (w w' : World) : Prop where
  os : w'.os = w.os
  tape : w'.tape = w.tape
  output : w'.output = w.output
  size : w.heap.size ≤ w'.heap.size
  block : ∀ k, k < w.heap.size → (k < lo ∨ hi ≤ k) → w'.heap[k]? = w.heap[k]?
theorem Bt.refl (lo hi : Nat) (w : World) : Bt lo hi w w := ⟨rfl, rfl, rfl, Nat.le_refl _, fun _ _ _ => rfl⟩
theorem Bt.trans {lo hi : Nat} {w w' w'' : World} (h : Bt lo hi w w') (h' : Bt lo hi w' w'') : Bt lo hi w w'' :=
  ⟨h'.os.trans h.os, h'.tape.trans h.tape, h'.output.trans h.output, Nat.le_trans h.size h'.size, fun k hk ho => (h'.block k (Nat.lt_of_lt_of_le hk h.size) ho).trans (h.block k hk ho)⟩
theorem Bt.setCell {lo hi : Nat} {w w' : World} (h : Bt lo hi w w') {g j : Nat} (hg : lo ≤ g ∧ g < hi) (v : Value) : Bt lo hi w (w'.setCell ⟨g, j, none⟩ v) :=
  h.trans ⟨rfl, rfl, rfl, by simp, fun k _ ho => heap_setCell_other w' ⟨g, j, none⟩ k v (fun e => by have e2 : k = g := e; omega)⟩
theorem Bt.of_below {B lo hi : Nat} {w w' : World} (h : Below B w w') (hB : w.heap.size ≤ B) : Bt lo hi w w' := ⟨h.os, h.tape, h.output, h.size, fun k hk _ => h.block k (Nat.lt_of_lt_of_le hk hB)⟩
theorem Bt.below {lo hi B : Nat} {w w' : World} (h : Bt lo hi w w') (hB : B ≤ lo) (hw : B ≤ w.heap.size) : Below B w w' := ⟨h.os, h.tape, h.output, h.size, fun k hk => h.block k (Nat.lt_of_lt_of_le hk hw) (.inl (Nat.lt_of_lt_of_le hk hB))⟩
theorem ownsRow_bt {w w' : World} {lo n sz : Nat} {e : TypeId} {v : Value} {xs : List Value} (h : w.ownsRow lo e sz v n xs) (hk : ∀ g, v.ownBlock = some g → w'.heap[g]? = w.heap[g]?) : w'.ownsRow lo e sz v n xs := by
  refine ⟨h.1, ?_⟩
  rcases h.2 with h1 | ⟨g, cap, cur, hv, hlo, hg, h1⟩
  · exact .inl h1
  · exact .inr ⟨g, cap, cur, hv, hlo, (hk g (by rw [hv]; rfl)).trans hg, h1⟩
theorem Ow.bt {w w' : World} {lo hi lo' n c : Nat} {A : Option Addr} {xs : List Int} (h : Ow w lo' A n c xs) (hb : Bt lo hi w w') (hh : hi ≤ lo') : Ow w' lo' A n c xs :=
  ownsRow_bt h fun g hg => hb.block g (h.own_hi g hg) (.inr (Nat.le_trans hh (h.own_lo g hg)))
/-- n cells or more, in a block of numbers of the call's own. -/
def Blk (w : World) (lo hi : Nat) (A : Option Addr) (n : Nat) : Prop := 0 < n → ∃ g cs, A = some ⟨g, 0, none⟩ ∧ (lo ≤ g ∧ g < hi) ∧ w.heap[g]? = some (.cells cs 3) ∧ n ≤ cs.size
/-- rows keep their types and sizes. -/
def Sz (w w' : World) : Prop := ∀ (g : Nat) (cs : Array Value) (t : TypeId), w.heap[g]? = some (.cells cs t) → ∃ cs' : Array Value, w'.heap[g]? = some (.cells cs' t) ∧ cs'.size = cs.size ∧ (t ≠ 3 → cs' = cs)
def MkI (lo hi : Nat) (w w' : World) : Prop := Bt lo hi w w' ∧ Sz w w'
theorem MkI.refl (lo hi : Nat) (w : World) : MkI lo hi w w := ⟨Bt.refl _ _ _, fun _ cs _ h => ⟨cs, h, rfl, fun _ => rfl⟩⟩
theorem MkI.trans {lo hi : Nat} {w w' w'' : World} (h : MkI lo hi w w') (h' : MkI lo hi w' w'') : MkI lo hi w w'' := by
  refine ⟨h.1.trans h'.1, fun g cs t hg => ?_⟩
  obtain ⟨c1, h1, s1, e1⟩ := h.2 g cs t hg
  obtain ⟨c2, h2, s2, e2⟩ := h'.2 g c1 t h1
  exact ⟨c2, h2, s2.trans s1, fun ht => (e2 ht).trans (e1 ht)⟩
theorem MkI.set {lo hi g i : Nat} {w : World} {cs : Array Value} (hg : w.heap[g]? = some (.cells cs 3)) (hlo : lo ≤ g ∧ g < hi) (v : Value) : MkI lo hi w (w.setCell ⟨g, i, none⟩ v) := by
  refine ⟨(Bt.refl _ _ _).setCell hlo _, fun b c t hb => ?_⟩
  by_cases e : g = b
  · subst e
    rw [hg] at hb
    injection hb with hb
    injection hb with e1 e2 e3
    subst e1 e2
    exact ⟨_, heap_setCell_same w g i _ _ v hg, by simp, fun h => absurd rfl h⟩
  · exact ⟨c, (heap_setCell_other w ⟨g, i, none⟩ b v (fun e2 => e e2.symm)).trans hb, rfl, fun _ => rfl⟩
theorem Blk.keep {w w' : World} {lo hi n : Nat} {A : Option Addr} (h : Blk w lo hi A n) (hk : ∀ (g : Nat) (cs : Array Value), w.heap[g]? = some (.cells cs 3) → ∃ cs' : Array Value, w'.heap[g]? = some (.cells cs' 3) ∧ cs'.size = cs.size) : Blk w' lo hi A n := fun hn => by
  obtain ⟨g, cs, rfl, hlo, hg, hs⟩ := h hn
  obtain ⟨cs', hg', hs'⟩ := hk g cs hg
  exact ⟨g, cs', rfl, hlo, hg', by omega⟩
theorem Blk.mk_ {w w' : World} {lo hi n : Nat} {A : Option Addr} (h : Blk w lo hi A n) (hk : Sz w w') : Blk w' lo hi A n := h.keep fun g cs hg => by
  obtain ⟨c1, h1, s1, _⟩ := hk g cs _ hg
  exact ⟨c1, h1, s1⟩
theorem Ow.blk {w : World} {lo hi n c : Nat} {A : Option Addr} {xs : List Int} (h : Ow w lo A n c xs) (hh : w.heap.size ≤ hi) : Blk w lo hi A n := fun hn => by
  rcases h.2 with ⟨_, h0⟩ | ⟨g, cap, cur, hv, hlo, hg, h1, h2, h3, h4⟩
  · omega
  · injection hv with hA _ _
    subst hA
    have hl := congrArg List.length h4
    have hl1 := h.1
    simp only [List.length_take, Array.length_toList] at hl
    exact ⟨g, cur, rfl, ⟨hlo, Nat.lt_of_lt_of_le (Array.getElem?_eq_some_iff.1 hg).1 hh⟩, hg, by omega⟩
theorem markIntS_blk (A : Option Addr) (c n lo hi : Nat) (m : Int) (w : World) (h : Blk w lo hi A n) (hm : n ≤ 1099511627776) (h0 : 0 ≤ m) (h1 : m ≤ 4611686018427387904) :
    Calls Tryd.prog 72 #[.slice A n c, .int .i64 m] w fun e w' => e = .returned (.int .i64 (m + n)) ∧ MkI lo hi w w' := by
  go_enter Tryd.func72, Tryd.ntmps72
  go_wp2
  go_loopw [1, 5] (fun q i wr => ∃ k : Nat, k ≤ n ∧ i = .int .i64 k ∧ q = .int .i64 (m + k) ∧ MkI lo hi w wr) (fun _ i _ => n - (intOf i).toNat)
  case atStart => exact ⟨0, Nat.zero_le _, rfl, by simp, MkI.refl _ _ _⟩
  case round =>
    obtain ⟨k, hk, rfl, rfl, hmk⟩ := hrel
    by_cases hlt : k < n
    · obtain ⟨g, cs, rfl, hlo, hrow, hle⟩ := (h.mk_ hmk.2) (by omega)
      have hold : wr.cell? ⟨g, k, none⟩ = some (cs[k]'(by omega)) := by rw [cell_of_row wr g k cs _ (0, 0) hrow]; exact Array.getElem?_eq_getElem _
      have hfr := frozen_of_row wr g k _ _ hrow
      have Hst := Lib.hid (hmk.trans (MkI.set (i := k) hrow hlo (.int .i64 (m + k))))
      clear hrow
      go_wp2
      go_roundw
      case rel => exact ⟨k + 1, by omega, by go_num, by go_num, Hst.out⟩
      case measure => simp [intOf]; omega
    · obtain rfl : k = n := by omega
      go_wp2
      go_ret
      exact ⟨rfl, hmk⟩
/-- a row of rules of the call's own: each has its own cells, somewhere. -/
def RBlk (w : World) (lo hi g nr : Nat) (L : Nat → Nat) : Prop := ∃ cur : Array Value, w.heap[g]? = some (.cells cur 63) ∧ nr * 3 ≤ cur.size ∧ ∀ i, i < nr → ∃ A' c', cur[i * 3 + 1]? = some (.slice A' (L i) c') ∧ Blk w lo hi A' (L i)
theorem RBlk.mk_ {w w' : World} {lo hi g nr : Nat} {L : Nat → Nat} (h : RBlk w lo hi g nr L) (hk : Sz w w') : RBlk w' lo hi g nr L := by
  obtain ⟨cur, hg, hs, hin⟩ := h
  obtain ⟨c1, h1, s1, e1⟩ := hk g cur _ hg
  obtain rfl := e1 (by decide)
  exact ⟨_, h1, hs, fun i hi => by obtain ⟨A', c', e, hb⟩ := hin i hi; exact ⟨A', c', e, hb.mk_ hk⟩⟩
theorem RBlk.set {w : World} {lo hi g nr : Nat} {L : Nat → Nat} (h : RBlk w lo hi g nr L) (j : Nat) (v : Value) (hj : ∀ i, i * 3 + 1 ≠ j) : RBlk (w.setCell ⟨g, j, none⟩ v) lo hi g nr L := by
  obtain ⟨cur, hg, hs, hin⟩ := h
  refine ⟨_, heap_setCell_same w g j _ _ v hg, by simpa using hs, fun i hi => ?_⟩
  obtain ⟨A', c', e, hb⟩ := hin i hi
  refine ⟨A', c', by rw [Array.getElem?_setIfInBounds_ne (fun e2 => hj i e2.symm)]; exact e, hb.keep fun b cs hbc => ⟨cs, (heap_setCell_other w ⟨g, j, none⟩ b v (fun e2 => ?_)).trans hbc, rfl⟩⟩
  have e3 : g = b := e2.symm
  subst e3
  rw [hg] at hbc
  injection hbc with hbc
  injection hbc with _ h2 _
  exact absurd h2 (by decide)
theorem OwR.rblk {w : World} {lo hi g nr c : Nat} {rs : List RuleM} (h : OwR w lo (.slice (some ⟨g, 0, none⟩) nr c) rs nr) (hn : 0 < nr) (hh : w.heap.size ≤ hi) : RBlk w lo hi g nr (fun i => (rat rs i).xs.length) ∧ lo ≤ g ∧ g < hi := by
  obtain ⟨vs, hown, hin⟩ := h
  rcases hown.2 with ⟨_, h0⟩ | ⟨g', cap, cur, hv, hlo, hg, h1, h2, h3, h4⟩
  · omega
  · injection hv with hA _ _
    injection hA with hA
    injection hA with hA _ _
    subst hA
    have hl := congrArg List.length h4
    have hl1 := hown.1
    simp only [List.length_take, Array.length_toList] at hl
    refine ⟨⟨cur, hg, by omega, fun i hi => ?_⟩, hlo, Nat.lt_of_lt_of_le (Array.getElem?_eq_some_iff.1 hg).1 hh⟩
    obtain ⟨A', c', e0, e1, e2, e3, e4, e5⟩ := hin i hi
    rw [← h4, List.getElem?_take] at e1
    split at e1
    · exact ⟨A', c', by simpa using e1, e3.blk hh⟩
    · cases e1
theorem markRuleS_blk (A : Option Addr) (c nr lo hi : Nat) (L : Nat → Nat) (m : Int) (w : World) (h : 0 < nr → ∃ g, A = some ⟨g, 0, none⟩ ∧ (lo ≤ g ∧ g < hi) ∧ RBlk w lo hi g nr L) (hL : ∀ i, i < nr → L i ≤ 1048576) (hn : nr ≤ 1048576) (h0 : 0 ≤ m) (h1 : m ≤ 1099511627776) :
    Calls Tryd.prog 73 #[.slice A nr c, .int .i64 m] w fun e w' => (∃ q : Int, e = .returned (.int .i64 q) ∧ 0 ≤ q ∧ q ≤ 4398046511104) ∧ Bt lo hi w w' := by
  have HL := Lib.hid hL
  go_enter Tryd.func73, Tryd.ntmps73
  go_wp2
  go_loopw [1, 5] (fun q i wr => ∃ (k : Nat) (x : Int), k ≤ nr ∧ i = .int .i64 k ∧ q = .int .i64 x ∧ 0 ≤ x ∧ x ≤ m + k * 1048578 ∧ Bt lo hi w wr ∧ (0 < nr → ∃ g, A = some ⟨g, 0, none⟩ ∧ (lo ≤ g ∧ g < hi) ∧ RBlk wr lo hi g nr L)) (fun _ i _ => nr - (intOf i).toNat)
  case atStart => exact ⟨0, m, Nat.zero_le _, rfl, rfl, h0, by omega, Bt.refl _ _ _, h⟩
  case round =>
    obtain ⟨k, x, hk, rfl, rfl, x0, x1, hb, hr⟩ := hrel
    by_cases hlt : k < nr
    · obtain ⟨g, rfl, hlo, hR⟩ := hr (by omega)
      obtain ⟨cur, hrow, hsz, hin⟩ := id hR
      obtain ⟨A', c', e1, hB⟩ := hin k hlt
      have hLk := HL.out k hlt
      have hx : x ≤ 4398046511104 := by omega
      have hc0 : wr.cell? ⟨g, k * 3, none⟩ = some (cur[k * 3]'(by omega)) := by rw [cell_of_row wr g _ cur _ (0, 0) hrow]; exact Array.getElem?_eq_getElem _
      have hc1 : wr.cell? ⟨g, k * 3 + 1, none⟩ = some (.slice A' (L k) c') := by rw [cell_of_row wr g _ cur _ (0, 0) hrow]; exact e1
      have hf0 := frozen_of_row wr g (k * 3) _ _ hrow
      have hR1 := hR.set (k * 3) (.int .i64 x) (by omega)
      obtain ⟨cur1, hrow1, hsz1, hin1⟩ := id hR1
      have hB1 : Blk (wr.setCell ⟨g, k * 3, none⟩ (.int .i64 x)) lo hi A' (L k) := by
        obtain ⟨A2, c2, e2, hB2⟩ := hin1 k hlt
        have e3 := heap_setCell_same wr g (k * 3) _ _ (.int .i64 x) hrow
        rw [hrow1] at e3
        injection e3 with e3
        injection e3 with e3 _ _
        subst e3
        rw [Array.getElem?_setIfInBounds_ne (by omega), e1] at e2
        injection e2 with e2
        injection e2 with e2 _ _
        subst e2
        exact hB2
      have HC := Lib.hid (markIntS_blk A' c' (L k) lo hi (x + 1) _ hB1 (by omega) (by omega) (by omega))
      have HbS := Lib.hid (fun j y (w' : World) (hb' : Bt lo hi w w') => (Bt.setCell (j := j) hb' hlo y))
      obtain ⟨l, hl⟩ : ∃ l, L k = l := ⟨_, rfl⟩
      rw [hl] at hc1 HC hLk
      have Hl := Lib.hid hl
      clear hrow hin hB e1 hin1 hrow1 hB1 hl
      go_wp2_with (go_at_call 72; refine HC.out.mono ?_; rintro e w5 ⟨rfl, hm5⟩; have hR5 := hR1.mk_ hm5.2; obtain ⟨cur5, hrow5, hsz5, hin5⟩ := id hR5; have hc5 : w5.cell? ⟨g, k * 3 + 2, none⟩ = some (cur5[k * 3 + 2]'(by omega)) := (by rw [cell_of_row w5 g _ cur5 _ (0, 0) hrow5]; exact Array.getElem?_eq_getElem _); have hf5 := frozen_of_row w5 g (k * 3 + 2) _ _ hrow5)
      go_roundw
      case rel => exact ⟨k + 1, x + 1 + l + 1, hlt, by go_num, by go_num, by omega, by omega, HbS.out _ _ _ ((HbS.out _ _ _ hb).trans hm5.1), fun _ => ⟨g, rfl, hlo, hR5.set _ _ (by omega)⟩⟩
      case measure => simp [intOf]; omega
    · obtain rfl : k = nr := by omega
      go_wp2
      go_ret
      exact ⟨⟨_, rfl, x0, by omega⟩, hb⟩
theorem markPuzzle_any (s : Int) (A1 : Option Addr) (n c1 g2 nr c2 lo hi : Nat) (gi : List Int) (rs : List RuleM) (m : Int) (w0 w : World) (ho : Ow w0 lo A1 n c1 gi) (hR : OwR w0 lo (.slice (some ⟨g2, 0, none⟩) nr c2) rs nr) (hh : w0.heap.size ≤ hi) (hb : Below w0.heap.size w0 w) (hn : n ≤ 1048576) (hnr : nr ≤ 1048576) (hL : ∀ i, i < nr → (rat rs i).xs.length ≤ 1048576) (h0 : 0 ≤ m) (h1 : m ≤ 1048576) :
    Calls Tryd.prog 41 #[.agg #[.int .i64 s, .slice A1 n c1, .slice (some ⟨g2, 0, none⟩) nr c2], .int .i64 m] w fun e w' => (∃ q : Int, e = .returned (.int .i64 q) ∧ 0 ≤ q ∧ q ≤ 4398046511104) ∧ Bt lo hi w w' := by
  have hb0 : Below w.heap.size w (w.alloc (.cells #[.int .i64 s, .slice A1 n c1, .slice (some ⟨g2, 0, none⟩) nr c2] 26)) := (Below.refl _ _).alloc (Nat.le_refl _) _
  have hrow0 := heap_alloc_new w (.cells #[.int .i64 s, .slice A1 n c1, .slice (some ⟨g2, 0, none⟩) nr c2] 26)
  obtain ⟨W, hW⟩ : ∃ W, w.alloc (.cells #[.int .i64 s, .slice A1 n c1, .slice (some ⟨g2, 0, none⟩) nr c2] 26) = W := ⟨_, rfl⟩
  rw [hW] at hb0 hrow0
  obtain ⟨z0, z1, z2⟩ : PBox W w.heap.size s A1 n c1 (some ⟨g2, 0, none⟩) nr c2 := ⟨cell_of_row _ _ 0 _ _ (0, 0) hrow0, cell_of_row _ _ 1 _ _ (0, 0) hrow0, cell_of_row _ _ 2 _ _ (0, 0) hrow0⟩
  have hbW : Below w0.heap.size w0 W := step hb hb0
  have hkp : ∀ (g : Nat) (cs : Array Value), w0.heap[g]? = some (.cells cs 3) → ∃ cs' : Array Value, W.heap[g]? = some (.cells cs' 3) ∧ cs'.size = cs.size := fun g cs hg => ⟨cs, (hbW.block g (Array.getElem?_eq_some_iff.1 hg).1).trans hg, rfl⟩
  have hRW : 0 < nr → RBlk W lo hi g2 nr (fun i => (rat rs i).xs.length) ∧ (lo ≤ g2 ∧ g2 < hi) := fun hp => by
    obtain ⟨⟨cur, hg, hs, hin⟩, hl⟩ := hR.rblk hp hh
    exact ⟨⟨cur, (hbW.block g2 (Array.getElem?_eq_some_iff.1 hg).1).trans hg, hs, fun i hi' => by obtain ⟨A', c', e, hB⟩ := hin i hi'; exact ⟨A', c', e, hB.keep hkp⟩⟩, hl⟩
  have HI := Lib.hid (markIntS_blk A1 c1 n lo hi m W ((ho.blk hh).keep hkp) (by omega) h0 (by omega))
  have HRr := Lib.hid (fun (w' : World) (hs : Sz W w') (q : Int) (q0 : 0 ≤ q) (q1 : q ≤ 1099511627776) => markRuleS_blk (some ⟨g2, 0, none⟩) c2 nr lo hi (fun i => (rat rs i).xs.length) q w' (fun hp => ⟨g2, rfl, (hRW hp).2, (hRW hp).1.mk_ hs⟩) hL hnr q0 q1)
  have HB0 := Lib.hid (Bt.of_below (lo := lo) (hi := hi) hb0 (Nat.le_refl _))
  have HW := Lib.hid hW
  clear hW hRW hkp hbW
  go_enter Tryd.func41, Tryd.ntmps41
  go_wp2_with fail
  rw [HW.out]
  refine HI.out.mono ?_
  rintro e w1 ⟨rfl, hm1⟩
  obtain ⟨cs1, hrow1, _, e1⟩ := hm1.2 _ _ _ hrow0
  obtain rfl := e1 (by decide)
  obtain ⟨y0, y1, y2⟩ : PBox w1 w.heap.size s A1 n c1 (some ⟨g2, 0, none⟩) nr c2 := ⟨cell_of_row _ _ 0 _ _ (0, 0) hrow1, cell_of_row _ _ 1 _ _ (0, 0) hrow1, cell_of_row _ _ 2 _ _ (0, 0) hrow1⟩
  clear hrow1 hrow0
  have hb1 := HB0.out.trans hm1.1
  have HR1 := Lib.hid (HRr.out w1 hm1.2 (m + n) (by omega) (by omega))
  go_wp2_with (go_at_call 73; refine HR1.out.mono ?_; rintro e w2 ⟨⟨q, rfl, q0, q1⟩, hb2⟩)
  go_ret
  exact ⟨⟨q, rfl, q0, q1⟩, hb1.trans hb2⟩
end Go.Proofs.YtkeoflnmbcdmfaaDoor
set_option maxRecDepth 8000
namespace Go.Proofs.YtkeoflnmbcdmfaaDoor
open Go.ChangeShapes Go.WideShapes Go.ChangeAt Go.RowKit
set_option maxHeartbeats 2000000 in
theorem exactCountSolutions_walk (s : Int) (Ag : Option Addr) (cg ng : Nat) (gi : List Int) (Ar : Option Addr) (cr nr : Nat) (rs : List RuleM) (most : Int) (w : World) (hgi : Rd w w.heap.size Ag ng gi) (hgm : ng ≤ 9223372036854775807) (hr : RdRx w w.heap.size Ar nr rs) (hrm : nr ≤ 9223372036854775807) (_hmost : -9223372036854775808 ≤ most ∧ most ≤ 9223372036854775807) (hT : Tz w) :
    Calls Tryd.prog 4 #[.agg #[.int .i64 s, .slice Ag ng cg, .slice Ar nr cr], .int .i64 most] w fun e w' => e = .returned (.bool true) ∧ Below w.heap.size w w' := by
  have hx0 := pbox_new w s Ag ng cg Ar nr cr 37
  have hb0 : Below w.heap.size w (w.alloc (.cells #[.int .i64 s, .slice Ag ng cg, .slice Ar nr cr] 37)) := (Below.refl _ _).alloc (Nat.le_refl _) _
  have hs0 : w.heap.size < (w.alloc (.cells #[.int .i64 s, .slice Ag ng cg, .slice Ar nr cr] 37)).heap.size := by simp
  obtain ⟨a0, a1, a2⟩ := id hx0
  have hrl := Lib.hid hr.1
  have HSZ := Lib.hid (fun w' (hb : Below w.heap.size w w') => szPuzzle_any s Ag cg ng Ar cr nr w.heap.size rs 1048576 w' hgm (hr.below hb) hb.size hrm (by omega) (by omega))
  go_enter Tryd.func4, Tryd.ntmps4
  go_wp2_with fail
  refine (HSZ.out _ hb0).mono ?_
  rintro e w1 ⟨r, rfl, hb1, hr1⟩
  have h01 := step hb0 hb1
  have hx1 := hx0.below hs0 hb1
  have hs1 := Nat.lt_of_lt_of_le hs0 hb1.size
  rcases hr1 with rfl | ⟨r0, hl1, hl2, hl3⟩
  · go_wp2
    go_ret
    exact ⟨rfl, h01⟩
  · have hrneg : ¬ r < 0 := by omega
    have hmg : ng ≤ 1099511627776 := by omega
    have hmr : nr ≤ 1099511627776 := by omega
    have hnr : nr ≤ 1048576 := by omega
    have HRS := Lib.hid (fun w' (hb : Below w.heap.size w w') => (hr.below hb).small (fun i hi => by have := hl3 i hi; omega))
    have HGI := Lib.hid (fun w' (hb : Below w.heap.size w w') => hgi.below hb)
    have HTP := Lib.hid (fun w' (hb : Below w.heap.size w w') => toPuzzle_any s Ag cg ng w.heap.size gi Ar cr nr w.heap.size rs w' (HGI.out _ hb) hb.size hmg (HRS.out _ hb) hb.size hnr)
    obtain ⟨c0, c1, c2⟩ := id hx1
    clear hl1 hl2 hl3
    go_wp2_with fail
    refine (HTP.out _ h01).mono ?_
    rintro e w2 ⟨A2, g2, rfl, ho2, hor2, hb2⟩
    have h02 := step h01 hb2
    have hx2 := hx1.below hs1 hb2
    have hs2 := Nat.lt_of_lt_of_le hs1 hb2.size
    have hp2 : PGs w2 s A2 ng ng w2.heap.size gi (some ⟨g2, 0, none⟩) nr nr w2.heap.size rs := ⟨ho2.rd, Nat.le_refl _, hmg, hor2.rd hrl.out, Nat.le_refl _, hmr⟩
    go_wp2_with fail
    refine (specCountSolutions _ _ _ _ _ _ _ _ _ _ _ most _ hp2).mono ?_
    rintro e w3 ⟨rfl, hb3⟩
    have h03 := step h02 hb3
    have hx3 := hx2.below hs2 hb3
    have hs3 := Nat.lt_of_lt_of_le hs2 hb3.size
    obtain ⟨d0, d1, d2⟩ := id hx3
    go_wp2_with fail
    refine (HTP.out _ h03).mono ?_
    rintro e w4 ⟨A4, g4, rfl, ho4, hor4, hb4⟩
    have h04 := step h03 hb4
    have hx4 := hx3.below hs3 hb4
    have hs4 := Nat.lt_of_lt_of_le hs3 hb4.size
    have hy4 := pbox_new w4 s A4 ng ng (some ⟨g4, 0, none⟩) nr nr 26
    have hb5 : Below w4.heap.size w4 (w4.alloc (.cells #[.int .i64 s, .slice A4 ng ng, .slice (some ⟨g4, 0, none⟩) nr nr] 26)) := (Below.refl _ _).alloc (Nat.le_refl _) _
    have ht4 : w4.heap.size < (w4.alloc (.cells #[.int .i64 s, .slice A4 ng ng, .slice (some ⟨g4, 0, none⟩) nr nr] 26)).heap.size := by simp
    have hpc4 : PGc w4 s A4 ng ng w4.heap.size gi (some ⟨g4, 0, none⟩) nr nr w4.heap.size rs := ⟨ho4.rd, Nat.le_refl _, hmg, hor4.rdc hrl.out, Nat.le_refl _, hmr⟩
    have h05 := step h04 hb5
    have hx5 := hx4.below hs4 hb5
    have hs5 := Nat.lt_of_lt_of_le hs4 hb5.size
    have hp5 := hpc4.below hb5
    obtain ⟨e0, e1, e2⟩ := id hy4
    have hy5 := hy4
    have ht5 := ht4
    go_wp2_with fail
    refine (implCountSolutions _ _ _ _ _ _ _ _ _ _ _ most _ hp5 (hT.below hT.lt h05)).mono ?_
    rintro e w6 ⟨rfl, hb7⟩
    have h07 := step h05 hb7
    have hx7 := hx5.below hs5 hb7
    have hs7 := Nat.lt_of_lt_of_le hs5 hb7.size
    have hy7 := hy5.below ht5 hb7
    have ht7 := Nat.lt_of_lt_of_le ht5 hb7.size
    have hp7 := hp5.below hb7
    have hne : (csI s ng gi rs most != csI s ng gi rs most) = false := by simp
    obtain ⟨f0, f1, f2⟩ := id hx7
    obtain ⟨g0, g1, g2'⟩ := id hy7
    have hBA : Below w.heap.size w w6.drew := h07.drew
    have hp7r := hp7.rd
    go_wp2
    go_region_with (first | (go_at_call 25; (with_reducible refine (HTP.out _ ?hd).mono ?_); (case hd => exact hBA); rintro e w7 ⟨A7, g7, rfl, ho8, hor8, hb8d⟩; have hb8 := below_undrew hb8d; clear hb8d; have hy8 := hy7.below ht7 hb8; obtain ⟨q0, q1, q2⟩ := id hy8; have hp8 := hp7r.below hb8; have hgr8 := ho8.rd; have hrr8 := hor8.rd hrl.out; have h08 := step h07 hb8) | (go_at_call 26; (with_reducible refine (eqPuzzle_any s A4 A7 ng ng ng _ _ gi (some ⟨g4, 0, none⟩) (some ⟨g7, 0, none⟩) nr nr nr _ _ rs _ hp8.g hp8.gB hmg hgr8 ?hB hp8.r hrr8 hp8.rB ?hB2 hmr).mono ?_); (case hB => exact Nat.le_refl _); (case hB2 => exact Nat.le_refl _); rintro e w8 ⟨rfl, hb9⟩))
    all_goals
      have h09 := step h08 hb9
      go_wp2
      go_ret
      exact ⟨rfl, h09⟩
end Go.Proofs.YtkeoflnmbcdmfaaDoor
set_option maxRecDepth 8000
namespace Go.Proofs.YtkeoflnmbcdmfaaDoor
open Go.ChangeShapes Go.WideShapes Go.ChangeAt Go.RowKit Go.Shelf
attribute [local go_sem] Oper.semAt_some
set_option maxHeartbeats 1000000 in
theorem hasOne_any (s : Int) (Ag : Option Addr) (n cg Bg : Nat) (gi : List Int) (Ar : Option Addr) (nr cr Br : Nat) (rs : List RuleM) (w : World) (hp : PGc w s Ag n cg Bg gi Ar nr cr Br rs) (hv : pvB s gi rs = true) (hT : Tz w) :
    Calls Tryd.prog 99 #[.agg #[.int .i64 s, .slice Ag n cg, .slice Ar nr cr]] w fun e w' => e = .returned (.bool (oneB s n gi rs)) ∧ Below w.heap.size w w' := by
  have hx0 := pbox_new w s Ag n cg Ar nr cr 26
  have hb0 : Below w.heap.size w (w.alloc (.cells #[.int .i64 s, .slice Ag n cg, .slice Ar nr cr] 26)) := (Below.refl _ _).alloc (Nat.le_refl _) _
  have HC := Lib.hid (show Calls Tryd.prog 54 #[.agg #[.int .i64 s, .slice Ag n cg, .slice Ar nr cr], .int .i64 2] _ _ from countP_any s Ag n cg Bg gi Ar nr cr Br rs 2 _ (hp.below hb0) hv (by omega) (by omega) (hT.below hT.lt hb0))
  obtain ⟨z0, z1, z2⟩ := id hx0
  have HQ := Lib.hid (show ((((allS s 2 n gi rs).length : Nat) : Int) == 1) = oneB s n gi rs by
    unfold oneB
    rw [Bool.eq_iff_iff]
    simp only [beq_iff_eq]
    omega)
  go_enter Tryd.func99, Tryd.ntmps99
  go_wp2_with (go_at_call 54; refine HC.out.mono ?_; rintro e w1 ⟨rfl, hb1⟩)
  go_ret
  exact ⟨by rw [HQ.out]; rfl, step hb0 hb1⟩
end Go.Proofs.YtkeoflnmbcdmfaaDoor
