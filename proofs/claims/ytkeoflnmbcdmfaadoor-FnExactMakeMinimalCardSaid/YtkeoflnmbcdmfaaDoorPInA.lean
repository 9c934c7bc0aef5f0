import Derived.Test.YtkeoflnmbcdmfaaDoorRInts
import Derived.Test.YtkeoflnmbcdmfaaDoorOwnP
import Derived.Deep.MidRow
set_option maxRecDepth 8000
namespace Go.Proofs.YtkeoflnmbcdmfaaDoor
open Go.ChangeShapes Go.WideShapes Go.ChangeAt Go.RowKit

theorem grown_tr {a b c : World} {r : Option Nat} (h : a.grownBy b r) (k : b.grownBy c r) : a.grownBy c r := h.trans k
theorem setCells3 (w : World) (g o : Nat) (x y z : Value) : w.setCells g o [x, y, z] = ((w.setCell ⟨g, o, none⟩ x).setCell ⟨g, o + 1, none⟩ y).setCell ⟨g, o + 2, none⟩ z := rfl
theorem row_setCells3 {w : World} {g o : Nat} {cur : Array Value} {t : TypeId} (x y z : Value) (h : w.heap[g]? = some (.cells cur t (0, 0))) :
    (w.setCells g o [x, y, z]).heap[g]? = some (.cells (((cur.setIfInBounds o x).setIfInBounds (o + 1) y).setIfInBounds (o + 2) z) t (0, 0)) := by
  rw [setCells3]
  exact heap_setCell_same _ g (o + 2) _ _ z (heap_setCell_same _ g (o + 1) _ _ y (heap_setCell_same w g o _ _ x h))
theorem grown_setCells3 {w : World} {g o : Nat} {x y z : Value} : w.grownBy (w.setCells g o [x, y, z]) (some g) := by
  rw [setCells3]
  exact grown_tr (grown_tr grown_set grown_set) grown_set
theorem below_setCells3 {N : Nat} {w0 w : World} {g o : Nat} {x y z : Value} (h : Below N w0 w) (hg : N ≤ g) : Below N w0 (w.setCells g o [x, y, z]) := by
  rw [setCells3]
  exact ((h.setCell (p := ⟨g, o, none⟩) hg _).setCell (p := ⟨g, o + 1, none⟩) hg _).setCell (p := ⟨g, o + 2, none⟩) hg _
/-- n rules' cells in a slice of the call's own, the first u of them filled. -/
def OwRp (w : World) (lo : Nat) (g n : Nat) (rs : List RuleM) (u : Nat) : Prop :=
  ∃ vs, w.ownsRow lo 63 3 (.slice (some ⟨g, 0, none⟩) n n) n vs ∧ ∀ i, i < u → ∃ A' c', vs[i * 3]? = some (.int .i64 (rat rs i).k) ∧ vs[i * 3 + 1]? = some (.slice A' (rat rs i).xs.length c') ∧ vs[i * 3 + 2]? = some (.int .i64 (rat rs i).v) ∧ Ow w lo A' (rat rs i).xs.length c' (rat rs i).xs ∧ (rat rs i).xs.length ≤ 1099511627776 ∧ ∀ b, (Value.slice A' (rat rs i).xs.length c').ownBlock = some b → (Value.slice (some ⟨g, 0, none⟩) n n).ownBlock ≠ some b
theorem OwRp.below {w w' : World} {lo g n : Nat} {rs : List RuleM} {k : Nat} (h : OwRp w lo g n rs k) (hb : Below w.heap.size w w') : OwRp w' lo g n rs k := by
  obtain ⟨vs, hown, hin⟩ := h
  refine ⟨vs, World.ownsRow.kept hown (row := none) ⟨hb.os, hb.tape, hb.output, hb.size, fun k hk _ => hb.block k hk⟩ (by
    cases e : (Value.slice (some ⟨g, 0, none⟩) n n).ownBlock
    · exact .inl rfl
    · exact .inr (by simp)), fun i hi => ?_⟩
  obtain ⟨A', c', e0, e1, e2, e3, e4, e5⟩ := hin i hi
  exact ⟨A', c', e0, e1, e2, e3.below hb, e4, e5⟩
theorem OwRp.full {w : World} {lo g n : Nat} {rs : List RuleM} (h : OwRp w lo g n rs n) : OwR w lo (.slice (some ⟨g, 0, none⟩) n n) rs n := h
theorem OwRp.there {w : World} {lo g n : Nat} {rs : List RuleM} {k u : Nat} (h : OwRp w lo g n rs k) (hu : u < n) : w.there g (u * 3) 3 := by
  obtain ⟨vs, ⟨hvl, hcase⟩, _⟩ := h
  rcases hcase with ⟨h1, _⟩ | ⟨g', cap, cur, hv, h2, h3, h4, h5, h6, h7⟩
  · cases h1
  · injection hv with e1 _ e2
    injection e1 with e1
    injection e1 with e1 _ _
    subst e1
    intro j hj
    have hlt : u * 3 + j < cur.size := by rw [h6]; have := Nat.mul_le_mul_right 3 (show u + 1 ≤ cap by omega); omega
    refine ⟨?_, frozen_of_row w g (u * 3 + j) cur _ h3⟩
    rw [cell_of_row w g (u * 3 + j) cur _ (0, 0) h3]
    simp [hlt]
theorem OwRp.put {w w3 : World} {lo g n u c3 : Nat} {rs : List RuleM} {A3 : Option Addr} (h : OwRp w lo g n rs u) (hlo : lo ≤ w.heap.size) (hu : u < n) (hb : Below w.heap.size w w3)
    (ho3 : Ow w3 w.heap.size A3 (rat rs u).xs.length c3 (rat rs u).xs) (hm : (rat rs u).xs.length ≤ 1099511627776) :
    OwRp (w3.setCells g (u * 3) [.int .i64 (rat rs u).k, .slice A3 (rat rs u).xs.length c3, .int .i64 (rat rs u).v]) lo g n rs (u + 1) := by
  have hgw : g < w.heap.size := by
    obtain ⟨vs, hown, _⟩ := h
    exact (World.ownsRow.lt hown g (by simp [Value.ownBlock])).2
  obtain ⟨vs, ⟨hvl, hcase⟩, hin⟩ := h.below hb
  rcases hcase with ⟨h1, _⟩ | ⟨g', cap, cur, hv, h2, h3, h4, h5, h6, h7⟩
  · cases h1
  · injection hv with e1 _ e2
    injection e1 with e1
    injection e1 with e1 _ _
    subst e1 e2
    have hvl3 : u * 3 + 2 < vs.length := by rw [hvl]; omega
    refine ⟨((vs.set (u * 3) (.int .i64 (rat rs u).k)).set (u * 3 + 1) (.slice A3 (rat rs u).xs.length c3)).set (u * 3 + 2) (.int .i64 (rat rs u).v), ⟨by simp [hvl], .inr ⟨g, n, _, rfl, h2, row_setCells3 _ _ _ h3, h4, h5, by simp [h6], ?_⟩⟩, fun i hi => ?_⟩
    · simp only [Array.toList_setIfInBounds, List.take_set, h7]
    · by_cases e : i = u
      · subst e
        refine ⟨A3, c3, ?_, ?_, ?_, ?_, hm, fun b hbb e => ?_⟩
        · rw [List.getElem?_set_ne (by omega), List.getElem?_set_ne (by omega), List.getElem?_set_self (by omega)]
        · rw [List.getElem?_set_ne (by omega), List.getElem?_set_self (by simp; omega)]
        · rw [List.getElem?_set_self (by simp; omega)]
        · exact (Ow.far ho3 (row := some g) grown_setCells3 (fun b hbb e => by have := ho3.own_lo b hbb; injection e with e; omega)).mono hlo
        · have h8 := ho3.own_lo b hbb
          simp [Value.ownBlock] at e
          omega
      · obtain ⟨A', c', e0, e1, e2, e3, e4, e5⟩ := hin i (by omega)
        refine ⟨A', c', ?_, ?_, ?_, ?_, e4, e5⟩
        · rw [List.getElem?_set_ne (by omega), List.getElem?_set_ne (by omega), List.getElem?_set_ne (by omega)]; exact e0
        · rw [List.getElem?_set_ne (by omega), List.getElem?_set_ne (by omega), List.getElem?_set_ne (by omega)]; exact e1
        · rw [List.getElem?_set_ne (by omega), List.getElem?_set_ne (by omega), List.getElem?_set_ne (by omega)]; exact e2
        · exact Ow.far e3 (row := some g) grown_setCells3 (fun b hbb e => e5 b hbb (by have := Option.some.inj e; simp [Value.ownBlock, this]))

/-- a slice of rules, their cells as many as a slice can have. -/
def RdRx (w : World) (B : Nat) (A : Option Addr) (n : Nat) (rs : List RuleM) : Prop :=
  rs.length = n ∧ (0 < n → ∃ b off, A = some ⟨b, off, none⟩ ∧ b < B ∧ ∀ i, i < n → ∃ A' c', w.cell? ⟨b, off + i * 3, none⟩ = some (.int .i64 (rat rs i).k) ∧ w.cell? ⟨b, off + i * 3 + 1, none⟩ = some (.slice A' (rat rs i).xs.length c') ∧ w.cell? ⟨b, off + i * 3 + 2, none⟩ = some (.int .i64 (rat rs i).v) ∧ Rd w B A' (rat rs i).xs.length (rat rs i).xs ∧ (rat rs i).xs.length ≤ 9223372036854775807)
theorem RdRx.below {w w' : World} {B : Nat} {A : Option Addr} {n : Nat} {rs : List RuleM} (h : RdRx w B A n rs) (hb : Below B w w') : RdRx w' B A n rs :=
  ⟨h.1, fun hn => by
    obtain ⟨b, off, e, hlt, hc⟩ := h.2 hn
    refine ⟨b, off, e, hlt, fun i hi => ?_⟩
    obtain ⟨A', c', h0, h1, h2, h3, h4⟩ := hc i hi
    exact ⟨A', c', (hb.cell (p := ⟨b, off + i * 3, none⟩) hlt).trans h0, (hb.cell (p := ⟨b, off + i * 3 + 1, none⟩) hlt).trans h1, (hb.cell (p := ⟨b, off + i * 3 + 2, none⟩) hlt).trans h2, h3.below hb, h4⟩⟩
theorem RdRx.small {w : World} {B : Nat} {A : Option Addr} {n : Nat} {rs : List RuleM} (h : RdRx w B A n rs) (hs : ∀ i, i < n → (rat rs i).xs.length ≤ 1099511627776) : RdRs w B A n rs :=
  ⟨h.1, fun hn => by
    obtain ⟨b, off, e, hlt, hc⟩ := h.2 hn
    refine ⟨b, off, e, hlt, fun i hi => ?_⟩
    obtain ⟨A', c', h0, h1, h2, h3, _⟩ := hc i hi
    exact ⟨A', c', h0, h1, h2, h3, hs i hi⟩⟩
end Go.Proofs.YtkeoflnmbcdmfaaDoor
