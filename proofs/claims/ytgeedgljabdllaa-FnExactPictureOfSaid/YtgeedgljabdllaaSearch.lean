import Derived.Test.YtgeedgljabdllaaClash
namespace Go.Proofs.Ytgeedgljabdllaa
open Go.ChangeShapes Go.WideShapes Go.ChangeAt Go.RowKit

theorem pickL_bd {L : List (List Int)} {l : Int} (h0 : 0 ≤ l) : 0 ≤ (pickL L l).2 ∧ (pickL L l).2 ≤ l := by
  by_cases h : l < L.length
  · obtain ⟨y, _, _, e⟩ := pickL_lt h0 h
    rw [e]; exact ⟨Int.le_refl _, h0⟩
  · rw [pickL_ge (by omega)]
    simp; omega
theorem srch_bd {size : Int} {f : Nat} {xs : List Int} {p : Nat} {l : Int} (h0 : 0 ≤ l) : 0 ≤ (srch size f xs p l).2 ∧ (srch size f xs p l).2 ≤ l := by
  rw [srch_sols size f xs p l h0]; exact pickL_bd h0

/-- block L is a variable that holds v. -/
def Box1 (w : World) (L : Nat) (v : Int) : Prop := w.heap[L]? = some (.cells #[.int .i64 v] 3 (0, 0))
theorem Box1.cell {w : World} {L : Nat} {v : Int} (h : Box1 w L v) : w.cell? ⟨L, 0, none⟩ = some (.int .i64 v) := cell_of_row _ _ 0 _ _ _ h
theorem Box1.free {w : World} {L : Nat} {v : Int} (h : Box1 w L v) : w.frozen? ⟨L, 0, none⟩ = false := frozen_of_row w L 0 _ _ h
theorem Box1.lt {w : World} {L : Nat} {v : Int} (h : Box1 w L v) : L < w.heap.size := cell_lt h.cell
theorem Box1.set_ {w : World} {L : Nat} {v : Int} (h : Box1 w L v) (u : Int) : Box1 (w.setCell ⟨L, 0, none⟩ (.int .i64 u)) L u ∧ w.grownBy (w.setCell ⟨L, 0, none⟩ (.int .i64 u)) (some L) :=
  ⟨heap_setCell_same w L 0 _ _ _ h, ⟨rfl, rfl, rfl, by simp [World.setCell], fun k _ hk => heap_setCell_other w ⟨L, 0, none⟩ k _ (fun e => hk (by rw [e]))⟩⟩
theorem Box1.below {w w' : World} {L : Nat} {v : Int} (h : Box1 w L v) (hb : Below w.heap.size w w') : Box1 w' L v := (hb.block L h.lt).trans h

def SrchPost (w : World) (n L : Nat) (r : Option (List Int) × Int) (e : Ending) (w' : World) : Prop :=
  w.grownBy w' (some L) ∧ Box1 w' L r.2 ∧
    match r.1 with
    | some y => ∃ A' c', e = .returned (.slice A' n c') ∧ Rd w' w'.heap.size A' n y
    | none => e = .returned (.slice none 0 0)
theorem okAll_set {xs : List Int} {size v : Int} {n p : Nat} (h : okAll xs size n) (hl : xs.length = n) (hp : p < n) (v0 : 0 ≤ v) (v1 : v ≤ size) : okAll (xs.set p v) size n := by
  intro k hk
  rw [nth_set (by omega)]
  split
  · exact ⟨v0, v1⟩
  · exact h k hk
theorem grown_below {w w' : World} {L B : Nat} (h : w.grownBy w' (some L)) (hL : B ≤ L) (hB : B ≤ w.heap.size) : Below B w w' := (Below.refl _ _).grown h hB (fun k hk => by cases hk; exact hL)
theorem below_grown {w w1 w2 : World} {L : Nat} (h : w.grownBy w1 (some L)) (hb : Below w1.heap.size w1 w2) : w.grownBy w2 (some L) :=
  ⟨hb.os.trans h.os, hb.tape.trans h.tape, hb.output.trans h.output, Nat.le_trans h.size hb.size, fun k hk hne => (hb.block k (Nat.lt_of_lt_of_le hk h.size)).trans (h.block k hk hne)⟩
theorem tryFrom_clash {rec : List Int → Int → Option (List Int) × Int} {xs : List Int} {size : Int} {p r v : Nat} {l : Int} (h : clash (xs.set p (v : Int)) size = true) : tryFrom rec xs size p (r + 1) v l = tryFrom rec xs size p r (v + 1) l := by
  rw [tryFrom, if_pos h]
theorem tryFrom_some {rec : List Int → Int → Option (List Int) × Int} {xs y : List Int} {size : Int} {p r v : Nat} {l l' : Int} (h : clash (xs.set p (v : Int)) size = false) (hr : rec (xs.set p (v : Int)) l = (some y, l')) : tryFrom rec xs size p (r + 1) v l = (some y, l') := by
  rw [tryFrom, if_neg (by simp [h]), hr]
theorem tryFrom_none {rec : List Int → Int → Option (List Int) × Int} {xs : List Int} {size : Int} {p r v : Nat} {l l' : Int} (h : clash (xs.set p (v : Int)) size = false) (hr : rec (xs.set p (v : Int)) l = (none, l')) : tryFrom rec xs size p (r + 1) v l = tryFrom rec xs size p r (v + 1) l' := by
  rw [tryFrom, if_neg (by simp [h]), hr]

end Go.Proofs.Ytgeedgljabdllaa
