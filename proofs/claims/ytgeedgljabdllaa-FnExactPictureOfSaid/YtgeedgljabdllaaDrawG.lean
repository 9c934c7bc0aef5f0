import Derived.Test.YtgeedgljabdllaaSqNum
set_option maxRecDepth 8000
namespace Go.Proofs.Ytgeedgljabdllaa
open Go.ChangeShapes Go.WideShapes Go.ChangeAt Go.RowKit

theorem lit_cell {w w2 : World} {cs : Array Value} {t : TypeId} {G : Nat} (hg : (w.alloc (.cells cs t)).grownBy w2 (some G)) (hG : G < w.heap.size) (i : Nat) : w2.cell? ⟨w.heap.size, i, none⟩ = cs[i]? := by
  have h := hg.block w.heap.size (by simp) (fun e => by injection e with e; omega)
  exact cell_of_row _ _ i cs t (0, 0) (h.trans (heap_alloc_new w _))
theorem only_alloc {a w : World} {row : Option Nat} (h : a.grownBy w row) (o : Obj) : a.grownBy (w.alloc o) row :=
  ⟨h.os, h.tape, h.output, Nat.le_trans h.size (by simp), fun i hi hne => (Below.heap_alloc w o i (Nat.lt_of_lt_of_le hi h.size)).trans (h.block i hi hne)⟩
theorem only_set {a w : World} {row : Option Nat} (h : a.grownBy w row) {p : Addr} (hp : a.heap.size ≤ p.block) (u : Value) : a.grownBy (w.setCell p u) row :=
  ⟨h.os, h.tape, h.output, by simpa [World.setCell] using h.size, fun i hi hne => (Below.heap_setCell w p u i (by omega)).trans (h.block i hi hne)⟩
theorem grown_of_alloc {w w2 : World} {o : Obj} {G : Nat} (h : (w.alloc o).grownBy w2 (some G)) : w.grownBy w2 (some G) := (only_alloc (World.grownBy.refl w _) o).trans h
theorem Ow.keptG {w w' : World} {lo G : Nat} {A : Option Addr} {n c : Nat} {xs : List Int} (h : Ow w lo A n c xs) (hg : w.grownBy w' (some G)) (hG : G < lo) : Ow w' lo A n c xs := by
  refine World.ownsRow.kept h hg ?_
  cases e : (Value.slice A n c).ownBlock with
  | none => exact .inl rfl
  | some g =>
    refine .inr fun he => ?_
    have h1 := h.own_lo g e
    injection he with he
    omega

theorem Rdr.more {w : World} {B G P P' : Nat} (h : Rdr w B G P) (hP : P ≤ P') : Rdr w B G P' := by
  obtain ⟨A, n, c, p, bs, h1, h2, h3, h4, h5⟩ := h
  exact ⟨A, n, c, p, bs, h1, h2, by omega, h4, h5⟩
theorem Rdr.lt {w : World} {B G P : Nat} (h : Rdr w B G P) : G < w.heap.size := by
  obtain ⟨A, n, c, p, bs, h1, _⟩ := h
  exact cell_lt (p := ⟨G, 0, none⟩) (cell_of_row _ _ 0 _ _ _ h1)
theorem Rdr.alloc {w : World} {B G P : Nat} (h : Rdr w B G P) (hB : B ≤ w.heap.size) (o : Obj) : Rdr (w.alloc o) B G P := by
  have hlt := h.lt
  obtain ⟨A, n, c, p, bs, h1, h2, h3, h4, h5⟩ := h
  exact ⟨A, n, c, p, bs, (Below.heap_alloc w o G hlt).trans h1, h2, h3, h4, h5.below ((Below.refl _ _).alloc hB o)⟩
theorem Rdr.set_ {w : World} {B G P : Nat} (h : Rdr w B G P) {q : Addr} (hB : B ≤ q.block) (hne : q.block ≠ G) (u : Value) : Rdr (w.setCell q u) B G P := by
  obtain ⟨A, n, c, p, bs, h1, h2, h3, h4, h5⟩ := h
  exact ⟨A, n, c, p, bs, (Below.heap_setCell w q u G (fun e => hne e.symm)).trans h1, h2, h3, h4, h5.below ((Below.refl _ _).setCell hB u)⟩
theorem Rdr.below {w w' : World} {B G P : Nat} (h : Rdr w B G P) (hb : Below w.heap.size w w') (hB : B ≤ w.heap.size) : Rdr w' B G P := by
  have hlt := h.lt
  obtain ⟨A, n, c, p, bs, h1, h2, h3, h4, h5⟩ := h
  exact ⟨A, n, c, p, bs, (hb.block G hlt).trans h1, h2, h3, h4, h5.below (hb.mono hB)⟩

/-- the post of a draw that hands back an int with Q. -/
def DrewInt (w : World) (B G P : Nat) (Q : Int → Prop) (e : Ending) (w' : World) : Prop := ∃ v : Int, e = .returned (.int .i64 v) ∧ Q v ∧ Rdr w' B G P ∧ w.grownBy w' (some G)
def DrewBool (w : World) (B G P : Nat) (Q : Bool → Prop) (e : Ending) (w' : World) : Prop := ∃ v : Bool, e = .returned (.bool v) ∧ Q v ∧ Rdr w' B G P ∧ w.grownBy w' (some G)
theorem specOpen (A : Option Addr) (c n : Nat) (bs : List Int) (w : World) (h : RdB w w.heap.size A n bs) (hc : n ≤ c) (hm : c ≤ 9223372036854775807) :
    Calls Try.prog 46 #[.slice A n c] w fun e w' => e = .returned (.pointer (some ⟨w.heap.size, 0, none⟩)) ∧ Rdr w' w.heap.size w.heap.size 0 ∧ Below w.heap.size w w' := by
  have hal : ∀ (m : Nat) (A' : Option Addr) (c' : Nat) (bs' : List Int), m ≤ 2000 → RdB w w.heap.size A' m bs' → Rdr (w.alloc (.cells #[.slice A' m c', .int .i64 0] 89)) w.heap.size w.heap.size 0 := fun m A' c' bs' hm' hr' =>
    ⟨A', m, c', 0, bs', heap_alloc_new w _, by omega, by omega, hm', hr'.below ((Below.refl _ _).alloc (Nat.le_refl _) _)⟩
  have Hal := Lib.hid hal; clear hal
  by_cases hn : n ≤ 2000
  · go_enter Try.func46, Try.ntmps46
    go_wp2
    go_ret
    exact ⟨rfl, Hal.out _ _ _ _ hn h, (Below.refl _ _).alloc (Nat.le_refl _) _⟩
  · have h2 : RdB w w.heap.size A 2000 (bs.take 2000) := by
      have e : ∀ k, k < 2000 → nth (bs.take 2000) k = nth bs k := fun k hk => by
        simp [nth, List.getD_eq_getElem?_getD, hk]
      refine ⟨by rw [List.length_take, h.1]; omega, fun _ => ?_, fun k hk => by rw [e k hk]; exact h.2.2 k (by omega)⟩
      obtain ⟨b, off, he, hb, hcc⟩ := h.2.1 (by omega)
      exact ⟨b, off, he, hb, fun k hk => by rw [e k hk]; exact hcc k (by omega)⟩
    go_enter Try.func46, Try.ntmps46
    go_wp2
    go_ret
    exact ⟨rfl, Hal.out _ _ _ _ (by omega) h2, (Below.refl _ _).alloc (Nat.le_refl _) _⟩
theorem odd_any (B G P : Nat) (m : Int) (w : World) (h : Rdr w B G P) (hBG : B ≤ G) (hP : P ≤ 1000000) (hm : m ≤ 1000000) :
    Calls Try.prog 79 #[.pointer (some ⟨G, 0, none⟩), .int .i64 m] w (DrewBool w B G (P + 1) (fun b => m ≤ 0 → b = false)) := by
  by_cases h0 : 0 < m
  · go_enter Try.func79, Try.ntmps79
    go_wp2_with (go_at_call 66; refine (pick_any B G P _ _ h hBG (by omega)).mono ?_; rintro e w1 ⟨v, rfl, hv, hr1, hg1⟩)
    go_ret
    exact ⟨_, rfl, fun hh => by omega, hr1, hg1⟩
  · go_enter Try.func79, Try.ntmps79
    go_wp2
    go_ret
    refine ⟨false, rfl, ?_, h.more (by omega), World.grownBy.refl _ _⟩
    simp
end Go.Proofs.Ytgeedgljabdllaa
