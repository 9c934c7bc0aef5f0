import Derived.Test.YtcjdjcpappfkgaaDoorXSqNum
import Derived.Test.YtcjdjcpappfkgaaDoorC1
import Derived.Test.YtcjdjcpappfkgaaDoorSq
import Derived.Test.YtcjdjcpappfkgaaDoorC1L
import Derived.Deep.RegionHeld3
import Derived.Test.YtcjdjcpappfkgaaDoorInts
import Derived.Test.YtcjdjcpappfkgaaDoorClash
import Derived.Test.YtcjdjcpappfkgaaDoorC3C
import Derived.Test.YtcjdjcpappfkgaaDoorC3G
set_option maxRecDepth 8000
namespace Go.Proofs.YtcjdjcpappfkgaaDoor
open Go.ChangeShapes Go.WideShapes Go.ChangeAt Go.RowKit

theorem lit_cell {w w2 : World} {cs : Array Value} {t : TypeId} {G : Nat} (hg : (w.alloc (.cells cs t)).grownBy w2 (some G)) (hG : G < w.heap.size) (i : Nat) : w2.cell? ⟨w.heap.size, i, none⟩ = cs[i]? := by
  have h := hg.block w.heap.size (by simp) (fun e => by injection e with e; omega)
  exact cell_of_row _ _ i cs t (0, 0) (h.trans (heap_alloc_new w _))
theorem only_alloc {a w : World} {row : Option Nat} (h : a.grownBy w row) (o : Obj) : a.grownBy (w.alloc o) row :=
  ⟨h.os, h.tape, h.output, Nat.le_trans h.size (by simp), fun i hi hne => (Below.heap_alloc w o i (Nat.lt_of_lt_of_le hi h.size)).trans (h.block i hi hne)⟩
theorem only_set {a w : World} {row : Option Nat} (h : a.grownBy w row) {p : Addr} (hp : a.heap.size ≤ p.block) (u : Value) : a.grownBy (w.setCell p u) row :=
  ⟨h.os, h.tape, h.output, by simpa [World.setCell] using h.size, fun i hi hne => (Below.heap_setCell w p u i (by omega)).trans (h.block i hi hne)⟩
theorem grown_of_alloc {w w2 : World} {o : Obj} {G : Nat} (h : (w.alloc o).grownBy w2 (some G)) : w.grownBy w2 (some G) := (only_alloc (World.grownBy.refl w _) o).trans h
theorem Ow.keptG {w w' : World} {lo G : Nat} {A : Option Addr} {n c : Nat} {xs : List Int} (h : Ow w lo A n c xs) (hg : w.grownBy w' (some G)) (hG : G < lo) : Ow w' lo A n c xs := by
  refine World.ownsRow.kept h hg ?_
  cases e : (Value.slice A n c).ownBlock with
  | none => exact .inl rfl
  | some g =>
    refine .inr fun he => ?_
    have h1 := h.own_lo g e
    injection he with he
    omega

theorem Rdr.more {w : World} {B G P P' : Nat} (h : Rdr w B G P) (hP : P ≤ P') : Rdr w B G P' := by
  obtain ⟨A, n, c, p, bs, h1, h2, h3, h4, h5⟩ := h
  exact ⟨A, n, c, p, bs, h1, h2, by omega, h4, h5⟩
theorem Rdr.lt {w : World} {B G P : Nat} (h : Rdr w B G P) : G < w.heap.size := by
  obtain ⟨A, n, c, p, bs, h1, _⟩ := h
  exact cell_lt (p := ⟨G, 0, none⟩) (cell_of_row _ _ 0 _ _ _ h1)
theorem Rdr.alloc {w : World} {B G P : Nat} (h : Rdr w B G P) (hB : B ≤ w.heap.size) (o : Obj) : Rdr (w.alloc o) B G P := by
  have hlt := h.lt
  obtain ⟨A, n, c, p, bs, h1, h2, h3, h4, h5⟩ := h
  exact ⟨A, n, c, p, bs, (Below.heap_alloc w o G hlt).trans h1, h2, h3, h4, h5.below ((Below.refl _ _).alloc hB o)⟩
theorem Rdr.set_ {w : World} {B G P : Nat} (h : Rdr w B G P) {q : Addr} (hB : B ≤ q.block) (hne : q.block ≠ G) (u : Value) : Rdr (w.setCell q u) B G P := by
  obtain ⟨A, n, c, p, bs, h1, h2, h3, h4, h5⟩ := h
  exact ⟨A, n, c, p, bs, (Below.heap_setCell w q u G (fun e => hne e.symm)).trans h1, h2, h3, h4, h5.below ((Below.refl _ _).setCell hB u)⟩
theorem Rdr.below {w w' : World} {B G P : Nat} (h : Rdr w B G P) (hb : Below w.heap.size w w') (hB : B ≤ w.heap.size) : Rdr w' B G P := by
  have hlt := h.lt
  obtain ⟨A, n, c, p, bs, h1, h2, h3, h4, h5⟩ := h
  exact ⟨A, n, c, p, bs, (hb.block G hlt).trans h1, h2, h3, h4, h5.below (hb.mono hB)⟩

/-- the post of a draw that hands back an int with Q. -/
def DrewInt (w : World) (B G P : Nat) (Q : Int → Prop) (e : Ending) (w' : World) : Prop := ∃ v : Int, e = .returned (.int .i64 v) ∧ Q v ∧ Rdr w' B G P ∧ w.grownBy w' (some G)
def DrewBool (w : World) (B G P : Nat) (Q : Bool → Prop) (e : Ending) (w' : World) : Prop := ∃ v : Bool, e = .returned (.bool v) ∧ Q v ∧ Rdr w' B G P ∧ w.grownBy w' (some G)
theorem specOpen (A : Option Addr) (c n : Nat) (bs : List Int) (w : World) (h : RdB w w.heap.size A n bs) (hc : n ≤ c) (hm : c ≤ 9223372036854775807) :
    Calls Tryd.prog 53 #[.slice A n c] w fun e w' => e = .returned (.pointer (some ⟨w.heap.size, 0, none⟩)) ∧ Rdr w' w.heap.size w.heap.size 0 ∧ Below w.heap.size w w' := by
  have hal : ∀ (m : Nat) (A' : Option Addr) (c' : Nat) (bs' : List Int), m ≤ 2000 → RdB w w.heap.size A' m bs' → Rdr (w.alloc (.cells #[.slice A' m c', .int .i64 0] 91)) w.heap.size w.heap.size 0 := fun m A' c' bs' hm' hr' =>
    ⟨A', m, c', 0, bs', heap_alloc_new w _, by omega, by omega, hm', hr'.below ((Below.refl _ _).alloc (Nat.le_refl _) _)⟩
  have Hal := Lib.hid hal; clear hal
  by_cases hn : n ≤ 2000
  · go_enter Tryd.func53, Tryd.ntmps53
    go_wp2
    go_ret
    exact ⟨rfl, Hal.out _ _ _ _ hn h, (Below.refl _ _).alloc (Nat.le_refl _) _⟩
  · have h2 : RdB w w.heap.size A 2000 (bs.take 2000) := by
      have e : ∀ k, k < 2000 → nth (bs.take 2000) k = nth bs k := fun k hk => by
        simp [nth, List.getD_eq_getElem?_getD, hk]
      refine ⟨by rw [List.length_take, h.1]; omega, fun _ => ?_, fun k hk => by rw [e k hk]; exact h.2.2 k (by omega)⟩
      obtain ⟨b, off, he, hb, hcc⟩ := h.2.1 (by omega)
      exact ⟨b, off, he, hb, fun k hk => by rw [e k hk]; exact hcc k (by omega)⟩
    go_enter Tryd.func53, Tryd.ntmps53
    go_wp2
    go_ret
    exact ⟨rfl, Hal.out _ _ _ _ (by omega) h2, (Below.refl _ _).alloc (Nat.le_refl _) _⟩
theorem odd_any (B G P : Nat) (m : Int) (w : World) (h : Rdr w B G P) (hBG : B ≤ G) (hP : P ≤ 1000000) (hm : m ≤ 1000000) :
    Calls Tryd.prog 85 #[.pointer (some ⟨G, 0, none⟩), .int .i64 m] w (DrewBool w B G (P + 1) (fun b => m ≤ 0 → b = false)) := by
  by_cases h0 : 0 < m
  · go_enter Tryd.func85, Tryd.ntmps85
    go_wp2_with (go_at_call 69; refine (pick_any B G P _ _ h hBG (by omega)).mono ?_; rintro e w1 ⟨v, rfl, hv, hr1, hg1⟩)
    go_ret
    exact ⟨_, rfl, fun hh => by omega, hr1, hg1⟩
  · go_enter Tryd.func85, Tryd.ntmps85
    go_wp2
    go_ret
    refine ⟨false, rfl, ?_, h.more (by omega), World.grownBy.refl _ _⟩
    simp
theorem l20Size_any (B G P : Nat) (m : Int) (w : World) (h : Rdr w B G P) (hBG : B ≤ G) (hP : P ≤ 1000000) (hm : m ≤ 1000000) :
    Calls Tryd.prog 79 #[.pointer (some ⟨G, 0, none⟩), .int .i64 m] w (DrewInt w B G (P + 2) (fun s => -1 ≤ s ∧ s ≤ 5 ∧ (m ≤ 0 → 2 ≤ s ∧ s ≤ 4))) := by
  go_enter Tryd.func79, Tryd.ntmps79
  go_wp2_with fail
  refine (odd_any B G P _ _ h hBG hP hm).mono ?_
  rintro e w1 ⟨b, rfl, hb, hr1, hg1⟩
  have hsz := hr1.lt
  have hlt := h.lt
  have hB1 : B ≤ w1.heap.size := by omega
  cases b
  · go_wp2_with fail
    refine (pick_any B G (P + 1) _ _ (hr1.alloc hB1 _) hBG (by omega)).mono ?_
    rintro e w2 ⟨v, rfl, ⟨v0, v1, _⟩, hr2, hg2⟩
    have hc := fun i => lit_cell hg2 hsz i
    have Hc := Lib.hid hc; clear hc
    have hg := hg1.trans (grown_of_alloc hg2)
    have hv : v = 0 ∨ v = 1 ∨ v = 2 ∨ v = 3 ∨ v = 4 := by have := v1 (by omega); omega
    clear v0 v1
    rcases hv with rfl | rfl | rfl | rfl | rfl
    · have hc := Hc.out 0
      simp at hc
      go_wp2
      go_ret
      exact ⟨_, rfl, by omega, hr2, hg⟩
    · have hc := Hc.out 1
      simp at hc
      go_wp2
      go_ret
      exact ⟨_, rfl, by omega, hr2, hg⟩
    · have hc := Hc.out 2
      simp at hc
      go_wp2
      go_ret
      exact ⟨_, rfl, by omega, hr2, hg⟩
    · have hc := Hc.out 3
      simp at hc
      go_wp2
      go_ret
      exact ⟨_, rfl, by omega, hr2, hg⟩
    · have hc := Hc.out 4
      simp at hc
      go_wp2
      go_ret
      exact ⟨_, rfl, by omega, hr2, hg⟩
  · have hm0 : ¬ m ≤ 0 := fun hh => by simpa using hb hh
    go_wp2_with fail
    refine (pick_any B G (P + 1) _ _ (hr1.alloc hB1 _) hBG (by omega)).mono ?_
    rintro e w2 ⟨v, rfl, ⟨v0, v1, _⟩, hr2, hg2⟩
    have hc := fun i => lit_cell hg2 hsz i
    have Hc := Lib.hid hc; clear hc
    have hg := hg1.trans (grown_of_alloc hg2)
    have hv : v = 0 ∨ v = 1 ∨ v = 2 := by have := v1 (by omega); omega
    clear v0 v1
    rcases hv with rfl | rfl | rfl
    · have hc := Hc.out 0
      simp at hc
      go_wp2
      go_ret
      exact ⟨_, rfl, by omega, hr2, hg⟩
    · have hc := Hc.out 1
      simp at hc
      go_wp2
      go_ret
      exact ⟨_, rfl, by omega, hr2, hg⟩
    · have hc := Hc.out 2
      simp at hc
      go_wp2
      go_ret
      exact ⟨_, rfl, by omega, hr2, hg⟩
def manyOf (size : Int) : Int := if size = 2 then 2 else if size = 3 then 12 else 576
theorem sols_many {size : Int} (h2 : 2 ≤ size) (h4 : size ≤ 4) : ((sols size (size * size).toNat (zeros (size * size).toNat) 0).length : Int) = manyOf size := by
  have : size = 2 ∨ size = 3 ∨ size = 4 := by omega
  rcases this with rfl | rfl | rfl
  · have e : ((2 : Int) * 2).toNat = 4 := rfl
    rw [e, sols2]; rfl
  · have e : ((3 : Int) * 3).toNat = 9 := rfl
    rw [e, sols3]; rfl
  · have e : ((4 : Int) * 4).toNat = 16 := rfl
    rw [e, sols4]; rfl
theorem sqn_mem {size number : Int} (h2 : 2 ≤ size) (h4 : size ≤ 4) (h0 : 0 ≤ number) (h1 : number < manyOf size) : sqn size number ∈ sols size (size * size).toNat (zeros (size * size).toNat) 0 := by
  have hs : inr size 2 4 = true := by simp [inr, h2, h4]
  have hl : number.toNat < (sols size (size * size).toNat (zeros (size * size).toNat) 0).length := by
    have := sols_many h2 h4
    omega
  unfold sqn
  rw [if_pos ⟨hs, h0⟩, List.getElem?_eq_getElem hl, Option.getD_some]
  exact List.getElem_mem hl
theorem many_facts (size : Int) : 2 ≤ manyOf size ∧ manyOf size ≤ 576 := by
  unfold manyOf; split
  · omega
  · split <;> omega
/-- the post of the draw of a solved grid. -/
def DrewSolved (w : World) (B G P : Nat) (size : Int) (e : Ending) (w' : World) : Prop :=
  ∃ A n c xs, e = .returned (.slice A n c) ∧ Ow w' w.heap.size A n c xs ∧ (n : Int) = size * size ∧ xs ∈ sols size n (zeros n) 0 ∧ Rdr w' B G P ∧ w.grownBy w' (some G)
theorem l20Solved_any (B G P : Nat) (size : Int) (w : World) (h : Rdr w B G P) (hBG : B ≤ G) (hP : P ≤ 1000000) (h2 : 2 ≤ size) (h4 : size ≤ 4) :
    Calls Tryd.prog 80 #[.pointer (some ⟨G, 0, none⟩), .int .i64 size] w (DrewSolved w B G (P + 2) size) := by
  have hGlt := h.lt
  have hBw : B ≤ w.heap.size := by omega
  obtain ⟨m0, m1⟩ := many_facts size
  have key : ∀ (v : Int) (w1 : World) (e : Ending) (w2 : World), 0 ≤ v → v < manyOf size → w.grownBy w1 (some G) → Rdr w1 B G (P + 2) → RetSl w1 (sqn size v) e w2 → DrewSolved w B G (P + 2) size e w2 := by
    intro v w1 e w2 hv0 hv1 hg1 hr1 ⟨A, c, he, ho, hb⟩
    have hm := sqn_mem h2 h4 hv0 hv1
    have hl := sols_length size _ _ _ _ hm
    rw [zeros_length] at hl
    obtain ⟨q4, q16⟩ := sq_bd h2 h4
    refine ⟨A, _, c, _, he, ho.mono hg1.size, by rw [hl]; exact Int.toNat_of_nonneg (by omega), by rw [hl]; exact hm, hr1.below hb (by have := hg1.size; omega), below_grown hg1 hb⟩
  have Key := Lib.hid key; clear key
  have hsz : size = 2 ∨ size = 3 ∨ size = 4 := by omega
  rcases hsz with rfl | rfl | rfl
  all_goals
    go_enter Tryd.func80, Tryd.ntmps80
    go_wp2_with fail
    refine (pick_any B G P _ _ (h.alloc hBw _) hBG (by omega)).mono ?_
    rintro e w1 ⟨v, rfl, ⟨v0, v1, _⟩, hr1, hg1⟩
    have hv1 := v1 (by omega)
    clear v1
    go_wp2_with fail
    refine (pick_any B G (P + 1) _ _ hr1 hBG (by omega)).mono ?_
    rintro e w2 ⟨u, rfl, ⟨u0, u1, _⟩, hr2, hg2⟩
    have hu1 := u1 (by omega)
    clear u1
    have hg := (grown_of_alloc hg1).trans hg2
    go_wp2_with fail
    refine (specSquareNumber _ _ _ (by omega) (by omega)).mono ?_
    intro e w3 hp
    have hd := Key.out _ _ _ _ (by omega) (by simp only [manyOf]; omega) hg hr2 hp
    obtain ⟨A, n, c, xs, rfl, hrest⟩ := hd
    go_wp2
    go_ret
    exact ⟨A, n, c, xs, rfl, hrest⟩
end Go.Proofs.YtcjdjcpappfkgaaDoor
set_option maxRecDepth 8000
namespace Go.Proofs.YtcjdjcpappfkgaaDoor
open Go.ChangeShapes Go.WideShapes Go.ChangeAt Go.RowKit

theorem okAll_set' {xs : List Int} {size v : Int} {n p : Nat} (h : okAll xs size n) (v0 : 0 ≤ v) (v1 : v ≤ size) : okAll (xs.set p v) size n := by
  intro k hk
  by_cases hp : p < xs.length
  · rw [nth_set hp]
    split
    · exact ⟨v0, v1⟩
    · exact h k hk
  · rw [List.set_eq_of_length_le (by omega)]
    exact h k hk
theorem sols_ok {size : Int} (hs : 0 ≤ size) (n : Nat) : ∀ (f : Nat) (xs : List Int) (p : Nat), okAll xs size n → ∀ y, y ∈ sols size f xs p → okAll y size n := by
  intro f
  induction f with
  | zero => intro xs p h y hy; simp [sols] at hy; subst hy; exact h
  | succ f ih =>
    intro xs p h y hy
    refine solsFrom_all (P := fun y => okAll y size n) _ _ (fun u y h1 h2 hy => ?_) y hy
    exact ih _ _ (okAll_set' h (by omega) (by omega)) y hy
theorem okAll_gv {xs : List Int} {size : Int} {n : Nat} (hl : xs.length = n) (hn : (n : Int) = size * size) (h2 : 2 ≤ size) (h4 : size ≤ 4) (h : okAll xs size n) : gv xs size = true := by
  have h1 : inr size 2 4 = true := by simp [inr, h2, h4]
  have h3 : xs.all (fun x => inr x 0 size) = true := okTo_all (n := n) (fun j hj => by have := h j hj; simp [inr, this]) hl
  simp [gv, h1, h3, hl, hn]

theorem Ow.put {w : World} {lo g n c : Nat} {xs : List Int} (h : Ow w lo (some ⟨g, 0, none⟩) n c xs) (k : Nat) (v : Int) : Ow (w.setCell ⟨g, k, none⟩ (.int .i64 v)) lo (some ⟨g, 0, none⟩) n c (xs.set k v) := by
  have := (World.ownsRow.stored h k (.int .i64 v)).1
  rw [vals_set] at this
  exact this

end Go.Proofs.YtcjdjcpappfkgaaDoor
set_option maxRecDepth 8000
namespace Go.Proofs.YtcjdjcpappfkgaaDoor
open Go.ChangeShapes Go.WideShapes Go.ChangeAt Go.RowKit
/-! A rule that can hold can hold with fewer values known; with all values known it can hold exactly if it holds. -/
theorem bits_iff {M u : Nat} {y : Int} : y ∈ bitsTo M u ↔ ∃ t : Nat, y = (t : Int) ∧ 1 ≤ t ∧ t ≤ u ∧ M.testBit t = true := by
  induction u with
  | zero => simp [bitsTo]; intro t _ h1 h2; omega
  | succ u ih =>
    simp only [bitsTo, List.mem_append, ih]
    constructor
    · rintro (⟨t, h1, h2, h3, h4⟩ | h)
      · exact ⟨t, h1, h2, by omega, h4⟩
      · split at h
        · next hb => exact ⟨u + 1, by simpa using h, by omega, Nat.le_refl _, hb⟩
        · cases h
    · rintro ⟨t, h1, h2, h3, h4⟩
      by_cases e : t = u + 1
      · subst e; right; rw [if_pos h4]; simpa using h1
      · left; exact ⟨t, h1, h2, by omega, h4⟩
theorem allW_mono {ms ms' : List Int} : ∀ (d : Nat) (vs ys : List Int), (∀ i, vs.length ≤ i → i < vs.length + d → ∀ t, 1 ≤ t → t ≤ 4 → (nth ms i).toNat.testBit t = true → (nth ms' i).toNat.testBit t = true) → ys ∈ allW ms d vs → ys ∈ allW ms' d vs := by
  intro d
  induction d with
  | zero => intro vs ys _ h; exact h
  | succ d ih =>
    intro vs ys hb h
    simp only [allW, List.mem_flatMap] at h ⊢
    obtain ⟨x, hx, h⟩ := h
    obtain ⟨t, rfl, t1, t2, t3⟩ := bits_iff.1 hx
    refine ⟨(t : Int), bits_iff.2 ⟨t, rfl, t1, t2, hb _ (Nat.le_refl _) (by omega) t t1 t2 t3⟩, ih _ _ (fun i h1 h2 => ?_) h⟩
    rw [List.length_append, List.length_singleton] at h1 h2
    exact hb i (by omega) (by omega)
theorem em_bits : ∀ s ∈ [2, 3, 4], ∀ v, v < 5 → v ≤ s → ∀ t, t < 5 → 1 ≤ t → (2 ^ v).testBit t = true → (2 ^ (s + 1) - 2).testBit t = true := by decide
theorem emL_nth {g : List Int} {s : Nat} {i : Nat} (h : i < g.length) : (nth (emL g s) i).toNat = emN g s i := by
  unfold emL
  rw [mapTo_nth h]
  simp [emG]
theorem rp_mono {k v : Int} {s : Nat} {xs g g' : List Int} (hv : rv k xs v s = true) (hg : gv g s = true) (hg' : gv g' s = true) (hs : s ∈ [2, 3, 4]) (h : ∀ i, i < g.length → nth g' i = nth g i ∨ nth g' i = 0) (hp : rpB k xs v g s = true) : rpB k xs v g' s = true := by
  obtain ⟨_, _, _, hx⟩ := rv_facts rfl hv
  have hl := gv_len hg
  have hl' := gv_len hg'
  rw [rp_ways rfl hv hg hs] at hp
  rw [rp_ways rfl hv hg' hs]
  simp only [Bool.not_eq_true', List.isEmpty_eq_false_iff_exists_mem, List.mem_filter] at hp ⊢
  obtain ⟨ys, hy, hh⟩ := hp
  refine ⟨ys, allW_mono _ _ _ (fun i _ hi t t1 t4 hb => ?_) hy, hh⟩
  have hi' : i < xs.length := by simpa using hi
  rw [emL_nth (by rw [pks_length]; exact hi')] at hb ⊢
  obtain ⟨x0, x1⟩ := hx i hi'
  have hlt : (nth xs i).toNat < g.length := by omega
  unfold emN at hb ⊢
  rw [pks_nth hi'] at hb ⊢
  obtain ⟨v0, v4⟩ := gv_nth hg hlt
  have h24 := gv_size hg
  rcases h _ hlt with e | e
  · rw [e]; exact hb
  · rw [if_pos e]
    split at hb
    · exact hb
    · exact em_bits s hs _ (by omega) (by omega) t (by omega) t1 hb
theorem gv_put {g : List Int} {s : Int} (hg : gv g s = true) (c : Nat) : gv (g.set c 0) s = true := by
  obtain ⟨h2, h4⟩ := gv_size hg
  have hl := gv_len hg
  have h1 : inr s 2 4 = true := by simp [inr]; omega
  have h3 : (g.set c 0).all (fun x => inr x 0 s) = true := by
    refine okTo_all (n := g.length) (fun j hj => ?_) (by simp)
    by_cases e : j = c
    · subst e; rw [show nth (g.set j 0) j = 0 by simp [nth, List.getD_eq_getElem?_getD, hj]]; simp [inr]; omega
    · rw [show nth (g.set c 0) j = nth g j by simp [nth, List.getD_eq_getElem?_getD, List.getElem?_set_ne (fun e' => e e'.symm)]]
      have := gv_nth hg hj
      simp [inr]; omega
  simp [gv, h1, h3, hl]
theorem gv_zeros {g : List Int} {s : Int} (hg : gv g s = true) : gv (zeros g.length) s = true := by
  obtain ⟨h2, h4⟩ := gv_size hg
  have hl := gv_len hg
  have h1 : inr s 2 4 = true := by simp [inr]; omega
  have h3 : (zeros g.length).all (fun x => inr x 0 s) = true := by
    simp only [zeros, List.all_eq_true, List.mem_replicate]
    rintro x ⟨_, rfl⟩
    simp [inr]; omega
  have h5 : (zeros g.length).length = g.length := by simp [zeros]
  simp [gv, h1, h3, h5, hl]
theorem rp_less {k v s : Int} {xs g : List Int} (hv : rv k xs v s = true) (hg : gv g s = true) (hp : rpB k xs v g s = true) (c : Nat) : rpB k xs v (g.set c 0) s = true ∧ rpB k xs v (zeros g.length) s = true := by
  obtain ⟨h2, h4⟩ := gv_size hg
  obtain ⟨t, rfl⟩ := Int.eq_ofNat_of_zero_le (by omega : 0 ≤ s)
  have hs : t ∈ [2, 3, 4] := by simp; omega
  refine ⟨rp_mono hv hg (gv_put hg c) hs (fun i hi => ?_) hp, rp_mono hv hg (gv_zeros hg) hs (fun i hi => .inr ?_) hp⟩
  · by_cases e : i = c
    · subst e; right; simp [nth, List.getD_eq_getElem?_getD, hi]
    · left; simp [nth, List.getD_eq_getElem?_getD, List.getElem?_set_ne (fun e' => e e'.symm)]
  · simp [nth, zeros, List.getD_eq_getElem?_getD, hi]
/-- all cells of the rule have values: it can hold exactly if it holds. -/
theorem allW_one {ms zs : List Int} : ∀ (d : Nat) (vs : List Int), zs.length = vs.length + d → (∀ i, i < vs.length → nth vs i = nth zs i) → (∀ i, vs.length ≤ i → i < vs.length + d → bitsTo (nth ms i).toNat 4 = [nth zs i]) → allW ms d vs = [zs] := by
  intro d
  induction d with
  | zero =>
    intro vs hl hv _
    have : vs = zs := ext_nth (by omega) (fun i hi => hv i hi)
    simp [allW, this]
  | succ d ih =>
    intro vs hl hv hb
    simp only [allW]
    rw [hb _ (Nat.le_refl _) (by omega)]
    simp only [List.flatMap_cons, List.flatMap_nil, List.append_nil]
    refine ih _ (by simp; omega) (fun i hi => ?_) (fun i h1 h2 => ?_)
    · rw [List.length_append, List.length_singleton] at hi
      rw [nth_push rfl]
      split
      · exact hv i (by assumption)
      · obtain rfl : i = vs.length := by omega
        rw [if_pos rfl]
    · rw [List.length_append, List.length_singleton] at h1 h2
      exact hb i (by omega) (by omega)
theorem bits_pow : ∀ v : Nat, v < 5 → 1 ≤ v → bitsTo (2 ^ v) 4 = [(v : Int)] := by decide
theorem rp_full {k v s : Int} {xs g : List Int} (hv : rv k xs v s = true) (hg : gv g s = true) (hf : ∀ i, i < xs.length → nth (pks g xs xs.length) i ≠ 0) : rpB k xs v g s = holdsB k v (pks g xs xs.length) := by
  obtain ⟨h2, h4⟩ := gv_size hg
  obtain ⟨t, rfl⟩ := Int.eq_ofNat_of_zero_le (by omega : 0 ≤ s)
  have hs : t ∈ [2, 3, 4] := by simp; omega
  obtain ⟨hsm, _⟩ := pks_small rfl hv hg
  rw [rp_ways rfl hv hg hs]
  have : allW (emL (pks g xs xs.length) t) xs.length [] = [pks g xs xs.length] := by
    refine allW_one _ _ (by simp [pks_length]) (fun i hi => absurd hi (by simp)) (fun i _ hi => ?_)
    have hi' : i < xs.length := by simpa using hi
    rw [emL_nth (by rw [pks_length]; exact hi')]
    unfold emN
    rw [if_neg (hf i hi')]
    have := hsm i hi'
    have hne := hf i hi'
    rw [bits_pow _ (by omega) (by omega)]
    congr 1
    omega
  rw [this]
  cases hh : holdsB k v (pks g xs xs.length) <;> simp [hh]
theorem mem_ne {zs : List Int} {n : Nat} (h : memTo zs 0 n = false) : ∀ i, i < n → nth zs i ≠ 0 := fun i hi e => by rw [memTo_hit hi e] at h; cases h
theorem rh_rp {k v s : Int} {xs g : List Int} (h : rhB k xs v g s = true) : rpB k xs v g s = true := by
  unfold rhB at h
  simp only [Bool.and_eq_true, Bool.not_eq_true'] at h
  obtain ⟨⟨⟨hv, hg⟩, hm⟩, hh⟩ := h
  rw [rp_full hv hg (mem_ne hm)]
  exact hh
theorem cnz_all {xs : List Int} : ∀ {n : Nat}, cnz xs n = n → ∀ k, k < n → nth xs k ≠ 0 := by
  intro n
  induction n with
  | zero => intro _ k hk; omega
  | succ n ih =>
    intro h k hk
    simp only [cnz] at h
    have hle := cnz_le xs n
    split at h
    · omega
    · next hz =>
      by_cases e : k = n
      · subst e; exact hz
      · exact ih (by omega) k (by omega)
theorem rh_full {k v s : Int} {xs g : List Int} (hv : rv k xs v s = true) (hg : gv g s = true) (hf : cnz g g.length = g.length) : rhB k xs v g s = rpB k xs v g s := by
  obtain ⟨_, _, _, hx⟩ := rv_facts rfl hv
  have hl := gv_len hg
  have hall := cnz_all hf
  have hne : ∀ i, i < xs.length → nth (pks g xs xs.length) i ≠ 0 := fun i hi => by
    rw [pks_nth hi]
    obtain ⟨a, b⟩ := hx i hi
    exact hall _ (by omega)
  have hm : memTo (pks g xs xs.length) 0 xs.length = false := by
    cases e : memTo (pks g xs xs.length) 0 xs.length
    · rfl
    · exfalso
      have : ∀ n, n ≤ xs.length → memTo (pks g xs xs.length) 0 n = false := by
        intro n
        induction n with
        | zero => intro _; rfl
        | succ n ih => intro hn; simp only [memTo, Bool.or_eq_false_iff, beq_eq_false_iff_ne]; exact ⟨ih (by omega), hne n (by omega)⟩
      rw [this _ (Nat.le_refl _)] at e; cases e
  rw [rp_full hv hg hne]
  unfold rhB
  rw [hv, hg, hm]
  simp
end Go.Proofs.YtcjdjcpappfkgaaDoor
set_option maxRecDepth 8000
namespace Go.Proofs.YtcjdjcpappfkgaaDoor
open Go.ChangeShapes Go.WideShapes Go.ChangeAt Go.RowKit

/-- the code that a law of draws takes. -/
def Code_ (w : World) (A : Option Addr) (n c : Nat) (bs : List Int) : Prop := RdB w w.heap.size A n bs ∧ n ≤ c ∧ c ≤ 9223372036854775807
theorem code_of_row {w : World} {a : Option Addr} {len cap : Nat} {zs : List Int} (h : IsRow .u8 w a len cap zs) : Code_ w a len cap (zs.take len) := by
  refine ⟨rdB_of_row h, ?_⟩
  rcases h with ⟨rfl, rfl, rfl, rfl⟩ | ⟨x, rfl, hl, hm, _⟩
  · omega
  · simp only [maxLen] at hm; omega






theorem alive_any (w : World) : Calls Tryd.prog 25 #[] w fun e w' => e = .returned (.bool true) ∧ Below w.heap.size w w' := by
  have hrd : Rd (w.alloc (.cells #[.int .i64 1, .int .i64 0, .int .i64 0, .int .i64 2] 3)) (w.heap.size + 1) (some ⟨w.heap.size, 0, none⟩) 4 [1, 0, 0, 2] := by
    refine ⟨rfl, fun _ => ⟨w.heap.size, 0, rfl, by omega, fun k hk => ?_⟩⟩
    rw [cell_of_row _ _ (0 + k) _ _ _ (heap_alloc_new w _)]
    have : k = 0 ∨ k = 1 ∨ k = 2 ∨ k = 3 := by omega
    rcases this with rfl | rfl | rfl | rfl <;> rfl
  have hgf := Lib.hid (show gf [1, 0, 0, 2] 2 = 2 by decide)
  go_enter Tryd.func25, Tryd.ntmps25
  go_wp2_with fail
  refine (implGridFilled _ _ _ _ _ _ _ hrd (by simp) (by omega)).mono ?_
  rintro e w1 ⟨rfl, hb⟩
  rw [hgf.out]
  go_wp2
  go_ret
  exact ⟨rfl, box_below hb⟩
end Go.Proofs.YtcjdjcpappfkgaaDoor
set_option maxRecDepth 8000
namespace Go.Proofs.YtcjdjcpappfkgaaDoor
open Go.ChangeShapes Go.WideShapes Go.ChangeAt Go.RowKit

def zeroArr (n : Nat) : Array Value := madeCells #[.int .i64 0] n
theorem make_ints {n : Nat} (hn : n ≤ 1099511627776) (w : World) : (Instr.makeSlice 22 (.int .i64 (n : Int)) (.int .i64 (n : Int))).run Tryd.prog w = .ok (.slice (some ⟨w.heap.size, 0, none⟩) n n) (w.alloc (.cells (zeroArr n) 3)) := by
  obtain ⟨i0, hi, hz0, hz1, hz2⟩ := info_parts int_info
  have hr := run_make (P := Tryd.prog) w 22 3 i0 (.int .i64 0) Tryd.underlying22 hi hz0 .i64 .i64 (n : Int) (n : Int) (by omega) (Int.le_refl _) (by rw [hz2]; omega) (by omega)
  rw [hz1, Int.toNat_natCast, Nat.mul_one] at hr
  exact hr
theorem zeroArr_ow {n lo : Nat} (hn : n ≤ 1099511627776) (w : World) (hlo : lo ≤ w.heap.size) : Ow (w.alloc (.cells (zeroArr n) 3)) lo (some ⟨w.heap.size, 0, none⟩) n n (zeros n) := by
  have hs : (zeroArr n).size = n * 1 := by simp [zeroArr, madeCells]
  have h := World.ownsRow_lit (e := 3) (size := 1) w (zeroArr n) n hlo (by simp only [maxLen]; omega) hs
  unfold Ow
  have e : (zeroArr n).toList = vals (zeros n) := by
    rw [zeroArr, toList_madeCells_one]
    simp [vals, zeros]
  rw [← e]
  exact h
end Go.Proofs.YtcjdjcpappfkgaaDoor
namespace Go.Proofs.YtcjdjcpappfkgaaDoor
open Go.ChangeShapes Go.WideShapes Go.ChangeAt Go.RowKit

def turnIx (size : Int) (k : Nat) : Nat := ((size - 1 - (k : Int) % size) * size + (k : Int) / size).toNat
def turnG (xs : List Int) (size : Int) (k : Nat) : Int := nth xs (turnIx size k)
def turnL (xs : List Int) (size : Int) : List Int := if gv xs size = true then mapTo (turnG xs size) xs.length else []

theorem turn_facts {size : Int} {n k : Nat} (h2 : 2 ≤ size) (h4 : size ≤ 4) (hn : (n : Int) = size * size) (hk : k < n) :
    (0 ≤ (k : Int) % size ∧ (k : Int) % size < size) ∧ (0 ≤ (k : Int) / size ∧ (k : Int) / size < size) ∧ turnIx size k < n ∧ ((turnIx size k : Nat) : Int) = (size - 1 - (k : Int) % size) * size + (k : Int) / size := by
  unfold turnIx
  have : size = 2 ∨ size = 3 ∨ size = 4 := by omega
  rcases this with rfl | rfl | rfl <;> omega

end Go.Proofs.YtcjdjcpappfkgaaDoor
namespace Go.Proofs.YtcjdjcpappfkgaaDoor
open Go.ChangeShapes Go.WideShapes Go.ChangeAt Go.RowKit

/-- the number of the cell in a row and a column. -/
def cellIx (size row col : Int) : Nat := (row * size + col).toNat
theorem cell_facts {size row col : Int} {n : Nat} (h2 : 2 ≤ size) (h4 : size ≤ 4) (hn : (n : Int) = size * size) (r0 : 0 ≤ row) (r1 : row < size) (c0 : 0 ≤ col) (c1 : col < size) :
    (0 ≤ row * size ∧ row * size ≤ 12) ∧ cellIx size row col < n ∧ ((cellIx size row col : Nat) : Int) = row * size + col := by
  unfold cellIx
  have : size = 2 ∨ size = 3 ∨ size = 4 := by omega
  rcases this with rfl | rfl | rfl <;> omega

theorem ix_lt {r q s : Nat} (hr : r < s) (hq : q < s) : r * s + q < s * s := by
  have : (r + 1) * s ≤ s * s := Nat.mul_le_mul_right s hr
  rw [Nat.succ_mul] at this
  omega
theorem of_drew_below {w w2 : World} (h : Below w.drew.heap.size w.drew w2) : Below w.heap.size w w2 := ⟨h.os, h.tape, h.output, h.size, h.block⟩
theorem below_drew' {B : Nat} {a w : World} (h : Below B a w) : Below B a w.drew := h.drew
theorem divmod_ix {s r c : Nat} (h2 : 2 ≤ s) (h4 : s ≤ 4) (hr : r < s) (hc : c < s) : ((r * s + c : Nat) : Int) / (s : Int) = r ∧ ((r * s + c : Nat) : Int) % (s : Int) = c := by
  have : s = 2 ∨ s = 3 ∨ s = 4 := by omega
  rcases this with rfl | rfl | rfl <;> omega
theorem turn_ix {s r c : Nat} (h2 : 2 ≤ s) (h4 : s ≤ 4) (hr : r < s) (hc : c < s) : cellIx s ((s : Int) - 1 - c) r = turnIx s (r * s + c) := by
  obtain ⟨hd, hm⟩ := divmod_ix h2 h4 hr hc
  unfold cellIx turnIx
  rw [hd, hm]
end Go.Proofs.YtcjdjcpappfkgaaDoor
namespace Go.Proofs.YtcjdjcpappfkgaaDoor
open Go.ChangeShapes Go.WideShapes Go.ChangeAt Go.RowKit

def mirIx (size : Int) (k : Nat) : Nat := ((k : Int) / size * size + size - 1 - (k : Int) % size).toNat
def mirG (xs : List Int) (size : Int) (k : Nat) : Int := nth xs (mirIx size k)
def mirL (xs : List Int) (size : Int) : List Int := if gv xs size = true then mapTo (mirG xs size) xs.length else []

theorem mir_facts {size : Int} {n k : Nat} (h2 : 2 ≤ size) (h4 : size ≤ 4) (hn : (n : Int) = size * size) (hk : k < n) :
    (0 ≤ (k : Int) % size ∧ (k : Int) % size < size) ∧ (0 ≤ (k : Int) / size ∧ (k : Int) / size < size) ∧ mirIx size k < n ∧ ((mirIx size k : Nat) : Int) = (k : Int) / size * size + size - 1 - (k : Int) % size := by
  unfold mirIx
  have : size = 2 ∨ size = 3 ∨ size = 4 := by omega
  rcases this with rfl | rfl | rfl <;> omega

theorem mir_ix {s r c : Nat} (h2 : 2 ≤ s) (h4 : s ≤ 4) (hr : r < s) (hc : c < s) : cellIx s r ((s : Int) - 1 - c) = mirIx s (r * s + c) := by
  obtain ⟨hd, hm⟩ := divmod_ix h2 h4 hr hc
  unfold cellIx mirIx
  rw [hd, hm]
  congr 1
  omega
end Go.Proofs.YtcjdjcpappfkgaaDoor
namespace Go.Proofs.YtcjdjcpappfkgaaDoor
open Go.ChangeShapes Go.WideShapes Go.ChangeAt Go.RowKit

theorem Rd.take_ {w : World} {B : Nat} {A : Option Addr} {n : Nat} {xs : List Int} (h : Rd w B A n xs) {m : Nat} (hm : m ≤ n) : Rd w B A m (xs.take m) := by
  refine ⟨by rw [List.length_take, h.1]; omega, fun h0 => ?_⟩
  obtain ⟨b, off, he, hb, hc⟩ := h.2 (by omega)
  refine ⟨b, off, he, hb, fun k hk => ?_⟩
  rw [hc k (by omega)]
  simp [nth, List.getD_eq_getElem?_getD, hk]
theorem gv_n {xs : List Int} {size : Int} {n : Nat} (h : gv xs size = true) (hl : xs.length = n) : 4 ≤ n ∧ n ≤ 16 ∧ (n : Int) = size * size := by
  obtain ⟨h2, h4⟩ := gv_size h
  have := gv_len h
  obtain ⟨q4, q16⟩ := sq_bd h2 h4
  rw [hl] at this
  omega
theorem gv_short {xs : List Int} {size : Int} {n : Nat} (h : gv xs size = true) (hl : xs.length = n) : gv (xs.take (n - 1)) size = false := by
  obtain ⟨h4, _, hn⟩ := gv_n h hl
  have e : ((xs.take (n - 1)).length : Int) = n - 1 := by rw [List.length_take, hl]; omega
  cases hg : gv (xs.take (n - 1)) size
  · rfl
  · have := gv_len hg
    omega
theorem gv_large {xs : List Int} {size : Int} {n : Nat} (h : gv xs size = true) (hl : xs.length = n) : gv (xs.set 0 (size + 1)) size = false := by
  obtain ⟨h4, _, hn⟩ := gv_n h hl
  cases hg : gv (xs.set 0 (size + 1)) size
  · rfl
  · have := gv_nth hg (k := 0) (by rw [List.length_set, hl]; omega)
    rw [nth_set (by omega), if_pos rfl] at this
    omega

theorem copy_below {w w' : World} (hg : (w.alloc (.cells #[] 3)).grownBy w' (Value.slice (some ⟨w.heap.size, 0, none⟩) 0 0).ownBlock) : Below w.heap.size w w' :=
  ((Below.refl _ _).alloc (Nat.le_refl _) _).grown hg (by simp) (fun k hk => (Ow.made0 w w.heap.size (Nat.le_refl _)).own_lo k hk)
theorem cnz_lt {xs : List Int} {k : Nat} {v : Int} (hk : k < xs.length) : ∀ m, m ≤ k → cnz (xs.set k v) m = cnz xs m := by
  intro m
  induction m with
  | zero => intro _; rfl
  | succ m ih =>
    intro hm
    simp only [cnz]
    have e : k ≠ m := by omega
    rw [ih (by omega), nth_set hk, if_neg e]
theorem cnz_set {xs : List Int} {k : Nat} (hk : k < xs.length) (h : nth xs k ≠ 0) : ∀ m, k < m → cnz (xs.set k 0) m + 1 = cnz xs m := by
  intro m
  induction m with
  | zero => intro hm; omega
  | succ m ih =>
    intro hm
    simp only [cnz]
    by_cases e : k = m
    · subst e
      rw [cnz_lt hk k (Nat.le_refl _), nth_set hk, if_pos rfl, if_pos rfl, if_neg h]
    · rw [nth_set hk, if_neg e]
      have := ih (by omega)
      omega
theorem gv_set0 {xs : List Int} {size : Int} {n k : Nat} (h : gv xs size = true) (hl : xs.length = n) : gv (xs.set k 0) size = true := by
  obtain ⟨h2, h4⟩ := gv_size h
  refine okAll_gv (n := n) (by simpa using hl) (gv_n h hl).2.2 h2 h4 (okAll_set' (fun j hj => gv_nth h (by omega)) (by omega) (by omega))
theorem gf_set {xs : List Int} {size : Int} {k : Nat} (h : gv xs size = true) (hk : k < xs.length) (h0 : nth xs k ≠ 0) : gf (xs.set k 0) size = gf xs size - 1 := by
  have := cnz_set hk h0 xs.length hk
  unfold gf
  rw [if_pos h, if_pos (gv_set0 h rfl), List.length_set]
  omega
theorem cnz_zeros (n m : Nat) : cnz (zeros n) m = 0 := by
  induction m with
  | zero => rfl
  | succ m ih => rw [cnz, ih, zeros_nth]; rfl
theorem gf_zeros {size : Int} {n : Nat} (h2 : 2 ≤ size) (h4 : size ≤ 4) (hn : (n : Int) = size * size) : gf (zeros n) size = 0 := by
  have hg : gv (zeros n) size = true := okAll_gv (zeros_length n) hn h2 h4 (okAll_zeros (by omega) n)
  unfold gf
  rw [if_pos hg, cnz_zeros]; rfl

end Go.Proofs.YtcjdjcpappfkgaaDoor
namespace Go.Proofs.YtcjdjcpappfkgaaDoor
open Go.ChangeShapes Go.WideShapes Go.ChangeAt Go.RowKit

/-- the list whose value at k is the one of xs at P k. -/
def pm (xs : List Int) (P : Nat → Nat) (n : Nat) : List Int := mapTo (fun k => nth xs (P k)) n
theorem pm_length (xs : List Int) (P : Nat → Nat) (n : Nat) : (pm xs P n).length = n := mapTo_length _ _
theorem pm_nth {xs : List Int} {P : Nat → Nat} {n k : Nat} (h : k < n) : nth (pm xs P n) k = nth xs (P k) := mapTo_nth h
theorem pm_pm {xs : List Int} {P Q : Nat → Nat} {n : Nat} (h : ∀ k, k < n → P k < n) : pm (pm xs Q n) P n = pm xs (fun k => Q (P k)) n := by
  apply ext_nth (by rw [pm_length, pm_length])
  intro k hk
  rw [pm_length] at hk
  rw [pm_nth hk, pm_nth (h k hk), pm_nth hk]
theorem pm_id {xs : List Int} {P : Nat → Nat} {n : Nat} (hl : xs.length = n) (h : ∀ k, k < n → P k = k) : pm xs P n = xs := by
  apply ext_nth (by rw [pm_length, hl])
  intro k hk
  rw [pm_length] at hk
  rw [pm_nth hk, h k hk]
theorem pm_eq {xs : List Int} {P Q : Nat → Nat} {n : Nat} (h : ∀ k, k < n → P k = Q k) : pm xs P n = pm xs Q n := by
  apply ext_nth (by rw [pm_length, pm_length])
  intro k hk
  rw [pm_length] at hk
  rw [pm_nth hk, pm_nth hk, h k hk]
theorem pm_gv {xs : List Int} {size : Int} {P : Nat → Nat} {n : Nat} (hg : gv xs size = true) (hl : xs.length = n) (h : ∀ k, k < n → P k < n) : gv (pm xs P n) size = true := by
  obtain ⟨h2, h4⟩ := gv_size hg
  refine okAll_gv (pm_length _ _ _) (gv_n hg hl).2.2 h2 h4 (fun k hk => ?_)
  rw [pm_nth hk]
  exact gv_nth hg (by rw [hl]; exact h k hk)
theorem cnz_sum (xs : List Int) (n : Nat) : cnz xs n = ((List.range n).map fun k => if nth xs k = 0 then 0 else 1).sum := by
  induction n with
  | zero => rfl
  | succ n ih => simp [cnz, ih, List.range_succ]
theorem pm_cnz {xs : List Int} {P : Nat → Nat} {n : Nat} (hp : (List.map P (List.range n)).Perm (List.range n)) : cnz (pm xs P n) n = cnz xs n := by
  rw [cnz_sum, cnz_sum]
  have h1 : (List.range n).map (fun k => if nth (pm xs P n) k = 0 then 0 else 1) = (List.map P (List.range n)).map (fun k => if nth xs k = 0 then 0 else 1) := by
    rw [List.map_map]
    apply List.map_congr_left
    intro k hk
    have : k < n := by simpa using hk
    simp only [Function.comp, pm_nth this]
  rw [h1]
  exact (hp.map _).sum_nat
theorem pm_gf {xs : List Int} {size : Int} {P : Nat → Nat} {n : Nat} (hg : gv xs size = true) (hl : xs.length = n) (h : ∀ k, k < n → P k < n) (hp : (List.map P (List.range n)).Perm (List.range n)) : gf (pm xs P n) size = gf xs size := by
  unfold gf
  rw [if_pos hg, if_pos (pm_gv hg hl h), pm_length, pm_cnz hp, hl]

theorem size_nat {xs : List Int} {size : Int} (hg : gv xs size = true) : ∃ s : Nat, size = s ∧ s ∈ [2, 3, 4] ∧ xs.length = s * s := by
  obtain ⟨h2, h4⟩ := gv_size hg
  obtain ⟨s, rfl⟩ := Int.eq_ofNat_of_zero_le (by omega : 0 ≤ size)
  refine ⟨s, rfl, by simp; omega, ?_⟩
  have := gv_len hg
  rw [← Int.natCast_mul] at this
  omega
theorem turn_lt : ∀ s ∈ [2, 3, 4], ∀ k, k < s * s → turnIx (s : Nat) k < s * s := by decide +kernel
theorem turn_perm : ∀ s ∈ [2, 3, 4], (List.map (turnIx (s : Nat)) (List.range (s * s))).Perm (List.range (s * s)) := by decide +kernel
theorem turn_four : ∀ s ∈ [2, 3, 4], ∀ k, k < s * s → turnIx (s : Nat) (turnIx (s : Nat) (turnIx (s : Nat) (turnIx (s : Nat) k))) = k := by decide +kernel
theorem turn_edge : ∀ s ∈ [2, 3, 4], ∀ k, k < s → turnIx (s : Nat) (k * s + s - 1) = k := by decide +kernel

/-- what is known of a turned grid. -/
structure TurnFacts (xs : List Int) (size : Int) (n : Nat) : Prop where
  len : (turnL xs size).length = n
  valid : gv (turnL xs size) size = true
  four : turnL (turnL (turnL (turnL xs size) size) size) size = xs
  filled : gf (turnL xs size) size = gf xs size
  edge : ∀ k : Nat, (k : Int) < size → nth (turnL xs size) ((k : Int) * size + size - 1).toNat = nth xs k
theorem turnL_pm {xs : List Int} {size : Int} {n : Nat} (hg : gv xs size = true) (hl : xs.length = n) : turnL xs size = pm xs (turnIx size) n := by
  unfold turnL
  rw [if_pos hg, hl]; rfl
theorem turn_all {xs : List Int} {size : Int} {n : Nat} (hg : gv xs size = true) (hl : xs.length = n) : TurnFacts xs size n := by
  obtain ⟨s, rfl, hs, hls⟩ := size_nat hg
  have hn : n = s * s := by rw [← hl, hls]
  subst hn
  have lt := turn_lt s hs
  have e1 := turnL_pm hg hl
  have g1 : gv (turnL xs s) s = true := by rw [e1]; exact pm_gv hg hl lt
  have l1 : (turnL xs s).length = s * s := by rw [e1, pm_length]
  have e2 := turnL_pm g1 l1
  have g2 : gv (turnL (turnL xs s) s) s = true := by rw [e2]; exact pm_gv g1 l1 lt
  have l2 : (turnL (turnL xs s) s).length = s * s := by rw [e2, pm_length]
  have e3 := turnL_pm g2 l2
  have g3 : gv (turnL (turnL (turnL xs s) s) s) s = true := by rw [e3]; exact pm_gv g2 l2 lt
  have l3 : (turnL (turnL (turnL xs s) s) s).length = s * s := by rw [e3, pm_length]
  have e4 := turnL_pm g3 l3
  refine ⟨l1, g1, ?_, ?_, ?_⟩
  · rw [e4, e3, e2, e1, pm_pm lt, pm_pm (fun k hk => lt _ (lt k hk)), pm_pm (fun k hk => lt _ (lt _ (lt k hk)))]
    exact pm_id hl (turn_four s hs)
  · rw [e1]; exact pm_gf hg hl lt (turn_perm s hs)
  · intro k hk
    have hks : k < s := by omega
    have hi : k * s + s - 1 < s * s := by
      have := ix_lt hks (by omega : s - 1 < s)
      omega
    have e : ((k : Int) * (s : Int) + (s : Int) - 1).toNat = k * s + s - 1 := by
      rw [← Int.natCast_mul]; omega
    rw [e, e1, pm_nth hi, turn_edge s hs k hks]
theorem mir_lt : ∀ s ∈ [2, 3, 4], ∀ k, k < s * s → mirIx (s : Nat) k < s * s := by decide +kernel
theorem mir_two : ∀ s ∈ [2, 3, 4], ∀ k, k < s * s → mirIx (s : Nat) (mirIx (s : Nat) k) = k := by decide +kernel
theorem mir_turn : ∀ s ∈ [2, 3, 4], ∀ k, k < s * s → mirIx (s : Nat) (turnIx (s : Nat) k) = turnIx (s : Nat) (turnIx (s : Nat) (turnIx (s : Nat) (mirIx (s : Nat) k))) := by decide +kernel
structure MirFacts (xs : List Int) (size : Int) (n : Nat) : Prop where
  len : (mirL xs size).length = n
  valid : gv (mirL xs size) size = true
  two : mirL (mirL xs size) size = xs
  turned : turnL (mirL xs size) size = mirL (turnL (turnL (turnL xs size) size) size) size
theorem mirL_pm {xs : List Int} {size : Int} {n : Nat} (hg : gv xs size = true) (hl : xs.length = n) : mirL xs size = pm xs (mirIx size) n := by
  unfold mirL
  rw [if_pos hg, hl]; rfl
theorem mir_all {xs : List Int} {size : Int} {n : Nat} (hg : gv xs size = true) (hl : xs.length = n) : MirFacts xs size n := by
  obtain ⟨s, rfl, hs, hls⟩ := size_nat hg
  have hn : n = s * s := by rw [← hl, hls]
  subst hn
  have lt := turn_lt s hs
  have ltm := mir_lt s hs
  have e1 := mirL_pm hg hl
  have g1 : gv (mirL xs s) s = true := by rw [e1]; exact pm_gv hg hl ltm
  have l1 : (mirL xs s).length = s * s := by rw [e1, pm_length]
  have t1 := turnL_pm hg hl
  have h1 : gv (turnL xs s) s = true := by rw [t1]; exact pm_gv hg hl lt
  have m1 : (turnL xs s).length = s * s := by rw [t1, pm_length]
  have t2 := turnL_pm h1 m1
  have h2 : gv (turnL (turnL xs s) s) s = true := by rw [t2]; exact pm_gv h1 m1 lt
  have m2 : (turnL (turnL xs s) s).length = s * s := by rw [t2, pm_length]
  have t3 := turnL_pm h2 m2
  have h3 : gv (turnL (turnL (turnL xs s) s) s) s = true := by rw [t3]; exact pm_gv h2 m2 lt
  have m3 : (turnL (turnL (turnL xs s) s) s).length = s * s := by rw [t3, pm_length]
  refine ⟨l1, g1, ?_, ?_⟩
  · rw [mirL_pm g1 l1, e1, pm_pm ltm]
    exact pm_id hl (mir_two s hs)
  · rw [turnL_pm g1 l1, mirL_pm h3 m3, t3, t2, t1, e1, pm_pm lt, pm_pm ltm, pm_pm (fun k hk => lt _ (ltm k hk)), pm_pm (fun k hk => lt _ (lt _ (ltm k hk)))]
    exact pm_eq (mir_turn s hs)
end Go.Proofs.YtcjdjcpappfkgaaDoor
namespace Go.Proofs.YtcjdjcpappfkgaaDoor
open Go.ChangeShapes Go.WideShapes Go.ChangeAt Go.RowKit

theorem hasTo_iff {f : Nat → Int} {k : Nat} {v : Int} : hasTo f k v = true ↔ ∃ i, i < k ∧ f i = v := by
  simp [hasTo]
theorem dupTo_iff {f : Nat → Int} {n : Nat} : dupTo f n = true ↔ ∃ i j, i < j ∧ j < n ∧ f i = f j ∧ 0 < f j := by
  induction n with
  | zero => simp [dupTo]
  | succ n ih =>
    rw [dupTo, Bool.or_eq_true, ih, Bool.and_eq_true, hasTo_iff, decide_eq_true_eq]
    constructor
    · rintro (⟨i, j, h1, h2, h3⟩ | ⟨h0, i, hi, he⟩)
      · exact ⟨i, j, h1, by omega, h3⟩
      · exact ⟨i, n, hi, by omega, he, h0⟩
    · rintro ⟨i, j, h1, h2, h3, h4⟩
      by_cases e : j = n
      · subst e; exact .inr ⟨h4, i, h1, h3⟩
      · exact .inl ⟨i, j, h1, by omega, h3, h4⟩
theorem clashTo_iff {xs : List Int} {size : Int} {n : Nat} : clashTo xs size n = true ↔ ∃ l, l < n ∧ dupTo (lineV xs size (l : Nat)) size.toNat = true := by
  induction n with
  | zero => simp [clashTo]
  | succ n ih =>
    rw [clashTo, Bool.or_eq_true, ih]
    constructor
    · rintro (⟨l, h1, h2⟩ | h)
      · exact ⟨l, by omega, h2⟩
      · exact ⟨n, by omega, h⟩
    · rintro ⟨l, h1, h2⟩
      by_cases e : l = n
      · subst e; exact .inr h2
      · exact .inl ⟨l, by omega, h2⟩

/-- two different cells of one line. -/
def adj (s i j : Nat) : Bool := i != j && (i / s == j / s || i % s == j % s)
def adjLine (s i j : Nat) : Bool := (List.range (2 * s)).any fun l => (List.range s).any fun a => (List.range s).any fun b => a != b && ((lineAt (s : Nat) (l : Nat) a).toNat == i && (lineAt (s : Nat) (l : Nat) b).toNat == j)
theorem adj_line0 : ∀ s ∈ [2, 3, 4], ∀ i, i < s * s → ∀ j, j < s * s → adj s i j = true → adjLine s i j = true := by decide +kernel
theorem adj_line (s : Nat) (hs : s ∈ [2, 3, 4]) (i : Nat) (hi : i < s * s) (j : Nat) (hj : j < s * s) (h : adj s i j = true) : ∃ l, l < 2 * s ∧ ∃ a, a < s ∧ ∃ b, b < s ∧ a ≠ b ∧ (lineAt (s : Nat) (l : Nat) a).toNat = i ∧ (lineAt (s : Nat) (l : Nat) b).toNat = j := by
  have := adj_line0 s hs i hi j hj h
  simp only [adjLine, List.any_eq_true, List.mem_range, Bool.and_eq_true, bne_iff_ne, beq_iff_eq] at this
  obtain ⟨l, hl, a, ha, b, hb, hab, e1, e2⟩ := this
  exact ⟨l, hl, a, ha, b, hb, hab, e1, e2⟩
def lineAdj (s l a b : Nat) : Bool := a == b || (adj s (lineAt (s : Nat) (l : Nat) a).toNat (lineAt (s : Nat) (l : Nat) b).toNat && (Nat.blt (lineAt (s : Nat) (l : Nat) a).toNat (s * s) && Nat.blt (lineAt (s : Nat) (l : Nat) b).toNat (s * s)))
theorem line_adj0 : ∀ s ∈ [2, 3, 4], ∀ l, l < 2 * s → ∀ a, a < s → ∀ b, b < s → lineAdj s l a b = true := by decide +kernel
theorem line_adj (s : Nat) (hs : s ∈ [2, 3, 4]) (l : Nat) (hl : l < 2 * s) (a : Nat) (ha : a < s) (b : Nat) (hb : b < s) (hab : a ≠ b) : adj s (lineAt (s : Nat) (l : Nat) a).toNat (lineAt (s : Nat) (l : Nat) b).toNat = true ∧ (lineAt (s : Nat) (l : Nat) a).toNat < s * s ∧ (lineAt (s : Nat) (l : Nat) b).toNat < s * s := by
  have := line_adj0 s hs l hl a ha b hb
  simp only [lineAdj, Bool.or_eq_true, beq_iff_eq, Bool.and_eq_true, Nat.blt_eq] at this
  rcases this with h | h
  · exact absurd h hab
  · exact h
theorem clash_iff {xs : List Int} {s : Nat} (hs : s ∈ [2, 3, 4]) : clash xs s = true ↔ ∃ i j, i < s * s ∧ j < s * s ∧ adj s i j = true ∧ nth xs i = nth xs j ∧ 0 < nth xs j := by
  have e2 : (2 * (s : Int)).toNat = 2 * s := by omega
  rw [clash, clashTo_iff, e2]
  constructor
  · rintro ⟨l, hl, h⟩
    rw [dupTo_iff, Int.toNat_natCast] at h
    obtain ⟨a, b, h1, h2, h3, h4⟩ := h
    obtain ⟨p, q, r⟩ := line_adj s hs l hl a (by omega) b h2 (by omega)
    exact ⟨_, _, q, r, p, h3, h4⟩
  · rintro ⟨i, j, hi, hj, ha, he, hp⟩
    obtain ⟨l, hl, a, ha', b, hb, hab, ei, ej⟩ := adj_line s hs i hi j hj ha
    refine ⟨l, hl, ?_⟩
    rw [dupTo_iff, Int.toNat_natCast]
    rcases Nat.lt_or_ge a b with h | h
    · exact ⟨a, b, h, hb, by unfold lineV; rw [ei, ej]; exact he, by unfold lineV; rw [ej]; exact hp⟩
    · exact ⟨b, a, by omega, ha', by unfold lineV; rw [ei, ej]; exact he.symm, by unfold lineV; rw [ei, he]; exact hp⟩
/-- a permutation of the cells that keeps lines keeps clashes. -/
theorem clash_pm {xs : List Int} {s : Nat} {P Q : Nat → Nat} (hs : s ∈ [2, 3, 4]) (hP : ∀ k, k < s * s → P k < s * s) (hQ : ∀ k, k < s * s → Q k < s * s) (hPQ : ∀ k, k < s * s → P (Q k) = k)
    (hadj : ∀ i, i < s * s → ∀ j, j < s * s → adj s i j = true → adj s (P i) (P j) = true ∧ adj s (Q i) (Q j) = true) : clash (pm xs P (s * s)) s = clash xs s := by
  rw [Bool.eq_iff_iff, clash_iff hs, clash_iff hs]
  constructor
  · rintro ⟨i, j, hi, hj, ha, he, hp⟩
    rw [pm_nth hi, pm_nth hj] at he
    rw [pm_nth hj] at hp
    exact ⟨P i, P j, hP i hi, hP j hj, (hadj i hi j hj ha).1, he, hp⟩
  · rintro ⟨i, j, hi, hj, ha, he, hp⟩
    refine ⟨Q i, Q j, hQ i hi, hQ j hj, (hadj i hi j hj ha).2, ?_, ?_⟩
    · rw [pm_nth (hQ i hi), pm_nth (hQ j hj), hPQ i hi, hPQ j hj]; exact he
    · rw [pm_nth (hQ j hj), hPQ j hj]; exact hp
theorem clash_set0 {xs : List Int} {s k : Nat} (hs : s ∈ [2, 3, 4]) (hl : xs.length = s * s) (h : clash xs s = false) : clash (xs.set k 0) s = false := by
  cases hc : clash (xs.set k 0) s
  · rfl
  · rw [clash_iff hs] at hc
    obtain ⟨i, j, hi, hj, ha, he, hp⟩ := hc
    by_cases hk : k < xs.length
    · rw [nth_set hk, nth_set hk] at he
      rw [nth_set hk] at hp
      have hkj : k ≠ j := by rintro rfl; simp at hp
      rw [if_neg hkj] at he hp
      have hki : k ≠ i := by rintro rfl; rw [if_pos rfl] at he; omega
      rw [if_neg hki] at he
      have := (clash_iff hs).2 ⟨i, j, hi, hj, ha, he, hp⟩
      rw [h] at this; cases this
    · rw [List.set_eq_of_length_le (by omega)] at he hp
      have := (clash_iff hs).2 ⟨i, j, hi, hj, ha, he, hp⟩
      rw [h] at this; cases this
/-- three quarters back. -/
def backIx (s k : Nat) : Nat := turnIx s (turnIx s (turnIx s k))
theorem turn_adj : ∀ s ∈ [2, 3, 4], ∀ i, i < s * s → ∀ j, j < s * s → adj s i j = true → adj s (turnIx (s : Nat) i) (turnIx (s : Nat) j) = true ∧ adj s (backIx s i) (backIx s j) = true := by decide +kernel
theorem turn_back : ∀ s ∈ [2, 3, 4], ∀ k, k < s * s → backIx s k < s * s ∧ turnIx (s : Nat) (backIx s k) = k := by decide +kernel
theorem mir_adj : ∀ s ∈ [2, 3, 4], ∀ i, i < s * s → ∀ j, j < s * s → adj s i j = true → adj s (mirIx (s : Nat) i) (mirIx (s : Nat) j) = true := by decide +kernel
theorem clash_turn {xs : List Int} {size : Int} {n : Nat} (hg : gv xs size = true) (hl : xs.length = n) : clash (turnL xs size) size = clash xs size := by
  rw [turnL_pm hg hl]
  obtain ⟨s, rfl, hs, hls⟩ := size_nat hg
  obtain rfl : n = s * s := by omega
  exact clash_pm hs (turn_lt s hs) (fun k hk => (turn_back s hs k hk).1) (fun k hk => (turn_back s hs k hk).2) (turn_adj s hs)
theorem clash_mir {xs : List Int} {size : Int} {n : Nat} (hg : gv xs size = true) (hl : xs.length = n) : clash (mirL xs size) size = clash xs size := by
  rw [mirL_pm hg hl]
  obtain ⟨s, rfl, hs, hls⟩ := size_nat hg
  obtain rfl : n = s * s := by omega
  exact clash_pm hs (mir_lt s hs) (mir_lt s hs) (mir_two s hs) (fun i hi j hj h => ⟨mir_adj s hs i hi j hj h, mir_adj s hs i hi j hj h⟩)
end Go.Proofs.YtcjdjcpappfkgaaDoor
namespace Go.Proofs.YtcjdjcpappfkgaaDoor
open Go.ChangeShapes Go.WideShapes Go.ChangeAt Go.RowKit

def sqFits (xs : List Int) (size : Int) : Bool := gv xs size && !clash xs size
def sqSolved (xs : List Int) (size : Int) : Bool := sqFits xs size && (gf xs size == size * size)

theorem cnz_full {xs : List Int} {n : Nat} : cnz xs n = n ↔ ∀ k, k < n → nth xs k ≠ 0 := by
  induction n with
  | zero => simp [cnz]
  | succ n ih =>
    have hle := cnz_le xs n
    constructor
    · intro h
      by_cases e : nth xs n = 0
      · rw [cnz_z e] at h; omega
      · rw [cnz_nz e] at h
        have h' := ih.1 (by omega)
        intro k hk
        by_cases ek : k = n
        · subst ek; exact e
        · exact h' k (by omega)
    · intro h
      rw [cnz_nz (h n (by omega)), ih.2 (fun k hk => h k (by omega))]
theorem solved_iff {xs : List Int} {size : Int} {n : Nat} (hl : xs.length = n) : sqSolved xs size = true ↔ gv xs size = true ∧ clash xs size = false ∧ ∀ k, k < n → nth xs k ≠ 0 := by
  subst hl
  unfold sqSolved sqFits
  simp only [Bool.and_eq_true, Bool.not_eq_true', beq_iff_eq]
  constructor
  · rintro ⟨⟨h1, h2⟩, h3⟩
    refine ⟨h1, h2, ?_⟩
    have := gv_len h1
    unfold gf at h3
    rw [if_pos h1] at h3
    exact cnz_full.1 (by omega)
  · rintro ⟨h1, h2, h3⟩
    refine ⟨⟨h1, h2⟩, ?_⟩
    have := gv_len h1
    unfold gf
    rw [if_pos h1, cnz_full.2 h3]
    omega

/-- in a line of s different values of 1..s every one of them stands. -/
def pigB2 (a b v : Nat) : Bool := (a == 0 || b == 0 || v == 0) || ((a == b) || (a == v || b == v))
theorem pig2 : ∀ a, a < 3 → ∀ b, b < 3 → ∀ v, v < 3 → pigB2 a b v = true := by decide +kernel
def pigB3 (a b c v : Nat) : Bool := (a == 0 || b == 0 || c == 0 || v == 0) || ((a == b || a == c || b == c) || (a == v || b == v || c == v))
theorem pig3 : ∀ a, a < 4 → ∀ b, b < 4 → ∀ c, c < 4 → ∀ v, v < 4 → pigB3 a b c v = true := by decide +kernel
def pigB4 (a b c d v : Nat) : Bool := (a == 0 || b == 0 || c == 0 || d == 0 || v == 0) || ((a == b || a == c || a == d || b == c || b == d || c == d) || (a == v || b == v || c == v || d == v))
theorem pig4 : ∀ a, a < 5 → ∀ b, b < 5 → ∀ c, c < 5 → ∀ d, d < 5 → ∀ v, v < 5 → pigB4 a b c d v = true := by decide +kernel
theorem pig {f : Nat → Int} {s : Nat} (hs : s ∈ [2, 3, 4]) (hf : ∀ i, i < s → 1 ≤ f i ∧ f i ≤ s) (hd : dupTo f s = false) {v : Int} (v1 : 1 ≤ v) (v2 : v ≤ s) : hasTo f s v = true := by
  have hne : ∀ i j, i < j → j < s → f i ≠ f j := by
    intro i j hij hj he
    have : dupTo f s = true := dupTo_iff.2 ⟨i, j, hij, hj, he, by have := hf j hj; omega⟩
    rw [hd] at this; cases this
  have hT : ∀ i, i < s → ((f i).toNat : Int) = f i := fun i hi => Int.toNat_of_nonneg (by have := hf i hi; omega)
  simp at hs
  rw [hasTo_iff]
  rcases hs with rfl | rfl | rfl
  · have b0 := hf 0 (by omega); have b1 := hf 1 (by omega)
    have n01 := hne 0 1 (by omega) (by omega)
    have hp := pig2 (f 0).toNat (by omega) (f 1).toNat (by omega) v.toNat (by omega)
    simp only [pigB2, Bool.or_eq_true, beq_iff_eq] at hp
    have hp' : (f 0).toNat = v.toNat ∨ (f 1).toNat = v.toNat := by omega
    clear hp
    rcases hp' with h | h
    · exact ⟨0, by omega, by omega⟩
    · exact ⟨1, by omega, by omega⟩
  · have b0 := hf 0 (by omega); have b1 := hf 1 (by omega); have b2 := hf 2 (by omega)
    have n01 := hne 0 1 (by omega) (by omega); have n02 := hne 0 2 (by omega) (by omega); have n12 := hne 1 2 (by omega) (by omega)
    have hp := pig3 (f 0).toNat (by omega) (f 1).toNat (by omega) (f 2).toNat (by omega) v.toNat (by omega)
    simp only [pigB3, Bool.or_eq_true, beq_iff_eq] at hp
    have hp' : (f 0).toNat = v.toNat ∨ (f 1).toNat = v.toNat ∨ (f 2).toNat = v.toNat := by omega
    clear hp
    rcases hp' with h | h | h
    · exact ⟨0, by omega, by omega⟩
    · exact ⟨1, by omega, by omega⟩
    · exact ⟨2, by omega, by omega⟩
  · have b0 := hf 0 (by omega); have b1 := hf 1 (by omega); have b2 := hf 2 (by omega); have b3 := hf 3 (by omega)
    have n01 := hne 0 1 (by omega) (by omega); have n02 := hne 0 2 (by omega) (by omega); have n03 := hne 0 3 (by omega) (by omega)
    have n12 := hne 1 2 (by omega) (by omega); have n13 := hne 1 3 (by omega) (by omega); have n23 := hne 2 3 (by omega) (by omega)
    have hp := pig4 (f 0).toNat (by omega) (f 1).toNat (by omega) (f 2).toNat (by omega) (f 3).toNat (by omega) v.toNat (by omega)
    simp only [pigB4, Bool.or_eq_true, beq_iff_eq] at hp
    have hp' : (f 0).toNat = v.toNat ∨ (f 1).toNat = v.toNat ∨ (f 2).toNat = v.toNat ∨ (f 3).toNat = v.toNat := by omega
    clear hp
    rcases hp' with h | h | h | h
    · exact ⟨0, by omega, by omega⟩
    · exact ⟨1, by omega, by omega⟩
    · exact ⟨2, by omega, by omega⟩
    · exact ⟨3, by omega, by omega⟩

/-- xs comes before ys: at the first place where they differ its value is less. -/
def lexlt (n : Nat) (xs ys : List Int) : Prop := ∃ k, k < n ∧ (∀ j, j < k → nth xs j = nth ys j) ∧ nth xs k < nth ys k
theorem sols_prefix {size : Int} : ∀ (f : Nat) (xs : List Int) (p : Nat) (y : List Int), y ∈ sols size f xs p → p + f ≤ xs.length → ∀ k, k < p → nth y k = nth xs k := by
  intro f
  induction f with
  | zero => intro xs p y hy _ k _; simp [sols] at hy; subst hy; rfl
  | succ f ih =>
    intro xs p y hy hl
    refine solsFrom_all (P := fun y => ∀ k, k < p → nth y k = nth xs k) _ _ (fun u y _ _ hy k hk => ?_) y hy
    rw [ih _ _ _ hy (by rw [List.length_set]; omega) k (by omega), nth_set (by omega), if_neg (by omega)]
theorem sols_at {size : Int} {f : Nat} {xs : List Int} {p : Nat} {u : Int} {y : List Int} (hy : y ∈ sols size f (xs.set p u) (p + 1)) (hl : p + 1 + f ≤ xs.length) : nth y p = u := by
  rw [sols_prefix f _ _ y hy (by rw [List.length_set]; omega) p (by omega), nth_set (by omega), if_pos rfl]
theorem sols_sorted {size : Int} (n : Nat) : ∀ (f : Nat) (xs : List Int) (p : Nat), p + f = n → xs.length = n → List.Pairwise (lexlt n) (sols size f xs p) := by
  intro f
  induction f with
  | zero => intro xs p _ _; simp [sols]
  | succ f ih =>
    intro xs p hp hl
    simp only [sols]
    have key : ∀ (r v : Nat), List.Pairwise (lexlt n) (solsFrom (fun ys => sols size f ys (p + 1)) xs size p r v) := by
      intro r
      induction r with
      | zero => intro v; simp [solsFrom]
      | succ r ihr =>
        intro v
        simp only [solsFrom]
        rw [List.pairwise_append]
        refine ⟨?_, ihr (v + 1), ?_⟩
        · split
          · exact List.Pairwise.nil
          · exact ih _ _ (by omega) (by rw [List.length_set]; exact hl)
        · intro a ha b hb
          have ha' : a ∈ sols size f (xs.set p (v : Int)) (p + 1) := by
            split at ha
            · simp at ha
            · exact ha
          refine solsFrom_all (P := fun b => lexlt n a b) _ _ (fun u b h1 _ hb => ?_) b hb
          refine ⟨p, by omega, fun j hj => ?_, ?_⟩
          · rw [sols_prefix f _ _ a ha' (by rw [List.length_set]; omega) j (by omega), sols_prefix f _ _ b hb (by rw [List.length_set]; omega) j (by omega), nth_set (by omega), nth_set (by omega), if_neg (by omega), if_neg (by omega)]
          · rw [sols_at ha' (by omega), sols_at hb (by omega)]
            omega
    exact key _ _
theorem sols_clash {size : Int} : ∀ (f : Nat) (xs : List Int) (p : Nat) (y : List Int), y ∈ sols size (f + 1) xs p → clash y size = false := by
  intro f
  induction f with
  | zero =>
    intro xs p y hy
    simp only [sols] at hy
    have key : ∀ (r v : Nat), y ∈ solsFrom (fun ys => [ys]) xs size p r v → clash y size = false := by
      intro r
      induction r with
      | zero => intro v h; simp [solsFrom] at h
      | succ r ihr =>
        intro v h
        simp only [solsFrom, List.mem_append] at h
        rcases h with h | h
        · by_cases hc : clash (xs.set p (v : Int)) size = true
          · rw [if_pos hc] at h; simp at h
          · rw [if_neg hc] at h
            simp at h
            subst h
            simpa using hc
        · exact ihr _ h
    exact key _ _ hy
  | succ f ih =>
    intro xs p y hy
    rw [sols] at hy
    exact solsFrom_all (P := fun y => clash y size = false) _ _ (fun u y _ _ hy => ih _ _ _ hy) y hy
theorem sols_pos {size : Int} : ∀ (f : Nat) (xs : List Int) (p : Nat) (y : List Int), y ∈ sols size f xs p → p + f ≤ xs.length → (∀ k, k < p → 1 ≤ nth xs k) → ∀ k, k < p + f → 1 ≤ nth y k := by
  intro f
  induction f with
  | zero => intro xs p y hy _ h k hk; simp [sols] at hy; subst hy; exact h k (by omega)
  | succ f ih =>
    intro xs p y hy hl h
    refine solsFrom_all (P := fun y => ∀ k, k < p + (f + 1) → 1 ≤ nth y k) _ _ (fun u y h1 _ hy k hk => ?_) y hy
    refine ih _ _ _ hy (by rw [List.length_set]; omega) (fun j hj => ?_) k (by omega)
    rw [nth_set (by omega)]
    split
    · omega
    · exact h j (by omega)
theorem sols_solved {size : Int} {n : Nat} (h2 : 2 ≤ size) (h4 : size ≤ 4) (hn : (n : Int) = size * size) {y : List Int} (hy : y ∈ sols size n (zeros n) 0) : y.length = n ∧ sqSolved y size = true := by
  have hl : y.length = n := by rw [sols_length size _ _ _ _ hy, zeros_length]
  obtain ⟨q4, q16⟩ := sq_bd h2 h4
  obtain ⟨m, rfl⟩ : ∃ m, n = m + 1 := ⟨n - 1, by omega⟩
  refine ⟨hl, (solved_iff hl).2 ⟨?_, sols_clash m _ _ _ hy, fun k hk => ?_⟩⟩
  · exact okAll_gv hl hn h2 h4 (sols_ok (by omega) _ _ _ _ (okAll_zeros (by omega) _) _ hy)
  · have := sols_pos _ _ _ _ hy (by rw [zeros_length]; omega) (fun k hk => absurd hk (by omega)) k (by omega)
    omega
end Go.Proofs.YtcjdjcpappfkgaaDoor
namespace Go.Proofs.YtcjdjcpappfkgaaDoor
open Go.ChangeShapes Go.WideShapes Go.ChangeAt Go.RowKit

theorem okTo3_iff {xs : List Int} {s : Int} {k : Nat} {v : Int} (m : Nat) : okTo3 xs s k v m = true ↔ ∀ j, j < m → ok3 xs s k v j = true := by
  induction m with
  | zero => simp [okTo3]
  | succ m ih =>
    rw [okTo3, Bool.and_eq_true, ih]
    constructor
    · rintro ⟨h1, h2⟩ j hj
      by_cases e : j = m
      · subst e; exact h2
      · exact h1 j (by omega)
    · intro h
      exact ⟨fun j hj => h j (by omega), h m (by omega)⟩
/-- the cells of the row and the column of k are those that are adjacent to it, and k. -/
def seen3 (s k i : Nat) : Bool := (List.range s).any fun j => ((rIx (s : Nat) k j).toNat == i) || ((cIx (s : Nat) k j).toNat == i)
theorem seen_adj : ∀ s ∈ [2, 3, 4], ∀ k, k < s * s → ∀ i, i < s * s → adj s i k = true → seen3 s k i = true := by decide +kernel
def adjSeen (s k j : Nat) : Bool := ((rIx (s : Nat) k j == (k : Int)) || (adj s (rIx (s : Nat) k j).toNat k && Nat.blt (rIx (s : Nat) k j).toNat (s * s))) && ((cIx (s : Nat) k j == (k : Int)) || (adj s (cIx (s : Nat) k j).toNat k && Nat.blt (cIx (s : Nat) k j).toNat (s * s)))
theorem adj_seen : ∀ s ∈ [2, 3, 4], ∀ k, k < s * s → ∀ j, j < s → adjSeen s k j = true := by decide +kernel
theorem ix_nn : ∀ s ∈ [2, 3, 4], ∀ k, k < s * s → ∀ j, j < s → ((rIx (s : Nat) k j).toNat : Int) = rIx (s : Nat) k j ∧ ((cIx (s : Nat) k j).toNat : Int) = cIx (s : Nat) k j := by decide +kernel
theorem adj_ne (s i j : Nat) : (adj s i j = true → i ≠ j) ∧ True := ⟨fun h => by simp only [adj, Bool.and_eq_true, bne_iff_ne] at h; exact h.1, trivial⟩
theorem adj_sym : ∀ s ∈ [2, 3, 4], ∀ i, i < s * s → ∀ j, j < s * s → adj s i j = adj s j i := by decide +kernel
theorem ok3_adj {xs : List Int} {s k : Nat} (hs : s ∈ [2, 3, 4]) (hk : k < s * s) (v : Int) : okTo3 xs s k v s = true ↔ ∀ i, i < s * s → adj s i k = true → nth xs i ≠ v := by
  rw [okTo3_iff]
  constructor
  · intro h i hi ha he
    have := seen_adj s hs k hk i hi ha
    simp only [seen3, List.any_eq_true, List.mem_range, Bool.or_eq_true, beq_iff_eq] at this
    obtain ⟨j, hj, hor⟩ := this
    have ho := h j hj
    obtain ⟨n1, n2⟩ := ix_nn s hs k hk j hj
    have hne := ((adj_ne s i k).1 ha)
    simp only [ok3, Bool.and_eq_true, Bool.or_eq_true, beq_iff_eq, bne_iff_ne] at ho
    rcases hor with e | e
    · rcases ho.1 with h1 | h1
      · omega
      · rw [e] at h1; exact h1 he
    · rcases ho.2 with h1 | h1
      · omega
      · rw [e] at h1; exact h1 he
  · intro h j hj
    have := adj_seen s hs k hk j hj
    simp only [adjSeen, Bool.and_eq_true, Bool.or_eq_true, beq_iff_eq, Nat.blt_eq] at this
    simp only [ok3, Bool.and_eq_true, Bool.or_eq_true, beq_iff_eq, bne_iff_ne]
    refine ⟨?_, ?_⟩
    · rcases this.1 with e | ⟨e1, e2⟩
      · exact .inl e
      · exact .inr (h _ e2 e1)
    · rcases this.2 with e | ⟨e1, e2⟩
      · exact .inl e
      · exact .inr (h _ e2 e1)
theorem candTo_test (xs : List Int) (s : Int) (k u : Nat) : ∀ v, (candTo xs s k v).testBit u = true ↔ 1 ≤ u ∧ u ≤ v ∧ okTo3 xs s k (u : Int) s.toNat = true := by
  intro v
  induction v with
  | zero => simp [candTo]; omega
  | succ v ih =>
    have hc : ((v : Int) + 1) = ((v + 1 : Nat) : Int) := by omega
    simp only [candTo]
    split
    · next h =>
      rw [hc] at h
      rw [Nat.testBit_or, Bool.or_eq_true, ih, Nat.testBit_two_pow, decide_eq_true_eq]
      constructor
      · rintro (⟨h1, h2, h3⟩ | rfl)
        · exact ⟨h1, by omega, h3⟩
        · exact ⟨by omega, Nat.le_refl _, h⟩
      · rintro ⟨h1, h2, h3⟩
        by_cases e : u = v + 1
        · exact .inr e.symm
        · exact .inl ⟨h1, by omega, h3⟩
    · next h =>
      rw [hc] at h
      rw [ih]
      constructor
      · rintro ⟨h1, h2, h3⟩; exact ⟨h1, by omega, h3⟩
      · rintro ⟨h1, h2, h3⟩
        refine ⟨h1, ?_, h3⟩
        by_cases e : u = v + 1
        · subst e; exact absurd h3 h
        · omega
/-- with a value in an empty cell a fitting grid fits exactly if the value is a candidate. -/
theorem clash_cand {xs : List Int} {s n k v : Nat} (hs : s ∈ [2, 3, 4]) (hn : n = s * s) (hl : xs.length = n) (hc : clash xs s = false) (hk : k < n) (v1 : 1 ≤ v) (v2 : v ≤ s) : clash (xs.set k (v : Int)) s = !((candTo xs s k s).testBit v) := by
  have hT : (candTo xs s k s).testBit v = true ↔ okTo3 xs s k (v : Int) s = true := by
    rw [candTo_test, Int.toNat_natCast]
    exact ⟨fun h => h.2.2, fun h => ⟨v1, v2, h⟩⟩
  rw [ok3_adj hs (by omega)] at hT
  have key : clash (xs.set k (v : Int)) s = true ↔ ¬ ∀ i, i < s * s → adj s i k = true → nth xs i ≠ (v : Int) := by
    rw [clash_iff hs]
    constructor
    · rintro ⟨i, j, hi, hj, ha, he, hp⟩ hall
      rw [nth_set (by omega), nth_set (by omega)] at he
      rw [nth_set (by omega)] at hp
      have hij := (adj_ne s i j).1 ha
      by_cases ek : k = j
      · subst ek
        rw [if_pos rfl, if_neg (fun h => hij h.symm)] at he
        exact hall i hi ha he
      · rw [if_neg ek] at he hp
        by_cases ei : k = i
        · subst ei
          rw [if_pos rfl] at he
          exact hall j hj ((adj_sym s hs k hi j hj).symm.trans ha) he.symm
        · rw [if_neg ei] at he
          have := (clash_iff (xs := xs) hs).2 ⟨i, j, hi, hj, ha, he, hp⟩
          rw [hc] at this; cases this
    · intro h
      simp only [Classical.not_forall, Classical.not_not] at h
      obtain ⟨i, hi, ha, he⟩ := h
      have hik := (adj_ne s i k).1 ha
      refine ⟨i, k, hi, by omega, ha, ?_, ?_⟩
      · rw [nth_set (by omega), nth_set (by omega), if_pos rfl, if_neg (fun h => hik h.symm)]; exact he
      · rw [nth_set (by omega), if_pos rfl]; omega
  cases hb : (candTo xs s k s).testBit v
  · rw [hb] at hT
    have : clash (xs.set k (v : Int)) s = true := key.2 (fun h => by have := hT.2 h; cases this)
    rw [this]; rfl
  · rw [hb] at hT
    cases hcc : clash (xs.set k (v : Int)) s
    · rfl
    · exact absurd (hT.1 rfl) (key.1 hcc)
theorem candN_lt {xs : List Int} {s n : Nat} (hs4 : s ≤ 4) (hok : okAll xs s n) {k : Nat} (hk : k < n) : candN xs s k < 32 := by
  unfold candN
  split
  · have := hok k hk
    exact Nat.pow_lt_pow_right (n := 5) (by omega) (by omega)
  · exact candTo_lt _ _ _ _ (by omega)
theorem candN_test {xs : List Int} {s n : Nat} (hok : okAll xs s n) {k : Nat} (hk : k < n) {u : Nat} (h : (candN xs s k).testBit u = true) : 1 ≤ u ∧ u ≤ s := by
  have hv := hok k hk
  unfold candN at h
  split at h
  · rw [Nat.testBit_two_pow, decide_eq_true_eq] at h
    omega
  · rw [candTo_test, Int.toNat_natCast] at h
    exact ⟨h.1, h.2.1⟩
theorem even_bits : ∀ M, M < 32 → ∀ s ∈ [2, 3, 4], ((∀ u, u < 5 → M.testBit u = true → 1 ≤ u ∧ u ≤ s) → M ≤ 2 ^ (s + 1) - 2 ∧ M % 2 = 0) := by decide +kernel
theorem cand_mask {xs : List Int} {s n : Nat} (hs : s ∈ [2, 3, 4]) (hok : okAll xs s n) {k : Nat} (hk : k < n) : candN xs s k ≤ 2 ^ (s + 1) - 2 ∧ candN xs s k % 2 = 0 :=
  even_bits _ (candN_lt (by simp at hs; omega) hok hk) s hs (fun _ _ h => candN_test hok hk h)
theorem cand_valid {xs : List Int} {size : Int} (hg : gv xs size = true) : mvd (candL xs size) size = true := by
  obtain ⟨s, rfl, hs, hl⟩ := size_nat hg
  have hok : okAll xs s (s * s) := fun k hk => gv_nth hg (by rw [hl]; exact hk)
  have hL : candL xs s = mapTo (candG xs s) (s * s) := by simp [candL, hg, hl]
  obtain ⟨h2, h4⟩ := gv_size hg
  rw [hL]
  have h1 : inr (s : Int) 2 4 = true := by simp [inr, h2, h4]
  have h3 : (mapTo (candG xs s) (s * s)).all (mkOk (2 ^ ((s : Int).toNat + 1) - 2)) = true := by
    refine allTo_all (n := s * s) (fun j hj => ?_) (mapTo_length _ _)
    rw [mapTo_nth hj]
    obtain ⟨m1, m2⟩ := cand_mask hs hok hj
    have hp : ((2 : Int) ^ (s + 1) - 2) = ((2 ^ (s + 1) - 2 : Nat) : Int) := by
      simp at hs
      rcases hs with rfl | rfl | rfl <;> rfl
    simp only [mkOk, candG, Int.toNat_natCast, Bool.and_eq_true, beq_iff_eq]
    rw [hp, Int.tmod_eq_emod_of_nonneg (Int.natCast_nonneg _)]
    refine ⟨by simp only [inr, decide_eq_true_eq]; omega, by omega⟩
  simp only [mvd, h1, h3, mapTo_length, Bool.true_and, Bool.and_true, beq_iff_eq]
  simp
theorem mvd_b64 {xs : List Int} {size : Int} (h : mvd xs size = true) : B64 xs := b64_of rfl fun k hk => by
  have := (mvd_at h).2.2.2 k hk
  omega
theorem candL_b64 (xs : List Int) (size : Int) : B64 (candL xs size) := by
  cases hg : gv xs size
  · have : candL xs size = [] := by simp [candL, hg]
    rw [this]
    exact fun k => by simp [nth]
  · exact mvd_b64 (cand_valid hg)
theorem back_turn : ∀ s ∈ [2, 3, 4], ∀ k, k < s * s → backIx s (turnIx s k) = k := by decide +kernel
theorem cand_turn {xs : List Int} {size : Int} {n k : Nat} (hg : gv xs size = true) (hl : xs.length = n) (hk : k < n) : nth (candL (turnL xs size) size) k = candG xs size (turnIx size k) := by
  have hgt : gv (turnL xs size) size = true := (turn_all hg hl).valid
  have htl : (turnL xs size).length = n := (turn_all hg hl).len
  obtain ⟨s, rfl, hs, hls⟩ := size_nat hg
  obtain rfl : n = s * s := by omega
  have hL : candL (turnL xs s) s = mapTo (candG (turnL xs s) s) (s * s) := by simp [candL, hgt, htl]
  rw [hL, mapTo_nth hk]
  have hpm := turnL_pm hg hl
  have hat : ∀ i, i < s * s → nth (turnL xs s) i = nth xs (turnIx s i) := fun i hi => by rw [hpm, pm_nth hi]
  have htk := turn_lt s hs k hk
  simp only [candG, candN]
  rw [hat k hk]
  split
  · rfl
  · congr 1
    apply Nat.eq_of_testBit_eq
    intro u
    rw [Bool.eq_iff_iff, candTo_test, candTo_test, Int.toNat_natCast, ok3_adj hs hk, ok3_adj hs htk]
    constructor
    · rintro ⟨h1, h2, h3⟩
      refine ⟨h1, h2, fun i hi ha => ?_⟩
      have hb := turn_back s hs i hi
      have hbk := turn_back s hs (turnIx s k) htk
      have := h3 (backIx s i) hb.1 (by
        have h9 := (turn_adj s hs i hi (turnIx s k) htk ha).2
        rwa [back_turn s hs k hk] at h9)
      rw [hat _ hb.1, hb.2] at this
      exact this
    · rintro ⟨h1, h2, h3⟩
      refine ⟨h1, h2, fun i hi ha => ?_⟩
      rw [hat i hi]
      exact h3 _ (turn_lt s hs i hi) (turn_adj s hs i hi k hk ha).1
end Go.Proofs.YtcjdjcpappfkgaaDoor
