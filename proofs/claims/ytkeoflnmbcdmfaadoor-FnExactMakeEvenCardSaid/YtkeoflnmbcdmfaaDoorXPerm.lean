import Derived.Test.YtkeoflnmbcdmfaaDoorXSqN
import Derived.Laws.AppendOwnNone
import Derived.Test.YtkeoflnmbcdmfaaDoorC1
import Derived.Test.YtkeoflnmbcdmfaaDoorSq
import Derived.Test.YtkeoflnmbcdmfaaDoorC1L
import Derived.Deep.RegionHeld3
import Derived.Test.YtkeoflnmbcdmfaaDoorInts
set_option maxRecDepth 8000
namespace Go.Proofs.YtkeoflnmbcdmfaaDoor
open Go.ChangeShapes Go.WideShapes Go.ChangeAt Go.RowKit

/-- the grid with a number; no grid if there are not so many. -/
def sqn (size number : Int) : List Int :=
  if inr size 2 4 = true ∧ 0 ≤ number then ((sols size (size * size).toNat (zeros (size * size).toNat) 0)[number.toNat]?).getD [] else []
theorem zeros_length (n : Nat) : (zeros n).length = n := by simp [zeros]
theorem zeros_nth (n k : Nat) : nth (zeros n) k = 0 := by
  simp only [nth, zeros, List.getD_eq_getElem?_getD, List.getElem?_replicate]
  split <;> rfl
theorem part_zeros (n : Nat) : part (zeros n) 0 n = zeros n := by
  apply ext_nth (by rw [part_length, zeros_length])
  intro k hk
  rw [part_length] at hk
  rw [part_nth _ _ _ _ hk, zeros_nth]
  simp
theorem okAll_zeros {size : Int} (h : 0 ≤ size) (n : Nat) : okAll (zeros n) size n := fun k _ => by rw [zeros_nth]; omega
theorem pickL_getD (L : List (List Int)) (l : Int) : (pickL L l).1 = L[l.toNat]? := by
  unfold pickL
  cases L[l.toNat]? <;> rfl
theorem sqn_length {size number : Int} : (sqn size number).length ≤ 16 := by
  unfold sqn
  split
  · next h =>
    obtain ⟨h2, h4⟩ := inr_t h.1
    have := sq_bd h2 h4
    cases e : (sols size (size * size).toNat (zeros (size * size).toNat) 0)[number.toNat]? with
    | none => simp
    | some y =>
      have := sols_length size _ _ _ y (List.mem_of_getElem? e)
      rw [zeros_length] at this
      simp only [Option.getD_some]
      omega
  · simp

theorem specSquareNumber (size number : Int) (w : World) (_hn0 : -9223372036854775808 ≤ number) (hn1 : number ≤ 9223372036854775807) :
    Calls Tryd.prog 108 #[.int .i64 size, .int .i64 number] w (RetSl w (sqn size number)) := by
  obtain ⟨i0, hi, hz0, hz1, hz2⟩ := info_parts int_info
  cases hs : inr size 2 4
  · have HL := Lib.hid (show sqn size number = [] by simp [sqn, hs])
    go_enter Tryd.func108, Tryd.ntmps108
    go_wp2_with (go_at_call 57; refine (l1In_any _ _ _ _).mono ?_; rintro e w' ⟨rfl, rfl⟩)
    go_ret
    rw [HL.out]
    exact ⟨_, _, rfl, Ow.made0 _ _ (Nat.le_refl _), (Below.refl _ _).alloc (Nat.le_refl _) _⟩
  · obtain ⟨h2, h4⟩ := inr_t hs
    by_cases h0 : number < 0
    · have HL := Lib.hid (show sqn size number = [] by unfold sqn; rw [if_neg (by intro h; omega)])
      go_enter Tryd.func108, Tryd.ntmps108
      go_wp2_with (go_at_call 57; refine (l1In_any _ _ _ _).mono ?_; rintro e w' ⟨rfl, rfl⟩)
      go_ret
      rw [HL.out]
      exact ⟨_, _, rfl, Ow.made0 _ _ (Nat.le_refl _), (Below.refl _ _).alloc (Nat.le_refl _) _⟩
    · have h0' : 0 ≤ number := by omega
      obtain ⟨q4, q16⟩ := sq_bd h2 h4
      obtain ⟨n, hnn⟩ : ∃ n : Nat, (n : Int) = size * size := ⟨(size * size).toNat, Int.toNat_of_nonneg (by omega)⟩
      have hn4 : 4 ≤ n := by omega
      have hn16 : n ≤ 16 := by omega
      have hw : wrap64 (size * size) = (n : Int) := by rw [sq_wrap h2 h4, hnn]
      have Hnn := Lib.hid hnn
      have HL := Lib.hid (show sqn size number = ((sols size n (zeros n) 0)[number.toNat]?).getD [] by
        unfold sqn; rw [if_pos ⟨hs, h0'⟩, ← hnn, Int.toNat_natCast])
      have hpk := Lib.hid ((congrArg Prod.fst (srch_sols size n (zeros n) 0 number h0')).trans (pickL_getD _ _))
      have hln : ∀ y, (sols size n (zeros n) 0)[number.toNat]? = some y → y.length = n := fun y hy => by
        have := sols_length size _ _ _ y (List.mem_of_getElem? hy)
        rwa [zeros_length] at this
      have Hln := Lib.hid hln
      clear hnn hln q4 q16 h0
      have hok := Lib.hid (okAll_zeros (by omega : 0 ≤ size) n)
      go_enter Tryd.func108, Tryd.ntmps108
      go_wp2_with (first | (go_at_call 57; refine (l1In_any _ _ _ _).mono ?_; rintro e w' ⟨rfl, rfl⟩) | (refine wpList_make_full _ rfl (.tmp 19) (.tmp 19) 23 rfl (w.heap.size + 1) 3 i0 (.int .i64 0) 1 Tryd.underlying23 hi hz0 hz1 .i64 .i64 _ _ n rfl rfl hw hw (by rw [hz2]; omega) (by simp only [maxLen]; omega) (by simp) ?_; intro w1 hown hgr))
      have ho1 := made_part (zeros n) hown
      rw [World.size_alloc, part_zeros] at ho1
      have hx0 : Box1 (w.alloc (.cells #[.int .i64 number] 3)) w.heap.size number := heap_alloc_new w _
      have hb0 := made_below hgr (Nat.le_refl _)
      have hx1 := hx0.below hb0
      have hbb := box_below hb0
      clear hown hgr
      have hne : ∀ b off : Nat, (some ⟨w.heap.size + 1, 0, none⟩ : Option Addr) = some ⟨b, off, none⟩ → b ≠ w.heap.size := fun b off he => by cases he; omega
      cases ho : (sols size n (zeros n) 0)[number.toNat]? with
      | none =>
        have HL' := Lib.hid (HL.out.trans (by rw [ho]; rfl : _ = ([] : List Int)))
        have hpk' := Lib.hid (hpk.out.trans ho)
        clear ho
        go_wp2_with (go_at_call 124; refine (specSearch size n w.heap.size h2 h4 Hnn hn4 hn16 n _ _ _ _ 0 number _ (Nat.zero_add _) ho1.rd (Nat.le_refl _) hne hok hx1 h0' hn1).mono ?_; rintro e w2 ⟨hg2, hx2, hp2⟩; rw [hpk'.out] at hp2; obtain rfl := hp2)
        go_ret
        rw [HL'.out]
        exact ⟨_, _, rfl, Ow.made0 _ _ (Nat.le_trans hbb.size hg2.size), (hbb.trans (grown_below hg2 (Nat.le_refl _) hbb.size)).alloc (Nat.le_trans hbb.size hg2.size) _⟩
      | some y =>
        have HL' := Lib.hid (HL.out.trans (by rw [ho]; rfl : _ = y))
        have hpk' := Lib.hid (hpk.out.trans ho)
        have hly := Lib.hid (Hln.out y ho)
        clear ho
        go_wp2_with (first | (go_at_call 124; refine (specSearch size n w.heap.size h2 h4 Hnn hn4 hn16 n _ _ _ _ 0 number _ (Nat.zero_add _) ho1.rd (Nat.le_refl _) hne hok hx1 h0' hn1).mono ?_; rintro e w2 ⟨hg2, hx2, hp2⟩; rw [hpk'.out] at hp2; obtain ⟨A', c', rfl, hr4⟩ := hp2; obtain ⟨b, off, rfl, hbb4, _⟩ := hr4.at_ (k := 0) (by omega)) | (at_builtin; refine push_some rfl (.tmp 24) (.tmp 25) rfl w2.heap.size (some ⟨w2.heap.size, 0, none⟩) 0 0 [] b off n c' w2.heap.size y rfl rfl (Ow.made0 _ _ (Nat.le_refl _)) (hr4.alloc (Nat.le_refl _) _) (by omega) (by omega) (by simp) ?_; intro A5 c5 w5 ho5 hg5))
        go_ret
        rw [HL'.out]
        simp only [Nat.zero_add, List.nil_append] at ho5
        have hb2 := hbb.trans (grown_below hg2 (Nat.le_refl _) hbb.size)
        exact retSl_mk (by simpa only [Nat.zero_add] using ho5.mono hb2.size) ((hb2.alloc hb2.size _).grown hg5 (by simp; have := hb2.size; omega) (fun k hk => Nat.le_trans hb2.size ((Ow.made0 w2 w2.heap.size (Nat.le_refl _)).own_lo k hk)))
end Go.Proofs.YtkeoflnmbcdmfaaDoor
set_option maxRecDepth 8000
namespace Go.Proofs.YtkeoflnmbcdmfaaDoor
open Go.ChangeShapes Go.WideShapes Go.ChangeAt Go.RowKit

theorem lit_cell {w w2 : World} {cs : Array Value} {t : TypeId} {G : Nat} (hg : (w.alloc (.cells cs t)).grownBy w2 (some G)) (hG : G < w.heap.size) (i : Nat) : w2.cell? ⟨w.heap.size, i, none⟩ = cs[i]? := by
  have h := hg.block w.heap.size (by simp) (fun e => by injection e with e; omega)
  exact cell_of_row _ _ i cs t (0, 0) (h.trans (heap_alloc_new w _))
theorem only_alloc {a w : World} {row : Option Nat} (h : a.grownBy w row) (o : Obj) : a.grownBy (w.alloc o) row :=
  ⟨h.os, h.tape, h.output, Nat.le_trans h.size (by simp), fun i hi hne => (Below.heap_alloc w o i (Nat.lt_of_lt_of_le hi h.size)).trans (h.block i hi hne)⟩
theorem only_set {a w : World} {row : Option Nat} (h : a.grownBy w row) {p : Addr} (hp : a.heap.size ≤ p.block) (u : Value) : a.grownBy (w.setCell p u) row :=
  ⟨h.os, h.tape, h.output, by simpa [World.setCell] using h.size, fun i hi hne => (Below.heap_setCell w p u i (by omega)).trans (h.block i hi hne)⟩
theorem grown_of_alloc {w w2 : World} {o : Obj} {G : Nat} (h : (w.alloc o).grownBy w2 (some G)) : w.grownBy w2 (some G) := (only_alloc (World.grownBy.refl w _) o).trans h
theorem Ow.keptG {w w' : World} {lo G : Nat} {A : Option Addr} {n c : Nat} {xs : List Int} (h : Ow w lo A n c xs) (hg : w.grownBy w' (some G)) (hG : G < lo) : Ow w' lo A n c xs := by
  refine World.ownsRow.kept h hg ?_
  cases e : (Value.slice A n c).ownBlock with
  | none => exact .inl rfl
  | some g =>
    refine .inr fun he => ?_
    have h1 := h.own_lo g e
    injection he with he
    omega

theorem Rdr.more {w : World} {B G P P' : Nat} (h : Rdr w B G P) (hP : P ≤ P') : Rdr w B G P' := by
  obtain ⟨A, n, c, p, bs, h1, h2, h3, h4, h5⟩ := h
  exact ⟨A, n, c, p, bs, h1, h2, by omega, h4, h5⟩
theorem Rdr.lt {w : World} {B G P : Nat} (h : Rdr w B G P) : G < w.heap.size := by
  obtain ⟨A, n, c, p, bs, h1, _⟩ := h
  exact cell_lt (p := ⟨G, 0, none⟩) (cell_of_row _ _ 0 _ _ _ h1)
theorem Rdr.alloc {w : World} {B G P : Nat} (h : Rdr w B G P) (hB : B ≤ w.heap.size) (o : Obj) : Rdr (w.alloc o) B G P := by
  have hlt := h.lt
  obtain ⟨A, n, c, p, bs, h1, h2, h3, h4, h5⟩ := h
  exact ⟨A, n, c, p, bs, (Below.heap_alloc w o G hlt).trans h1, h2, h3, h4, h5.below ((Below.refl _ _).alloc hB o)⟩
theorem Rdr.set_ {w : World} {B G P : Nat} (h : Rdr w B G P) {q : Addr} (hB : B ≤ q.block) (hne : q.block ≠ G) (u : Value) : Rdr (w.setCell q u) B G P := by
  obtain ⟨A, n, c, p, bs, h1, h2, h3, h4, h5⟩ := h
  exact ⟨A, n, c, p, bs, (Below.heap_setCell w q u G (fun e => hne e.symm)).trans h1, h2, h3, h4, h5.below ((Below.refl _ _).setCell hB u)⟩
theorem Rdr.below {w w' : World} {B G P : Nat} (h : Rdr w B G P) (hb : Below w.heap.size w w') (hB : B ≤ w.heap.size) : Rdr w' B G P := by
  have hlt := h.lt
  obtain ⟨A, n, c, p, bs, h1, h2, h3, h4, h5⟩ := h
  exact ⟨A, n, c, p, bs, (hb.block G hlt).trans h1, h2, h3, h4, h5.below (hb.mono hB)⟩

/-- the post of a draw that hands back an int with Q. -/
def DrewInt (w : World) (B G P : Nat) (Q : Int → Prop) (e : Ending) (w' : World) : Prop := ∃ v : Int, e = .returned (.int .i64 v) ∧ Q v ∧ Rdr w' B G P ∧ w.grownBy w' (some G)
def DrewBool (w : World) (B G P : Nat) (Q : Bool → Prop) (e : Ending) (w' : World) : Prop := ∃ v : Bool, e = .returned (.bool v) ∧ Q v ∧ Rdr w' B G P ∧ w.grownBy w' (some G)
theorem specOpen (A : Option Addr) (c n : Nat) (bs : List Int) (w : World) (h : RdB w w.heap.size A n bs) (hc : n ≤ c) (hm : c ≤ 9223372036854775807) :
    Calls Tryd.prog 47 #[.slice A n c] w fun e w' => e = .returned (.pointer (some ⟨w.heap.size, 0, none⟩)) ∧ Rdr w' w.heap.size w.heap.size 0 ∧ Below w.heap.size w w' := by
  have hal : ∀ (m : Nat) (A' : Option Addr) (c' : Nat) (bs' : List Int), m ≤ 2000 → RdB w w.heap.size A' m bs' → Rdr (w.alloc (.cells #[.slice A' m c', .int .i64 0] 91)) w.heap.size w.heap.size 0 := fun m A' c' bs' hm' hr' =>
    ⟨A', m, c', 0, bs', heap_alloc_new w _, by omega, by omega, hm', hr'.below ((Below.refl _ _).alloc (Nat.le_refl _) _)⟩
  have Hal := Lib.hid hal; clear hal
  by_cases hn : n ≤ 2000
  · go_enter Tryd.func47, Tryd.ntmps47
    go_wp2
    go_ret
    exact ⟨rfl, Hal.out _ _ _ _ hn h, (Below.refl _ _).alloc (Nat.le_refl _) _⟩
  · have h2 : RdB w w.heap.size A 2000 (bs.take 2000) := by
      have e : ∀ k, k < 2000 → nth (bs.take 2000) k = nth bs k := fun k hk => by
        simp [nth, List.getD_eq_getElem?_getD, hk]
      refine ⟨by rw [List.length_take, h.1]; omega, fun _ => ?_, fun k hk => by rw [e k hk]; exact h.2.2 k (by omega)⟩
      obtain ⟨b, off, he, hb, hcc⟩ := h.2.1 (by omega)
      exact ⟨b, off, he, hb, fun k hk => by rw [e k hk]; exact hcc k (by omega)⟩
    go_enter Tryd.func47, Tryd.ntmps47
    go_wp2
    go_ret
    exact ⟨rfl, Hal.out _ _ _ _ (by omega) h2, (Below.refl _ _).alloc (Nat.le_refl _) _⟩
theorem odd_any (B G P : Nat) (m : Int) (w : World) (h : Rdr w B G P) (hBG : B ≤ G) (hP : P ≤ 1000000) (hm : m ≤ 1000000) :
    Calls Tryd.prog 86 #[.pointer (some ⟨G, 0, none⟩), .int .i64 m] w (DrewBool w B G (P + 1) (fun b => m ≤ 0 → b = false)) := by
  by_cases h0 : 0 < m
  · go_enter Tryd.func86, Tryd.ntmps86
    go_wp2_with (go_at_call 62; refine (pick_any B G P _ _ h hBG (by omega)).mono ?_; rintro e w1 ⟨v, rfl, hv, hr1, hg1⟩)
    go_ret
    exact ⟨_, rfl, fun hh => by omega, hr1, hg1⟩
  · go_enter Tryd.func86, Tryd.ntmps86
    go_wp2
    go_ret
    refine ⟨false, rfl, ?_, h.more (by omega), World.grownBy.refl _ _⟩
    simp
theorem l20Size_any (B G P : Nat) (m : Int) (w : World) (h : Rdr w B G P) (hBG : B ≤ G) (hP : P ≤ 1000000) (hm : m ≤ 1000000) :
    Calls Tryd.prog 80 #[.pointer (some ⟨G, 0, none⟩), .int .i64 m] w (DrewInt w B G (P + 2) (fun s => -1 ≤ s ∧ s ≤ 5 ∧ (m ≤ 0 → 2 ≤ s ∧ s ≤ 4))) := by
  go_enter Tryd.func80, Tryd.ntmps80
  go_wp2_with fail
  refine (odd_any B G P _ _ h hBG hP hm).mono ?_
  rintro e w1 ⟨b, rfl, hb, hr1, hg1⟩
  have hsz := hr1.lt
  have hlt := h.lt
  have hB1 : B ≤ w1.heap.size := by omega
  cases b
  · go_wp2_with fail
    refine (pick_any B G (P + 1) _ _ (hr1.alloc hB1 _) hBG (by omega)).mono ?_
    rintro e w2 ⟨v, rfl, ⟨v0, v1, _⟩, hr2, hg2⟩
    have hc := fun i => lit_cell hg2 hsz i
    have Hc := Lib.hid hc; clear hc
    have hg := hg1.trans (grown_of_alloc hg2)
    have hv : v = 0 ∨ v = 1 ∨ v = 2 ∨ v = 3 ∨ v = 4 := by have := v1 (by omega); omega
    clear v0 v1
    rcases hv with rfl | rfl | rfl | rfl | rfl
    · have hc := Hc.out 0
      simp at hc
      go_wp2
      go_ret
      exact ⟨_, rfl, by omega, hr2, hg⟩
    · have hc := Hc.out 1
      simp at hc
      go_wp2
      go_ret
      exact ⟨_, rfl, by omega, hr2, hg⟩
    · have hc := Hc.out 2
      simp at hc
      go_wp2
      go_ret
      exact ⟨_, rfl, by omega, hr2, hg⟩
    · have hc := Hc.out 3
      simp at hc
      go_wp2
      go_ret
      exact ⟨_, rfl, by omega, hr2, hg⟩
    · have hc := Hc.out 4
      simp at hc
      go_wp2
      go_ret
      exact ⟨_, rfl, by omega, hr2, hg⟩
  · have hm0 : ¬ m ≤ 0 := fun hh => by simpa using hb hh
    go_wp2_with fail
    refine (pick_any B G (P + 1) _ _ (hr1.alloc hB1 _) hBG (by omega)).mono ?_
    rintro e w2 ⟨v, rfl, ⟨v0, v1, _⟩, hr2, hg2⟩
    have hc := fun i => lit_cell hg2 hsz i
    have Hc := Lib.hid hc; clear hc
    have hg := hg1.trans (grown_of_alloc hg2)
    have hv : v = 0 ∨ v = 1 ∨ v = 2 := by have := v1 (by omega); omega
    clear v0 v1
    rcases hv with rfl | rfl | rfl
    · have hc := Hc.out 0
      simp at hc
      go_wp2
      go_ret
      exact ⟨_, rfl, by omega, hr2, hg⟩
    · have hc := Hc.out 1
      simp at hc
      go_wp2
      go_ret
      exact ⟨_, rfl, by omega, hr2, hg⟩
    · have hc := Hc.out 2
      simp at hc
      go_wp2
      go_ret
      exact ⟨_, rfl, by omega, hr2, hg⟩
def manyOf (size : Int) : Int := if size = 2 then 2 else if size = 3 then 12 else 576
theorem sols_many {size : Int} (h2 : 2 ≤ size) (h4 : size ≤ 4) : ((sols size (size * size).toNat (zeros (size * size).toNat) 0).length : Int) = manyOf size := by
  have : size = 2 ∨ size = 3 ∨ size = 4 := by omega
  rcases this with rfl | rfl | rfl
  · have e : ((2 : Int) * 2).toNat = 4 := rfl
    rw [e, sols2]; rfl
  · have e : ((3 : Int) * 3).toNat = 9 := rfl
    rw [e, sols3]; rfl
  · have e : ((4 : Int) * 4).toNat = 16 := rfl
    rw [e, sols4]; rfl
theorem sqn_mem {size number : Int} (h2 : 2 ≤ size) (h4 : size ≤ 4) (h0 : 0 ≤ number) (h1 : number < manyOf size) : sqn size number ∈ sols size (size * size).toNat (zeros (size * size).toNat) 0 := by
  have hs : inr size 2 4 = true := by simp [inr, h2, h4]
  have hl : number.toNat < (sols size (size * size).toNat (zeros (size * size).toNat) 0).length := by
    have := sols_many h2 h4
    omega
  unfold sqn
  rw [if_pos ⟨hs, h0⟩, List.getElem?_eq_getElem hl, Option.getD_some]
  exact List.getElem_mem hl
theorem many_facts (size : Int) : 2 ≤ manyOf size ∧ manyOf size ≤ 576 := by
  unfold manyOf; split
  · omega
  · split <;> omega
/-- the post of the draw of a solved grid. -/
def DrewSolved (w : World) (B G P : Nat) (size : Int) (e : Ending) (w' : World) : Prop :=
  ∃ A n c xs, e = .returned (.slice A n c) ∧ Ow w' w.heap.size A n c xs ∧ (n : Int) = size * size ∧ xs ∈ sols size n (zeros n) 0 ∧ Rdr w' B G P ∧ w.grownBy w' (some G)
theorem l20Solved_any (B G P : Nat) (size : Int) (w : World) (h : Rdr w B G P) (hBG : B ≤ G) (hP : P ≤ 1000000) (h2 : 2 ≤ size) (h4 : size ≤ 4) :
    Calls Tryd.prog 81 #[.pointer (some ⟨G, 0, none⟩), .int .i64 size] w (DrewSolved w B G (P + 2) size) := by
  have hGlt := h.lt
  have hBw : B ≤ w.heap.size := by omega
  obtain ⟨m0, m1⟩ := many_facts size
  have key : ∀ (v : Int) (w1 : World) (e : Ending) (w2 : World), 0 ≤ v → v < manyOf size → w.grownBy w1 (some G) → Rdr w1 B G (P + 2) → RetSl w1 (sqn size v) e w2 → DrewSolved w B G (P + 2) size e w2 := by
    intro v w1 e w2 hv0 hv1 hg1 hr1 ⟨A, c, he, ho, hb⟩
    have hm := sqn_mem h2 h4 hv0 hv1
    have hl := sols_length size _ _ _ _ hm
    rw [zeros_length] at hl
    obtain ⟨q4, q16⟩ := sq_bd h2 h4
    refine ⟨A, _, c, _, he, ho.mono hg1.size, by rw [hl]; exact Int.toNat_of_nonneg (by omega), by rw [hl]; exact hm, hr1.below hb (by have := hg1.size; omega), below_grown hg1 hb⟩
  have Key := Lib.hid key; clear key
  have hsz : size = 2 ∨ size = 3 ∨ size = 4 := by omega
  rcases hsz with rfl | rfl | rfl
  all_goals
    go_enter Tryd.func81, Tryd.ntmps81
    go_wp2_with fail
    refine (pick_any B G P _ _ (h.alloc hBw _) hBG (by omega)).mono ?_
    rintro e w1 ⟨v, rfl, ⟨v0, v1, _⟩, hr1, hg1⟩
    have hv1 := v1 (by omega)
    clear v1
    go_wp2_with fail
    refine (pick_any B G (P + 1) _ _ hr1 hBG (by omega)).mono ?_
    rintro e w2 ⟨u, rfl, ⟨u0, u1, _⟩, hr2, hg2⟩
    have hu1 := u1 (by omega)
    clear u1
    have hg := (grown_of_alloc hg1).trans hg2
    go_wp2_with fail
    refine (specSquareNumber _ _ _ (by omega) (by omega)).mono ?_
    intro e w3 hp
    have hd := Key.out _ _ _ _ (by omega) (by simp only [manyOf]; omega) hg hr2 hp
    obtain ⟨A, n, c, xs, rfl, hrest⟩ := hd
    go_wp2
    go_ret
    exact ⟨A, n, c, xs, rfl, hrest⟩
end Go.Proofs.YtkeoflnmbcdmfaaDoor
set_option maxRecDepth 8000
namespace Go.Proofs.YtkeoflnmbcdmfaaDoor
open Go.ChangeShapes Go.WideShapes Go.ChangeAt Go.RowKit

theorem okAll_set' {xs : List Int} {size v : Int} {n p : Nat} (h : okAll xs size n) (v0 : 0 ≤ v) (v1 : v ≤ size) : okAll (xs.set p v) size n := by
  intro k hk
  by_cases hp : p < xs.length
  · rw [nth_set hp]
    split
    · exact ⟨v0, v1⟩
    · exact h k hk
  · rw [List.set_eq_of_length_le (by omega)]
    exact h k hk
theorem sols_ok {size : Int} (hs : 0 ≤ size) (n : Nat) : ∀ (f : Nat) (xs : List Int) (p : Nat), okAll xs size n → ∀ y, y ∈ sols size f xs p → okAll y size n := by
  intro f
  induction f with
  | zero => intro xs p h y hy; simp [sols] at hy; subst hy; exact h
  | succ f ih =>
    intro xs p h y hy
    refine solsFrom_all (P := fun y => okAll y size n) _ _ (fun u y h1 h2 hy => ?_) y hy
    exact ih _ _ (okAll_set' h (by omega) (by omega)) y hy
theorem okAll_gv {xs : List Int} {size : Int} {n : Nat} (hl : xs.length = n) (hn : (n : Int) = size * size) (h2 : 2 ≤ size) (h4 : size ≤ 4) (h : okAll xs size n) : gv xs size = true := by
  have h1 : inr size 2 4 = true := by simp [inr, h2, h4]
  have h3 : xs.all (fun x => inr x 0 size) = true := okTo_all (n := n) (fun j hj => by have := h j hj; simp [inr, this]) hl
  simp [gv, h1, h3, hl, hn]

theorem Ow.put {w : World} {lo g n c : Nat} {xs : List Int} (h : Ow w lo (some ⟨g, 0, none⟩) n c xs) (k : Nat) (v : Int) : Ow (w.setCell ⟨g, k, none⟩ (.int .i64 v)) lo (some ⟨g, 0, none⟩) n c (xs.set k v) := by
  have := (World.ownsRow.stored h k (.int .i64 v)).1
  rw [vals_set] at this
  exact this

def DrewGrid (w : World) (B G P : Nat) (m : Int) (e : Ending) (w' : World) : Prop :=
  ∃ A n c xs s, e = .returned (.tuple #[.slice A n c, .int .i64 s]) ∧ Rd w' w'.heap.size A n xs ∧ (n ≤ 16 ∧ n ≤ c ∧ c ≤ 9223372036854775807) ∧ -1 ≤ s ∧ s ≤ 5 ∧ (m ≤ 0 → gv xs s = true) ∧ Rdr w' B G P ∧ w.grownBy w' (some G) ∧ Hid (∀ a, A = some a → w.heap.size ≤ a.block)

theorem Ow.cap {w : World} {lo : Nat} {A : Option Addr} {n c : Nat} {xs : List Int} (h : Ow w lo A n c xs) (hn : 0 < n) : n ≤ c ∧ c ≤ maxLen := by
  rcases h.2 with ⟨h', h0⟩ | ⟨g, cap, cur, hv, _, _, hnc, hcm, _⟩
  · omega
  · injection hv with _ _ hc
    subst hc
    exact ⟨hnc, hcm⟩
theorem rd_drop {w : World} {B g n : Nat} {xs : List Int} (h : Rd w B (some ⟨g, 0, none⟩) n xs) (hn : 1 ≤ n) : Rd w B (some ⟨g, 1, none⟩) (n - 1) (xs.drop 1) := by
  refine ⟨by rw [List.length_drop, h.1], fun h0 => ?_⟩
  obtain ⟨b, off, he, hb, hc⟩ := h.2 (by omega)
  cases he
  refine ⟨_, _, rfl, hb, fun k hk => ?_⟩
  have := hc (k + 1) (by omega)
  rw [Nat.zero_add] at this
  rw [Nat.add_comm 1 k, this]
  simp [nth, List.getD_eq_getElem?_getD]
set_option maxHeartbeats 1600000 in
theorem l20Grid_any (B G P : Nat) (m : Int) (w : World) (h : Rdr w B G P) (hBG : B ≤ G) (hP : P ≤ 1000) (hm : m ≤ 1000000) :
    Calls Tryd.prog 76 #[.pointer (some ⟨G, 0, none⟩), .int .i64 m] w (DrewGrid w B G (P + 100) m) := by
  have hG0 := h.lt
  go_enter Tryd.func76, Tryd.ntmps76
  go_wp2_with fail
  refine (l20Size_any B G P _ _ h hBG (by omega) (by omega)).mono ?_
  rintro e w1 ⟨size, rfl, ⟨_, _, hsz⟩, hr1, hg1⟩
  obtain ⟨h2, h4⟩ := hsz (Int.le_refl _)
  clear hsz
  go_wp2_with fail
  refine (l20Solved_any B G (P + 2) _ _ hr1 hBG (by omega) h2 h4).mono ?_
  rintro e w2 ⟨A, n, c, xs0, rfl, ho2, hn, hmem, hr2, hg2⟩
  obtain ⟨q4, q16⟩ := sq_bd h2 h4
  have hn4 : 4 ≤ n := by omega
  have hn16 : n ≤ 16 := by omega
  have Hn := Lib.hid hn
  clear q4 q16 hn
  have hok0 := sols_ok (by omega : 0 ≤ size) n _ _ _ (okAll_zeros (by omega) n) _ hmem
  obtain ⟨g, rfl, hlo2, hgw2⟩ := ho2.form (by omega)
  have hlo := hg1.size
  have hGg : G < g := by omega
  have hg12 := hg1.trans hg2
  have ho := ho2.mono hlo
  clear ho2 hmem hlo2 hgw2 hg1 hr1 hg2
  go_wp2_with fail
  refine (pick_any B G (P + 4) _ _ hr2 hBG (by omega)).mono ?_
  rintro e w3 ⟨hol, rfl, _, hr3, hg3⟩
  have ho3 := ho.keptG hg3 hG0
  have hg13 := hg12.trans hg3
  clear ho hg12 hg3 hr2
  go_wp2
  go_loopw [9] (fun i wr => ∃ (k : Nat) (xs : List Int), k ≤ n ∧ i = .int .i64 k ∧ Ow wr w.heap.size (some ⟨g, 0, none⟩) n c xs ∧ Hid (okAll xs size n) ∧ Rdr wr B G (P + 10 + k) ∧ w.grownBy wr (some G)) (fun i _ => n - (intOf i).toNat)
  case atStart => exact ⟨0, xs0, by omega, rfl, ho3, Lib.hid hok0, hr3.more (by omega), hg13⟩
  case round =>
    clear ho3 hok0 hr3 hg13
    obtain ⟨k, xs, hk, rfl, ho, hok, hr, hg⟩ := hrel
    by_cases hlt : k < n
    · go_wp2_with fail
      refine (pick_any B G (P + 10 + k) _ _ hr hBG (by omega)).mono ?_
      rintro e w4 ⟨v, rfl, _, hr4, hg4⟩
      have ho4 := ho.keptG hg4 hG0
      have hg14 := hg.trans hg4
      by_cases hv : v < hol
      · obtain ⟨hc, hf⟩ := ho4.cell hlt
        have ho5 := Lib.hid (ho4.put k 0)
        go_wp2
        go_roundw
        case rel => exact ⟨k + 1, xs.set k 0, by omega, by go_num, ho5.out, Lib.hid (okAll_set' hok.out (by omega) (by omega)), (hr4.set_ (q := ⟨g, k, none⟩) (by simp; omega) (by simp; omega) _).more (by omega), only_set hg14 (by simp; have := ho4.own_lo g rfl; omega) _⟩
        case measure => simp [intOf]; omega
      · go_wp2
        go_roundw
        case rel => exact ⟨k + 1, xs, by omega, by go_num, ho4, hok, hr4.more (by omega), hg14⟩
        case measure => simp [intOf]; omega
    · obtain rfl : k = n := by omega
      go_wp2_with fail
      refine (pick_any B G (P + 10 + k) _ _ hr hBG (by omega)).mono ?_
      rintro e w4 ⟨v, rfl, ⟨v0, v1, _⟩, hr4, hg4⟩
      have v2 := v1 (by omega)
      have ho4 := ho.keptG hg4 hG0
      have hg14 := hg.trans hg4
      clear v1 ho hg hr hg4
      go_wp2
      go_loopw [10] (fun i wr => ∃ (j : Int) (xs : List Int), j ≤ 2 ∧ i = .int .i64 j ∧ Ow wr w.heap.size (some ⟨g, 0, none⟩) k c xs ∧ Hid (okAll xs size k) ∧ Rdr wr B G (P + 50 - (4 * j).toNat) ∧ w.grownBy wr (some G)) (fun i _ => (intOf i + 5).toNat)
      case atStart => exact ⟨v, xs, by omega, rfl, ho4, hok, hr4.more (by omega), hg14⟩
      case round =>
        obtain ⟨j, xs, hj2, rfl, ho, hok, hr, hg⟩ := hrel
        by_cases hj : 1 < j
        · go_wp2_with fail
          refine (pick_any B G _ _ _ hr hBG (by omega)).mono ?_
          rintro e w5 ⟨q, rfl, ⟨q0, q1, _⟩, hr5, hg5⟩
          have q2 := q1 (by omega)
          clear q1
          have ho5 := ho.keptG hg5 hG0
          go_wp2_with fail
          refine (pick_any B G _ _ _ hr5 hBG (by omega)).mono ?_
          rintro e w6 ⟨u, rfl, ⟨u0, u1, _⟩, hr6, hg6⟩
          have u2 := u1 (by omega)
          clear u1
          have ho6 := ho5.keptG hg6 hG0
          have hg16 := (hg.trans hg5).trans hg6
          obtain ⟨i, rfl⟩ := Int.eq_ofNat_of_zero_le q0
          have hik : i < k := by omega
          obtain ⟨hc, hf⟩ := ho6.cell hik
          have ho7 := Lib.hid (ho6.put i u)
          go_wp2
          go_roundw
          case rel => exact ⟨j - 1, xs.set i u, by omega, by go_num, ho7.out, Lib.hid (okAll_set' hok.out (by omega) (by omega)), (hr6.set_ (q := ⟨g, i, none⟩) (by simp; omega) (by simp; omega) _).more (by omega), only_set hg16 (by simp; have := ho6.own_lo g rfl; omega) _⟩
          case measure => simp [intOf]; omega
        · have hgv := okAll_gv ho.len Hn.out h2 h4 hok.out
          have hcap := ho.cap (by omega)
          unfold maxLen at hcap
          obtain ⟨hcap1, hcap2⟩ := hcap
          go_wp2_with fail
          refine (odd_any B G (P + 55) _ _ (hr.more (by omega)) hBG (by omega) hm).mono ?_
          rintro e w5 ⟨b, rfl, hb, hr5, hg5⟩
          have ho5 := ho.keptG hg5 hG0
          have hg15 := hg.trans hg5
          clear ho hr hg hg5 hok
          have hfin : ∀ (A : Option Addr) (n' c' : Nat) (ys : List Int) (s : Int) (W : World), Rd W W.heap.size A n' ys → (n' ≤ 16 ∧ n' ≤ c' ∧ c' ≤ 9223372036854775807) → -1 ≤ s → s ≤ 5 → (m ≤ 0 → gv ys s = true) → Rdr W B G (P + 100) → w.grownBy W (some G) → Hid (∀ a, A = some a → w.heap.size ≤ a.block) →
              DrewGrid w B G (P + 100) m (.returned (.tuple #[.slice A n' c', .int .i64 s])) W := fun A n' c' ys s W a1 a2 a3 a4 a5 a6 a7 a8 => ⟨A, n', c', ys, s, rfl, a1, a2, a3, a4, a5, a6, a7, a8⟩
          have Hfin := Lib.hid hfin; clear hfin
          have Hgv := Lib.hid hgv; clear hgv
          have hwg := ho5.own_lo g rfl
          have hf0 : Hid (∀ a, (some ⟨g, 0, none⟩ : Option Addr) = some a → w.heap.size ≤ a.block) := Lib.hid (fun a ha => by cases ha; exact hwg)
          have hf1 : Hid (∀ a, (some ⟨g, 1, none⟩ : Option Addr) = some a → w.heap.size ≤ a.block) := Lib.hid (fun a ha => by cases ha; exact hwg)
          cases b
          · go_wp2
            go_ret2
            exact Hfin.out _ _ _ _ _ _ ho5.rd (by omega) (by omega) (by omega) (fun _ => Hgv.out) (hr5.more (by omega)) hg15 hf0
          · have hm0 : ¬ m ≤ 0 := fun hh => by simpa using hb hh
            clear hb
            go_wp2_with fail
            refine (pick_any B G _ _ _ hr5 hBG (by omega)).mono ?_
            rintro e w6 ⟨q, rfl, ⟨q0, q1, _⟩, hr6, hg6⟩
            have ho6 := ho5.keptG hg6 hG0
            have hg16 := hg15.trans hg6
            clear ho5 hr5 hg15 hg6
            have hq : q = 0 ∨ q = 1 ∨ q = 2 := by have := q1 (by omega); omega
            clear q0 q1
            rcases hq with rfl | rfl | rfl
            · go_wp2_with fail
              refine (pick_any B G _ _ _ hr6 hBG (by omega)).mono ?_
              rintro e w7 ⟨q, rfl, ⟨q0, q1, _⟩, hr7, hg7⟩
              have q2 := q1 (by omega)
              clear q1
              have ho7 := ho6.keptG hg7 hG0
              have hg17 := hg16.trans hg7
              have hB7 : B ≤ w7.heap.size := by have := hr7.lt; omega
              have hl7 := hr7.lt
              go_wp2_with fail
              refine (pick_any B G _ _ _ (hr7.alloc hB7 _) hBG (by omega)).mono ?_
              rintro e w8 ⟨u, rfl, ⟨u0, u1, _⟩, hr8, hg8⟩
              have hc0 := lit_cell hg8 hl7 0
              have hc1 := lit_cell hg8 hl7 1
              simp at hc0 hc1
              have ho8 := ho7.keptG (grown_of_alloc hg8) hG0
              have hg18 := hg17.trans (grown_of_alloc hg8)
              have hu : u = 0 ∨ u = 1 := by have := u1 (by omega); omega
              clear u0 u1
              obtain ⟨i, rfl⟩ := Int.eq_ofNat_of_zero_le q0
              have hik : i < k := by omega
              obtain ⟨hc, hf⟩ := ho8.cell hik
              have hlog := ho8.own_lo g rfl
              rcases hu with rfl | rfl
              · have ho9 := Lib.hid (ho8.put i (-1))
                go_wp2
                go_ret2
                exact Hfin.out _ _ _ _ _ _ ho9.out.rd (by omega) (by omega) (by omega) (fun hh => absurd hh (by omega)) ((hr8.set_ (q := ⟨g, i, none⟩) (by simp; omega) (by simp; omega) _).more (by omega)) (only_set hg18 (by simp; omega) _) hf0
              · have ho9 := Lib.hid (ho8.put i (size + 1))
                go_wp2
                go_ret2
                exact Hfin.out _ _ _ _ _ _ ho9.out.rd (by omega) (by omega) (by omega) (fun hh => absurd hh (by omega)) ((hr8.set_ (q := ⟨g, i, none⟩) (by simp; omega) (by simp; omega) _).more (by omega)) (only_set hg18 (by simp; omega) _) hf0
            · have hrd := Lib.hid (rd_drop ho6.rd (by omega))
              go_wp2
              go_ret2
              exact Hfin.out _ _ _ _ _ _ hrd.out (by omega) (by omega) (by omega) (fun hh => absurd hh (by omega)) (hr6.more (by omega)) hg16 hf1
            · go_wp2_with fail
              refine (l20Size_any B G _ _ _ hr6 hBG (by omega) (by omega)).mono ?_
              rintro e w7 ⟨s, rfl, ⟨s0, s1, _⟩, hr7, hg7⟩
              have ho7 := ho6.keptG hg7 hG0
              go_wp2
              go_ret2
              exact Hfin.out _ _ _ _ _ _ ho7.rd (by omega) (by omega) (by omega) (fun hh => absurd hh (by omega)) (hr7.more (by omega)) (hg16.trans hg7) hf0
end Go.Proofs.YtkeoflnmbcdmfaaDoor
set_option maxRecDepth 8000
namespace Go.Proofs.YtkeoflnmbcdmfaaDoor
open Go.ChangeShapes Go.WideShapes Go.ChangeAt Go.RowKit
/-! A rule that can hold can hold with fewer values known; with all values known it can hold exactly if it holds. -/
theorem bits_iff {M u : Nat} {y : Int} : y ∈ bitsTo M u ↔ ∃ t : Nat, y = (t : Int) ∧ 1 ≤ t ∧ t ≤ u ∧ M.testBit t = true := by
  induction u with
  | zero => simp [bitsTo]; intro t _ h1 h2; omega
  | succ u ih =>
    simp only [bitsTo, List.mem_append, ih]
    constructor
    · rintro (⟨t, h1, h2, h3, h4⟩ | h)
      · exact ⟨t, h1, h2, by omega, h4⟩
      · split at h
        · next hb => exact ⟨u + 1, by simpa using h, by omega, Nat.le_refl _, hb⟩
        · cases h
    · rintro ⟨t, h1, h2, h3, h4⟩
      by_cases e : t = u + 1
      · subst e; right; rw [if_pos h4]; simpa using h1
      · left; exact ⟨t, h1, h2, by omega, h4⟩
theorem allW_mono {ms ms' : List Int} : ∀ (d : Nat) (vs ys : List Int), (∀ i, vs.length ≤ i → i < vs.length + d → ∀ t, 1 ≤ t → t ≤ 4 → (nth ms i).toNat.testBit t = true → (nth ms' i).toNat.testBit t = true) → ys ∈ allW ms d vs → ys ∈ allW ms' d vs := by
  intro d
  induction d with
  | zero => intro vs ys _ h; exact h
  | succ d ih =>
    intro vs ys hb h
    simp only [allW, List.mem_flatMap] at h ⊢
    obtain ⟨x, hx, h⟩ := h
    obtain ⟨t, rfl, t1, t2, t3⟩ := bits_iff.1 hx
    refine ⟨(t : Int), bits_iff.2 ⟨t, rfl, t1, t2, hb _ (Nat.le_refl _) (by omega) t t1 t2 t3⟩, ih _ _ (fun i h1 h2 => ?_) h⟩
    rw [List.length_append, List.length_singleton] at h1 h2
    exact hb i (by omega) (by omega)
theorem em_bits : ∀ s ∈ [2, 3, 4], ∀ v, v < 5 → v ≤ s → ∀ t, t < 5 → 1 ≤ t → (2 ^ v).testBit t = true → (2 ^ (s + 1) - 2).testBit t = true := by decide
theorem emL_nth {g : List Int} {s : Nat} {i : Nat} (h : i < g.length) : (nth (emL g s) i).toNat = emN g s i := by
  unfold emL
  rw [mapTo_nth h]
  simp [emG]
theorem rp_mono {k v : Int} {s : Nat} {xs g g' : List Int} (hv : rv k xs v s = true) (hg : gv g s = true) (hg' : gv g' s = true) (hs : s ∈ [2, 3, 4]) (h : ∀ i, i < g.length → nth g' i = nth g i ∨ nth g' i = 0) (hp : rpB k xs v g s = true) : rpB k xs v g' s = true := by
  obtain ⟨_, _, _, hx⟩ := rv_facts rfl hv
  have hl := gv_len hg
  have hl' := gv_len hg'
  rw [rp_ways rfl hv hg hs] at hp
  rw [rp_ways rfl hv hg' hs]
  simp only [Bool.not_eq_true', List.isEmpty_eq_false_iff_exists_mem, List.mem_filter] at hp ⊢
  obtain ⟨ys, hy, hh⟩ := hp
  refine ⟨ys, allW_mono _ _ _ (fun i _ hi t t1 t4 hb => ?_) hy, hh⟩
  have hi' : i < xs.length := by simpa using hi
  rw [emL_nth (by rw [pks_length]; exact hi')] at hb ⊢
  obtain ⟨x0, x1⟩ := hx i hi'
  have hlt : (nth xs i).toNat < g.length := by omega
  unfold emN at hb ⊢
  rw [pks_nth hi'] at hb ⊢
  obtain ⟨v0, v4⟩ := gv_nth hg hlt
  have h24 := gv_size hg
  rcases h _ hlt with e | e
  · rw [e]; exact hb
  · rw [if_pos e]
    split at hb
    · exact hb
    · exact em_bits s hs _ (by omega) (by omega) t (by omega) t1 hb
theorem gv_put {g : List Int} {s : Int} (hg : gv g s = true) (c : Nat) : gv (g.set c 0) s = true := by
  obtain ⟨h2, h4⟩ := gv_size hg
  have hl := gv_len hg
  have h1 : inr s 2 4 = true := by simp [inr]; omega
  have h3 : (g.set c 0).all (fun x => inr x 0 s) = true := by
    refine okTo_all (n := g.length) (fun j hj => ?_) (by simp)
    by_cases e : j = c
    · subst e; rw [show nth (g.set j 0) j = 0 by simp [nth, List.getD_eq_getElem?_getD, hj]]; simp [inr]; omega
    · rw [show nth (g.set c 0) j = nth g j by simp [nth, List.getD_eq_getElem?_getD, List.getElem?_set_ne (fun e' => e e'.symm)]]
      have := gv_nth hg hj
      simp [inr]; omega
  simp [gv, h1, h3, hl]
theorem gv_zeros {g : List Int} {s : Int} (hg : gv g s = true) : gv (zeros g.length) s = true := by
  obtain ⟨h2, h4⟩ := gv_size hg
  have hl := gv_len hg
  have h1 : inr s 2 4 = true := by simp [inr]; omega
  have h3 : (zeros g.length).all (fun x => inr x 0 s) = true := by
    simp only [zeros, List.all_eq_true, List.mem_replicate]
    rintro x ⟨_, rfl⟩
    simp [inr]; omega
  have h5 : (zeros g.length).length = g.length := by simp [zeros]
  simp [gv, h1, h3, h5, hl]
theorem rp_less {k v s : Int} {xs g : List Int} (hv : rv k xs v s = true) (hg : gv g s = true) (hp : rpB k xs v g s = true) (c : Nat) : rpB k xs v (g.set c 0) s = true ∧ rpB k xs v (zeros g.length) s = true := by
  obtain ⟨h2, h4⟩ := gv_size hg
  obtain ⟨t, rfl⟩ := Int.eq_ofNat_of_zero_le (by omega : 0 ≤ s)
  have hs : t ∈ [2, 3, 4] := by simp; omega
  refine ⟨rp_mono hv hg (gv_put hg c) hs (fun i hi => ?_) hp, rp_mono hv hg (gv_zeros hg) hs (fun i hi => .inr ?_) hp⟩
  · by_cases e : i = c
    · subst e; right; simp [nth, List.getD_eq_getElem?_getD, hi]
    · left; simp [nth, List.getD_eq_getElem?_getD, List.getElem?_set_ne (fun e' => e e'.symm)]
  · simp [nth, zeros, List.getD_eq_getElem?_getD, hi]
/-- all cells of the rule have values: it can hold exactly if it holds. -/
theorem allW_one {ms zs : List Int} : ∀ (d : Nat) (vs : List Int), zs.length = vs.length + d → (∀ i, i < vs.length → nth vs i = nth zs i) → (∀ i, vs.length ≤ i → i < vs.length + d → bitsTo (nth ms i).toNat 4 = [nth zs i]) → allW ms d vs = [zs] := by
  intro d
  induction d with
  | zero =>
    intro vs hl hv _
    have : vs = zs := ext_nth (by omega) (fun i hi => hv i hi)
    simp [allW, this]
  | succ d ih =>
    intro vs hl hv hb
    simp only [allW]
    rw [hb _ (Nat.le_refl _) (by omega)]
    simp only [List.flatMap_cons, List.flatMap_nil, List.append_nil]
    refine ih _ (by simp; omega) (fun i hi => ?_) (fun i h1 h2 => ?_)
    · rw [List.length_append, List.length_singleton] at hi
      rw [nth_push rfl]
      split
      · exact hv i (by assumption)
      · obtain rfl : i = vs.length := by omega
        rw [if_pos rfl]
    · rw [List.length_append, List.length_singleton] at h1 h2
      exact hb i (by omega) (by omega)
theorem bits_pow : ∀ v : Nat, v < 5 → 1 ≤ v → bitsTo (2 ^ v) 4 = [(v : Int)] := by decide
theorem rp_full {k v s : Int} {xs g : List Int} (hv : rv k xs v s = true) (hg : gv g s = true) (hf : ∀ i, i < xs.length → nth (pks g xs xs.length) i ≠ 0) : rpB k xs v g s = holdsB k v (pks g xs xs.length) := by
  obtain ⟨h2, h4⟩ := gv_size hg
  obtain ⟨t, rfl⟩ := Int.eq_ofNat_of_zero_le (by omega : 0 ≤ s)
  have hs : t ∈ [2, 3, 4] := by simp; omega
  obtain ⟨hsm, _⟩ := pks_small rfl hv hg
  rw [rp_ways rfl hv hg hs]
  have : allW (emL (pks g xs xs.length) t) xs.length [] = [pks g xs xs.length] := by
    refine allW_one _ _ (by simp [pks_length]) (fun i hi => absurd hi (by simp)) (fun i _ hi => ?_)
    have hi' : i < xs.length := by simpa using hi
    rw [emL_nth (by rw [pks_length]; exact hi')]
    unfold emN
    rw [if_neg (hf i hi')]
    have := hsm i hi'
    have hne := hf i hi'
    rw [bits_pow _ (by omega) (by omega)]
    congr 1
    omega
  rw [this]
  cases hh : holdsB k v (pks g xs xs.length) <;> simp [hh]
theorem mem_ne {zs : List Int} {n : Nat} (h : memTo zs 0 n = false) : ∀ i, i < n → nth zs i ≠ 0 := fun i hi e => by rw [memTo_hit hi e] at h; cases h
theorem rh_rp {k v s : Int} {xs g : List Int} (h : rhB k xs v g s = true) : rpB k xs v g s = true := by
  unfold rhB at h
  simp only [Bool.and_eq_true, Bool.not_eq_true'] at h
  obtain ⟨⟨⟨hv, hg⟩, hm⟩, hh⟩ := h
  rw [rp_full hv hg (mem_ne hm)]
  exact hh
theorem cnz_all {xs : List Int} : ∀ {n : Nat}, cnz xs n = n → ∀ k, k < n → nth xs k ≠ 0 := by
  intro n
  induction n with
  | zero => intro _ k hk; omega
  | succ n ih =>
    intro h k hk
    simp only [cnz] at h
    have hle := cnz_le xs n
    split at h
    · omega
    · next hz =>
      by_cases e : k = n
      · subst e; exact hz
      · exact ih (by omega) k (by omega)
theorem rh_full {k v s : Int} {xs g : List Int} (hv : rv k xs v s = true) (hg : gv g s = true) (hf : cnz g g.length = g.length) : rhB k xs v g s = rpB k xs v g s := by
  obtain ⟨_, _, _, hx⟩ := rv_facts rfl hv
  have hl := gv_len hg
  have hall := cnz_all hf
  have hne : ∀ i, i < xs.length → nth (pks g xs xs.length) i ≠ 0 := fun i hi => by
    rw [pks_nth hi]
    obtain ⟨a, b⟩ := hx i hi
    exact hall _ (by omega)
  have hm : memTo (pks g xs xs.length) 0 xs.length = false := by
    cases e : memTo (pks g xs xs.length) 0 xs.length
    · rfl
    · exfalso
      have : ∀ n, n ≤ xs.length → memTo (pks g xs xs.length) 0 n = false := by
        intro n
        induction n with
        | zero => intro _; rfl
        | succ n ih => intro hn; simp only [memTo, Bool.or_eq_false_iff, beq_eq_false_iff_ne]; exact ⟨ih (by omega), hne n (by omega)⟩
      rw [this _ (Nat.le_refl _)] at e; cases e
  rw [rp_full hv hg hne]
  unfold rhB
  rw [hv, hg, hm]
  simp
end Go.Proofs.YtkeoflnmbcdmfaaDoor
set_option maxRecDepth 8000
namespace Go.Proofs.YtkeoflnmbcdmfaaDoor
open Go.ChangeShapes Go.WideShapes Go.ChangeAt Go.RowKit

/-- the code that a law of draws takes. -/
def Code_ (w : World) (A : Option Addr) (n c : Nat) (bs : List Int) : Prop := RdB w w.heap.size A n bs ∧ n ≤ c ∧ c ≤ 9223372036854775807
theorem code_of_row {w : World} {a : Option Addr} {len cap : Nat} {zs : List Int} (h : IsRow .u8 w a len cap zs) : Code_ w a len cap (zs.take len) := by
  refine ⟨rdB_of_row h, ?_⟩
  rcases h with ⟨rfl, rfl, rfl, rfl⟩ | ⟨x, rfl, hl, hm, _⟩
  · omega
  · simp only [maxLen] at hm; omega
def DrawnGrid (w : World) (m : Int) (e : Ending) (w' : World) : Prop :=
  ∃ A n c xs s, e = .returned (.tuple #[.slice A n c, .int .i64 s]) ∧ Rd w' w'.heap.size A n xs ∧ (n ≤ 16 ∧ n ≤ c ∧ c ≤ 9223372036854775807) ∧ -1 ≤ s ∧ s ≤ 5 ∧ (m ≤ 0 → gv xs s = true) ∧ Below w.heap.size w w'
theorem drawn_grid {w w1 w2 : World} {P : Nat} {m : Int} {e : Ending} (hb : Below w.heap.size w w1) (h : DrewGrid w1 w.heap.size w.heap.size P m e w2) : DrawnGrid w m e w2 := by
  obtain ⟨A, n, c, xs, s, he, h1, h2, h3, h4, h5, _, h7, _⟩ := h
  exact ⟨A, n, c, xs, s, he, h1, h2, h3, h4, h5, hb.trans (grown_below h7 (Nat.le_refl _) hb.size)⟩
theorem drawGridForms (A : Option Addr) (n c : Nat) (bs : List Int) (w : World) (h : Code_ w A n c bs) :
    Calls Tryd.prog 43 #[.slice A n c] w (DrawnGrid w 9) := by
  go_enter Tryd.func43, Tryd.ntmps43
  go_wp2_with fail
  refine (specOpen A c n bs w h.1 h.2.1 h.2.2).mono ?_
  rintro e w1 ⟨rfl, hr, hb⟩
  go_wp2_with fail
  refine (l20Grid_any _ _ _ 9 _ hr (Nat.le_refl _) (by omega) (by omega)).mono ?_
  intro e w2 hp
  obtain ⟨A', n', c', xs, s, rfl, hrest⟩ := drawn_grid hb hp
  go_wp2
  go_ret2
  exact ⟨A', n', c', xs, s, rfl, hrest⟩










theorem alive_any (w : World) : Calls Tryd.prog 21 #[] w fun e w' => e = .returned (.bool true) ∧ Below w.heap.size w w' := by
  have hrd : Rd (w.alloc (.cells #[.int .i64 1, .int .i64 0, .int .i64 0, .int .i64 2] 3)) (w.heap.size + 1) (some ⟨w.heap.size, 0, none⟩) 4 [1, 0, 0, 2] := by
    refine ⟨rfl, fun _ => ⟨w.heap.size, 0, rfl, by omega, fun k hk => ?_⟩⟩
    rw [cell_of_row _ _ (0 + k) _ _ _ (heap_alloc_new w _)]
    have : k = 0 ∨ k = 1 ∨ k = 2 ∨ k = 3 := by omega
    rcases this with rfl | rfl | rfl | rfl <;> rfl
  have hgf := Lib.hid (show gf [1, 0, 0, 2] 2 = 2 by decide)
  go_enter Tryd.func21, Tryd.ntmps21
  go_wp2_with fail
  refine (implGridFilled _ _ _ _ _ _ _ hrd (by simp) (by omega)).mono ?_
  rintro e w1 ⟨rfl, hb⟩
  rw [hgf.out]
  go_wp2
  go_ret
  exact ⟨rfl, box_below hb⟩
end Go.Proofs.YtkeoflnmbcdmfaaDoor
set_option maxRecDepth 8000
namespace Go.Proofs.YtkeoflnmbcdmfaaDoor
open Go.ChangeShapes Go.WideShapes Go.ChangeAt Go.RowKit

def zeroArr (n : Nat) : Array Value := madeCells #[.int .i64 0] n
theorem make_ints {n : Nat} (hn : n ≤ 1099511627776) (w : World) : (Instr.makeSlice 23 (.int .i64 (n : Int)) (.int .i64 (n : Int))).run Tryd.prog w = .ok (.slice (some ⟨w.heap.size, 0, none⟩) n n) (w.alloc (.cells (zeroArr n) 3)) := by
  obtain ⟨i0, hi, hz0, hz1, hz2⟩ := info_parts int_info
  have hr := run_make (P := Tryd.prog) w 23 3 i0 (.int .i64 0) Tryd.underlying23 hi hz0 .i64 .i64 (n : Int) (n : Int) (by omega) (Int.le_refl _) (by rw [hz2]; omega) (by omega)
  rw [hz1, Int.toNat_natCast, Nat.mul_one] at hr
  exact hr
theorem zeroArr_ow {n lo : Nat} (hn : n ≤ 1099511627776) (w : World) (hlo : lo ≤ w.heap.size) : Ow (w.alloc (.cells (zeroArr n) 3)) lo (some ⟨w.heap.size, 0, none⟩) n n (zeros n) := by
  have hs : (zeroArr n).size = n * 1 := by simp [zeroArr, madeCells]
  have h := World.ownsRow_lit (e := 3) (size := 1) w (zeroArr n) n hlo (by simp only [maxLen]; omega) hs
  unfold Ow
  have e : (zeroArr n).toList = vals (zeros n) := by
    rw [zeroArr, toList_madeCells_one]
    simp [vals, zeros]
  rw [← e]
  exact h
end Go.Proofs.YtkeoflnmbcdmfaaDoor
namespace Go.Proofs.YtkeoflnmbcdmfaaDoor
open Go.ChangeShapes Go.WideShapes Go.ChangeAt Go.RowKit

def turnIx (size : Int) (k : Nat) : Nat := ((size - 1 - (k : Int) % size) * size + (k : Int) / size).toNat
def turnG (xs : List Int) (size : Int) (k : Nat) : Int := nth xs (turnIx size k)
def turnL (xs : List Int) (size : Int) : List Int := if gv xs size = true then mapTo (turnG xs size) xs.length else []

theorem turn_facts {size : Int} {n k : Nat} (h2 : 2 ≤ size) (h4 : size ≤ 4) (hn : (n : Int) = size * size) (hk : k < n) :
    (0 ≤ (k : Int) % size ∧ (k : Int) % size < size) ∧ (0 ≤ (k : Int) / size ∧ (k : Int) / size < size) ∧ turnIx size k < n ∧ ((turnIx size k : Nat) : Int) = (size - 1 - (k : Int) % size) * size + (k : Int) / size := by
  unfold turnIx
  have : size = 2 ∨ size = 3 ∨ size = 4 := by omega
  rcases this with rfl | rfl | rfl <;> omega

theorem specGridTurn (A : Option Addr) (c n B : Nat) (xs : List Int) (size : Int) (w : World) (h : Rd w B A n xs) (hB : B ≤ w.heap.size) (hm : n ≤ 1099511627776) :
    Calls Tryd.prog 79 #[.slice A n c, .int .i64 size] w (RetSl w (turnL xs size)) := by
  have hlen := Lib.hid h.1
  cases hg : gv xs size
  · have hL : turnL xs size = [] := by simp [turnL, hg]
    have HL := Lib.hid hL; clear hL
    have h1 := h.alloc hB (.cells #[] 3)
    by_cases h0 : 0 < n
    all_goals
      go_enter Tryd.func79, Tryd.ntmps79
      go_wp2
      go_loopw [5, 6] (fun v i wr => i = .int .i64 0 ∧ v = .slice (some ⟨w.heap.size, 0, none⟩) 0 0 ∧ wr = w.alloc (.cells #[] 3)) (fun _ _ _ => 0)
      case atStart => exact ⟨rfl, rfl, rfl⟩
      case round =>
        obtain ⟨rfl, rfl, rfl⟩ := hrel
        go_wp2_with (go_at_call 53; refine (specGridValid _ _ _ _ _ _ _ h1 hm).mono ?_; rintro e w' ⟨rfl, rfl⟩)
        go_ret
        rw [HL.out]
        exact ⟨_, _, rfl, Ow.made0 _ _ (Nat.le_refl _), (Below.refl _ _).alloc (Nat.le_refl _) _⟩
  · obtain ⟨h2, h4⟩ := gv_size hg
    have hL : turnL xs size = mapTo (turnG xs size) n := by simp [turnL, hg, hlen.out]
    have HL := Lib.hid hL; clear hL
    have hn := gv_len hg
    rw [hlen.out] at hn
    have Hn := Lib.hid hn; clear hn
    go_enter Tryd.func79, Tryd.ntmps79
    go_wp2
    go_loopw [5, 6] (fun v i wr => ∃ k : Nat, k ≤ n ∧ i = .int .i64 k ∧ OwV wr w.heap.size v (mapTo (turnG xs size) k) ∧ Below w.heap.size w wr) (fun _ i _ => n - (intOf i).toNat)
    case atStart => exact ⟨0, by omega, rfl, ⟨_, _, rfl, Ow.made0 _ _ (Nat.le_refl _)⟩, (Below.refl _ _).alloc (Nat.le_refl _) _⟩
    case round =>
      obtain ⟨k, hk, rfl, ⟨A', c', rfl, ho⟩, hb⟩ := hrel
      have hr := h.below (hb.mono hB)
      have hkb : (mapTo (turnG xs size) k).length ≤ 1099511627776 := by rw [mapTo_length]; omega
      by_cases hlt : k < n
      · obtain ⟨⟨hr0, hr1⟩, ⟨hd0, hd1⟩, hix, hixe⟩ := turn_facts h2 h4 Hn.out hlt
        obtain ⟨b, off, rfl, hbB, hck⟩ := hr.at_ hix
        obtain ⟨b', off', he, hbB', hckw⟩ := h.at_ hix
        cases he
        have Hckw := Lib.hid hckw; clear hckw
        have hbw : b < w.heap.size := by omega
        have Hixe := Lib.hid hixe; clear hixe
        have hmul := small_mul (by omega : 0 ≤ size - 1 - (k : Int) % size) (by omega : size - 1 - (k : Int) % size ≤ 4) (by omega : 0 ≤ size) h4
        have hw := small_wrap (by omega : 0 ≤ size - 1 - (k : Int) % size) (by omega : size - 1 - (k : Int) % size ≤ 4) (by omega : 0 ≤ size) h4
        go_wp2_with (first
          | (go_at_call 53; refine (specGridValid _ _ _ _ _ _ _ hr hm).mono ?_; rintro e w' ⟨rfl, rfl⟩))
        have hz : (size == 0) = false := by simp; omega
        have hz' : size ≠ 0 := by omega
        have b0 : (0 : Int) ≤ (size - 1 - (k : Int) % size) * size + (k : Int) / size := by omega
        have b1 : (size - 1 - (k : Int) % size) * size + (k : Int) / size < (n : Int) := by rw [← Hixe.out]; omega
        have e1 : IntKind.i64.wrap (size - 1) = size - 1 := IntWalk.i64_in _ (by omega)
        have e2 : IntKind.i64.wrap (size - 1 - (k : Int) % size) = size - 1 - (k : Int) % size := IntWalk.i64_in _ (by omega)
        have e3 : IntKind.i64.wrap ((size - 1 - (k : Int) % size) * size) = (size - 1 - (k : Int) % size) * size := IntWalk.i64_in _ (by omega)
        have e4 : IntKind.i64.wrap ((size - 1 - (k : Int) % size) * size + (k : Int) / size) = (size - 1 - (k : Int) % size) * size + (k : Int) / size := IntWalk.i64_in _ (by omega)
        have e5 : (k : Int).tmod size = (k : Int) % size := Int.tmod_eq_emod_of_nonneg (by omega)
        have e6 : (k : Int).tdiv size = (k : Int) / size := Int.tdiv_eq_ediv_of_nonneg (by omega)
        have e7 : IntKind.i64.wrap ((k : Int) / size) = (k : Int) / size := IntWalk.i64_in _ (by omega)
        have e8 : ((size - 1 - (k : Int) % size) * size + (k : Int) / size).toNat = turnIx size k := rfl
        go_region_held3 (fun w' => w'.cell? ⟨b, off + turnIx size k, none⟩ = some (.int .i64 (nth xs (turnIx size k))))
          (first | go_keep | exact ((push_below hb ho (Nat.le_refl _) hb.size hg1).cell (p := ⟨b, off + turnIx size k, none⟩) hbw).trans Hckw.out)
          ((refine step_push_int (by rfl) _ _ (by rfl) w.heap.size A' _ c' (mapTo (turnG xs size) k) _ (by rfl) (by rfl) ho hkb hb.size ?_; intro A'' c'' w1 ho1 hg1))
        have ho2 : OwV w1 w.heap.size (.slice A'' ((mapTo (turnG xs size) k).length + 1) c'') (mapTo (turnG xs size) (k + 1)) := by
          refine ⟨A'', c'', by rw [mapTo_succ, List.length_append]; rfl, ?_⟩
          rw [mapTo_succ, List.length_append]
          exact ho1
        have hb2 := push_below hb ho (Nat.le_refl _) hb.size hg1
        clear ho1 hg1 e1 e2 e3 e4 e5 e6 e7 e8
        go_wp2
        go_roundw
        case rel => exact ⟨k + 1, by omega, by go_num, ho2, hb2⟩
        case measure => simp [intOf]; omega
      · obtain rfl : k = n := by omega
        go_wp2_with (go_at_call 53; refine (specGridValid _ _ _ _ _ _ _ hr hm).mono ?_; rintro e w' ⟨rfl, rfl⟩)
        go_ret
        rw [HL.out]
        exact ⟨_, _, rfl, ho, hb⟩
end Go.Proofs.YtkeoflnmbcdmfaaDoor
namespace Go.Proofs.YtkeoflnmbcdmfaaDoor
open Go.ChangeShapes Go.WideShapes Go.ChangeAt Go.RowKit

/-- the number of the cell in a row and a column. -/
def cellIx (size row col : Int) : Nat := (row * size + col).toNat
theorem cell_facts {size row col : Int} {n : Nat} (h2 : 2 ≤ size) (h4 : size ≤ 4) (hn : (n : Int) = size * size) (r0 : 0 ≤ row) (r1 : row < size) (c0 : 0 ≤ col) (c1 : col < size) :
    (0 ≤ row * size ∧ row * size ≤ 12) ∧ cellIx size row col < n ∧ ((cellIx size row col : Nat) : Int) = row * size + col := by
  unfold cellIx
  have : size = 2 ∨ size = 3 ∨ size = 4 := by omega
  rcases this with rfl | rfl | rfl <;> omega

theorem implAt (A : Option Addr) (c n B : Nat) (xs : List Int) (size row col : Int) (w : World) (h : Rd w B A n xs) (hB : B ≤ w.heap.size) (h2 : 2 ≤ size) (h4 : size ≤ 4) (hn : Hid ((n : Int) = size * size)) (r0 : 0 ≤ row) (r1 : row < size) (c0 : 0 ≤ col) (c1 : col < size) :
    Calls Tryd.prog 133 #[.agg #[.slice A n c, .int .i64 size], .int .i64 row, .int .i64 col] w fun e w' => e = .returned (.int .i64 (nth xs (cellIx size row col))) ∧ Below w.heap.size w w' := by
  obtain ⟨⟨hm0, hm1⟩, hix, hixe⟩ := cell_facts h2 h4 hn.out r0 r1 c0 c1
  obtain ⟨b, off, rfl, hb, hck⟩ := h.at_ hix
  have hbw : b < w.heap.size := by omega
  have b1 : row * size + col < (n : Int) := by rw [← hixe]; omega
  have hw : wrap64 (row * size) = row * size := IntWalk.wrap64_in _ ⟨by omega, by omega⟩
  have e8 : (row * size + col).toNat = cellIx size row col := rfl
  clear hixe
  go_enter Tryd.func133, Tryd.ntmps133
  go_wp2
  go_ret
  exact ⟨rfl, (Below.refl _ _).alloc (Nat.le_refl _) _⟩
theorem ix_lt {r q s : Nat} (hr : r < s) (hq : q < s) : r * s + q < s * s := by
  have : (r + 1) * s ≤ s * s := Nat.mul_le_mul_right s hr
  rw [Nat.succ_mul] at this
  omega
theorem of_drew_below {w w2 : World} (h : Below w.drew.heap.size w.drew w2) : Below w.heap.size w w2 := ⟨h.os, h.tape, h.output, h.size, h.block⟩
theorem below_drew' {B : Nat} {a w : World} (h : Below B a w) : Below B a w.drew := h.drew
def CellFn_turned (w : World) (p : Value) (s : Nat) (g : Nat → Int) : Prop :=
  ∀ (r c : Nat) (W : World), Below w.heap.size w W → r < s → c < s →
    Calls Tryd.prog 134 #[.int .i64 r, .int .i64 c, p] W fun e w' => e = .returned (.int .i64 (g (r * s + c))) ∧ Below W.heap.size W w'

theorem implRebuilt_turned (p : Value) (A : Option Addr) (cp n : Nat) (s : Nat) (g : Nat → Int) (w : World) (h2 : 2 ≤ s) (h4 : s ≤ 4) (hn : n = s * s) (hc0 : CellFn_turned w p s g) :
    Calls Tryd.prog 131 #[.agg #[.slice A n cp, .int .i64 s], .func (.func 134) #[] #[p]] w (RetSl w (mapTo g n)) := by
  obtain ⟨i0, hi, hz0, hz1, hz2⟩ := info_parts int_info
  have hn16 : n ≤ 16 := by subst hn; exact Nat.le_trans (Nat.mul_le_mul h4 h4) (by omega)
  have Hn := Lib.hid hn; clear hn
  go_enter Tryd.func131, Tryd.ntmps131
  go_wp2_with (refine wpList_make_full _ rfl (.tmp 10) (.tmp 10) 23 rfl w.heap.size 3 i0 (.int .i64 0) 1 Tryd.underlying23 hi hz0 hz1 .i64 .i64 n n n rfl rfl rfl rfl (by rw [hz2]; omega) (by simp only [maxLen]; omega) (by simp) ?_; intro w1 hown hgr; have c1 := box_cell (made_below hgr (Nat.le_refl _)) 1; simp at c1)
  have hb1 : Below w.heap.size w w1 := box_below (made_below hgr (Nat.le_refl _))
  have ho1 := made_part (mapTo g n) hown
  rw [World.size_alloc] at ho1
  clear hown hgr hz0 hz1 hz2 hi
  go_loopw [14] (fun i wr => ∃ r : Nat, r ≤ s ∧ i = .int .i64 r ∧ Ow wr w.heap.size (some ⟨w.heap.size + 1, 0, none⟩) n n (part (mapTo g n) (r * s) n) ∧ Below w.heap.size w wr ∧ wr.cell? ⟨w.heap.size, 1, none⟩ = some (.int .i64 s)) (fun i _ => s - (intOf i).toNat)
  case atStart => exact ⟨0, Nat.zero_le _, rfl, by rw [Nat.zero_mul]; exact ho1, hb1, c1⟩
  case round =>
    obtain ⟨r, hr, rfl, ho, hb, hc⟩ := hrel
    by_cases hlt : r < s
    · go_wp2
      obtain ⟨wo, rfl⟩ : ∃ wo : World, wo = wr := ⟨_, rfl⟩
      go_loopw [19] (fun i wr => ∃ q : Nat, q ≤ s ∧ i = .int .i64 q ∧ Ow wr w.heap.size (some ⟨w.heap.size + 1, 0, none⟩) n n (part (mapTo g n) (r * s + q) n) ∧ Below w.heap.size w wr ∧ wr.cell? ⟨w.heap.size, 1, none⟩ = some (.int .i64 s)) (fun i _ => s - (intOf i).toNat)
      case atStart => exact ⟨0, Nat.zero_le _, rfl, ho, hb, hc⟩
      case round =>
        obtain ⟨q, hq, rfl, hoi, hbi, hci⟩ := hrel
        by_cases hltq : q < s
        · have hixl : r * s + q < n := by rw [Hn.out]; exact ix_lt hlt hltq
          obtain ⟨hold, hfr⟩ := hoi.cell hixl
          have hm0 : (0 : Int) ≤ (r : Int) * s ∧ (r : Int) * s ≤ 16 := small_mul (by omega) (by omega) (by omega) (by omega)
          have hsz : w.heap.size + 1 < wr.drew.heap.size := by
            obtain ⟨g', he, _, hlt'⟩ := hoi.form (by omega)
            cases he
            simpa using hlt'
          have hsz0 : w.heap.size < wr.drew.heap.size := by omega
          have Hst := Lib.hid hoi; clear hoi
          have e1 : IntKind.i64.wrap ((r : Int) * s) = (r : Int) * s := IntWalk.i64_in _ (by omega)
          have e2 : IntKind.i64.wrap ((r : Int) * s + q) = (r : Int) * s + q := IntWalk.i64_in _ (by omega)
          have e3 : ((r : Int) * s + q).toNat = r * s + q := by rw [← Int.natCast_mul, ← Int.natCast_add]; rfl
          have b0 : (0 : Int) ≤ (r : Int) * s + q := by omega
          have b1 : (r : Int) * s + q < n := by rw [← Int.natCast_mul, ← Int.natCast_add]; omega
          have Hc0 := Lib.hid hc0
          clear hc0
          go_wp2_with fail
          go_region_held3 (fun w' => w'.cell? ⟨w.heap.size, 1, none⟩ = some (.int .i64 s))
            (first | go_keep | exact (hb2.cell (p := ⟨w.heap.size, 1, none⟩) hsz0).trans hci)
            ((go_at_call 134; refine (Hc0.out r q _ (by exact below_drew' hbi) hlt hltq).mono ?_; rintro e w2 ⟨rfl, hb2⟩; have hold2 := (hb2.cell (p := ⟨w.heap.size + 1, r * s + q, none⟩) hsz).trans hold; have hfr2 := (hb2.frozen (p := ⟨w.heap.size + 1, r * s + q, none⟩) hsz).trans hfr))
          have hb2' := of_drew_below hb2
          have hO2 := (World.ownsRow.stored (Hst.out.below hb2') (r * s + q) (.int .i64 (g (r * s + q)))).1
          rw [show g (r * s + q) = nth (mapTo g n) (r * s + q) from (mapTo_nth hixl).symm, part_set] at hO2
          have hbn : Below w.heap.size w (w2.setCell ⟨w.heap.size + 1, r * s + q, none⟩ (.int .i64 (nth (mapTo g n) (r * s + q)))) := (step hbi hb2').setCell (by simp) _
          have hcn : (w2.setCell ⟨w.heap.size + 1, r * s + q, none⟩ (.int .i64 (nth (mapTo g n) (r * s + q)))).cell? ⟨w.heap.size, 1, none⟩ = some (.int .i64 s) := by
            rw [World.cell?_setCell_other _ _ _ _ (by simp)]
            exact (hb2'.cell (p := ⟨w.heap.size, 1, none⟩) hsz0).trans hci
          rw [show g (r * s + q) = nth (mapTo g n) (r * s + q) from (mapTo_nth hixl).symm]
          have HO2 := Lib.hid hO2
          clear hold2 hfr2 hold hfr hO2 e1 e2 e3
          go_wp2
          go_roundw
          case rel => exact ⟨q + 1, by omega, by go_num, HO2.out, hbn, hcn⟩
          case measure => simp [intOf]; omega
        · obtain rfl : q = s := by omega
          have e : (r + 1) * q = r * q + q := Nat.succ_mul r q
          rw [← e] at hoi
          go_wp2
          go_roundw
          case rel => exact ⟨r + 1, by omega, by go_num, hoi, hbi, hci⟩
          case measure => simp [intOf]; omega
    · obtain rfl : r = s := by omega
      go_wp2
      go_ret
      rw [← Hn.out, part_all' (mapTo_length _ _)] at ho
      exact retSl_mk ho hb
theorem divmod_ix {s r c : Nat} (h2 : 2 ≤ s) (h4 : s ≤ 4) (hr : r < s) (hc : c < s) : ((r * s + c : Nat) : Int) / (s : Int) = r ∧ ((r * s + c : Nat) : Int) % (s : Int) = c := by
  have : s = 2 ∨ s = 3 ∨ s = 4 := by omega
  rcases this with rfl | rfl | rfl <;> omega
theorem turn_ix {s r c : Nat} (h2 : 2 ≤ s) (h4 : s ≤ 4) (hr : r < s) (hc : c < s) : cellIx s ((s : Int) - 1 - c) r = turnIx s (r * s + c) := by
  obtain ⟨hd, hm⟩ := divmod_ix h2 h4 hr hc
  unfold cellIx turnIx
  rw [hd, hm]
theorem turned1 (A : Option Addr) (cp n B : Nat) (xs : List Int) (s r c : Nat) (G : Nat) (W : World) (h : Rd W B A n xs) (hB : B ≤ W.heap.size) (h2 : 2 ≤ s) (h4 : s ≤ 4) (hn : Hid ((n : Int) = s * s)) (hr : r < s) (hc : c < s)
    (c0 : W.cell? ⟨G, 0, none⟩ = some (.slice A n cp)) (c1 : W.cell? ⟨G, 1, none⟩ = some (.int .i64 s)) :
    Calls Tryd.prog 134 #[.int .i64 r, .int .i64 c, .pointer (some ⟨G, 0, none⟩)] W fun e w' => e = .returned (.int .i64 (turnG xs s (r * s + c))) ∧ Below W.heap.size W w' := by
  have hix := Lib.hid (turn_ix h2 h4 hr hc)
  go_enter Tryd.func134, Tryd.ntmps134
  go_wp2_with fail
  refine (implAt _ _ _ _ _ _ _ _ _ h hB (by omega) (by omega) hn (by omega) (by omega) (by omega) (by omega)).mono ?_
  rintro e w1 ⟨rfl, hb1⟩
  go_wp2
  go_ret
  exact ⟨by rw [turnG, ← hix.out]; rfl, hb1⟩
theorem implTurned (A : Option Addr) (cp n B : Nat) (xs : List Int) (s : Nat) (w : World) (h : Rd w B A n xs) (hB : B ≤ w.heap.size) (h2 : 2 ≤ s) (h4 : s ≤ 4) (hn : Hid ((n : Int) = s * s)) :
    Calls Tryd.prog 123 #[.agg #[.slice A n cp, .int .i64 s]] w (RetSl w (mapTo (turnG xs s) n)) := by
  have hnn : n = s * s := by have := hn.out; rw [← Int.natCast_mul] at this; omega
  have Hnn := Lib.hid hnn; clear hnn
  have hcf : CellFn_turned (w.alloc (.cells #[.slice A n cp, .int .i64 s] 76)) (.pointer (some ⟨w.heap.size, 0, none⟩)) s (turnG xs s) := by
    intro r c W hW hr hc
    have k0 := box_cell hW 0
    have k1 := box_cell hW 1
    simp at k0 k1
    have hbb := box_below hW
    exact turned1 A cp n B xs s r c w.heap.size W (h.below (hbb.mono hB)) (Nat.le_trans hB hbb.size) h2 h4 hn hr hc k0 k1
  go_enter Tryd.func123, Tryd.ntmps123
  go_wp2_with fail
  refine (implRebuilt_turned _ A cp n s (turnG xs s) _ h2 h4 Hnn.out hcf).mono ?_
  rintro e w1 ⟨A1, c1, rfl, ho, hb⟩
  go_wp2
  go_ret
  exact ⟨A1, c1, rfl, ho.mono (by simp), box_below hb⟩
end Go.Proofs.YtkeoflnmbcdmfaaDoor
namespace Go.Proofs.YtkeoflnmbcdmfaaDoor
open Go.ChangeShapes Go.WideShapes Go.ChangeAt Go.RowKit

def mirIx (size : Int) (k : Nat) : Nat := ((k : Int) / size * size + size - 1 - (k : Int) % size).toNat
def mirG (xs : List Int) (size : Int) (k : Nat) : Int := nth xs (mirIx size k)
def mirL (xs : List Int) (size : Int) : List Int := if gv xs size = true then mapTo (mirG xs size) xs.length else []

theorem mir_facts {size : Int} {n k : Nat} (h2 : 2 ≤ size) (h4 : size ≤ 4) (hn : (n : Int) = size * size) (hk : k < n) :
    (0 ≤ (k : Int) % size ∧ (k : Int) % size < size) ∧ (0 ≤ (k : Int) / size ∧ (k : Int) / size < size) ∧ mirIx size k < n ∧ ((mirIx size k : Nat) : Int) = (k : Int) / size * size + size - 1 - (k : Int) % size := by
  unfold mirIx
  have : size = 2 ∨ size = 3 ∨ size = 4 := by omega
  rcases this with rfl | rfl | rfl <;> omega

theorem specGridMirror (A : Option Addr) (c n B : Nat) (xs : List Int) (size : Int) (w : World) (h : Rd w B A n xs) (hB : B ≤ w.heap.size) (hm : n ≤ 1099511627776) :
    Calls Tryd.prog 78 #[.slice A n c, .int .i64 size] w (RetSl w (mirL xs size)) := by
  have hlen := Lib.hid h.1
  cases hg : gv xs size
  · have hL : mirL xs size = [] := by simp [mirL, hg]
    have HL := Lib.hid hL; clear hL
    have h1 := h.alloc hB (.cells #[] 3)
    by_cases h0 : 0 < n
    all_goals
      go_enter Tryd.func78, Tryd.ntmps78
      go_wp2
      go_loopw [5, 6] (fun v i wr => i = .int .i64 0 ∧ v = .slice (some ⟨w.heap.size, 0, none⟩) 0 0 ∧ wr = w.alloc (.cells #[] 3)) (fun _ _ _ => 0)
      case atStart => exact ⟨rfl, rfl, rfl⟩
      case round =>
        obtain ⟨rfl, rfl, rfl⟩ := hrel
        go_wp2_with (go_at_call 53; refine (specGridValid _ _ _ _ _ _ _ h1 hm).mono ?_; rintro e w' ⟨rfl, rfl⟩)
        go_ret
        rw [HL.out]
        exact ⟨_, _, rfl, Ow.made0 _ _ (Nat.le_refl _), (Below.refl _ _).alloc (Nat.le_refl _) _⟩
  · obtain ⟨h2, h4⟩ := gv_size hg
    have hL : mirL xs size = mapTo (mirG xs size) n := by simp [mirL, hg, hlen.out]
    have HL := Lib.hid hL; clear hL
    have hn := gv_len hg
    rw [hlen.out] at hn
    have Hn := Lib.hid hn; clear hn
    go_enter Tryd.func78, Tryd.ntmps78
    go_wp2
    go_loopw [5, 6] (fun v i wr => ∃ k : Nat, k ≤ n ∧ i = .int .i64 k ∧ OwV wr w.heap.size v (mapTo (mirG xs size) k) ∧ Below w.heap.size w wr) (fun _ i _ => n - (intOf i).toNat)
    case atStart => exact ⟨0, by omega, rfl, ⟨_, _, rfl, Ow.made0 _ _ (Nat.le_refl _)⟩, (Below.refl _ _).alloc (Nat.le_refl _) _⟩
    case round =>
      obtain ⟨k, hk, rfl, ⟨A', c', rfl, ho⟩, hb⟩ := hrel
      have hr := h.below (hb.mono hB)
      have hkb : (mapTo (mirG xs size) k).length ≤ 1099511627776 := by rw [mapTo_length]; omega
      by_cases hlt : k < n
      · obtain ⟨⟨hr0, hr1⟩, ⟨hd0, hd1⟩, hix, hixe⟩ := mir_facts h2 h4 Hn.out hlt
        obtain ⟨b, off, rfl, hbB, hck⟩ := hr.at_ hix
        obtain ⟨b', off', he, hbB', hckw⟩ := h.at_ hix
        cases he
        have Hckw := Lib.hid hckw; clear hckw
        have hbw : b < w.heap.size := by omega
        have Hixe := Lib.hid hixe; clear hixe
        have hmul := small_mul hd0 (by omega : (k : Int) / size ≤ 4) (by omega : 0 ≤ size) h4
        have hw := small_wrap hd0 (by omega : (k : Int) / size ≤ 4) (by omega : 0 ≤ size) h4
        go_wp2_with (first
          | (go_at_call 53; refine (specGridValid _ _ _ _ _ _ _ hr hm).mono ?_; rintro e w' ⟨rfl, rfl⟩))
        have hz : (size == 0) = false := by simp; omega
        have hz' : size ≠ 0 := by omega
        have b0 : (0 : Int) ≤ (k : Int) / size * size + size - 1 - (k : Int) % size := by omega
        have b0' : (k : Int) % size ≤ (k : Int) / size * size + size - 1 := by omega
        have b1 : (k : Int) / size * size + size - 1 - (k : Int) % size < (n : Int) := by rw [← Hixe.out]; omega
        have e1 : IntKind.i64.wrap ((k : Int) / size * size) = (k : Int) / size * size := IntWalk.i64_in _ (by omega)
        have e2 : IntKind.i64.wrap ((k : Int) / size * size + size) = (k : Int) / size * size + size := IntWalk.i64_in _ (by omega)
        have e3 : IntKind.i64.wrap ((k : Int) / size * size + size - 1) = (k : Int) / size * size + size - 1 := IntWalk.i64_in _ (by omega)
        have e4 : IntKind.i64.wrap ((k : Int) / size * size + size - 1 - (k : Int) % size) = (k : Int) / size * size + size - 1 - (k : Int) % size := IntWalk.i64_in _ (by omega)
        have e5 : (k : Int).tmod size = (k : Int) % size := Int.tmod_eq_emod_of_nonneg (by omega)
        have e6 : (k : Int).tdiv size = (k : Int) / size := Int.tdiv_eq_ediv_of_nonneg (by omega)
        have e7 : IntKind.i64.wrap ((k : Int) / size) = (k : Int) / size := IntWalk.i64_in _ (by omega)
        have e8 : ((k : Int) / size * size + size - 1 - (k : Int) % size).toNat = mirIx size k := rfl
        go_region_held3 (fun w' => w'.cell? ⟨b, off + mirIx size k, none⟩ = some (.int .i64 (nth xs (mirIx size k))))
          (first | go_keep | exact ((push_below hb ho (Nat.le_refl _) hb.size hg1).cell (p := ⟨b, off + mirIx size k, none⟩) hbw).trans Hckw.out)
          ((refine step_push_int (by rfl) _ _ (by rfl) w.heap.size A' _ c' (mapTo (mirG xs size) k) _ (by rfl) (by rfl) ho hkb hb.size ?_; intro A'' c'' w1 ho1 hg1))
        have ho2 : OwV w1 w.heap.size (.slice A'' ((mapTo (mirG xs size) k).length + 1) c'') (mapTo (mirG xs size) (k + 1)) := by
          refine ⟨A'', c'', by rw [mapTo_succ, List.length_append]; rfl, ?_⟩
          rw [mapTo_succ, List.length_append]
          exact ho1
        have hb2 := push_below hb ho (Nat.le_refl _) hb.size hg1
        clear ho1 hg1 e1 e2 e3 e4 e5 e6 e7 e8
        go_wp2
        go_roundw
        case rel => exact ⟨k + 1, by omega, by go_num, ho2, hb2⟩
        case measure => simp [intOf]; omega
      · obtain rfl : k = n := by omega
        go_wp2_with (go_at_call 53; refine (specGridValid _ _ _ _ _ _ _ hr hm).mono ?_; rintro e w' ⟨rfl, rfl⟩)
        go_ret
        rw [HL.out]
        exact ⟨_, _, rfl, ho, hb⟩
def CellFn_mirrored (w : World) (p : Value) (s : Nat) (g : Nat → Int) : Prop :=
  ∀ (r c : Nat) (W : World), Below w.heap.size w W → r < s → c < s →
    Calls Tryd.prog 132 #[.int .i64 r, .int .i64 c, p] W fun e w' => e = .returned (.int .i64 (g (r * s + c))) ∧ Below W.heap.size W w'

theorem implRebuilt_mirrored (p : Value) (A : Option Addr) (cp n : Nat) (s : Nat) (g : Nat → Int) (w : World) (h2 : 2 ≤ s) (h4 : s ≤ 4) (hn : n = s * s) (hc0 : CellFn_mirrored w p s g) :
    Calls Tryd.prog 131 #[.agg #[.slice A n cp, .int .i64 s], .func (.func 132) #[] #[p]] w (RetSl w (mapTo g n)) := by
  obtain ⟨i0, hi, hz0, hz1, hz2⟩ := info_parts int_info
  have hn16 : n ≤ 16 := by subst hn; exact Nat.le_trans (Nat.mul_le_mul h4 h4) (by omega)
  have Hn := Lib.hid hn; clear hn
  go_enter Tryd.func131, Tryd.ntmps131
  go_wp2_with (refine wpList_make_full _ rfl (.tmp 10) (.tmp 10) 23 rfl w.heap.size 3 i0 (.int .i64 0) 1 Tryd.underlying23 hi hz0 hz1 .i64 .i64 n n n rfl rfl rfl rfl (by rw [hz2]; omega) (by simp only [maxLen]; omega) (by simp) ?_; intro w1 hown hgr; have c1 := box_cell (made_below hgr (Nat.le_refl _)) 1; simp at c1)
  have hb1 : Below w.heap.size w w1 := box_below (made_below hgr (Nat.le_refl _))
  have ho1 := made_part (mapTo g n) hown
  rw [World.size_alloc] at ho1
  clear hown hgr hz0 hz1 hz2 hi
  go_loopw [14] (fun i wr => ∃ r : Nat, r ≤ s ∧ i = .int .i64 r ∧ Ow wr w.heap.size (some ⟨w.heap.size + 1, 0, none⟩) n n (part (mapTo g n) (r * s) n) ∧ Below w.heap.size w wr ∧ wr.cell? ⟨w.heap.size, 1, none⟩ = some (.int .i64 s)) (fun i _ => s - (intOf i).toNat)
  case atStart => exact ⟨0, Nat.zero_le _, rfl, by rw [Nat.zero_mul]; exact ho1, hb1, c1⟩
  case round =>
    obtain ⟨r, hr, rfl, ho, hb, hc⟩ := hrel
    by_cases hlt : r < s
    · go_wp2
      obtain ⟨wo, rfl⟩ : ∃ wo : World, wo = wr := ⟨_, rfl⟩
      go_loopw [19] (fun i wr => ∃ q : Nat, q ≤ s ∧ i = .int .i64 q ∧ Ow wr w.heap.size (some ⟨w.heap.size + 1, 0, none⟩) n n (part (mapTo g n) (r * s + q) n) ∧ Below w.heap.size w wr ∧ wr.cell? ⟨w.heap.size, 1, none⟩ = some (.int .i64 s)) (fun i _ => s - (intOf i).toNat)
      case atStart => exact ⟨0, Nat.zero_le _, rfl, ho, hb, hc⟩
      case round =>
        obtain ⟨q, hq, rfl, hoi, hbi, hci⟩ := hrel
        by_cases hltq : q < s
        · have hixl : r * s + q < n := by rw [Hn.out]; exact ix_lt hlt hltq
          obtain ⟨hold, hfr⟩ := hoi.cell hixl
          have hm0 : (0 : Int) ≤ (r : Int) * s ∧ (r : Int) * s ≤ 16 := small_mul (by omega) (by omega) (by omega) (by omega)
          have hsz : w.heap.size + 1 < wr.drew.heap.size := by
            obtain ⟨g', he, _, hlt'⟩ := hoi.form (by omega)
            cases he
            simpa using hlt'
          have hsz0 : w.heap.size < wr.drew.heap.size := by omega
          have Hst := Lib.hid hoi; clear hoi
          have e1 : IntKind.i64.wrap ((r : Int) * s) = (r : Int) * s := IntWalk.i64_in _ (by omega)
          have e2 : IntKind.i64.wrap ((r : Int) * s + q) = (r : Int) * s + q := IntWalk.i64_in _ (by omega)
          have e3 : ((r : Int) * s + q).toNat = r * s + q := by rw [← Int.natCast_mul, ← Int.natCast_add]; rfl
          have b0 : (0 : Int) ≤ (r : Int) * s + q := by omega
          have b1 : (r : Int) * s + q < n := by rw [← Int.natCast_mul, ← Int.natCast_add]; omega
          have Hc0 := Lib.hid hc0
          clear hc0
          go_wp2_with fail
          go_region_held3 (fun w' => w'.cell? ⟨w.heap.size, 1, none⟩ = some (.int .i64 s))
            (first | go_keep | exact (hb2.cell (p := ⟨w.heap.size, 1, none⟩) hsz0).trans hci)
            ((go_at_call 132; refine (Hc0.out r q _ (by exact below_drew' hbi) hlt hltq).mono ?_; rintro e w2 ⟨rfl, hb2⟩; have hold2 := (hb2.cell (p := ⟨w.heap.size + 1, r * s + q, none⟩) hsz).trans hold; have hfr2 := (hb2.frozen (p := ⟨w.heap.size + 1, r * s + q, none⟩) hsz).trans hfr))
          have hb2' := of_drew_below hb2
          have hO2 := (World.ownsRow.stored (Hst.out.below hb2') (r * s + q) (.int .i64 (g (r * s + q)))).1
          rw [show g (r * s + q) = nth (mapTo g n) (r * s + q) from (mapTo_nth hixl).symm, part_set] at hO2
          have hbn : Below w.heap.size w (w2.setCell ⟨w.heap.size + 1, r * s + q, none⟩ (.int .i64 (nth (mapTo g n) (r * s + q)))) := (step hbi hb2').setCell (by simp) _
          have hcn : (w2.setCell ⟨w.heap.size + 1, r * s + q, none⟩ (.int .i64 (nth (mapTo g n) (r * s + q)))).cell? ⟨w.heap.size, 1, none⟩ = some (.int .i64 s) := by
            rw [World.cell?_setCell_other _ _ _ _ (by simp)]
            exact (hb2'.cell (p := ⟨w.heap.size, 1, none⟩) hsz0).trans hci
          rw [show g (r * s + q) = nth (mapTo g n) (r * s + q) from (mapTo_nth hixl).symm]
          have HO2 := Lib.hid hO2
          clear hold2 hfr2 hold hfr hO2 e1 e2 e3
          go_wp2
          go_roundw
          case rel => exact ⟨q + 1, by omega, by go_num, HO2.out, hbn, hcn⟩
          case measure => simp [intOf]; omega
        · obtain rfl : q = s := by omega
          have e : (r + 1) * q = r * q + q := Nat.succ_mul r q
          rw [← e] at hoi
          go_wp2
          go_roundw
          case rel => exact ⟨r + 1, by omega, by go_num, hoi, hbi, hci⟩
          case measure => simp [intOf]; omega
    · obtain rfl : r = s := by omega
      go_wp2
      go_ret
      rw [← Hn.out, part_all' (mapTo_length _ _)] at ho
      exact retSl_mk ho hb
theorem mir_ix {s r c : Nat} (h2 : 2 ≤ s) (h4 : s ≤ 4) (hr : r < s) (hc : c < s) : cellIx s r ((s : Int) - 1 - c) = mirIx s (r * s + c) := by
  obtain ⟨hd, hm⟩ := divmod_ix h2 h4 hr hc
  unfold cellIx mirIx
  rw [hd, hm]
  congr 1
  omega
theorem mirrored1 (A : Option Addr) (cp n B : Nat) (xs : List Int) (s r c : Nat) (G : Nat) (W : World) (h : Rd W B A n xs) (hB : B ≤ W.heap.size) (h2 : 2 ≤ s) (h4 : s ≤ 4) (hn : Hid ((n : Int) = s * s)) (hr : r < s) (hc : c < s)
    (c0 : W.cell? ⟨G, 0, none⟩ = some (.slice A n cp)) (c1 : W.cell? ⟨G, 1, none⟩ = some (.int .i64 s)) :
    Calls Tryd.prog 132 #[.int .i64 r, .int .i64 c, .pointer (some ⟨G, 0, none⟩)] W fun e w' => e = .returned (.int .i64 (mirG xs s (r * s + c))) ∧ Below W.heap.size W w' := by
  have hix := Lib.hid (mir_ix h2 h4 hr hc)
  go_enter Tryd.func132, Tryd.ntmps132
  go_wp2_with fail
  refine (implAt _ _ _ _ _ _ _ _ _ h hB (by omega) (by omega) hn (by omega) (by omega) (by omega) (by omega)).mono ?_
  rintro e w1 ⟨rfl, hb1⟩
  go_wp2
  go_ret
  exact ⟨by rw [mirG, ← hix.out]; rfl, hb1⟩
theorem implMirrored (A : Option Addr) (cp n B : Nat) (xs : List Int) (s : Nat) (w : World) (h : Rd w B A n xs) (hB : B ≤ w.heap.size) (h2 : 2 ≤ s) (h4 : s ≤ 4) (hn : Hid ((n : Int) = s * s)) :
    Calls Tryd.prog 122 #[.agg #[.slice A n cp, .int .i64 s]] w (RetSl w (mapTo (mirG xs s) n)) := by
  have hnn : n = s * s := by have := hn.out; rw [← Int.natCast_mul] at this; omega
  have Hnn := Lib.hid hnn; clear hnn
  have hcf : CellFn_mirrored (w.alloc (.cells #[.slice A n cp, .int .i64 s] 76)) (.pointer (some ⟨w.heap.size, 0, none⟩)) s (mirG xs s) := by
    intro r c W hW hr hc
    have k0 := box_cell hW 0
    have k1 := box_cell hW 1
    simp at k0 k1
    have hbb := box_below hW
    exact mirrored1 A cp n B xs s r c w.heap.size W (h.below (hbb.mono hB)) (Nat.le_trans hB hbb.size) h2 h4 hn hr hc k0 k1
  go_enter Tryd.func122, Tryd.ntmps122
  go_wp2_with fail
  refine (implRebuilt_mirrored _ A cp n s (mirG xs s) _ h2 h4 Hnn.out hcf).mono ?_
  rintro e w1 ⟨A1, c1, rfl, ho, hb⟩
  go_wp2
  go_ret
  exact ⟨A1, c1, rfl, ho.mono (by simp), box_below hb⟩
end Go.Proofs.YtkeoflnmbcdmfaaDoor
namespace Go.Proofs.YtkeoflnmbcdmfaaDoor
open Go.ChangeShapes Go.WideShapes Go.ChangeAt Go.RowKit

theorem Rd.take_ {w : World} {B : Nat} {A : Option Addr} {n : Nat} {xs : List Int} (h : Rd w B A n xs) {m : Nat} (hm : m ≤ n) : Rd w B A m (xs.take m) := by
  refine ⟨by rw [List.length_take, h.1]; omega, fun h0 => ?_⟩
  obtain ⟨b, off, he, hb, hc⟩ := h.2 (by omega)
  refine ⟨b, off, he, hb, fun k hk => ?_⟩
  rw [hc k (by omega)]
  simp [nth, List.getD_eq_getElem?_getD, hk]
theorem gv_n {xs : List Int} {size : Int} {n : Nat} (h : gv xs size = true) (hl : xs.length = n) : 4 ≤ n ∧ n ≤ 16 ∧ (n : Int) = size * size := by
  obtain ⟨h2, h4⟩ := gv_size h
  have := gv_len h
  obtain ⟨q4, q16⟩ := sq_bd h2 h4
  rw [hl] at this
  omega
theorem gv_short {xs : List Int} {size : Int} {n : Nat} (h : gv xs size = true) (hl : xs.length = n) : gv (xs.take (n - 1)) size = false := by
  obtain ⟨h4, _, hn⟩ := gv_n h hl
  have e : ((xs.take (n - 1)).length : Int) = n - 1 := by rw [List.length_take, hl]; omega
  cases hg : gv (xs.take (n - 1)) size
  · rfl
  · have := gv_len hg
    omega
theorem gv_large {xs : List Int} {size : Int} {n : Nat} (h : gv xs size = true) (hl : xs.length = n) : gv (xs.set 0 (size + 1)) size = false := by
  obtain ⟨h4, _, hn⟩ := gv_n h hl
  cases hg : gv (xs.set 0 (size + 1)) size
  · rfl
  · have := gv_nth hg (k := 0) (by rw [List.length_set, hl]; omega)
    rw [nth_set (by omega), if_pos rfl] at this
    omega

theorem copy_below {w w' : World} (hg : (w.alloc (.cells #[] 3)).grownBy w' (Value.slice (some ⟨w.heap.size, 0, none⟩) 0 0).ownBlock) : Below w.heap.size w w' :=
  ((Below.refl _ _).alloc (Nat.le_refl _) _).grown hg (by simp) (fun k hk => (Ow.made0 w w.heap.size (Nat.le_refl _)).own_lo k hk)
theorem cnz_lt {xs : List Int} {k : Nat} {v : Int} (hk : k < xs.length) : ∀ m, m ≤ k → cnz (xs.set k v) m = cnz xs m := by
  intro m
  induction m with
  | zero => intro _; rfl
  | succ m ih =>
    intro hm
    simp only [cnz]
    have e : k ≠ m := by omega
    rw [ih (by omega), nth_set hk, if_neg e]
theorem cnz_set {xs : List Int} {k : Nat} (hk : k < xs.length) (h : nth xs k ≠ 0) : ∀ m, k < m → cnz (xs.set k 0) m + 1 = cnz xs m := by
  intro m
  induction m with
  | zero => intro hm; omega
  | succ m ih =>
    intro hm
    simp only [cnz]
    by_cases e : k = m
    · subst e
      rw [cnz_lt hk k (Nat.le_refl _), nth_set hk, if_pos rfl, if_pos rfl, if_neg h]
    · rw [nth_set hk, if_neg e]
      have := ih (by omega)
      omega
theorem gv_set0 {xs : List Int} {size : Int} {n k : Nat} (h : gv xs size = true) (hl : xs.length = n) : gv (xs.set k 0) size = true := by
  obtain ⟨h2, h4⟩ := gv_size h
  refine okAll_gv (n := n) (by simpa using hl) (gv_n h hl).2.2 h2 h4 (okAll_set' (fun j hj => gv_nth h (by omega)) (by omega) (by omega))
theorem gf_set {xs : List Int} {size : Int} {k : Nat} (h : gv xs size = true) (hk : k < xs.length) (h0 : nth xs k ≠ 0) : gf (xs.set k 0) size = gf xs size - 1 := by
  have := cnz_set hk h0 xs.length hk
  unfold gf
  rw [if_pos h, if_pos (gv_set0 h rfl), List.length_set]
  omega
theorem cnz_zeros (n m : Nat) : cnz (zeros n) m = 0 := by
  induction m with
  | zero => rfl
  | succ m ih => rw [cnz, ih, zeros_nth]; rfl
theorem gf_zeros {size : Int} {n : Nat} (h2 : 2 ≤ size) (h4 : size ≤ 4) (hn : (n : Int) = size * size) : gf (zeros n) size = 0 := by
  have hg : gv (zeros n) size = true := okAll_gv (zeros_length n) hn h2 h4 (okAll_zeros (by omega) n)
  unfold gf
  rw [if_pos hg, cnz_zeros]; rfl

end Go.Proofs.YtkeoflnmbcdmfaaDoor
namespace Go.Proofs.YtkeoflnmbcdmfaaDoor
open Go.ChangeShapes Go.WideShapes Go.ChangeAt Go.RowKit

/-- the list whose value at k is the one of xs at P k. -/
def pm (xs : List Int) (P : Nat → Nat) (n : Nat) : List Int := mapTo (fun k => nth xs (P k)) n
theorem pm_length (xs : List Int) (P : Nat → Nat) (n : Nat) : (pm xs P n).length = n := mapTo_length _ _
theorem pm_nth {xs : List Int} {P : Nat → Nat} {n k : Nat} (h : k < n) : nth (pm xs P n) k = nth xs (P k) := mapTo_nth h
theorem pm_pm {xs : List Int} {P Q : Nat → Nat} {n : Nat} (h : ∀ k, k < n → P k < n) : pm (pm xs Q n) P n = pm xs (fun k => Q (P k)) n := by
  apply ext_nth (by rw [pm_length, pm_length])
  intro k hk
  rw [pm_length] at hk
  rw [pm_nth hk, pm_nth (h k hk), pm_nth hk]
theorem pm_id {xs : List Int} {P : Nat → Nat} {n : Nat} (hl : xs.length = n) (h : ∀ k, k < n → P k = k) : pm xs P n = xs := by
  apply ext_nth (by rw [pm_length, hl])
  intro k hk
  rw [pm_length] at hk
  rw [pm_nth hk, h k hk]
theorem pm_eq {xs : List Int} {P Q : Nat → Nat} {n : Nat} (h : ∀ k, k < n → P k = Q k) : pm xs P n = pm xs Q n := by
  apply ext_nth (by rw [pm_length, pm_length])
  intro k hk
  rw [pm_length] at hk
  rw [pm_nth hk, pm_nth hk, h k hk]
theorem pm_gv {xs : List Int} {size : Int} {P : Nat → Nat} {n : Nat} (hg : gv xs size = true) (hl : xs.length = n) (h : ∀ k, k < n → P k < n) : gv (pm xs P n) size = true := by
  obtain ⟨h2, h4⟩ := gv_size hg
  refine okAll_gv (pm_length _ _ _) (gv_n hg hl).2.2 h2 h4 (fun k hk => ?_)
  rw [pm_nth hk]
  exact gv_nth hg (by rw [hl]; exact h k hk)
theorem cnz_sum (xs : List Int) (n : Nat) : cnz xs n = ((List.range n).map fun k => if nth xs k = 0 then 0 else 1).sum := by
  induction n with
  | zero => rfl
  | succ n ih => simp [cnz, ih, List.range_succ]
theorem pm_cnz {xs : List Int} {P : Nat → Nat} {n : Nat} (hp : (List.map P (List.range n)).Perm (List.range n)) : cnz (pm xs P n) n = cnz xs n := by
  rw [cnz_sum, cnz_sum]
  have h1 : (List.range n).map (fun k => if nth (pm xs P n) k = 0 then 0 else 1) = (List.map P (List.range n)).map (fun k => if nth xs k = 0 then 0 else 1) := by
    rw [List.map_map]
    apply List.map_congr_left
    intro k hk
    have : k < n := by simpa using hk
    simp only [Function.comp, pm_nth this]
  rw [h1]
  exact (hp.map _).sum_nat
theorem pm_gf {xs : List Int} {size : Int} {P : Nat → Nat} {n : Nat} (hg : gv xs size = true) (hl : xs.length = n) (h : ∀ k, k < n → P k < n) (hp : (List.map P (List.range n)).Perm (List.range n)) : gf (pm xs P n) size = gf xs size := by
  unfold gf
  rw [if_pos hg, if_pos (pm_gv hg hl h), pm_length, pm_cnz hp, hl]

theorem size_nat {xs : List Int} {size : Int} (hg : gv xs size = true) : ∃ s : Nat, size = s ∧ s ∈ [2, 3, 4] ∧ xs.length = s * s := by
  obtain ⟨h2, h4⟩ := gv_size hg
  obtain ⟨s, rfl⟩ := Int.eq_ofNat_of_zero_le (by omega : 0 ≤ size)
  refine ⟨s, rfl, by simp; omega, ?_⟩
  have := gv_len hg
  rw [← Int.natCast_mul] at this
  omega
theorem turn_lt : ∀ s ∈ [2, 3, 4], ∀ k, k < s * s → turnIx (s : Nat) k < s * s := by decide +kernel
theorem turn_perm : ∀ s ∈ [2, 3, 4], (List.map (turnIx (s : Nat)) (List.range (s * s))).Perm (List.range (s * s)) := by decide +kernel
theorem turn_four : ∀ s ∈ [2, 3, 4], ∀ k, k < s * s → turnIx (s : Nat) (turnIx (s : Nat) (turnIx (s : Nat) (turnIx (s : Nat) k))) = k := by decide +kernel
theorem turn_edge : ∀ s ∈ [2, 3, 4], ∀ k, k < s → turnIx (s : Nat) (k * s + s - 1) = k := by decide +kernel

/-- what is known of a turned grid. -/
structure TurnFacts (xs : List Int) (size : Int) (n : Nat) : Prop where
  len : (turnL xs size).length = n
  valid : gv (turnL xs size) size = true
  four : turnL (turnL (turnL (turnL xs size) size) size) size = xs
  filled : gf (turnL xs size) size = gf xs size
  edge : ∀ k : Nat, (k : Int) < size → nth (turnL xs size) ((k : Int) * size + size - 1).toNat = nth xs k
theorem turnL_pm {xs : List Int} {size : Int} {n : Nat} (hg : gv xs size = true) (hl : xs.length = n) : turnL xs size = pm xs (turnIx size) n := by
  unfold turnL
  rw [if_pos hg, hl]; rfl
theorem turn_all {xs : List Int} {size : Int} {n : Nat} (hg : gv xs size = true) (hl : xs.length = n) : TurnFacts xs size n := by
  obtain ⟨s, rfl, hs, hls⟩ := size_nat hg
  have hn : n = s * s := by rw [← hl, hls]
  subst hn
  have lt := turn_lt s hs
  have e1 := turnL_pm hg hl
  have g1 : gv (turnL xs s) s = true := by rw [e1]; exact pm_gv hg hl lt
  have l1 : (turnL xs s).length = s * s := by rw [e1, pm_length]
  have e2 := turnL_pm g1 l1
  have g2 : gv (turnL (turnL xs s) s) s = true := by rw [e2]; exact pm_gv g1 l1 lt
  have l2 : (turnL (turnL xs s) s).length = s * s := by rw [e2, pm_length]
  have e3 := turnL_pm g2 l2
  have g3 : gv (turnL (turnL (turnL xs s) s) s) s = true := by rw [e3]; exact pm_gv g2 l2 lt
  have l3 : (turnL (turnL (turnL xs s) s) s).length = s * s := by rw [e3, pm_length]
  have e4 := turnL_pm g3 l3
  refine ⟨l1, g1, ?_, ?_, ?_⟩
  · rw [e4, e3, e2, e1, pm_pm lt, pm_pm (fun k hk => lt _ (lt k hk)), pm_pm (fun k hk => lt _ (lt _ (lt k hk)))]
    exact pm_id hl (turn_four s hs)
  · rw [e1]; exact pm_gf hg hl lt (turn_perm s hs)
  · intro k hk
    have hks : k < s := by omega
    have hi : k * s + s - 1 < s * s := by
      have := ix_lt hks (by omega : s - 1 < s)
      omega
    have e : ((k : Int) * (s : Int) + (s : Int) - 1).toNat = k * s + s - 1 := by
      rw [← Int.natCast_mul]; omega
    rw [e, e1, pm_nth hi, turn_edge s hs k hks]
theorem mir_lt : ∀ s ∈ [2, 3, 4], ∀ k, k < s * s → mirIx (s : Nat) k < s * s := by decide +kernel
theorem mir_two : ∀ s ∈ [2, 3, 4], ∀ k, k < s * s → mirIx (s : Nat) (mirIx (s : Nat) k) = k := by decide +kernel
theorem mir_turn : ∀ s ∈ [2, 3, 4], ∀ k, k < s * s → mirIx (s : Nat) (turnIx (s : Nat) k) = turnIx (s : Nat) (turnIx (s : Nat) (turnIx (s : Nat) (mirIx (s : Nat) k))) := by decide +kernel
structure MirFacts (xs : List Int) (size : Int) (n : Nat) : Prop where
  len : (mirL xs size).length = n
  valid : gv (mirL xs size) size = true
  two : mirL (mirL xs size) size = xs
  turned : turnL (mirL xs size) size = mirL (turnL (turnL (turnL xs size) size) size) size
theorem mirL_pm {xs : List Int} {size : Int} {n : Nat} (hg : gv xs size = true) (hl : xs.length = n) : mirL xs size = pm xs (mirIx size) n := by
  unfold mirL
  rw [if_pos hg, hl]; rfl
theorem mir_all {xs : List Int} {size : Int} {n : Nat} (hg : gv xs size = true) (hl : xs.length = n) : MirFacts xs size n := by
  obtain ⟨s, rfl, hs, hls⟩ := size_nat hg
  have hn : n = s * s := by rw [← hl, hls]
  subst hn
  have lt := turn_lt s hs
  have ltm := mir_lt s hs
  have e1 := mirL_pm hg hl
  have g1 : gv (mirL xs s) s = true := by rw [e1]; exact pm_gv hg hl ltm
  have l1 : (mirL xs s).length = s * s := by rw [e1, pm_length]
  have t1 := turnL_pm hg hl
  have h1 : gv (turnL xs s) s = true := by rw [t1]; exact pm_gv hg hl lt
  have m1 : (turnL xs s).length = s * s := by rw [t1, pm_length]
  have t2 := turnL_pm h1 m1
  have h2 : gv (turnL (turnL xs s) s) s = true := by rw [t2]; exact pm_gv h1 m1 lt
  have m2 : (turnL (turnL xs s) s).length = s * s := by rw [t2, pm_length]
  have t3 := turnL_pm h2 m2
  have h3 : gv (turnL (turnL (turnL xs s) s) s) s = true := by rw [t3]; exact pm_gv h2 m2 lt
  have m3 : (turnL (turnL (turnL xs s) s) s).length = s * s := by rw [t3, pm_length]
  refine ⟨l1, g1, ?_, ?_⟩
  · rw [mirL_pm g1 l1, e1, pm_pm ltm]
    exact pm_id hl (mir_two s hs)
  · rw [turnL_pm g1 l1, mirL_pm h3 m3, t3, t2, t1, e1, pm_pm lt, pm_pm ltm, pm_pm (fun k hk => lt _ (ltm k hk)), pm_pm (fun k hk => lt _ (lt _ (ltm k hk)))]
    exact pm_eq (mir_turn s hs)
end Go.Proofs.YtkeoflnmbcdmfaaDoor
