import Derived.Test.YtcjdjcpappfkgaaSearch
import Derived.Test.YtcjdjcpappfkgaaSqN
import Derived.Laws.AppendOwnNone
import Derived.Test.YtcjdjcpappfkgaaRF
import Derived.Test.YtcjdjcpappfkgaaWy
import Derived.Test.YtcjdjcpappfkgaaPow
import Derived.Test.YtcjdjcpappfkgaaQ4S
import Derived.RangeFuncBound
import Derived.RangeFuncLeaves
import Derived.Shelf.Abstract
import Derived.Shelf.RegionOpen
import Derived.WalkKit
import Derived.OwnWalkIn
import Derived.TacticsInMore
import Derived.LoopNIn
import Derived.LoopIn
import Derived.Test.YtcjdjcpappfkgaaSq
set_option maxRecDepth 8000
namespace Go.Proofs.Ytcjdjcpappfkgaa
open Go.ChangeShapes Go.WideShapes Go.ChangeAt Go.RowKit

/-- the grid with a number; no grid if there are not so many. -/
def sqn (size number : Int) : List Int :=
  if inr size 2 4 = true ∧ 0 ≤ number then ((sols size (size * size).toNat (zeros (size * size).toNat) 0)[number.toNat]?).getD [] else []
theorem zeros_length (n : Nat) : (zeros n).length = n := by simp [zeros]
theorem zeros_nth (n k : Nat) : nth (zeros n) k = 0 := by
  simp only [nth, zeros, List.getD_eq_getElem?_getD, List.getElem?_replicate]
  split <;> rfl
theorem part_zeros (n : Nat) : part (zeros n) 0 n = zeros n := by
  apply ext_nth (by rw [part_length, zeros_length])
  intro k hk
  rw [part_length] at hk
  rw [part_nth _ _ _ _ hk, zeros_nth]
  simp
theorem okAll_zeros {size : Int} (h : 0 ≤ size) (n : Nat) : okAll (zeros n) size n := fun k _ => by rw [zeros_nth]; omega
theorem pickL_getD (L : List (List Int)) (l : Int) : (pickL L l).1 = L[l.toNat]? := by
  unfold pickL
  cases L[l.toNat]? <;> rfl
theorem sqn_length {size number : Int} : (sqn size number).length ≤ 16 := by
  unfold sqn
  split
  · next h =>
    obtain ⟨h2, h4⟩ := inr_t h.1
    have := sq_bd h2 h4
    cases e : (sols size (size * size).toNat (zeros (size * size).toNat) 0)[number.toNat]? with
    | none => simp
    | some y =>
      have := sols_length size _ _ _ y (List.mem_of_getElem? e)
      rw [zeros_length] at this
      simp only [Option.getD_some]
      omega
  · simp

end Go.Proofs.Ytcjdjcpappfkgaa
set_option maxRecDepth 8000
namespace Go.Proofs.Ytcjdjcpappfkgaa
open Go.ChangeShapes Go.WideShapes Go.ChangeAt Go.RowKit

theorem lit_cell {w w2 : World} {cs : Array Value} {t : TypeId} {G : Nat} (hg : (w.alloc (.cells cs t)).grownBy w2 (some G)) (hG : G < w.heap.size) (i : Nat) : w2.cell? ⟨w.heap.size, i, none⟩ = cs[i]? := by
  have h := hg.block w.heap.size (by simp) (fun e => by injection e with e; omega)
  exact cell_of_row _ _ i cs t (0, 0) (h.trans (heap_alloc_new w _))
theorem only_alloc {a w : World} {row : Option Nat} (h : a.grownBy w row) (o : Obj) : a.grownBy (w.alloc o) row :=
  ⟨h.os, h.tape, h.output, Nat.le_trans h.size (by simp), fun i hi hne => (Below.heap_alloc w o i (Nat.lt_of_lt_of_le hi h.size)).trans (h.block i hi hne)⟩
theorem only_set {a w : World} {row : Option Nat} (h : a.grownBy w row) {p : Addr} (hp : a.heap.size ≤ p.block) (u : Value) : a.grownBy (w.setCell p u) row :=
  ⟨h.os, h.tape, h.output, by simpa [World.setCell] using h.size, fun i hi hne => (Below.heap_setCell w p u i (by omega)).trans (h.block i hi hne)⟩
theorem grown_of_alloc {w w2 : World} {o : Obj} {G : Nat} (h : (w.alloc o).grownBy w2 (some G)) : w.grownBy w2 (some G) := (only_alloc (World.grownBy.refl w _) o).trans h
theorem Ow.keptG {w w' : World} {lo G : Nat} {A : Option Addr} {n c : Nat} {xs : List Int} (h : Ow w lo A n c xs) (hg : w.grownBy w' (some G)) (hG : G < lo) : Ow w' lo A n c xs := by
  refine World.ownsRow.kept h hg ?_
  cases e : (Value.slice A n c).ownBlock with
  | none => exact .inl rfl
  | some g =>
    refine .inr fun he => ?_
    have h1 := h.own_lo g e
    injection he with he
    omega

end Go.Proofs.Ytcjdjcpappfkgaa
set_option maxRecDepth 8000
namespace Go.Proofs.Ytcjdjcpappfkgaa
open Go.ChangeShapes Go.WideShapes Go.ChangeAt Go.RowKit

theorem okAll_set' {xs : List Int} {size v : Int} {n p : Nat} (h : okAll xs size n) (v0 : 0 ≤ v) (v1 : v ≤ size) : okAll (xs.set p v) size n := by
  intro k hk
  by_cases hp : p < xs.length
  · rw [nth_set hp]
    split
    · exact ⟨v0, v1⟩
    · exact h k hk
  · rw [List.set_eq_of_length_le (by omega)]
    exact h k hk
theorem sols_ok {size : Int} (hs : 0 ≤ size) (n : Nat) : ∀ (f : Nat) (xs : List Int) (p : Nat), okAll xs size n → ∀ y, y ∈ sols size f xs p → okAll y size n := by
  intro f
  induction f with
  | zero => intro xs p h y hy; simp [sols] at hy; subst hy; exact h
  | succ f ih =>
    intro xs p h y hy
    refine solsFrom_all (P := fun y => okAll y size n) _ _ (fun u y h1 h2 hy => ?_) y hy
    exact ih _ _ (okAll_set' h (by omega) (by omega)) y hy
theorem okAll_gv {xs : List Int} {size : Int} {n : Nat} (hl : xs.length = n) (hn : (n : Int) = size * size) (h2 : 2 ≤ size) (h4 : size ≤ 4) (h : okAll xs size n) : gv xs size = true := by
  have h1 : inr size 2 4 = true := by simp [inr, h2, h4]
  have h3 : xs.all (fun x => inr x 0 size) = true := okTo_all (n := n) (fun j hj => by have := h j hj; simp [inr, this]) hl
  simp [gv, h1, h3, hl, hn]

theorem Ow.put {w : World} {lo g n c : Nat} {xs : List Int} (h : Ow w lo (some ⟨g, 0, none⟩) n c xs) (k : Nat) (v : Int) : Ow (w.setCell ⟨g, k, none⟩ (.int .i64 v)) lo (some ⟨g, 0, none⟩) n c (xs.set k v) := by
  have := (World.ownsRow.stored h k (.int .i64 v)).1
  rw [vals_set] at this
  exact this

end Go.Proofs.Ytcjdjcpappfkgaa
set_option maxRecDepth 8000
namespace Go.Proofs.Ytcjdjcpappfkgaa
open Go.ChangeShapes Go.WideShapes Go.ChangeAt Go.RowKit
theorem nth_set_ne {xs : List Int} {k i : Nat} {v : Int} (h : k ≠ i) : nth (xs.set k v) i = nth xs i := by simp [nth, List.getD_eq_getElem?_getD, List.getElem?_set_ne h]
theorem nth_set_same {xs : List Int} {k : Nat} {v : Int} (h : k < xs.length) : nth (xs.set k v) k = v := by simp [nth, List.getD_eq_getElem?_getD, List.getElem?_set_self h]
theorem grown_tr2 {a b c : World} {r : Option Nat} (h : a.grownBy b r) (k : b.grownBy c r) : a.grownBy c r := h.trans k
/-- what tryWays leaves: all ways told and the callback never said no, or it said no. -/
def TryPost (J : List (List Int) → World → Prop) (Jx : World → Prop) (lo V n c cell : Nat) (vs : List Int) (ways : List (List Int)) (e : Ending) (Y : World) : Prop :=
  (e = .returned (.bool true) ∧ J ways Y ∧ ∃ ys, Ow Y lo (some ⟨V, 0, none⟩) n c ys ∧ ∀ i, i < cell → nth ys i = nth vs i) ∨ (e = .returned (.bool false) ∧ Jx Y)
theorem bits_in {M t u : Nat} (h : M.testBit t = true) (h1 : 1 ≤ t) (h2 : t ≤ u) : (t : Int) ∈ bitsTo M u := by
  induction u with
  | zero => omega
  | succ u ih =>
    simp only [bitsTo, List.mem_append]
    by_cases e : t = u + 1
    · subst e; right; rw [if_pos h]; simp
    · left; exact ih (by omega)
set_option maxHeartbeats 1000000 in
theorem tryWays_any {lb : Array Value} {ms : List Int} {n c lo V cm : Nat} {Am : Option Addr} {J : List (List Int) → World → Prop} {Jx : World → Prop}
    (hM : ∀ pre X, J pre X → Rd X V Am n ms) (hm : ∀ i, i < n → 0 ≤ nth ms i ∧ nth ms i < 32) (hn : n ≤ 4)
    (hJ : ∀ pre X Y, J pre X → X.grownBy Y (some V) → J pre Y)
    (hcb : ∀ pre ys X, ys ∈ allW ms n [] → J pre X → Ow X lo (some ⟨V, 0, none⟩) n c ys → Calls Try.prog 70 lb X fun e Y => (e = .returned (.bool true) ∧ J (pre ++ [ys]) Y ∧ Ow Y lo (some ⟨V, 0, none⟩) n c ys) ∨ (e = .returned (.bool false) ∧ Jx Y)) :
    ∀ (d cell : Nat) (vs ys0 : List Int) (pre : List (List Int)) (X : World), cell + d = n → vs.length = cell → J pre X → Ow X lo (some ⟨V, 0, none⟩) n c ys0 → (∀ i, i < cell → nth ys0 i = nth vs i) → (∀ ys ∈ allW ms d vs, ys ∈ allW ms n []) →
      Calls Try.prog 69 #[.slice Am n cm, .slice (some ⟨V, 0, none⟩) n c, .int .i64 cell, .func (.func 70) #[] lb] X (TryPost J Jx lo V n c cell vs (pre ++ allW ms d vs)) := by
  intro d
  induction d with
  | zero =>
    intro cell vs ys0 pre X hd hl hj ho hys hin
    obtain rfl : cell = n := by omega
    obtain rfl : ys0 = vs := ext_nth (by rw [ho.len, hl]) (fun k hk => hys k (by rw [ho.len] at hk; exact hk))
    have HC := Lib.hid (hcb pre ys0 X (hin ys0 (by simp [allW])) hj ho)
    go_enter Try.func69, Try.ntmps69
    go_wp2_with fail
    refine HC.out.mono ?_
    rintro e Y (⟨rfl, hj', ho'⟩ | ⟨rfl, hx⟩)
    · go_wp2
      go_ret
      exact .inl ⟨rfl, hj', ys0, ho', fun _ _ => rfl⟩
    · go_wp2
      go_ret
      exact .inr ⟨rfl, hx⟩
  | succ d ih =>
    intro cell vs ys0 pre X hd hl hj ho hys hin
    have hlt : cell < n := by omega
    have hltI : (cell : Int) < (n : Int) := by omega
    have hneI : ((cell : Int) == (n : Int)) = false := by simp; omega
    obtain ⟨m0, m1⟩ := hm cell hlt
    obtain ⟨M, hMv⟩ := Int.eq_ofNat_of_zero_le m0
    have hM32 : M < 32 := by omega
    have HW := Lib.hid (show allW ms (d + 1) vs = (bitsTo M 4).flatMap fun x => allW ms d (vs ++ [x]) by simp only [allW, hl, hMv, Int.toNat_natCast])
    have Hin : ∀ (x : Int), x ∈ bitsTo M 4 → ∀ ys ∈ allW ms d (vs ++ [x]), ys ∈ allW ms n [] := fun x hx ys hy => hin ys (by rw [HW.out]; exact List.mem_flatMap.2 ⟨x, hx, hy⟩)
    rw [HW.out]
    have Hc1 := Lib.hid (show (cell : Int) + 1 = ((cell + 1 : Nat) : Int) by omega)
    have Hd := Lib.hid hd
    have Hl := Lib.hid hl
    clear hd hl
    go_enter Try.func69, Try.ntmps69
    go_wp2
    go_loopw [9] (fun v wr => ∃ (u t : Nat) (ys : List Int), u ≤ 4 ∧ t = u + 1 ∧ v = .int .i64 t ∧ J (pre ++ (bitsTo M u).flatMap fun x => allW ms d (vs ++ [x])) wr ∧ Ow wr lo (some ⟨V, 0, none⟩) n c ys ∧ ∀ i, i < cell → nth ys i = nth vs i) (fun v _ => 6 - (intOf v).toNat)
    case atStart => exact ⟨0, 1, ys0, by omega, rfl, rfl, by simpa [bitsTo] using hj, ho, hys⟩
    case round =>
      obtain ⟨u, t, ys, hu, ht, rfl, hj, ho, hys⟩ := hrel
      by_cases hu4 : u < 4
      · have ht4 : (t : Int) ≤ 4 := by omega
        have ht64 : (t : Int) < 64 := by omega
        obtain ⟨b, off, rfl, hbV, hck⟩ := (hM _ _ hj).at_ hlt
        rw [hMv] at hck
        have hand := and_pow0 M t hM32 (by omega)
        have hbits : bitsTo M (u + 1) = bitsTo M u ++ (if M.testBit t = true then [(t : Int)] else []) := by rw [bitsTo, ht]; rfl
        cases hb : M.testBit t
        · rw [hb] at hand
          have Hj := Lib.hid (show ∀ Y, wr.grownBy Y (some V) → J (pre ++ (bitsTo M (u + 1)).flatMap fun x => allW ms d (vs ++ [x])) Y from fun Y hg => by
            rw [hbits, hb]; simpa using hJ _ _ _ hj hg)
          have Ht := Lib.hid ht
          clear hbits hb ht
          go_wp2
          go_quiet (fail)
          go_wp2
          go_roundw
          case rel => exact ⟨u + 1, t + 1, ys, by omega, by have := Ht.out; omega, by go_num, Hj.out _ (grown_of_below (below_drewN (Below.refl _ _) _)), ho.below (below_drewN (Below.refl _ _) _), hys⟩
          case measure => simp [intOf]; omega
        · rw [hb] at hand
          obtain ⟨hold, hfr⟩ := ho.cell hlt
          have hmem : (t : Int) ∈ bitsTo M 4 := bits_in hb (by omega) (by omega)
          have Hj := Lib.hid (show ∀ Y, J ((pre ++ (bitsTo M u).flatMap fun x => allW ms d (vs ++ [x])) ++ allW ms d (vs ++ [(t : Int)])) Y → J (pre ++ (bitsTo M (u + 1)).flatMap fun x => allW ms d (vs ++ [x])) Y from fun Y h => by
            rw [hbits, hb]; simpa using h)
          have hys2 : ∀ i, i < cell + 1 → nth (ys.set cell (t : Int)) i = nth (vs ++ [(t : Int)]) i := fun i hi => by
            rw [nth_push Hl.out]
            by_cases e : i = cell
            · subst e; rw [nth_set_same (by rw [ho.len]; exact hlt), if_neg (by omega), if_pos rfl]
            · rw [nth_set_ne (fun e' => e e'.symm), if_pos (by omega)]; exact hys i (by omega)
          have hback : ∀ zs : List Int, (∀ i, i < cell + 1 → nth zs i = nth (vs ++ [(t : Int)]) i) → ∀ i, i < cell → nth zs i = nth vs i := fun zs h i hi => by
            rw [h i (by omega), nth_push Hl.out, if_pos hi]
          have HI := Lib.hid (show ∀ q, Calls Try.prog 69 #[.slice (some ⟨b, off, none⟩) n cm, .slice (some ⟨V, 0, none⟩) n c, .int .i64 ((cell : Int) + 1), .func (.func 70) #[] lb] ((wr.drewN q).setCell ⟨V, cell, none⟩ (.int .i64 (t : Int))) fun e Y =>
              ∃ bb : Bool, e = .returned (.bool bb) ∧ (bb = true → J (pre ++ (bitsTo M (u + 1)).flatMap fun x => allW ms d (vs ++ [x])) Y ∧ ∃ zs, Ow Y lo (some ⟨V, 0, none⟩) n c zs ∧ ∀ i, i < cell → nth zs i = nth vs i) ∧ (bb = false → Jx Y) from fun q => by
            rw [Hc1.out]
            refine (ih (cell + 1) (vs ++ [(t : Int)]) (ys.set cell (t : Int)) (pre ++ (bitsTo M u).flatMap fun x => allW ms d (vs ++ [x])) _ (by have := Hd.out; omega) (by rw [List.length_append, Hl.out]; rfl) (hJ _ _ _ hj (grown_tr2 (grown_of_below (below_drewN (Below.refl wr.heap.size wr) q)) (grown_set (i := cell) (v := .int .i64 (t : Int))))) (Ow.put (ho.below (below_drewN (Below.refl _ _) q)) cell (t : Int)) hys2 (Hin _ hmem)).mono ?_
            rintro e Y (⟨rfl, hj', zs, ho', hz⟩ | ⟨rfl, hx⟩)
            · exact ⟨true, rfl, fun _ => ⟨Hj.out _ hj', zs, ho', hback zs hz⟩, fun h => by cases h⟩
            · exact ⟨false, rfl, fun h => (by cases h), fun _ => hx⟩)
          have Ht := Lib.hid ht
          clear hbits hb ht hys2 hback hmem Hj ih hj ho hys hM hJ hcb
          go_wp2
          go_quiet (fail)
          go_wp2_with (go_at_call 69; refine (HI.out _).mono ?_; rintro e Y ⟨bb, rfl, hT, hF⟩)
          · rename_i hbb
            obtain rfl : bb = false := by simpa using hbb
            go_ret
            exact .inr ⟨rfl, hF rfl⟩
          · rename_i hbb
            obtain rfl : bb = true := by simpa using hbb
            obtain ⟨hj3, zs, ho3, hz3⟩ := hT rfl
            exact ⟨⟨u + 1, t + 1, zs, by omega, by have := Ht.out; omega, by go_num, hj3, ho3, hz3⟩, by simp [intOf]; omega⟩
      · obtain rfl : u = 4 := by omega
        subst ht
        go_wp2
        go_ret
        exact .inl ⟨rfl, hj, ys, ho, hys⟩
end Go.Proofs.Ytcjdjcpappfkgaa
set_option maxRecDepth 8000
namespace Go.Proofs.Ytcjdjcpappfkgaa
open Go.ChangeShapes Go.WideShapes Go.ChangeAt Go.RowKit Go.Shelf
attribute [local go_sem] Oper.semAt_some
/-- what the callback leaves, k being the rule's kind. -/
def CbPost (k v : Int) (ys : List Int) (X : World) (R : World → Bool → World → Prop) (e : Ending) (Y : World) : Prop :=
  (holdsB k v ys = false ∧ e = .returned (.bool true) ∧ Below X.heap.size X Y) ∨ (holdsB k v ys = true ∧ ∃ X' bb, Below X.heap.size X X' ∧ e = .returned (.bool bb) ∧ R X' bb Y)
set_option maxHeartbeats 1000000 in
theorem wayCb1 (l : Nat) (A : Option Addr) (c n : Nat) (v : Int) (V n2 c2 RB VB YB : Nat) (ys : List Int) (X : World) (R : World → Bool → World → Prop)
    (hr : X.cell? ⟨RB, 0, none⟩ = some (.iface 79 (.agg #[.int .i64 1, .slice A n c, .int .i64 v]))) (hv : X.cell? ⟨VB, 0, none⟩ = some (.slice (some ⟨V, 0, none⟩) n2 c2)) (hy : X.cell? ⟨YB, 0, none⟩ = some (.func (.yield l) #[] #[]))
    (hrd : Rd X X.heap.size (some ⟨V, 0, none⟩) n2 ys) (h4 : n2 ≤ 4) (hcap : n2 ≤ c2) (hsm : Hid (small4 ys n2)) (h2 : 4 ≤ 1 → 2 ≤ n2)
    (hY : holdsB 1 v ys = true → ∀ X', Below X.heap.size X X' → YieldAt Fence.wide 0 Try.prog l #[.slice (some ⟨V, 0, none⟩) n2 c2] X' fun e Y => ∃ bb, e = .returned (.bool bb) ∧ R X' bb Y) :
    Calls Try.prog 70 #[.pointer (some ⟨RB, 0, none⟩), .pointer (some ⟨VB, 0, none⟩), .pointer (some ⟨YB, 0, none⟩)] X (CbPost 1 v ys X R) := by
  have M : ∀ w, (method 205 79 (.agg #[.int .i64 1, .slice A n c, .int .i64 v]) "loop.example/gridpuzzles/impl.holdsWith").run Try.prog w = .ok (89, .agg #[.int .i64 1, .slice A n c, .int .i64 v]) w := fun w => mHolds1 _ _ _ _ _ w
  have HH := Lib.hid (hold1 A c n (some ⟨V, 0, none⟩) c2 n2 X.heap.size ys v X hrd (Nat.le_refl _) h4 hcap hsm h2)
  have hRB := cell_lt hr
  have hVB := cell_lt hv
  have hYB := cell_lt hy
  refine (callsIn_wide (n := 9)).1 ?_
  refine callsIn_of_wp Try.func70 rfl trivial ?_ rfl
  simp only [Try.ntmps70, List.size_toArray, List.length_cons, List.length_nil, Nat.reduceAdd, Nat.reduceSub, Array.replicate_succ, Array.replicate_zero, List.push_toArray, List.append_toArray, List.nil_append, List.cons_append]
  cases hh : holdsB 1 v ys
  · gi_wp2_with (refine ⟨trivial, ?_⟩; gi_at_call 89; refine (callsIn_wide.2 HH.out).mono ?_; rintro e w1 ⟨rfl, hb1⟩; rw [hh]; have hv1 := (hb1.cell (p := ⟨VB, 0, none⟩) hVB).trans hv; have hy1 := (hb1.cell (p := ⟨YB, 0, none⟩) hYB).trans hy)
    refine ⟨fun _ h => (by cases h), ?_⟩
    gi_wp2
    go_ret
    exact .inl ⟨hh, rfl, hb1⟩
  · gi_wp2_with (refine ⟨trivial, ?_⟩; gi_at_call 89; refine (callsIn_wide.2 HH.out).mono ?_; rintro e w1 ⟨rfl, hb1⟩; rw [hh]; have hv1 := (hb1.cell (p := ⟨VB, 0, none⟩) hVB).trans hv; have hy1 := (hb1.cell (p := ⟨YB, 0, none⟩) hYB).trans hy; obtain ⟨fn, tmps, assign, body, hyy, hR⟩ := hY hh w1 hb1)
    refine (roundIn_any hR).mono ?_
    rintro e Y ⟨bb, rfl, hR'⟩
    gi_wp2
    go_ret
    exact .inr ⟨hh, w1, bb, hb1, rfl, hR'⟩

set_option maxHeartbeats 1000000 in
theorem wayCb2 (l : Nat) (A : Option Addr) (c n : Nat) (v : Int) (V n2 c2 RB VB YB : Nat) (ys : List Int) (X : World) (R : World → Bool → World → Prop)
    (hr : X.cell? ⟨RB, 0, none⟩ = some (.iface 80 (.agg #[.int .i64 2, .slice A n c, .int .i64 v]))) (hv : X.cell? ⟨VB, 0, none⟩ = some (.slice (some ⟨V, 0, none⟩) n2 c2)) (hy : X.cell? ⟨YB, 0, none⟩ = some (.func (.yield l) #[] #[]))
    (hrd : Rd X X.heap.size (some ⟨V, 0, none⟩) n2 ys) (h4 : n2 ≤ 4) (hcap : n2 ≤ c2) (hsm : Hid (small4 ys n2)) (h2 : 4 ≤ 2 → 2 ≤ n2)
    (hY : holdsB 2 v ys = true → ∀ X', Below X.heap.size X X' → YieldAt Fence.wide 0 Try.prog l #[.slice (some ⟨V, 0, none⟩) n2 c2] X' fun e Y => ∃ bb, e = .returned (.bool bb) ∧ R X' bb Y) :
    Calls Try.prog 70 #[.pointer (some ⟨RB, 0, none⟩), .pointer (some ⟨VB, 0, none⟩), .pointer (some ⟨YB, 0, none⟩)] X (CbPost 2 v ys X R) := by
  have M : ∀ w, (method 205 80 (.agg #[.int .i64 2, .slice A n c, .int .i64 v]) "loop.example/gridpuzzles/impl.holdsWith").run Try.prog w = .ok (91, .agg #[.int .i64 2, .slice A n c, .int .i64 v]) w := fun w => mHolds2 _ _ _ _ _ w
  have HH := Lib.hid (hold2 A c n (some ⟨V, 0, none⟩) c2 n2 X.heap.size ys v X hrd (Nat.le_refl _) h4 hcap hsm h2)
  have hRB := cell_lt hr
  have hVB := cell_lt hv
  have hYB := cell_lt hy
  refine (callsIn_wide (n := 9)).1 ?_
  refine callsIn_of_wp Try.func70 rfl trivial ?_ rfl
  simp only [Try.ntmps70, List.size_toArray, List.length_cons, List.length_nil, Nat.reduceAdd, Nat.reduceSub, Array.replicate_succ, Array.replicate_zero, List.push_toArray, List.append_toArray, List.nil_append, List.cons_append]
  cases hh : holdsB 2 v ys
  · gi_wp2_with (refine ⟨trivial, ?_⟩; gi_at_call 91; refine (callsIn_wide.2 HH.out).mono ?_; rintro e w1 ⟨rfl, hb1⟩; rw [hh]; have hv1 := (hb1.cell (p := ⟨VB, 0, none⟩) hVB).trans hv; have hy1 := (hb1.cell (p := ⟨YB, 0, none⟩) hYB).trans hy)
    refine ⟨fun _ h => (by cases h), ?_⟩
    gi_wp2
    go_ret
    exact .inl ⟨hh, rfl, hb1⟩
  · gi_wp2_with (refine ⟨trivial, ?_⟩; gi_at_call 91; refine (callsIn_wide.2 HH.out).mono ?_; rintro e w1 ⟨rfl, hb1⟩; rw [hh]; have hv1 := (hb1.cell (p := ⟨VB, 0, none⟩) hVB).trans hv; have hy1 := (hb1.cell (p := ⟨YB, 0, none⟩) hYB).trans hy; obtain ⟨fn, tmps, assign, body, hyy, hR⟩ := hY hh w1 hb1)
    refine (roundIn_any hR).mono ?_
    rintro e Y ⟨bb, rfl, hR'⟩
    gi_wp2
    go_ret
    exact .inr ⟨hh, w1, bb, hb1, rfl, hR'⟩

set_option maxHeartbeats 1000000 in
theorem wayCb3 (l : Nat) (A : Option Addr) (c n : Nat) (v : Int) (V n2 c2 RB VB YB : Nat) (ys : List Int) (X : World) (R : World → Bool → World → Prop)
    (hr : X.cell? ⟨RB, 0, none⟩ = some (.iface 81 (.agg #[.int .i64 3, .slice A n c, .int .i64 v]))) (hv : X.cell? ⟨VB, 0, none⟩ = some (.slice (some ⟨V, 0, none⟩) n2 c2)) (hy : X.cell? ⟨YB, 0, none⟩ = some (.func (.yield l) #[] #[]))
    (hrd : Rd X X.heap.size (some ⟨V, 0, none⟩) n2 ys) (h4 : n2 ≤ 4) (hcap : n2 ≤ c2) (hsm : Hid (small4 ys n2)) (h2 : 4 ≤ 3 → 2 ≤ n2)
    (hY : holdsB 3 v ys = true → ∀ X', Below X.heap.size X X' → YieldAt Fence.wide 0 Try.prog l #[.slice (some ⟨V, 0, none⟩) n2 c2] X' fun e Y => ∃ bb, e = .returned (.bool bb) ∧ R X' bb Y) :
    Calls Try.prog 70 #[.pointer (some ⟨RB, 0, none⟩), .pointer (some ⟨VB, 0, none⟩), .pointer (some ⟨YB, 0, none⟩)] X (CbPost 3 v ys X R) := by
  have M : ∀ w, (method 205 81 (.agg #[.int .i64 3, .slice A n c, .int .i64 v]) "loop.example/gridpuzzles/impl.holdsWith").run Try.prog w = .ok (94, .agg #[.int .i64 3, .slice A n c, .int .i64 v]) w := fun w => mHolds3 _ _ _ _ _ w
  have HH := Lib.hid (hold3 A c n (some ⟨V, 0, none⟩) c2 n2 X.heap.size ys v X hrd (Nat.le_refl _) h4 hcap hsm h2)
  have hRB := cell_lt hr
  have hVB := cell_lt hv
  have hYB := cell_lt hy
  refine (callsIn_wide (n := 9)).1 ?_
  refine callsIn_of_wp Try.func70 rfl trivial ?_ rfl
  simp only [Try.ntmps70, List.size_toArray, List.length_cons, List.length_nil, Nat.reduceAdd, Nat.reduceSub, Array.replicate_succ, Array.replicate_zero, List.push_toArray, List.append_toArray, List.nil_append, List.cons_append]
  cases hh : holdsB 3 v ys
  · gi_wp2_with (refine ⟨trivial, ?_⟩; gi_at_call 94; refine (callsIn_wide.2 HH.out).mono ?_; rintro e w1 ⟨rfl, hb1⟩; rw [hh]; have hv1 := (hb1.cell (p := ⟨VB, 0, none⟩) hVB).trans hv; have hy1 := (hb1.cell (p := ⟨YB, 0, none⟩) hYB).trans hy)
    refine ⟨fun _ h => (by cases h), ?_⟩
    gi_wp2
    go_ret
    exact .inl ⟨hh, rfl, hb1⟩
  · gi_wp2_with (refine ⟨trivial, ?_⟩; gi_at_call 94; refine (callsIn_wide.2 HH.out).mono ?_; rintro e w1 ⟨rfl, hb1⟩; rw [hh]; have hv1 := (hb1.cell (p := ⟨VB, 0, none⟩) hVB).trans hv; have hy1 := (hb1.cell (p := ⟨YB, 0, none⟩) hYB).trans hy; obtain ⟨fn, tmps, assign, body, hyy, hR⟩ := hY hh w1 hb1)
    refine (roundIn_any hR).mono ?_
    rintro e Y ⟨bb, rfl, hR'⟩
    gi_wp2
    go_ret
    exact .inr ⟨hh, w1, bb, hb1, rfl, hR'⟩

set_option maxHeartbeats 1000000 in
theorem wayCb4 (l : Nat) (A : Option Addr) (c n : Nat) (v : Int) (V n2 c2 RB VB YB : Nat) (ys : List Int) (X : World) (R : World → Bool → World → Prop)
    (hr : X.cell? ⟨RB, 0, none⟩ = some (.iface 82 (.agg #[.int .i64 4, .slice A n c, .int .i64 v]))) (hv : X.cell? ⟨VB, 0, none⟩ = some (.slice (some ⟨V, 0, none⟩) n2 c2)) (hy : X.cell? ⟨YB, 0, none⟩ = some (.func (.yield l) #[] #[]))
    (hrd : Rd X X.heap.size (some ⟨V, 0, none⟩) n2 ys) (h4 : n2 ≤ 4) (hcap : n2 ≤ c2) (hsm : Hid (small4 ys n2)) (h2 : 4 ≤ 4 → 2 ≤ n2)
    (hY : holdsB 4 v ys = true → ∀ X', Below X.heap.size X X' → YieldAt Fence.wide 0 Try.prog l #[.slice (some ⟨V, 0, none⟩) n2 c2] X' fun e Y => ∃ bb, e = .returned (.bool bb) ∧ R X' bb Y) :
    Calls Try.prog 70 #[.pointer (some ⟨RB, 0, none⟩), .pointer (some ⟨VB, 0, none⟩), .pointer (some ⟨YB, 0, none⟩)] X (CbPost 4 v ys X R) := by
  have M : ∀ w, (method 205 82 (.agg #[.int .i64 4, .slice A n c, .int .i64 v]) "loop.example/gridpuzzles/impl.holdsWith").run Try.prog w = .ok (96, .agg #[.int .i64 4, .slice A n c, .int .i64 v]) w := fun w => mHolds4 _ _ _ _ _ w
  have HH := Lib.hid (hold4 A c n (some ⟨V, 0, none⟩) c2 n2 X.heap.size ys v X hrd (Nat.le_refl _) h4 hcap hsm h2)
  have hRB := cell_lt hr
  have hVB := cell_lt hv
  have hYB := cell_lt hy
  refine (callsIn_wide (n := 9)).1 ?_
  refine callsIn_of_wp Try.func70 rfl trivial ?_ rfl
  simp only [Try.ntmps70, List.size_toArray, List.length_cons, List.length_nil, Nat.reduceAdd, Nat.reduceSub, Array.replicate_succ, Array.replicate_zero, List.push_toArray, List.append_toArray, List.nil_append, List.cons_append]
  cases hh : holdsB 4 v ys
  · gi_wp2_with (refine ⟨trivial, ?_⟩; gi_at_call 96; refine (callsIn_wide.2 HH.out).mono ?_; rintro e w1 ⟨rfl, hb1⟩; rw [hh]; have hv1 := (hb1.cell (p := ⟨VB, 0, none⟩) hVB).trans hv; have hy1 := (hb1.cell (p := ⟨YB, 0, none⟩) hYB).trans hy)
    refine ⟨fun _ h => (by cases h), ?_⟩
    gi_wp2
    go_ret
    exact .inl ⟨hh, rfl, hb1⟩
  · gi_wp2_with (refine ⟨trivial, ?_⟩; gi_at_call 96; refine (callsIn_wide.2 HH.out).mono ?_; rintro e w1 ⟨rfl, hb1⟩; rw [hh]; have hv1 := (hb1.cell (p := ⟨VB, 0, none⟩) hVB).trans hv; have hy1 := (hb1.cell (p := ⟨YB, 0, none⟩) hYB).trans hy; obtain ⟨fn, tmps, assign, body, hyy, hR⟩ := hY hh w1 hb1)
    refine (roundIn_any hR).mono ?_
    rintro e Y ⟨bb, rfl, hR'⟩
    gi_wp2
    go_ret
    exact .inr ⟨hh, w1, bb, hb1, rfl, hR'⟩

set_option maxHeartbeats 1000000 in
theorem wayCb5 (l : Nat) (A : Option Addr) (c n : Nat) (v : Int) (V n2 c2 RB VB YB : Nat) (ys : List Int) (X : World) (R : World → Bool → World → Prop)
    (hr : X.cell? ⟨RB, 0, none⟩ = some (.iface 83 (.agg #[.int .i64 5, .slice A n c, .int .i64 v]))) (hv : X.cell? ⟨VB, 0, none⟩ = some (.slice (some ⟨V, 0, none⟩) n2 c2)) (hy : X.cell? ⟨YB, 0, none⟩ = some (.func (.yield l) #[] #[]))
    (hrd : Rd X X.heap.size (some ⟨V, 0, none⟩) n2 ys) (h4 : n2 ≤ 4) (hcap : n2 ≤ c2) (hsm : Hid (small4 ys n2)) (h2 : 4 ≤ 5 → 2 ≤ n2)
    (hY : holdsB 5 v ys = true → ∀ X', Below X.heap.size X X' → YieldAt Fence.wide 0 Try.prog l #[.slice (some ⟨V, 0, none⟩) n2 c2] X' fun e Y => ∃ bb, e = .returned (.bool bb) ∧ R X' bb Y) :
    Calls Try.prog 70 #[.pointer (some ⟨RB, 0, none⟩), .pointer (some ⟨VB, 0, none⟩), .pointer (some ⟨YB, 0, none⟩)] X (CbPost 5 v ys X R) := by
  have M : ∀ w, (method 205 83 (.agg #[.int .i64 5, .slice A n c, .int .i64 v]) "loop.example/gridpuzzles/impl.holdsWith").run Try.prog w = .ok (98, .agg #[.int .i64 5, .slice A n c, .int .i64 v]) w := fun w => mHolds5 _ _ _ _ _ w
  have HH := Lib.hid (hold5 A c n (some ⟨V, 0, none⟩) c2 n2 X.heap.size ys v X hrd (Nat.le_refl _) h4 hcap hsm h2)
  have hRB := cell_lt hr
  have hVB := cell_lt hv
  have hYB := cell_lt hy
  refine (callsIn_wide (n := 9)).1 ?_
  refine callsIn_of_wp Try.func70 rfl trivial ?_ rfl
  simp only [Try.ntmps70, List.size_toArray, List.length_cons, List.length_nil, Nat.reduceAdd, Nat.reduceSub, Array.replicate_succ, Array.replicate_zero, List.push_toArray, List.append_toArray, List.nil_append, List.cons_append]
  cases hh : holdsB 5 v ys
  · gi_wp2_with (refine ⟨trivial, ?_⟩; gi_at_call 98; refine (callsIn_wide.2 HH.out).mono ?_; rintro e w1 ⟨rfl, hb1⟩; rw [hh]; have hv1 := (hb1.cell (p := ⟨VB, 0, none⟩) hVB).trans hv; have hy1 := (hb1.cell (p := ⟨YB, 0, none⟩) hYB).trans hy)
    refine ⟨fun _ h => (by cases h), ?_⟩
    gi_wp2
    go_ret
    exact .inl ⟨hh, rfl, hb1⟩
  · gi_wp2_with (refine ⟨trivial, ?_⟩; gi_at_call 98; refine (callsIn_wide.2 HH.out).mono ?_; rintro e w1 ⟨rfl, hb1⟩; rw [hh]; have hv1 := (hb1.cell (p := ⟨VB, 0, none⟩) hVB).trans hv; have hy1 := (hb1.cell (p := ⟨YB, 0, none⟩) hYB).trans hy; obtain ⟨fn, tmps, assign, body, hyy, hR⟩ := hY hh w1 hb1)
    refine (roundIn_any hR).mono ?_
    rintro e Y ⟨bb, rfl, hR'⟩
    gi_wp2
    go_ret
    exact .inr ⟨hh, w1, bb, hb1, rfl, hR'⟩

theorem wayCb (l : Nat) (A : Option Addr) (c n : Nat) (k v : Int) (V n2 c2 RB VB YB : Nat) (ys : List Int) (X : World) (R : World → Bool → World → Prop) (hk : k = 1 ∨ k = 2 ∨ k = 3 ∨ k = 4 ∨ k = 5)
    (hr : X.cell? ⟨RB, 0, none⟩ = some (ofk k (rval k A n c v))) (hv : X.cell? ⟨VB, 0, none⟩ = some (.slice (some ⟨V, 0, none⟩) n2 c2)) (hy : X.cell? ⟨YB, 0, none⟩ = some (.func (.yield l) #[] #[]))
    (hrd : Rd X X.heap.size (some ⟨V, 0, none⟩) n2 ys) (h4 : n2 ≤ 4) (hcap : n2 ≤ c2) (hsm : Hid (small4 ys n2)) (h2 : k = 1 ∨ k = 2 ∨ k = 3 ∨ 2 ≤ n2)
    (hY : holdsB k v ys = true → ∀ X', Below X.heap.size X X' → YieldAt Fence.wide 0 Try.prog l #[.slice (some ⟨V, 0, none⟩) n2 c2] X' fun e Y => ∃ bb, e = .returned (.bool bb) ∧ R X' bb Y) :
    Calls Try.prog 70 #[.pointer (some ⟨RB, 0, none⟩), .pointer (some ⟨VB, 0, none⟩), .pointer (some ⟨YB, 0, none⟩)] X (CbPost k v ys X R) := by
  rcases hk with rfl | rfl | rfl | rfl | rfl
  · exact wayCb1 l A c n v V n2 c2 RB VB YB ys X R hr hv hy hrd h4 hcap hsm (by omega) hY
  · exact wayCb2 l A c n v V n2 c2 RB VB YB ys X R hr hv hy hrd h4 hcap hsm (by omega) hY
  · exact wayCb3 l A c n v V n2 c2 RB VB YB ys X R hr hv hy hrd h4 hcap hsm (by omega) hY
  · exact wayCb4 l A c n v V n2 c2 RB VB YB ys X R hr hv hy hrd h4 hcap hsm (by omega) hY
  · exact wayCb5 l A c n v V n2 c2 RB VB YB ys X R hr hv hy hrd h4 hcap hsm (by omega) hY
end Go.Proofs.Ytcjdjcpappfkgaa
set_option maxRecDepth 8000
namespace Go.Proofs.Ytcjdjcpappfkgaa
open Go.ChangeShapes Go.WideShapes Go.ChangeAt Go.RowKit

def zeroArr (n : Nat) : Array Value := madeCells #[.int .i64 0] n
theorem make_ints {n : Nat} (hn : n ≤ 1099511627776) (w : World) : (Instr.makeSlice 22 (.int .i64 (n : Int)) (.int .i64 (n : Int))).run Try.prog w = .ok (.slice (some ⟨w.heap.size, 0, none⟩) n n) (w.alloc (.cells (zeroArr n) 3)) := by
  obtain ⟨i0, hi, hz0, hz1, hz2⟩ := info_parts int_info
  have hr := run_make (P := Try.prog) w 22 3 i0 (.int .i64 0) Try.underlying22 hi hz0 .i64 .i64 (n : Int) (n : Int) (by omega) (Int.le_refl _) (by rw [hz2]; omega) (by omega)
  rw [hz1, Int.toNat_natCast, Nat.mul_one] at hr
  exact hr
theorem zeroArr_ow {n lo : Nat} (hn : n ≤ 1099511627776) (w : World) (hlo : lo ≤ w.heap.size) : Ow (w.alloc (.cells (zeroArr n) 3)) lo (some ⟨w.heap.size, 0, none⟩) n n (zeros n) := by
  have hs : (zeroArr n).size = n * 1 := by simp [zeroArr, madeCells]
  have h := World.ownsRow_lit (e := 3) (size := 1) w (zeroArr n) n hlo (by simp only [maxLen]; omega) hs
  unfold Ow
  have e : (zeroArr n).toList = vals (zeros n) := by
    rw [zeroArr, toList_madeCells_one]
    simp [vals, zeros]
  rw [← e]
  exact h
end Go.Proofs.Ytcjdjcpappfkgaa
