import Derived.Test.YtchcmgaohcldjaaDoorSPow
import Derived.Test.YtchcmgaohcldjaaDoorWy
import Derived.Test.YtchcmgaohcldjaaDoorQ4S
import Derived.RangeFuncBound
import Derived.RangeFuncLeaves
import Derived.Shelf.Abstract
import Derived.Shelf.RegionOpen
import Derived.WalkKit
import Derived.OwnWalkIn
import Derived.TacticsInMore
import Derived.LoopNIn
import Derived.LoopIn
import Derived.Test.YtchcmgaohcldjaaDoorSq
import Derived.Test.YtchcmgaohcldjaaDoorWz
import Derived.BigRegionIn
import Derived.Test.YtchcmgaohcldjaaDoorC1
import Derived.Test.YtchcmgaohcldjaaDoorBase
import Derived.Test.YtchcmgaohcldjaaDoorC1L
import Derived.Deep.RegionHeld3
set_option maxRecDepth 8000
namespace Go.Proofs.YtchcmgaohcldjaaDoor
open Go.ChangeShapes Go.WideShapes Go.ChangeAt Go.RowKit
/-- what tryWays leaves: all ways told and the callback never said no, or it said no. -/
def TryPost (J : List (List Int) → World → Prop) (Jx : World → Prop) (lo V n c cell : Nat) (vs : List Int) (ways : List (List Int)) (e : Ending) (Y : World) : Prop :=
  (e = .returned (.bool true) ∧ J ways Y ∧ ∃ ys, Ow Y lo (some ⟨V, 0, none⟩) n c ys ∧ ∀ i, i < cell → nth ys i = nth vs i) ∨ (e = .returned (.bool false) ∧ Jx Y)
theorem nth_set_ne {xs : List Int} {k i : Nat} {v : Int} (h : k ≠ i) : nth (xs.set k v) i = nth xs i := by simp [nth, List.getD_eq_getElem?_getD, List.getElem?_set_ne h]
theorem nth_set_same {xs : List Int} {k : Nat} {v : Int} (h : k < xs.length) : nth (xs.set k v) k = v := by simp [nth, List.getD_eq_getElem?_getD, List.getElem?_set_self h]
theorem grown_tr2 {a b c : World} {r : Option Nat} (h : a.grownBy b r) (k : b.grownBy c r) : a.grownBy c r := h.trans k
theorem bits_in {M t u : Nat} (h : M.testBit t = true) (h1 : 1 ≤ t) (h2 : t ≤ u) : (t : Int) ∈ bitsTo M u := by
  induction u with
  | zero => omega
  | succ u ih =>
    simp only [bitsTo, List.mem_append]
    by_cases e : t = u + 1
    · subst e; right; rw [if_pos h]; simp
    · left; exact ih (by omega)
set_option maxHeartbeats 1000000 in
theorem tryWays_any {lb : Array Value} {ms : List Int} {n c lo V cm : Nat} {Am : Option Addr} {J : List (List Int) → World → Prop} {Jx : World → Prop}
    (hM : ∀ pre X, J pre X → Rd X V Am n ms) (hm : ∀ i, i < n → 0 ≤ nth ms i ∧ nth ms i < 32) (hn : n ≤ 4)
    (hJ : ∀ pre X Y, J pre X → X.grownBy Y (some V) → J pre Y)
    (hcb : ∀ pre ys X, ys ∈ allW ms n [] → J pre X → Ow X lo (some ⟨V, 0, none⟩) n c ys → Calls Tryd.prog 71 lb X fun e Y => (e = .returned (.bool true) ∧ J (pre ++ [ys]) Y ∧ Ow Y lo (some ⟨V, 0, none⟩) n c ys) ∨ (e = .returned (.bool false) ∧ Jx Y)) :
    ∀ (d cell : Nat) (vs ys0 : List Int) (pre : List (List Int)) (X : World), cell + d = n → vs.length = cell → J pre X → Ow X lo (some ⟨V, 0, none⟩) n c ys0 → (∀ i, i < cell → nth ys0 i = nth vs i) → (∀ ys ∈ allW ms d vs, ys ∈ allW ms n []) →
      Calls Tryd.prog 70 #[.slice Am n cm, .slice (some ⟨V, 0, none⟩) n c, .int .i64 cell, .func (.func 71) #[] lb] X (TryPost J Jx lo V n c cell vs (pre ++ allW ms d vs)) := by
  intro d
  induction d with
  | zero =>
    intro cell vs ys0 pre X hd hl hj ho hys hin
    obtain rfl : cell = n := by omega
    obtain rfl : ys0 = vs := ext_nth (by rw [ho.len, hl]) (fun k hk => hys k (by rw [ho.len] at hk; exact hk))
    have HC := Lib.hid (hcb pre ys0 X (hin ys0 (by simp [allW])) hj ho)
    go_enter Tryd.func70, Tryd.ntmps70
    go_wp2_with fail
    refine HC.out.mono ?_
    rintro e Y (⟨rfl, hj', ho'⟩ | ⟨rfl, hx⟩)
    · go_wp2
      go_ret
      exact .inl ⟨rfl, hj', ys0, ho', fun _ _ => rfl⟩
    · go_wp2
      go_ret
      exact .inr ⟨rfl, hx⟩
  | succ d ih =>
    intro cell vs ys0 pre X hd hl hj ho hys hin
    have hlt : cell < n := by omega
    have hltI : (cell : Int) < (n : Int) := by omega
    have hneI : ((cell : Int) == (n : Int)) = false := by simp; omega
    obtain ⟨m0, m1⟩ := hm cell hlt
    obtain ⟨M, hMv⟩ := Int.eq_ofNat_of_zero_le m0
    have hM32 : M < 32 := by omega
    have HW := Lib.hid (show allW ms (d + 1) vs = (bitsTo M 4).flatMap fun x => allW ms d (vs ++ [x]) by simp only [allW, hl, hMv, Int.toNat_natCast])
    have Hin : ∀ (x : Int), x ∈ bitsTo M 4 → ∀ ys ∈ allW ms d (vs ++ [x]), ys ∈ allW ms n [] := fun x hx ys hy => hin ys (by rw [HW.out]; exact List.mem_flatMap.2 ⟨x, hx, hy⟩)
    rw [HW.out]
    have Hc1 := Lib.hid (show (cell : Int) + 1 = ((cell + 1 : Nat) : Int) by omega)
    have Hd := Lib.hid hd
    have Hl := Lib.hid hl
    clear hd hl
    go_enter Tryd.func70, Tryd.ntmps70
    go_wp2
    go_loopw [9] (fun v wr => ∃ (u t : Nat) (ys : List Int), u ≤ 4 ∧ t = u + 1 ∧ v = .int .i64 t ∧ J (pre ++ (bitsTo M u).flatMap fun x => allW ms d (vs ++ [x])) wr ∧ Ow wr lo (some ⟨V, 0, none⟩) n c ys ∧ ∀ i, i < cell → nth ys i = nth vs i) (fun v _ => 6 - (intOf v).toNat)
    case atStart => exact ⟨0, 1, ys0, by omega, rfl, rfl, by simpa [bitsTo] using hj, ho, hys⟩
    case round =>
      obtain ⟨u, t, ys, hu, ht, rfl, hj, ho, hys⟩ := hrel
      by_cases hu4 : u < 4
      · have ht4 : (t : Int) ≤ 4 := by omega
        have ht64 : (t : Int) < 64 := by omega
        obtain ⟨b, off, rfl, hbV, hck⟩ := (hM _ _ hj).at_ hlt
        rw [hMv] at hck
        have hand := and_pow0 M t hM32 (by omega)
        have hbits : bitsTo M (u + 1) = bitsTo M u ++ (if M.testBit t = true then [(t : Int)] else []) := by rw [bitsTo, ht]; rfl
        cases hb : M.testBit t
        · rw [hb] at hand
          have Hj := Lib.hid (show ∀ Y, wr.grownBy Y (some V) → J (pre ++ (bitsTo M (u + 1)).flatMap fun x => allW ms d (vs ++ [x])) Y from fun Y hg => by
            rw [hbits, hb]; simpa using hJ _ _ _ hj hg)
          have Ht := Lib.hid ht
          clear hbits hb ht
          go_wp2
          go_quiet (fail)
          go_wp2
          go_roundw
          case rel => exact ⟨u + 1, t + 1, ys, by omega, by have := Ht.out; omega, by go_num, Hj.out _ (grown_of_below (below_drewN (Below.refl _ _) _)), ho.below (below_drewN (Below.refl _ _) _), hys⟩
          case measure => simp [intOf]; omega
        · rw [hb] at hand
          obtain ⟨hold, hfr⟩ := ho.cell hlt
          have hmem : (t : Int) ∈ bitsTo M 4 := bits_in hb (by omega) (by omega)
          have Hj := Lib.hid (show ∀ Y, J ((pre ++ (bitsTo M u).flatMap fun x => allW ms d (vs ++ [x])) ++ allW ms d (vs ++ [(t : Int)])) Y → J (pre ++ (bitsTo M (u + 1)).flatMap fun x => allW ms d (vs ++ [x])) Y from fun Y h => by
            rw [hbits, hb]; simpa using h)
          have hys2 : ∀ i, i < cell + 1 → nth (ys.set cell (t : Int)) i = nth (vs ++ [(t : Int)]) i := fun i hi => by
            rw [nth_push Hl.out]
            by_cases e : i = cell
            · subst e; rw [nth_set_same (by rw [ho.len]; exact hlt), if_neg (by omega), if_pos rfl]
            · rw [nth_set_ne (fun e' => e e'.symm), if_pos (by omega)]; exact hys i (by omega)
          have hback : ∀ zs : List Int, (∀ i, i < cell + 1 → nth zs i = nth (vs ++ [(t : Int)]) i) → ∀ i, i < cell → nth zs i = nth vs i := fun zs h i hi => by
            rw [h i (by omega), nth_push Hl.out, if_pos hi]
          have HI := Lib.hid (show ∀ q, Calls Tryd.prog 70 #[.slice (some ⟨b, off, none⟩) n cm, .slice (some ⟨V, 0, none⟩) n c, .int .i64 ((cell : Int) + 1), .func (.func 71) #[] lb] ((wr.drewN q).setCell ⟨V, cell, none⟩ (.int .i64 (t : Int))) fun e Y =>
              ∃ bb : Bool, e = .returned (.bool bb) ∧ (bb = true → J (pre ++ (bitsTo M (u + 1)).flatMap fun x => allW ms d (vs ++ [x])) Y ∧ ∃ zs, Ow Y lo (some ⟨V, 0, none⟩) n c zs ∧ ∀ i, i < cell → nth zs i = nth vs i) ∧ (bb = false → Jx Y) from fun q => by
            rw [Hc1.out]
            refine (ih (cell + 1) (vs ++ [(t : Int)]) (ys.set cell (t : Int)) (pre ++ (bitsTo M u).flatMap fun x => allW ms d (vs ++ [x])) _ (by have := Hd.out; omega) (by rw [List.length_append, Hl.out]; rfl) (hJ _ _ _ hj (grown_tr2 (grown_of_below (below_drewN (Below.refl wr.heap.size wr) q)) (grown_set (i := cell) (v := .int .i64 (t : Int))))) (Ow.put (ho.below (below_drewN (Below.refl _ _) q)) cell (t : Int)) hys2 (Hin _ hmem)).mono ?_
            rintro e Y (⟨rfl, hj', zs, ho', hz⟩ | ⟨rfl, hx⟩)
            · exact ⟨true, rfl, fun _ => ⟨Hj.out _ hj', zs, ho', hback zs hz⟩, fun h => by cases h⟩
            · exact ⟨false, rfl, fun h => (by cases h), fun _ => hx⟩)
          have Ht := Lib.hid ht
          clear hbits hb ht hys2 hback hmem Hj ih hj ho hys hM hJ hcb
          go_wp2
          go_quiet (fail)
          go_wp2_with (go_at_call 70; refine (HI.out _).mono ?_; rintro e Y ⟨bb, rfl, hT, hF⟩)
          · rename_i hbb
            obtain rfl : bb = false := by simpa using hbb
            go_ret
            exact .inr ⟨rfl, hF rfl⟩
          · rename_i hbb
            obtain rfl : bb = true := by simpa using hbb
            obtain ⟨hj3, zs, ho3, hz3⟩ := hT rfl
            exact ⟨⟨u + 1, t + 1, zs, by omega, by have := Ht.out; omega, by go_num, hj3, ho3, hz3⟩, by simp [intOf]; omega⟩
      · obtain rfl : u = 4 := by omega
        subst ht
        go_wp2
        go_ret
        exact .inl ⟨rfl, hj, ys, ho, hys⟩
end Go.Proofs.YtchcmgaohcldjaaDoor
set_option maxRecDepth 8000
namespace Go.Proofs.YtchcmgaohcldjaaDoor
open Go.ChangeShapes Go.WideShapes Go.ChangeAt Go.RowKit Go.Shelf
attribute [local go_sem] Oper.semAt_some
/-- what the callback leaves, k being the rule's kind. -/
def CbPost (k v : Int) (ys : List Int) (X : World) (R : World → Bool → World → Prop) (e : Ending) (Y : World) : Prop :=
  (holdsB k v ys = false ∧ e = .returned (.bool true) ∧ Below X.heap.size X Y) ∨ (holdsB k v ys = true ∧ ∃ X' bb, Below X.heap.size X X' ∧ e = .returned (.bool bb) ∧ R X' bb Y)
set_option maxHeartbeats 1000000 in
theorem wayCb1 (l : Nat) (A : Option Addr) (c n : Nat) (v : Int) (V n2 c2 RB VB YB : Nat) (ys : List Int) (X : World) (R : World → Bool → World → Prop)
    (hr : X.cell? ⟨RB, 0, none⟩ = some (.iface 104 (.agg #[.int .i64 1, .slice A n c, .int .i64 v]))) (hv : X.cell? ⟨VB, 0, none⟩ = some (.slice (some ⟨V, 0, none⟩) n2 c2)) (hy : X.cell? ⟨YB, 0, none⟩ = some (.func (.yield l) #[] #[]))
    (hrd : Rd X X.heap.size (some ⟨V, 0, none⟩) n2 ys) (h4 : n2 ≤ 4) (hcap : n2 ≤ c2) (hsm : Hid (small4 ys n2)) (h2 : 4 ≤ 1 → 2 ≤ n2)
    (hY : holdsB 1 v ys = true → ∀ X', Below X.heap.size X X' → YieldAt Fence.wide 0 Tryd.prog l #[.slice (some ⟨V, 0, none⟩) n2 c2] X' fun e Y => ∃ bb, e = .returned (.bool bb) ∧ R X' bb Y) :
    Calls Tryd.prog 71 #[.pointer (some ⟨RB, 0, none⟩), .pointer (some ⟨VB, 0, none⟩), .pointer (some ⟨YB, 0, none⟩)] X (CbPost 1 v ys X R) := by
  have M : ∀ w, (method 231 104 (.agg #[.int .i64 1, .slice A n c, .int .i64 v]) "loop.example/gridpuzzles/impl.holdsWith").run Tryd.prog w = .ok (104, .agg #[.int .i64 1, .slice A n c, .int .i64 v]) w := fun w => mHolds1 _ _ _ _ _ w
  have HH := Lib.hid (hold1 A c n (some ⟨V, 0, none⟩) c2 n2 X.heap.size ys v X hrd (Nat.le_refl _) h4 hcap hsm h2)
  have hRB := cell_lt hr
  have hVB := cell_lt hv
  have hYB := cell_lt hy
  refine (callsIn_wide (n := 9)).1 ?_
  refine callsIn_of_wp Tryd.func71 rfl trivial ?_ rfl
  simp only [Tryd.ntmps71, List.size_toArray, List.length_cons, List.length_nil, Nat.reduceAdd, Nat.reduceSub, Array.replicate_succ, Array.replicate_zero, List.push_toArray, List.append_toArray, List.nil_append, List.cons_append]
  cases hh : holdsB 1 v ys
  · gi_wp2_with (refine ⟨trivial, ?_⟩; gi_at_call 104; refine (callsIn_wide.2 HH.out).mono ?_; rintro e w1 ⟨rfl, hb1⟩; rw [hh]; have hv1 := (hb1.cell (p := ⟨VB, 0, none⟩) hVB).trans hv; have hy1 := (hb1.cell (p := ⟨YB, 0, none⟩) hYB).trans hy)
    refine ⟨fun _ h => (by cases h), ?_⟩
    gi_wp2
    go_ret
    exact .inl ⟨hh, rfl, hb1⟩
  · gi_wp2_with (refine ⟨trivial, ?_⟩; gi_at_call 104; refine (callsIn_wide.2 HH.out).mono ?_; rintro e w1 ⟨rfl, hb1⟩; rw [hh]; have hv1 := (hb1.cell (p := ⟨VB, 0, none⟩) hVB).trans hv; have hy1 := (hb1.cell (p := ⟨YB, 0, none⟩) hYB).trans hy; obtain ⟨fn, tmps, assign, body, hyy, hR⟩ := hY hh w1 hb1)
    refine (roundIn_any hR).mono ?_
    rintro e Y ⟨bb, rfl, hR'⟩
    gi_wp2
    go_ret
    exact .inr ⟨hh, w1, bb, hb1, rfl, hR'⟩

set_option maxHeartbeats 1000000 in
theorem wayCb2 (l : Nat) (A : Option Addr) (c n : Nat) (v : Int) (V n2 c2 RB VB YB : Nat) (ys : List Int) (X : World) (R : World → Bool → World → Prop)
    (hr : X.cell? ⟨RB, 0, none⟩ = some (.iface 105 (.agg #[.int .i64 2, .slice A n c, .int .i64 v]))) (hv : X.cell? ⟨VB, 0, none⟩ = some (.slice (some ⟨V, 0, none⟩) n2 c2)) (hy : X.cell? ⟨YB, 0, none⟩ = some (.func (.yield l) #[] #[]))
    (hrd : Rd X X.heap.size (some ⟨V, 0, none⟩) n2 ys) (h4 : n2 ≤ 4) (hcap : n2 ≤ c2) (hsm : Hid (small4 ys n2)) (h2 : 4 ≤ 2 → 2 ≤ n2)
    (hY : holdsB 2 v ys = true → ∀ X', Below X.heap.size X X' → YieldAt Fence.wide 0 Tryd.prog l #[.slice (some ⟨V, 0, none⟩) n2 c2] X' fun e Y => ∃ bb, e = .returned (.bool bb) ∧ R X' bb Y) :
    Calls Tryd.prog 71 #[.pointer (some ⟨RB, 0, none⟩), .pointer (some ⟨VB, 0, none⟩), .pointer (some ⟨YB, 0, none⟩)] X (CbPost 2 v ys X R) := by
  have M : ∀ w, (method 231 105 (.agg #[.int .i64 2, .slice A n c, .int .i64 v]) "loop.example/gridpuzzles/impl.holdsWith").run Tryd.prog w = .ok (106, .agg #[.int .i64 2, .slice A n c, .int .i64 v]) w := fun w => mHolds2 _ _ _ _ _ w
  have HH := Lib.hid (hold2 A c n (some ⟨V, 0, none⟩) c2 n2 X.heap.size ys v X hrd (Nat.le_refl _) h4 hcap hsm h2)
  have hRB := cell_lt hr
  have hVB := cell_lt hv
  have hYB := cell_lt hy
  refine (callsIn_wide (n := 9)).1 ?_
  refine callsIn_of_wp Tryd.func71 rfl trivial ?_ rfl
  simp only [Tryd.ntmps71, List.size_toArray, List.length_cons, List.length_nil, Nat.reduceAdd, Nat.reduceSub, Array.replicate_succ, Array.replicate_zero, List.push_toArray, List.append_toArray, List.nil_append, List.cons_append]
  cases hh : holdsB 2 v ys
  · gi_wp2_with (refine ⟨trivial, ?_⟩; gi_at_call 106; refine (callsIn_wide.2 HH.out).mono ?_; rintro e w1 ⟨rfl, hb1⟩; rw [hh]; have hv1 := (hb1.cell (p := ⟨VB, 0, none⟩) hVB).trans hv; have hy1 := (hb1.cell (p := ⟨YB, 0, none⟩) hYB).trans hy)
    refine ⟨fun _ h => (by cases h), ?_⟩
    gi_wp2
    go_ret
    exact .inl ⟨hh, rfl, hb1⟩
  · gi_wp2_with (refine ⟨trivial, ?_⟩; gi_at_call 106; refine (callsIn_wide.2 HH.out).mono ?_; rintro e w1 ⟨rfl, hb1⟩; rw [hh]; have hv1 := (hb1.cell (p := ⟨VB, 0, none⟩) hVB).trans hv; have hy1 := (hb1.cell (p := ⟨YB, 0, none⟩) hYB).trans hy; obtain ⟨fn, tmps, assign, body, hyy, hR⟩ := hY hh w1 hb1)
    refine (roundIn_any hR).mono ?_
    rintro e Y ⟨bb, rfl, hR'⟩
    gi_wp2
    go_ret
    exact .inr ⟨hh, w1, bb, hb1, rfl, hR'⟩

set_option maxHeartbeats 1000000 in
theorem wayCb3 (l : Nat) (A : Option Addr) (c n : Nat) (v : Int) (V n2 c2 RB VB YB : Nat) (ys : List Int) (X : World) (R : World → Bool → World → Prop)
    (hr : X.cell? ⟨RB, 0, none⟩ = some (.iface 106 (.agg #[.int .i64 3, .slice A n c, .int .i64 v]))) (hv : X.cell? ⟨VB, 0, none⟩ = some (.slice (some ⟨V, 0, none⟩) n2 c2)) (hy : X.cell? ⟨YB, 0, none⟩ = some (.func (.yield l) #[] #[]))
    (hrd : Rd X X.heap.size (some ⟨V, 0, none⟩) n2 ys) (h4 : n2 ≤ 4) (hcap : n2 ≤ c2) (hsm : Hid (small4 ys n2)) (h2 : 4 ≤ 3 → 2 ≤ n2)
    (hY : holdsB 3 v ys = true → ∀ X', Below X.heap.size X X' → YieldAt Fence.wide 0 Tryd.prog l #[.slice (some ⟨V, 0, none⟩) n2 c2] X' fun e Y => ∃ bb, e = .returned (.bool bb) ∧ R X' bb Y) :
    Calls Tryd.prog 71 #[.pointer (some ⟨RB, 0, none⟩), .pointer (some ⟨VB, 0, none⟩), .pointer (some ⟨YB, 0, none⟩)] X (CbPost 3 v ys X R) := by
  have M : ∀ w, (method 231 106 (.agg #[.int .i64 3, .slice A n c, .int .i64 v]) "loop.example/gridpuzzles/impl.holdsWith").run Tryd.prog w = .ok (109, .agg #[.int .i64 3, .slice A n c, .int .i64 v]) w := fun w => mHolds3 _ _ _ _ _ w
  have HH := Lib.hid (hold3 A c n (some ⟨V, 0, none⟩) c2 n2 X.heap.size ys v X hrd (Nat.le_refl _) h4 hcap hsm h2)
  have hRB := cell_lt hr
  have hVB := cell_lt hv
  have hYB := cell_lt hy
  refine (callsIn_wide (n := 9)).1 ?_
  refine callsIn_of_wp Tryd.func71 rfl trivial ?_ rfl
  simp only [Tryd.ntmps71, List.size_toArray, List.length_cons, List.length_nil, Nat.reduceAdd, Nat.reduceSub, Array.replicate_succ, Array.replicate_zero, List.push_toArray, List.append_toArray, List.nil_append, List.cons_append]
  cases hh : holdsB 3 v ys
  · gi_wp2_with (refine ⟨trivial, ?_⟩; gi_at_call 109; refine (callsIn_wide.2 HH.out).mono ?_; rintro e w1 ⟨rfl, hb1⟩; rw [hh]; have hv1 := (hb1.cell (p := ⟨VB, 0, none⟩) hVB).trans hv; have hy1 := (hb1.cell (p := ⟨YB, 0, none⟩) hYB).trans hy)
    refine ⟨fun _ h => (by cases h), ?_⟩
    gi_wp2
    go_ret
    exact .inl ⟨hh, rfl, hb1⟩
  · gi_wp2_with (refine ⟨trivial, ?_⟩; gi_at_call 109; refine (callsIn_wide.2 HH.out).mono ?_; rintro e w1 ⟨rfl, hb1⟩; rw [hh]; have hv1 := (hb1.cell (p := ⟨VB, 0, none⟩) hVB).trans hv; have hy1 := (hb1.cell (p := ⟨YB, 0, none⟩) hYB).trans hy; obtain ⟨fn, tmps, assign, body, hyy, hR⟩ := hY hh w1 hb1)
    refine (roundIn_any hR).mono ?_
    rintro e Y ⟨bb, rfl, hR'⟩
    gi_wp2
    go_ret
    exact .inr ⟨hh, w1, bb, hb1, rfl, hR'⟩

set_option maxHeartbeats 1000000 in
theorem wayCb4 (l : Nat) (A : Option Addr) (c n : Nat) (v : Int) (V n2 c2 RB VB YB : Nat) (ys : List Int) (X : World) (R : World → Bool → World → Prop)
    (hr : X.cell? ⟨RB, 0, none⟩ = some (.iface 107 (.agg #[.int .i64 4, .slice A n c, .int .i64 v]))) (hv : X.cell? ⟨VB, 0, none⟩ = some (.slice (some ⟨V, 0, none⟩) n2 c2)) (hy : X.cell? ⟨YB, 0, none⟩ = some (.func (.yield l) #[] #[]))
    (hrd : Rd X X.heap.size (some ⟨V, 0, none⟩) n2 ys) (h4 : n2 ≤ 4) (hcap : n2 ≤ c2) (hsm : Hid (small4 ys n2)) (h2 : 4 ≤ 4 → 2 ≤ n2)
    (hY : holdsB 4 v ys = true → ∀ X', Below X.heap.size X X' → YieldAt Fence.wide 0 Tryd.prog l #[.slice (some ⟨V, 0, none⟩) n2 c2] X' fun e Y => ∃ bb, e = .returned (.bool bb) ∧ R X' bb Y) :
    Calls Tryd.prog 71 #[.pointer (some ⟨RB, 0, none⟩), .pointer (some ⟨VB, 0, none⟩), .pointer (some ⟨YB, 0, none⟩)] X (CbPost 4 v ys X R) := by
  have M : ∀ w, (method 231 107 (.agg #[.int .i64 4, .slice A n c, .int .i64 v]) "loop.example/gridpuzzles/impl.holdsWith").run Tryd.prog w = .ok (111, .agg #[.int .i64 4, .slice A n c, .int .i64 v]) w := fun w => mHolds4 _ _ _ _ _ w
  have HH := Lib.hid (hold4 A c n (some ⟨V, 0, none⟩) c2 n2 X.heap.size ys v X hrd (Nat.le_refl _) h4 hcap hsm h2)
  have hRB := cell_lt hr
  have hVB := cell_lt hv
  have hYB := cell_lt hy
  refine (callsIn_wide (n := 9)).1 ?_
  refine callsIn_of_wp Tryd.func71 rfl trivial ?_ rfl
  simp only [Tryd.ntmps71, List.size_toArray, List.length_cons, List.length_nil, Nat.reduceAdd, Nat.reduceSub, Array.replicate_succ, Array.replicate_zero, List.push_toArray, List.append_toArray, List.nil_append, List.cons_append]
  cases hh : holdsB 4 v ys
  · gi_wp2_with (refine ⟨trivial, ?_⟩; gi_at_call 111; refine (callsIn_wide.2 HH.out).mono ?_; rintro e w1 ⟨rfl, hb1⟩; rw [hh]; have hv1 := (hb1.cell (p := ⟨VB, 0, none⟩) hVB).trans hv; have hy1 := (hb1.cell (p := ⟨YB, 0, none⟩) hYB).trans hy)
    refine ⟨fun _ h => (by cases h), ?_⟩
    gi_wp2
    go_ret
    exact .inl ⟨hh, rfl, hb1⟩
  · gi_wp2_with (refine ⟨trivial, ?_⟩; gi_at_call 111; refine (callsIn_wide.2 HH.out).mono ?_; rintro e w1 ⟨rfl, hb1⟩; rw [hh]; have hv1 := (hb1.cell (p := ⟨VB, 0, none⟩) hVB).trans hv; have hy1 := (hb1.cell (p := ⟨YB, 0, none⟩) hYB).trans hy; obtain ⟨fn, tmps, assign, body, hyy, hR⟩ := hY hh w1 hb1)
    refine (roundIn_any hR).mono ?_
    rintro e Y ⟨bb, rfl, hR'⟩
    gi_wp2
    go_ret
    exact .inr ⟨hh, w1, bb, hb1, rfl, hR'⟩

set_option maxHeartbeats 1000000 in
theorem wayCb5 (l : Nat) (A : Option Addr) (c n : Nat) (v : Int) (V n2 c2 RB VB YB : Nat) (ys : List Int) (X : World) (R : World → Bool → World → Prop)
    (hr : X.cell? ⟨RB, 0, none⟩ = some (.iface 108 (.agg #[.int .i64 5, .slice A n c, .int .i64 v]))) (hv : X.cell? ⟨VB, 0, none⟩ = some (.slice (some ⟨V, 0, none⟩) n2 c2)) (hy : X.cell? ⟨YB, 0, none⟩ = some (.func (.yield l) #[] #[]))
    (hrd : Rd X X.heap.size (some ⟨V, 0, none⟩) n2 ys) (h4 : n2 ≤ 4) (hcap : n2 ≤ c2) (hsm : Hid (small4 ys n2)) (h2 : 4 ≤ 5 → 2 ≤ n2)
    (hY : holdsB 5 v ys = true → ∀ X', Below X.heap.size X X' → YieldAt Fence.wide 0 Tryd.prog l #[.slice (some ⟨V, 0, none⟩) n2 c2] X' fun e Y => ∃ bb, e = .returned (.bool bb) ∧ R X' bb Y) :
    Calls Tryd.prog 71 #[.pointer (some ⟨RB, 0, none⟩), .pointer (some ⟨VB, 0, none⟩), .pointer (some ⟨YB, 0, none⟩)] X (CbPost 5 v ys X R) := by
  have M : ∀ w, (method 231 108 (.agg #[.int .i64 5, .slice A n c, .int .i64 v]) "loop.example/gridpuzzles/impl.holdsWith").run Tryd.prog w = .ok (113, .agg #[.int .i64 5, .slice A n c, .int .i64 v]) w := fun w => mHolds5 _ _ _ _ _ w
  have HH := Lib.hid (hold5 A c n (some ⟨V, 0, none⟩) c2 n2 X.heap.size ys v X hrd (Nat.le_refl _) h4 hcap hsm h2)
  have hRB := cell_lt hr
  have hVB := cell_lt hv
  have hYB := cell_lt hy
  refine (callsIn_wide (n := 9)).1 ?_
  refine callsIn_of_wp Tryd.func71 rfl trivial ?_ rfl
  simp only [Tryd.ntmps71, List.size_toArray, List.length_cons, List.length_nil, Nat.reduceAdd, Nat.reduceSub, Array.replicate_succ, Array.replicate_zero, List.push_toArray, List.append_toArray, List.nil_append, List.cons_append]
  cases hh : holdsB 5 v ys
  · gi_wp2_with (refine ⟨trivial, ?_⟩; gi_at_call 113; refine (callsIn_wide.2 HH.out).mono ?_; rintro e w1 ⟨rfl, hb1⟩; rw [hh]; have hv1 := (hb1.cell (p := ⟨VB, 0, none⟩) hVB).trans hv; have hy1 := (hb1.cell (p := ⟨YB, 0, none⟩) hYB).trans hy)
    refine ⟨fun _ h => (by cases h), ?_⟩
    gi_wp2
    go_ret
    exact .inl ⟨hh, rfl, hb1⟩
  · gi_wp2_with (refine ⟨trivial, ?_⟩; gi_at_call 113; refine (callsIn_wide.2 HH.out).mono ?_; rintro e w1 ⟨rfl, hb1⟩; rw [hh]; have hv1 := (hb1.cell (p := ⟨VB, 0, none⟩) hVB).trans hv; have hy1 := (hb1.cell (p := ⟨YB, 0, none⟩) hYB).trans hy; obtain ⟨fn, tmps, assign, body, hyy, hR⟩ := hY hh w1 hb1)
    refine (roundIn_any hR).mono ?_
    rintro e Y ⟨bb, rfl, hR'⟩
    gi_wp2
    go_ret
    exact .inr ⟨hh, w1, bb, hb1, rfl, hR'⟩

theorem wayCb (l : Nat) (A : Option Addr) (c n : Nat) (k v : Int) (V n2 c2 RB VB YB : Nat) (ys : List Int) (X : World) (R : World → Bool → World → Prop) (hk : k = 1 ∨ k = 2 ∨ k = 3 ∨ k = 4 ∨ k = 5)
    (hr : X.cell? ⟨RB, 0, none⟩ = some (ofk k (rval k A n c v))) (hv : X.cell? ⟨VB, 0, none⟩ = some (.slice (some ⟨V, 0, none⟩) n2 c2)) (hy : X.cell? ⟨YB, 0, none⟩ = some (.func (.yield l) #[] #[]))
    (hrd : Rd X X.heap.size (some ⟨V, 0, none⟩) n2 ys) (h4 : n2 ≤ 4) (hcap : n2 ≤ c2) (hsm : Hid (small4 ys n2)) (h2 : k = 1 ∨ k = 2 ∨ k = 3 ∨ 2 ≤ n2)
    (hY : holdsB k v ys = true → ∀ X', Below X.heap.size X X' → YieldAt Fence.wide 0 Tryd.prog l #[.slice (some ⟨V, 0, none⟩) n2 c2] X' fun e Y => ∃ bb, e = .returned (.bool bb) ∧ R X' bb Y) :
    Calls Tryd.prog 71 #[.pointer (some ⟨RB, 0, none⟩), .pointer (some ⟨VB, 0, none⟩), .pointer (some ⟨YB, 0, none⟩)] X (CbPost k v ys X R) := by
  rcases hk with rfl | rfl | rfl | rfl | rfl
  · exact wayCb1 l A c n v V n2 c2 RB VB YB ys X R hr hv hy hrd h4 hcap hsm (by omega) hY
  · exact wayCb2 l A c n v V n2 c2 RB VB YB ys X R hr hv hy hrd h4 hcap hsm (by omega) hY
  · exact wayCb3 l A c n v V n2 c2 RB VB YB ys X R hr hv hy hrd h4 hcap hsm (by omega) hY
  · exact wayCb4 l A c n v V n2 c2 RB VB YB ys X R hr hv hy hrd h4 hcap hsm (by omega) hY
  · exact wayCb5 l A c n v V n2 c2 RB VB YB ys X R hr hv hy hrd h4 hcap hsm (by omega) hY
end Go.Proofs.YtchcmgaohcldjaaDoor
set_option maxRecDepth 8000
namespace Go.Proofs.YtchcmgaohcldjaaDoor
open Go.ChangeShapes Go.WideShapes Go.ChangeAt Go.RowKit

def zeroArr (n : Nat) : Array Value := madeCells #[.int .i64 0] n
theorem make_ints {n : Nat} (hn : n ≤ 1099511627776) (w : World) : (Instr.makeSlice 22 (.int .i64 (n : Int)) (.int .i64 (n : Int))).run Tryd.prog w = .ok (.slice (some ⟨w.heap.size, 0, none⟩) n n) (w.alloc (.cells (zeroArr n) 3)) := by
  obtain ⟨i0, hi, hz0, hz1, hz2⟩ := info_parts int_info
  have hr := run_make (P := Tryd.prog) w 22 3 i0 (.int .i64 0) Tryd.underlying22 hi hz0 .i64 .i64 (n : Int) (n : Int) (by omega) (Int.le_refl _) (by rw [hz2]; omega) (by omega)
  rw [hz1, Int.toNat_natCast, Nat.mul_one] at hr
  exact hr
theorem zeroArr_ow {n lo : Nat} (hn : n ≤ 1099511627776) (w : World) (hlo : lo ≤ w.heap.size) : Ow (w.alloc (.cells (zeroArr n) 3)) lo (some ⟨w.heap.size, 0, none⟩) n n (zeros n) := by
  have hs : (zeroArr n).size = n * 1 := by simp [zeroArr, madeCells]
  have h := World.ownsRow_lit (e := 3) (size := 1) w (zeroArr n) n hlo (by simp only [maxLen]; omega) hs
  unfold Ow
  have e : (zeroArr n).toList = vals (zeros n) := by
    rw [zeroArr, toList_madeCells_one]
    simp [vals, zeros]
  rw [← e]
  exact h
end Go.Proofs.YtchcmgaohcldjaaDoor
set_option maxRecDepth 8000
namespace Go.Proofs.YtchcmgaohcldjaaDoor
open Go.ChangeShapes Go.WideShapes Go.ChangeAt Go.RowKit
theorem Ow.same {w w' : World} {lo g n c : Nat} {xs : List Int} (h : Ow w lo (some ⟨g, 0, none⟩) n c xs) (e : w'.heap[g]? = w.heap[g]?) : Ow w' lo (some ⟨g, 0, none⟩) n c xs := by
  obtain ⟨h0, h1⟩ := h
  refine ⟨h0, ?_⟩
  rcases h1 with ⟨h1, _⟩ | ⟨g', cap, cur, hv, h2, h3, h4⟩
  · cases h1
  · injection hv with e1 _ e2
    injection e1 with e1
    injection e1 with e1 _ _
    subst e1 e2
    exact .inr ⟨g, c, cur, rfl, h2, e.trans h3, h4⟩
theorem Rd.up {w : World} {B B' n : Nat} {A : Option Addr} {xs : List Int} (h : Rd w B A n xs) (hB : B ≤ B') : Rd w B' A n xs :=
  ⟨h.1, fun hn => by
    obtain ⟨b, off, e, hl, hc⟩ := h.2 hn
    exact ⟨b, off, e, by omega, hc⟩⟩
theorem Below.of_grown {N V : Nat} {X Y : World} (h : X.grownBy Y (some V)) (hN : N ≤ X.heap.size) (hV : N ≤ V) : Below N X Y :=
  (Below.refl N X).grown h hN (fun k e => by cases e; exact hV)
theorem yieldAt_mono {F : Fence} {m : Nat} {P : Program} {l : Nat} {args : Array Value} {w : World} {R R' : Ending → World → Prop} (h : YieldAt F m P l args w R) (hr : ∀ e w', R e w' → R' e w') : YieldAt F m P l args w R' := by
  obtain ⟨fn, tmps, assign, body, hy, hR⟩ := h
  exact ⟨fn, tmps, assign, body, hy, hR.mono hr⟩
/-- what the iterator reads: its two captured variables, and the masks. -/
def WBase (MB RB B : Nat) (k : Int) (A : Option Addr) (nc c : Nat) (v : Int) (Am : Option Addr) (n cm : Nat) (ms : List Int) (X : World) : Prop :=
  X.cell? ⟨MB, 0, none⟩ = some (.slice Am n cm) ∧ X.cell? ⟨RB, 0, none⟩ = some (ofk k (rval k A nc c v)) ∧ Rd X B Am n ms ∧ B ≤ X.heap.size
theorem WBase.below {N MB RB B : Nat} {k : Int} {A : Option Addr} {nc c : Nat} {v : Int} {Am : Option Addr} {n cm : Nat} {ms : List Int} {X Y : World} (h : WBase MB RB B k A nc c v Am n cm ms X) (hb : Below N X Y) (h1 : MB < N) (h2 : RB < N) (h3 : B ≤ N) : WBase MB RB B k A nc c v Am n cm ms Y :=
  ⟨(hb.cell (p := ⟨MB, 0, none⟩) h1).trans h.1, (hb.cell (p := ⟨RB, 0, none⟩) h2).trans h.2.1, h.2.2.1.below (hb.mono h3), Nat.le_trans h.2.2.2 hb.size⟩
set_option maxHeartbeats 1000000 in
theorem ways_seq (MB RB B : Nat) (k : Int) (A : Option Addr) (nc c : Nat) (v : Int) (Am : Option Addr) (n cm : Nat) (ms : List Int) (hn1 : 1 ≤ n) (hn4 : n ≤ 4) (hms : ∀ i, i < n → 0 ≤ nth ms i ∧ nth ms i < 32)
    (hk : k = 1 ∨ k = 2 ∨ k = 3 ∨ k = 4 ∨ k = 5) (h2 : k = 1 ∨ k = 2 ∨ k = 3 ∨ 2 ≤ n) :
    SeqC Tryd.prog 69 #[.pointer (some ⟨MB, 0, none⟩), .pointer (some ⟨RB, 0, none⟩)] (WBase MB RB B k A nc c v Am n cm ms) ((allW ms n []).filter (holdsB k v)) := by
  intro l J Jx W hJb hJs hY h0
  obtain ⟨w0, w1, w2, w3⟩ := hJb _ _ h0
  have hMB : MB < W.heap.size := cell_lt w0
  have hRB : RB < W.heap.size := cell_lt w1
  have hsml : ∀ ys ∈ allW ms n [], ys.length = n ∧ small4 ys n := fun ys hy => by
    have h1 := allW_len hy
    simp at h1
    refine ⟨h1, fun i hi => ?_⟩
    have := allW_small (vs := []) (by intro i hi; simp at hi) hy i (by simpa using hi)
    omega
  -- tryWays, called in a world with the two blocks that the iterator has laid
  have HT : ∀ (V VB cv : Nat) (X : World), W.heap.size < V → V < VB → n ≤ cv → Below W.heap.size W X → X.cell? ⟨W.heap.size, 0, none⟩ = some (.func (.yield l) #[] #[]) → X.cell? ⟨VB, 0, none⟩ = some (.slice (some ⟨V, 0, none⟩) n cv) →
      (∃ ys0, Ow X W.heap.size (some ⟨V, 0, none⟩) n cv ys0) →
      Calls Tryd.prog 70 #[.slice Am n cm, .slice (some ⟨V, 0, none⟩) n cv, .int .i64 (0 : Nat), .func (.func 71) #[] #[.pointer (some ⟨RB, 0, none⟩), .pointer (some ⟨VB, 0, none⟩), .pointer (some ⟨W.heap.size, 0, none⟩)]] X
        fun e Y => ∃ bb : Bool, e = .returned (.bool bb) ∧ (J ((allW ms n []).filter (holdsB k v)) Y ∨ Jx Y) := by
    intro V VB cv X hV hVB hcv hbX hyb hvb hys0
    obtain ⟨ys0, hys0⟩ := hys0
    let J' : List (List Int) → World → Prop := fun pre X => J (pre.filter (holdsB k v)) X ∧ X.cell? ⟨W.heap.size, 0, none⟩ = some (.func (.yield l) #[] #[]) ∧ X.cell? ⟨VB, 0, none⟩ = some (.slice (some ⟨V, 0, none⟩) n cv)
    have hsz : ∀ pre X, J' pre X → W.heap.size < X.heap.size ∧ VB < X.heap.size := fun pre X h => ⟨cell_lt h.2.1, cell_lt h.2.2⟩
    have stab : ∀ pre X Y, J' pre X → Below X.heap.size X Y → J' pre Y := fun pre X Y h hb => by
      obtain ⟨s1, s2⟩ := hsz pre X h
      exact ⟨hJs _ _ _ h.1 (hb.mono (by omega)), (hb.cell (p := ⟨W.heap.size, 0, none⟩) s1).trans h.2.1, (hb.cell (p := ⟨VB, 0, none⟩) s2).trans h.2.2⟩
    refine (tryWays_any (J := J') (Jx := Jx) (ms := ms) (n := n) (c := cv) (lo := W.heap.size) (V := V) (cm := cm) (Am := Am) ?hM hms hn4 ?hJ ?hcb n 0 [] ys0 [] X (by omega) rfl ⟨hJs _ _ _ h0 hbX, hyb, hvb⟩ hys0 (fun i hi => absurd hi (by omega)) (fun ys h => h)).mono ?_
    case hM =>
      intro pre X h
      obtain ⟨_, _, b2, _⟩ := hJb _ _ h.1
      exact b2.up (by omega)
    case hJ =>
      intro pre X Y h hg
      obtain ⟨s1, s2⟩ := hsz pre X h
      exact ⟨hJs _ _ _ h.1 (Below.of_grown hg (by omega) (by omega)), (hg.cell_far ⟨W.heap.size, 0, none⟩ s1 (fun e => by injection e with e; dsimp only at e; omega)).trans h.2.1, (hg.cell_far ⟨VB, 0, none⟩ s2 (fun e => by injection e with e; dsimp only at e; omega)).trans h.2.2⟩
    case hcb =>
      intro pre ys X hmem h ho
      obtain ⟨s1, s2⟩ := hsz pre X h
      obtain ⟨hyl, hsm⟩ := hsml ys hmem
      obtain ⟨_, b1, _, _⟩ := hJb _ _ h.1
      have hVX : V < X.heap.size := by obtain ⟨g, e, _, hg⟩ := ho.form (by omega); cases e; exact hg
      refine (wayCb l A c nc k v V n cv RB VB W.heap.size ys X (fun X' bb Y => Mid W.heap.size X' Y ∧ ((bb = true ∧ J (pre.filter (holdsB k v) ++ [ys]) Y) ∨ (bb = false ∧ Jx Y))) hk b1 h.2.2 h.2.1 ho.rd hn4 hcv (Lib.hid hsm) h2 ?_).mono ?_
      · intro hh X' hb
        have h' := stab _ _ _ h hb
        refine yieldAt_mono (hY _ ys X' V n cv h'.1 (List.mem_filter.2 ⟨hmem, hh⟩) (by omega) ((ho.below hb).rd)) ?_
        rintro e Y ⟨hm, (⟨rfl, hj⟩ | ⟨rfl, hx⟩)⟩
        · exact ⟨true, rfl, hm, .inl ⟨rfl, hj⟩⟩
        · exact ⟨false, rfl, hm, .inr ⟨rfl, hx⟩⟩
      · rintro e Y (⟨hh, rfl, hb⟩ | ⟨hh, X', bb, hb, rfl, hm, hR⟩)
        · have h' := stab _ _ _ h hb
          refine .inl ⟨rfl, ⟨?_, h'.2⟩, ho.below hb⟩
          rw [List.filter_append, List.filter_cons_of_neg (by rw [hh]; simp), List.filter_nil, List.append_nil]
          exact h'.1
        · have h' := stab _ _ _ h hb
          obtain ⟨t1, t2⟩ := hsz _ _ h'
          rcases hR with ⟨rfl, hj⟩ | ⟨rfl, hx⟩
          · refine .inl ⟨rfl, ⟨?_, ?_, ?_⟩, (ho.below hb).same (hm.same V (by omega) (Nat.lt_of_lt_of_le hVX hb.size))⟩
            · rw [List.filter_append, List.filter_cons_of_pos hh, List.filter_nil]
              exact hj
            · exact (World.cell?_of_block (a := ⟨W.heap.size, 0, none⟩) (hm.same _ (Nat.le_refl _) t1)).trans h'.2.1
            · exact (World.cell?_of_block (a := ⟨VB, 0, none⟩) (hm.same _ (by show W.heap.size ≤ VB; omega) t2)).trans h'.2.2
          · exact .inr ⟨rfl, hx⟩
    · rintro e Y (⟨rfl, hj, _⟩ | ⟨rfl, hx⟩)
      · exact ⟨true, rfl, .inl (by simpa using hj.1)⟩
      · exact ⟨false, rfl, .inr hx⟩
  show Calls Tryd.prog 69 #[.func (.yield l) #[] #[], .pointer (some ⟨MB, 0, none⟩), .pointer (some ⟨RB, 0, none⟩)] W _
  obtain ⟨W1, hW1⟩ : ∃ W1, W.alloc (.cells #[.func (.yield l) #[] #[]] 97) = W1 := ⟨_, rfl⟩
  have hbW : Below W.heap.size W W1 := by rw [← hW1]; exact (Below.refl _ _).alloc (Nat.le_refl _) _
  have hs1 : W1.heap.size = W.heap.size + 1 := by rw [← hW1]; simp
  have hy1 : W1.cell? ⟨W.heap.size, 0, none⟩ = some (.func (.yield l) #[] #[]) := by rw [← hW1]; exact cell_of_row _ _ 0 _ _ (0, 0) (heap_alloc_new W _)
  obtain ⟨W2, hW2⟩ : ∃ W2, W1.alloc (.cells (zeroArr n) 3) = W2 := ⟨_, rfl⟩
  have hb2 : Below W1.heap.size W1 W2 := by rw [← hW2]; exact (Below.refl _ _).alloc (Nat.le_refl _) _
  have hs2 : W2.heap.size = W.heap.size + 1 + 1 := by rw [← hW2]; simp [hs1]
  have ho2 : Ow W2 W.heap.size (some ⟨W.heap.size + 1, 0, none⟩) n n (zeros n) := by
    have := zeroArr_ow (n := n) (lo := W.heap.size) (by omega) W1 (by omega)
    rw [hW2, hs1] at this
    exact this
  have m1 := (hbW.cell (p := ⟨MB, 0, none⟩) hMB).trans w0
  have m2 := (hb2.cell (p := ⟨MB, 0, none⟩) (show MB < W1.heap.size by omega)).trans m1
  obtain ⟨W3, hW3⟩ : ∃ W3, W2.alloc (.cells #[.slice (some ⟨W.heap.size + 1, 0, none⟩) n n] 22) = W3 := ⟨_, rfl⟩
  have hb3 : Below W2.heap.size W2 W3 := by rw [← hW3]; exact (Below.refl _ _).alloc (Nat.le_refl _) _
  have m3 := (hb3.cell (p := ⟨MB, 0, none⟩) (show MB < W2.heap.size by omega)).trans m2
  have hv3 : W3.cell? ⟨W.heap.size + 1 + 1, 0, none⟩ = some (.slice (some ⟨W.heap.size + 1, 0, none⟩) n n) := by
    rw [← hW3, ← hs2]; exact cell_of_row _ _ 0 _ _ (0, 0) (heap_alloc_new W2 _)
  have hbW3 : Below W.heap.size W W3 := (hbW.trans (hb2.mono (by omega))).trans (hb3.mono (by omega))
  have hy3 := (hb3.cell (p := ⟨W.heap.size, 0, none⟩) (show W.heap.size < W2.heap.size by omega)).trans ((hb2.cell (p := ⟨W.heap.size, 0, none⟩) (show W.heap.size < W1.heap.size by omega)).trans hy1)
  have HC := Lib.hid (HT (W.heap.size + 1) (W.heap.size + 1 + 1) n W3 (by omega) (by omega) (Nat.le_refl _) hbW3 hy3 hv3 ⟨_, ho2.below hb3⟩)
  have hmk : (Instr.makeSlice 22 (.int .i64 (n : Int)) (.int .i64 (n : Int))).run Tryd.prog W1 = .ok (.slice (some ⟨W.heap.size + 1, 0, none⟩) n n) W2 := by rw [make_ints (by omega), hW2, hs1]
  clear HT hJb hJs hY hb2 hb3 hbW hbW3 hy3 ho2 hsml m2 w0 w1 w2 w3 hy1
  go_enter Tryd.func69, Tryd.ntmps69
  go_wp2_with (go_at_call 70; refine HC.out.mono ?_; rintro e Y ⟨bb, rfl, hYY⟩)

  go_end0
  exact ⟨⟨_, rfl⟩, hYY⟩
end Go.Proofs.YtchcmgaohcldjaaDoor
set_option maxRecDepth 8000
namespace Go.Proofs.YtchcmgaohcldjaaDoor
open Go.ChangeShapes Go.WideShapes Go.ChangeAt Go.RowKit
theorem waysToHold_any (A : Option Addr) (c n : Nat) (k v : Int) (Am : Option Addr) (n2 cm : Nat) (w : World) (hk : k = 1 ∨ k = 2 ∨ k = 3 ∨ k = 4 ∨ k = 5) :
    Calls Tryd.prog 55 #[.agg #[.int .i64 k, .slice A n c, .int .i64 v], .slice Am n2 cm] w fun e w' =>
      ∃ MB RB, e = .returned (.func (.func 69) #[] #[.pointer (some ⟨MB, 0, none⟩), .pointer (some ⟨RB, 0, none⟩)]) ∧ w'.cell? ⟨MB, 0, none⟩ = some (.slice Am n2 cm) ∧ w'.cell? ⟨RB, 0, none⟩ = some (ofk k (rval k A n c v)) ∧ Below w.heap.size w w' := by
  have hx0 := rbox_new w k A n c v 44
  have hb0 : Below w.heap.size w (w.alloc (.cells #[.int .i64 k, .slice A n c, .int .i64 v] 44)) := (Below.refl _ _).alloc (Nat.le_refl _) _
  have hs0 : (w.alloc (.cells #[.int .i64 k, .slice A n c, .int .i64 v] 44)).heap.size = w.heap.size + 1 := by simp
  obtain ⟨W1, hW1⟩ : ∃ W1, (w.alloc (.cells #[.int .i64 k, .slice A n c, .int .i64 v] 44)).alloc (.cells #[.slice Am n2 cm] 22) = W1 := ⟨_, rfl⟩
  have hb1 : Below w.heap.size w W1 := by rw [← hW1]; exact hb0.alloc hb0.size _
  have hs1 : W1.heap.size = w.heap.size + 1 + 1 := by rw [← hW1]; simp
  have hx1 : RBox W1 w.heap.size k A n c v := by
    rw [← hW1]
    exact hx0.below (by simp) ((Below.refl _ _).alloc (Nat.le_refl _) _)
  have hm1 : W1.cell? ⟨w.heap.size + 1, 0, none⟩ = some (.slice Am n2 cm) := by
    rw [← hW1, ← hs0]; exact cell_of_row _ _ 0 _ _ (0, 0) (heap_alloc_new _ _)
  obtain ⟨a0, a1, a2⟩ := id hx1
  obtain ⟨x, hx⟩ : ∃ x, rval k A n c v = x := ⟨_, rfl⟩
  obtain ⟨T, hT⟩ : ∃ T, ofk k (rval k A n c v) = .iface T x := by
    rw [hx]
    rcases hk with rfl | rfl | rfl | rfl | rfl <;> exact ⟨_, rfl⟩
  have HK := ofKind_any A c n k v W1
  rw [hT] at HK ⊢
  have HK := Lib.hid HK
  clear hx hT
  have Hs := Lib.hid hs1
  clear hs1 hs0 hb0
  go_enter Tryd.func55, Tryd.ntmps55
  go_wp2_with (go_at_call 68; refine HK.out.mono ?_; rintro e w3 ⟨rfl, hb3⟩; have hm3 := (hb3.cell (p := ⟨w.heap.size + 1, 0, none⟩) (show w.heap.size + 1 < _ by rw [Hs.out]; omega)).trans hm1)
  go_ret
  have hb4 : Below w3.heap.size w3 (w3.alloc (.cells #[.iface T x] 95)) := (Below.refl _ _).alloc (Nat.le_refl _) _
  exact ⟨w.heap.size + 1, w3.heap.size, rfl, (hb4.cell (p := ⟨w.heap.size + 1, 0, none⟩) (cell_lt hm3)).trans hm3, cell_of_row _ _ 0 _ _ (0, 0) (heap_alloc_new _ _), step (step hb1 hb3) hb4⟩
end Go.Proofs.YtchcmgaohcldjaaDoor
set_option maxRecDepth 8000
namespace Go.Proofs.YtchcmgaohcldjaaDoor
open Go.ChangeShapes Go.WideShapes Go.ChangeAt Go.RowKit
/-- range_own where the statement's assignment is empty: the slot of what came has it. -/
theorem range_skip {P : Program} (m : Nat) {g : Operand} {p : Nat} {body : Code} {Q : Exit → Act → World → Prop} {a : Act} {w : World}
    {gf : Nat} {lb : Array Value} (hg : a.eval g = .func (.func gf) #[] lb) (eg : ∀ args w, (callFunc gf args).run P w = .ok (.enter gf args) w)
    {Base : World → Prop} {ways : List (List Int)} (hseq : SeqC P gf lb Base ways)
    (I : List (List Int) → World → Prop) (Ix : Code → World → Prop) (hIb : ∀ pre X, I pre X → Base X)
    (hI : ∀ pre X Y, I pre X → Below w.heap.size X Y → I pre Y) (hIx : ∀ c X Y, Ix c X → Below w.heap.size X Y → Ix c Y) (h0 : I [] w)
    (hbody : ∀ (l : Nat) (pre : List (List Int)) (x : List Int) (X : World) (b n c : Nat), I pre X → x ∈ ways → w.heap.size ≤ b → Rd X X.heap.size (some ⟨b, 0, none⟩) n x →
      body.wpIn (Fence.wide.inRound l) m P (midPost w.heap.size I Ix (pre ++ [x]) X) { tmps := a.tmps.setIfInBounds p (.slice (some ⟨b, 0, none⟩) n c), defers := [] } X)
    (hdone : ∀ (D : Nat) (W : World), w.heap.size ≤ D → I ways W → W.heap[D]? = some (.deferred (some [])) → Q .normal { a with defers := { target := .collected D, args := #[] } :: a.defers } W)
    (hstop : ∀ (D : Nat) (c : Code) (W : World), w.heap.size ≤ D → Ix c W → W.heap[D]? = some (.deferred (some [])) → c.wpIn Fence.wide m P Q { a with defers := { target := .collected D, args := #[] } :: a.defers } W) :
    (Code.rangeFunc g #[p] .skip body).wpIn Fence.wide m P Q a w :=
  range_own m hg eg rfl hseq I Ix hIb hI hIx h0 (fun v => { tmps := a.tmps.setIfInBounds p v, defers := [] }) (fun l v W K hK => by
    refine wpIn_skip ?_
    simpa [Exit.then] using hK) hbody hdone hstop
/-- range_own where the statement's assignment copies what came from slot p into slot q. -/
theorem range_two {P : Program} (m : Nat) {g : Operand} {p q : Nat} {assign body : Code} {Q : Exit → Act → World → Prop} {a : Act} {w : World}
    {gf : Nat} {lb : Array Value} (hg : a.eval g = .func (.func gf) #[] lb) (eg : ∀ args w, (callFunc gf args).run P w = .ok (.enter gf args) w)
    {Base : World → Prop} {ways : List (List Int)} (hseq : SeqC P gf lb Base ways)
    (I : List (List Int) → World → Prop) (Ix : Code → World → Prop) (hIb : ∀ pre X, I pre X → Base X)
    (hI : ∀ pre X Y, I pre X → Below w.heap.size X Y → I pre Y) (hIx : ∀ c X Y, Ix c X → Below w.heap.size X Y → Ix c Y) (h0 : I [] w)
    (hassign : ∀ (l : Nat) (v : Value) (W : World) (K : Act → World → Prop), K { tmps := (a.tmps.setIfInBounds p v).setIfInBounds q v, defers := [] } W →
      assign.wpIn (Fence.wide.inRound l) m P (Exit.then K (fun _ _ _ => False)) { tmps := a.tmps.setIfInBounds p v, defers := [] } W)
    (hbody : ∀ (l : Nat) (pre : List (List Int)) (x : List Int) (X : World) (b n c : Nat), I pre X → x ∈ ways → w.heap.size ≤ b → Rd X X.heap.size (some ⟨b, 0, none⟩) n x →
      body.wpIn (Fence.wide.inRound l) m P (midPost w.heap.size I Ix (pre ++ [x]) X) { tmps := (a.tmps.setIfInBounds p (.slice (some ⟨b, 0, none⟩) n c)).setIfInBounds q (.slice (some ⟨b, 0, none⟩) n c), defers := [] } X)
    (hdone : ∀ (D : Nat) (W : World), w.heap.size ≤ D → I ways W → W.heap[D]? = some (.deferred (some [])) → Q .normal { a with defers := { target := .collected D, args := #[] } :: a.defers } W)
    (hstop : ∀ (D : Nat) (c : Code) (W : World), w.heap.size ≤ D → Ix c W → W.heap[D]? = some (.deferred (some [])) → c.wpIn Fence.wide m P Q { a with defers := { target := .collected D, args := #[] } :: a.defers } W) :
    (Code.rangeFunc g #[p] assign body).wpIn Fence.wide m P Q a w :=
  range_own m hg eg rfl hseq I Ix hIb hI hIx h0 (fun v => { tmps := (a.tmps.setIfInBounds p v).setIfInBounds q v, defers := [] }) (fun l v W K hK => by
    simpa using hassign l v W K hK) hbody hdone hstop
end Go.Proofs.YtchcmgaohcldjaaDoor
set_option maxRecDepth 8000
namespace Go.Proofs.YtchcmgaohcldjaaDoor
open Go.ChangeShapes Go.WideShapes Go.ChangeAt Go.RowKit Go.Shelf
attribute [local go_sem] Oper.semAt_some
theorem nats_zerosN (n : Nat) : nats (zerosN n) = zeros n := by simp [nats, zerosN, zeros]
theorem ways_small {k v : Int} {ms : List Int} {n : Nat} {x : List Int} (h : x ∈ waysN k v ms n) : x.length = n ∧ small4 x n := by
  have hy := (List.mem_filter.1 h).1
  have h1 := allW_len hy
  simp at h1
  refine ⟨h1, fun i hi => ?_⟩
  have := allW_small (vs := []) (by intro i hi; simp at hi) hy i (by simpa using hi)
  omega
theorem fold_len {L : List (List Int)} {n : Nat} (h : ∀ ys ∈ L, small4 ys n) : (L.foldl orAll (zerosN n)).length = n ∧ lt32 (L.foldl orAll (zerosN n)) :=
  foldAll_inv L _ h (by simp [zerosN]) (zeros_lt _)
end Go.Proofs.YtchcmgaohcldjaaDoor
set_option maxRecDepth 8000
namespace Go.Proofs.YtchcmgaohcldjaaDoor
open Go.ChangeShapes Go.WideShapes Go.ChangeAt Go.RowKit Go.Shelf
attribute [local go_sem] Oper.semAt_some
theorem part_put (xs : List Int) (k n : Nat) (hk : k < n) : (part xs k n).set k (nth xs k) = part xs (k + 1) n := by
  apply ext_nth (by simp [part_length])
  intro j hj
  rw [List.length_set, part_length] at hj
  rw [part_nth _ _ _ _ hj]
  by_cases e : j = k
  · subst e; rw [nth_set_same (by rw [part_length]; exact hk), if_pos (by omega)]
  · rw [nth_set_ne (fun e' => e e'.symm), part_nth _ _ _ _ hj]
    by_cases h : j < k
    · rw [if_pos h, if_pos (by omega)]
    · rw [if_neg h, if_neg (by omega)]
theorem part_zero_ (xs : List Int) (n : Nat) : part xs 0 n = zeros n := by
  apply ext_nth (by simp [part_length, zeros])
  intro j hj
  rw [part_length] at hj
  rw [part_nth _ _ _ _ hj, if_neg (by omega)]
  simp [zeros, nth, List.getD_eq_getElem?_getD, hj]
end Go.Proofs.YtchcmgaohcldjaaDoor
set_option maxRecDepth 8000
namespace Go.Proofs.YtchcmgaohcldjaaDoor
open Go.ChangeShapes Go.WideShapes Go.ChangeAt Go.RowKit Go.Shelf
attribute [local go_sem] Oper.semAt_some
/-! The table of a rule, as it lies in memory. -/
def tcells (F : Nat → Nat) (A : Option Addr) (n c : Nat) : Array Value := #[.slice A n c, .int .u64 (F 0), .int .u64 (F 1), .int .u64 (F 2), .int .u64 (F 3), .int .u64 (F 4), .int .u64 (F 5), .int .u64 (F 6), .int .u64 (F 7), .int .u64 (F 8), .int .u64 (F 9), .int .u64 (F 10), .int .u64 (F 11), .int .u64 (F 12), .int .u64 (F 13), .int .u64 (F 14), .int .u64 (F 15), .int .u64 (F 16), .int .u64 (F 17), .int .u64 (F 18), .int .u64 (F 19)]
theorem tcells_size (F : Nat → Nat) (A : Option Addr) (n c : Nat) : (tcells F A n c).size = 21 := rfl
theorem tcell_at (F : Nat → Nat) (A : Option Addr) (n c : Nat) {i : Nat} (hi : i < 20) : (tcells F A n c)[1 + i]? = some (.int .u64 (F i)) := by
  have : i = 0 ∨ i = 1 ∨ i = 2 ∨ i = 3 ∨ i = 4 ∨ i = 5 ∨ i = 6 ∨ i = 7 ∨ i = 8 ∨ i = 9 ∨ i = 10 ∨ i = 11 ∨ i = 12 ∨ i = 13 ∨ i = 14 ∨ i = 15 ∨ i = 16 ∨ i = 17 ∨ i = 18 ∨ i = 19 := by omega
  rcases this with rfl | rfl | rfl | rfl | rfl | rfl | rfl | rfl | rfl | rfl | rfl | rfl | rfl | rfl | rfl | rfl | rfl | rfl | rfl | rfl <;> rfl
def tput (F : Nat → Nat) (i x : Nat) : Nat → Nat := fun j => if j = i then x else F j
theorem tcells_set (F : Nat → Nat) (A : Option Addr) (n c : Nat) {i : Nat} (hi : i < 20) (x : Nat) : (tcells F A n c).setIfInBounds (1 + i) (.int .u64 (x : Nat)) = tcells (tput F i x) A n c := by
  have : i = 0 ∨ i = 1 ∨ i = 2 ∨ i = 3 ∨ i = 4 ∨ i = 5 ∨ i = 6 ∨ i = 7 ∨ i = 8 ∨ i = 9 ∨ i = 10 ∨ i = 11 ∨ i = 12 ∨ i = 13 ∨ i = 14 ∨ i = 15 ∨ i = 16 ∨ i = 17 ∨ i = 18 ∨ i = 19 := by omega
  rcases this with rfl | rfl | rfl | rfl | rfl | rfl | rfl | rfl | rfl | rfl | rfl | rfl | rfl | rfl | rfl | rfl | rfl | rfl | rfl | rfl <;> rfl
/-- a table lies in block g. -/
def TBox (w : World) (g : Nat) (F : Nat → Nat) (A : Option Addr) (n c : Nat) : Prop := w.heap[g]? = some (.cells (tcells F A n c) 71)
theorem TBox.lt {w : World} {g : Nat} {F : Nat → Nat} {A : Option Addr} {n c : Nat} (h : TBox w g F A n c) : g < w.heap.size := (Array.getElem?_eq_some_iff.1 h).1
theorem TBox.cell {w : World} {g : Nat} {F : Nat → Nat} {A : Option Addr} {n c : Nat} (h : TBox w g F A n c) {i : Nat} (hi : i < 20) : w.cell? ⟨g, 1 + i, none⟩ = some (.int .u64 (F i)) :=
  (cell_of_row _ _ (1 + i) _ _ (0, 0) h).trans (tcell_at F A n c hi)
theorem TBox.cell0 {w : World} {g : Nat} {F : Nat → Nat} {A : Option Addr} {n c : Nat} (h : TBox w g F A n c) : w.cell? ⟨g, 0, none⟩ = some (.slice A n c) :=
  (cell_of_row _ _ 0 _ _ (0, 0) h).trans rfl
theorem TBox.frozen {w : World} {g : Nat} {F : Nat → Nat} {A : Option Addr} {n c : Nat} (h : TBox w g F A n c) (l : Nat) : w.frozen? ⟨g, l, none⟩ = false := by
  unfold World.frozen?
  rw [show w.heap[g]? = _ from h]
  simp
theorem TBox.set {w : World} {g : Nat} {F : Nat → Nat} {A : Option Addr} {n c : Nat} (h : TBox w g F A n c) {i : Nat} (hi : i < 20) (x : Nat) : TBox (w.setCell ⟨g, 1 + i, none⟩ (.int .u64 (x : Nat))) g (tput F i x) A n c := by
  unfold TBox
  rw [heap_setCell_same w g (1 + i) _ _ _ h, ← tcells_set F A n c hi x]
theorem TBox.kept {w w' : World} {g : Nat} {F : Nat → Nat} {A : Option Addr} {n c : Nat} (h : TBox w g F A n c) (e : w'.heap[g]? = w.heap[g]?) : TBox w' g F A n c := e.trans h
/-- of the ways told so far those that give cell j the value u, as far as one word holds them. -/
def wsM (L : List (List Int)) (j u : Nat) : Nat := wsT L j u (min L.length 64)
def wyV (m : Nat) : Nat := if m < 64 then 2 ^ m else 0
theorem wsM_lt (L : List (List Int)) (j u : Nat) : wsM L j u < 2 ^ 64 := Nat.lt_of_lt_of_le (wsT_lt _) (Nat.pow_le_pow_right (by omega) (by omega))
theorem wsM_is {L : List (List Int)} (h : L.length ≤ 64) (j u : Nat) : wsM L j u = wsP L j u := by
  unfold wsM wsP; rw [Nat.min_eq_left h]
theorem wsM_push (L : List (List Int)) (x : List Int) (j u : Nat) : wsM (L ++ [x]) j u = wsM L j u ||| (if (nth x j).toNat = u then wyV L.length else 0) := by
  unfold wsM wyV
  rw [List.length_append, List.length_singleton]
  by_cases h : L.length < 64
  · rw [if_pos h, Nat.min_eq_left (show L.length + 1 ≤ 64 by omega), Nat.min_eq_left (show L.length ≤ 64 by omega)]
    simp only [wsT]
    rw [wsT_app _ (Nat.le_refl _), show (L ++ [x]).getD L.length [] = x by simp [List.getD_eq_getElem?_getD]]
  · rw [if_neg h, Nat.min_eq_right (show 64 ≤ L.length + 1 by omega), Nat.min_eq_right (show 64 ≤ L.length by omega), wsT_app _ (show 64 ≤ L.length by omega)]
    split <;> rw [Nat.or_zero]
theorem wyV_lt (m : Nat) : wyV m < 2 ^ 64 := by
  unfold wyV
  split
  · exact Nat.pow_lt_pow_right (by omega) (by assumption)
  · exact Nat.two_pow_pos _
theorem wyV_next (m : Nat) : IntKind.u64.wrap (((wyV m : Nat) : Int) * 2) = ((wyV (m + 1) : Nat) : Int) := by
  rw [IntKind.wrap_u64]
  unfold wyV
  by_cases h : m < 63
  · rw [if_pos (by omega), if_pos (by omega), Nat.pow_succ]
    have : 2 ^ m < 2 ^ 63 := Nat.pow_lt_pow_right (by omega) h
    generalize 2 ^ m = p at *
    omega
  · by_cases h2 : m = 63
    · subst h2; decide
    · rw [if_neg (by omega), if_neg (by omega)]; rfl
/-- the table's words when t cells of the way x are entered, behind the ways L. -/
def tG (L : List (List Int)) (x : List Int) (n t : Nat) : Nat → Nat := fun i => if i / 5 < t then wsM (L ++ [x]) (i / 5) (i % 5) else if i / 5 < n then wsM L (i / 5) (i % 5) else 0
def tF (L : List (List Int)) (n : Nat) : Nat → Nat := fun i => if i / 5 < n then wsM L (i / 5) (i % 5) else 0
theorem tG_zero (L : List (List Int)) (x : List Int) (n : Nat) : tG L x n 0 = tF L n := by
  funext i
  unfold tG tF
  rw [if_neg (by omega)]
theorem tG_all (L : List (List Int)) (x : List Int) (n : Nat) : tG L x n n = tF (L ++ [x]) n := by
  funext i
  unfold tG tF
  by_cases h : i / 5 < n
  · rw [if_pos h, if_pos h]
  · rw [if_neg h, if_neg h, if_neg h]
theorem tF_nil (n : Nat) : tF [] n = fun _ => 0 := by
  funext i
  unfold tF
  split <;> rfl
theorem tG_lt (L : List (List Int)) (x : List Int) (n t i : Nat) : tG L x n t i < 2 ^ 64 := by
  unfold tG
  split
  · exact wsM_lt _ _ _
  · split
    · exact wsM_lt _ _ _
    · exact Nat.two_pow_pos _
theorem tF_lt (L : List (List Int)) (n i : Nat) : tF L n i < 2 ^ 64 := by
  rw [← tG_zero L []]; exact tG_lt _ _ _ _ _
theorem tG_step (L : List (List Int)) (x : List Int) {n t z : Nat} (ht : t < n) (hz : z < 5) (hx : (nth x t).toNat = z) : tput (tG L x n t) (t * 5 + z) (tG L x n t (t * 5 + z) ||| wyV L.length) = tG L x n (t + 1) := by
  funext i
  unfold tput
  have e1 : (t * 5 + z) / 5 = t := by omega
  have e2 : (t * 5 + z) % 5 = z := by omega
  by_cases e : i = t * 5 + z
  · subst e
    rw [if_pos rfl]
    unfold tG
    rw [e1, e2, if_neg (Nat.lt_irrefl t), if_pos ht, if_pos (Nat.lt_succ_self t), wsM_push, if_pos hx]
  · rw [if_neg e]
    unfold tG
    by_cases h1 : i / 5 < t
    · rw [if_pos h1, if_pos (by omega)]
    · rw [if_neg h1]
      by_cases h2 : i / 5 < t + 1
      · have h3 : i / 5 = t := by omega
        rw [if_pos (by omega), if_pos h2, wsM_push, h3, if_neg (by omega), Nat.or_zero]
      · rw [if_neg h2]
theorem tF_at {L : List (List Int)} {n j u : Nat} (hL : L.length ≤ 64) (hj : j < n) (hu : u < 5) : tF L n (j * 5 + u) = wsP L j u := by
  unfold tF
  rw [show (j * 5 + u) / 5 = j by omega, show (j * 5 + u) % 5 = u by omega, if_pos hj, wsM_is hL]
theorem opN_lt {s n : Nat} (hs : s ∈ [2, 3, 4]) : ∀ i, i < n → 0 ≤ nth (opN n s) i ∧ nth (opN n s) i < 32 := fun i hi => by
  unfold opN
  rw [emL_at (n := n) (by simp [zeros]) hi]
  have := emN_lt (vs := zeros n) (j := i) hs (by rw [zeros_nth]; omega) (by rw [zeros_nth]; omega)
  omega
theorem opN_len (n s : Nat) : (opN n s).length = n := by unfold opN; exact emL_len_ (by simp [zeros])
end Go.Proofs.YtchcmgaohcldjaaDoor
set_option maxRecDepth 8000
namespace Go.Proofs.YtchcmgaohcldjaaDoor
open Go.ChangeShapes Go.WideShapes Go.ChangeAt Go.RowKit

/-- the code that a law of draws takes. -/
def Code_ (w : World) (A : Option Addr) (n c : Nat) (bs : List Int) : Prop := RdB w w.heap.size A n bs ∧ n ≤ c ∧ c ≤ 9223372036854775807
theorem code_of_row {w : World} {a : Option Addr} {len cap : Nat} {zs : List Int} (h : IsRow .u8 w a len cap zs) : Code_ w a len cap (zs.take len) := by
  refine ⟨rdB_of_row h, ?_⟩
  rcases h with ⟨rfl, rfl, rfl, rfl⟩ | ⟨x, rfl, hl, hm, _⟩
  · omega
  · simp only [maxLen] at hm; omega






end Go.Proofs.YtchcmgaohcldjaaDoor
namespace Go.Proofs.YtchcmgaohcldjaaDoor
open Go.ChangeShapes Go.WideShapes Go.ChangeAt Go.RowKit

theorem toIntS_any (A : Option Addr) (c n B : Nat) (xs : List Int) (w : World) (h : Rd w B A n xs) (hB : B ≤ w.heap.size) (hm : n ≤ 1099511627776) :
    Calls Tryd.prog 8 #[.slice A n c] w fun e w' => e = .returned (.slice (some ⟨w.heap.size, 0, none⟩) n n) ∧ Ow w' w.heap.size (some ⟨w.heap.size, 0, none⟩) n n xs ∧ Below w.heap.size w w' := by
  obtain ⟨i0, hi, hz0, hz1, hz2⟩ := info_parts int_info
  have hlen := Lib.hid h.1
  go_enter Tryd.func8, Tryd.ntmps8
  go_wp2_with (refine wpList_make_full _ rfl (.tmp 6) (.tmp 6) 22 rfl w.heap.size 3 i0 (.int .i64 0) 1 Tryd.underlying22 hi hz0 hz1 .i64 .i64 n n n rfl rfl rfl rfl ?_ ?_ (Nat.le_refl _) ?_)
  · rw [hz2]; omega
  · simp only [maxLen]; omega
  · intro w1 hown hgr
    have hown1 : Ow w1 w.heap.size (some ⟨w.heap.size, 0, none⟩) n n (part xs 0 n) := by
      unfold Ow; rw [part_zero, ← toList_madeCells_one]; exact hown
    have hb1 : Below w.heap.size w w1 := (Below.refl _ _).grown hgr (Nat.le_refl _) (fun k hk => by cases hk)
    clear hown hgr
    go_wp2
    go_loopw [4] (fun i wr => ∃ k : Nat, k ≤ n ∧ i = .int .i64 k ∧ Ow wr w.heap.size (some ⟨w.heap.size, 0, none⟩) n n (part xs k n) ∧ Below w.heap.size w wr) (fun i _ => n - (intOf i).toNat)
    case atStart => exact ⟨0, Nat.zero_le _, rfl, hown1, hb1⟩
    case round =>
      obtain ⟨k, hk, rfl, ho, hb⟩ := hrel
      by_cases hlt : k < n
      · obtain ⟨b, off, rfl, hbB, hck⟩ := (h.below (hb.mono hB)).at_ hlt
        have hold := World.ownsRow.cellAt ho k (by omega)
        rw [vals_get (by rw [part_length]; exact hlt)] at hold
        have hfr := World.ownsRow.frozenAt ho k
        have hst := World.ownsRow.stored ho k (.int .i64 (nth xs k))
        rw [part_set] at hst
        have Hst := Lib.hid hst; clear hst
        go_wp2
        go_roundw
        case rel => exact ⟨k + 1, by omega, by go_num, Hst.out.1, hb.setCell (Nat.le_refl _) _⟩
        case measure => simp [intOf]; omega
      · obtain rfl : k = n := by omega
        go_wp2
        go_ret
        refine ⟨rfl, ?_, hb⟩
        have e := part_all xs
        rw [hlen.out] at e
        rw [e] at ho
        exact ho
theorem eqIntS_any (A A' : Option Addr) (c c' n n' B B' : Nat) (xs ys : List Int) (w : World) (h : Rd w B A n xs) (h' : Rd w B' A' n' ys) (hm : n ≤ 1099511627776) :
    Calls Tryd.prog 10 #[.slice A n c, .slice A' n' c'] w fun e w' => e = .returned (.bool (same xs ys)) ∧ Below w.heap.size w w' := by
  have hl := Lib.hid h.1
  have hl' := Lib.hid h'.1
  by_cases hnn : n = n'
  · subst hnn
    go_enter Tryd.func10, Tryd.ntmps10
    go_wp2
    go_loopw [5] (fun i wr => ∃ k : Nat, k ≤ n ∧ i = .int .i64 k ∧ eqTo xs ys k ∧ Below w.heap.size w wr ∧ Rd wr B A n xs ∧ Rd wr B' A' n ys) (fun i _ => n - (intOf i).toNat)
    case atStart => exact ⟨0, Nat.zero_le _, rfl, eqTo_zero, Below.refl _ _, h, h'⟩
    case round =>
      obtain ⟨k, hk, rfl, heq, hb, hr, hr'⟩ := hrel
      by_cases hlt : k < n
      · obtain ⟨b, off, rfl, hbB, hck⟩ := hr.at_ hlt
        obtain ⟨b', off', rfl, hbB', hck'⟩ := hr'.at_ hlt
        have hltI : (k : Int) < (n : Int) := by omega
        by_cases e : nth xs k = nth ys k
        · have hne : (nth xs k != nth ys k) = false := by simp [e]
          have He := Lib.hid e; clear e
          go_wp2
          go_quiet (fail)
          go_wp2
          go_roundw
          case rel => exact ⟨k + 1, by omega, by go_num, eqTo_succ heq He.out, below_drewN hb _, hr, hr'⟩
          case measure => simp [intOf]; omega
        · have hne : (nth xs k != nth ys k) = true := by simp [e]
          have He := Lib.hid e; clear e
          go_wp2
          go_quiet (fail)
          go_wp2
          go_ret
          exact ⟨by rw [same_f He.out]; rfl, below_drewN hb _⟩
      · obtain rfl : k = n := by omega
        go_wp2
        go_ret
        exact ⟨by rw [same_t hl.out hl'.out heq]; rfl, hb⟩
  · have hne : ((n : Int) != (n' : Int)) = true := by rw [bne_iff_ne]; omega
    go_enter Tryd.func10, Tryd.ntmps10
    go_wp2
    go_ret
    exact ⟨by rw [same_len (by rw [hl.out, hl'.out]; exact hnn)]; rfl, Below.refl _ _⟩
theorem markIntS_any (A : Option Addr) (c n lo : Nat) (xs : List Int) (m : Int) (w : World) (h : Ow w lo A n c xs) (hm : n ≤ 1099511627776) (h0 : 0 ≤ m) (h1 : m ≤ 4611686018427387904) :
    Calls Tryd.prog 13 #[.slice A n c, .int .i64 m] w fun e w' => e = .returned (.int .i64 (m + n)) ∧ Ow w' lo A n c (marked xs m n n) ∧ w.grownBy w' (Value.slice A n c).ownBlock := by
  have hlen := Lib.hid h.len
  go_enter Tryd.func13, Tryd.ntmps13
  go_wp2
  go_loopw [1, 5] (fun q i wr => ∃ k : Nat, k ≤ n ∧ i = .int .i64 k ∧ q = .int .i64 (m + k) ∧ Ow wr lo A n c (marked xs m k n) ∧ w.grownBy wr (Value.slice A n c).ownBlock) (fun _ i _ => n - (intOf i).toNat)
  case atStart =>
    refine ⟨0, Nat.zero_le _, rfl, by simp, ?_, World.grownBy.refl _ _⟩
    have e := marked_zero xs m
    rw [hlen.out] at e
    rw [e]; exact h
  case round =>
    obtain ⟨k, hk, rfl, rfl, ho, hg⟩ := hrel
    by_cases hlt : k < n
    · obtain ⟨g, rfl, hlog, hgw⟩ := ho.form (by omega)
      have hold := World.ownsRow.cellAt ho k (by omega)
      rw [vals_get (by rw [marked_length]; exact hlt)] at hold
      have hfr := World.ownsRow.frozenAt ho k
      have hst := World.ownsRow.stored ho k (.int .i64 (m + k))
      rw [marked_set] at hst
      have Hst := Lib.hid hst; clear hst
      go_wp2
      go_roundw
      case rel => exact ⟨k + 1, by omega, by go_num, by go_num, Hst.out.1, hg.trans Hst.out.2⟩
      case measure => simp [intOf]; omega
    · obtain rfl : k = n := by omega
      go_wp2
      go_ret
      exact ⟨rfl, ho, hg⟩
theorem heldIntS_seq (A : Option Addr) (c n B : Nat) (m : Int) (w : World) (h : Rd w B A n (seqI m n)) (hm : n ≤ 1099511627776) (h0 : 0 ≤ m) (h1 : m ≤ 1099511627776) :
    Calls Tryd.prog 14 #[.slice A n c, .int .i64 m] w fun e w' => e = .returned (.int .i64 (m + n)) ∧ w = w' := by
  go_enter Tryd.func14, Tryd.ntmps14
  go_wp2
  go_loop [1, 5] (fun q i => ∃ k : Nat, k ≤ n ∧ i = .int .i64 k ∧ q = .int .i64 (m + k)) (fun _ i => n - (intOf i).toNat)
  case atStart => exact ⟨0, Nat.zero_le _, rfl, by simp⟩
  case round =>
    obtain ⟨k, hk, rfl, rfl⟩ := hrel
    by_cases hlt : k < n
    · obtain ⟨b, off, rfl, hbB, hck⟩ := h.at_ hlt
      rw [seqI_nth hlt] at hck
      go_wp2
      go_round
      case rel => exact ⟨k + 1, by omega, by go_num, by go_num⟩
      case measure => simp [intOf]; omega
    · obtain rfl : k = n := by omega
      go_wp2
      go_ret
      exact ⟨rfl, rfl⟩
end Go.Proofs.YtchcmgaohcldjaaDoor
namespace Go.Proofs.YtchcmgaohcldjaaDoor
open Go.ChangeShapes Go.WideShapes Go.ChangeAt Go.RowKit

def turnIx (size : Int) (k : Nat) : Nat := ((size - 1 - (k : Int) % size) * size + (k : Int) / size).toNat
def turnG (xs : List Int) (size : Int) (k : Nat) : Int := nth xs (turnIx size k)
def turnL (xs : List Int) (size : Int) : List Int := if gv xs size = true then mapTo (turnG xs size) xs.length else []

theorem turn_facts {size : Int} {n k : Nat} (h2 : 2 ≤ size) (h4 : size ≤ 4) (hn : (n : Int) = size * size) (hk : k < n) :
    (0 ≤ (k : Int) % size ∧ (k : Int) % size < size) ∧ (0 ≤ (k : Int) / size ∧ (k : Int) / size < size) ∧ turnIx size k < n ∧ ((turnIx size k : Nat) : Int) = (size - 1 - (k : Int) % size) * size + (k : Int) / size := by
  unfold turnIx
  have : size = 2 ∨ size = 3 ∨ size = 4 := by omega
  rcases this with rfl | rfl | rfl <;> omega

end Go.Proofs.YtchcmgaohcldjaaDoor
namespace Go.Proofs.YtchcmgaohcldjaaDoor
open Go.ChangeShapes Go.WideShapes Go.ChangeAt Go.RowKit

/-- the number of the cell in a row and a column. -/
def cellIx (size row col : Int) : Nat := (row * size + col).toNat
theorem cell_facts {size row col : Int} {n : Nat} (h2 : 2 ≤ size) (h4 : size ≤ 4) (hn : (n : Int) = size * size) (r0 : 0 ≤ row) (r1 : row < size) (c0 : 0 ≤ col) (c1 : col < size) :
    (0 ≤ row * size ∧ row * size ≤ 12) ∧ cellIx size row col < n ∧ ((cellIx size row col : Nat) : Int) = row * size + col := by
  unfold cellIx
  have : size = 2 ∨ size = 3 ∨ size = 4 := by omega
  rcases this with rfl | rfl | rfl <;> omega

theorem ix_lt {r q s : Nat} (hr : r < s) (hq : q < s) : r * s + q < s * s := by
  have : (r + 1) * s ≤ s * s := Nat.mul_le_mul_right s hr
  rw [Nat.succ_mul] at this
  omega
theorem of_drew_below {w w2 : World} (h : Below w.drew.heap.size w.drew w2) : Below w.heap.size w w2 := ⟨h.os, h.tape, h.output, h.size, h.block⟩
theorem below_drew' {B : Nat} {a w : World} (h : Below B a w) : Below B a w.drew := h.drew
theorem divmod_ix {s r c : Nat} (h2 : 2 ≤ s) (h4 : s ≤ 4) (hr : r < s) (hc : c < s) : ((r * s + c : Nat) : Int) / (s : Int) = r ∧ ((r * s + c : Nat) : Int) % (s : Int) = c := by
  have : s = 2 ∨ s = 3 ∨ s = 4 := by omega
  rcases this with rfl | rfl | rfl <;> omega
theorem turn_ix {s r c : Nat} (h2 : 2 ≤ s) (h4 : s ≤ 4) (hr : r < s) (hc : c < s) : cellIx s ((s : Int) - 1 - c) r = turnIx s (r * s + c) := by
  obtain ⟨hd, hm⟩ := divmod_ix h2 h4 hr hc
  unfold cellIx turnIx
  rw [hd, hm]
end Go.Proofs.YtchcmgaohcldjaaDoor
namespace Go.Proofs.YtchcmgaohcldjaaDoor
open Go.ChangeShapes Go.WideShapes Go.ChangeAt Go.RowKit

def mirIx (size : Int) (k : Nat) : Nat := ((k : Int) / size * size + size - 1 - (k : Int) % size).toNat
def mirG (xs : List Int) (size : Int) (k : Nat) : Int := nth xs (mirIx size k)
def mirL (xs : List Int) (size : Int) : List Int := if gv xs size = true then mapTo (mirG xs size) xs.length else []

theorem mir_facts {size : Int} {n k : Nat} (h2 : 2 ≤ size) (h4 : size ≤ 4) (hn : (n : Int) = size * size) (hk : k < n) :
    (0 ≤ (k : Int) % size ∧ (k : Int) % size < size) ∧ (0 ≤ (k : Int) / size ∧ (k : Int) / size < size) ∧ mirIx size k < n ∧ ((mirIx size k : Nat) : Int) = (k : Int) / size * size + size - 1 - (k : Int) % size := by
  unfold mirIx
  have : size = 2 ∨ size = 3 ∨ size = 4 := by omega
  rcases this with rfl | rfl | rfl <;> omega

theorem mir_ix {s r c : Nat} (h2 : 2 ≤ s) (h4 : s ≤ 4) (hr : r < s) (hc : c < s) : cellIx s r ((s : Int) - 1 - c) = mirIx s (r * s + c) := by
  obtain ⟨hd, hm⟩ := divmod_ix h2 h4 hr hc
  unfold cellIx mirIx
  rw [hd, hm]
  congr 1
  omega
end Go.Proofs.YtchcmgaohcldjaaDoor
namespace Go.Proofs.YtchcmgaohcldjaaDoor
open Go.ChangeShapes Go.WideShapes Go.ChangeAt Go.RowKit

theorem Rd.take_ {w : World} {B : Nat} {A : Option Addr} {n : Nat} {xs : List Int} (h : Rd w B A n xs) {m : Nat} (hm : m ≤ n) : Rd w B A m (xs.take m) := by
  refine ⟨by rw [List.length_take, h.1]; omega, fun h0 => ?_⟩
  obtain ⟨b, off, he, hb, hc⟩ := h.2 (by omega)
  refine ⟨b, off, he, hb, fun k hk => ?_⟩
  rw [hc k (by omega)]
  simp [nth, List.getD_eq_getElem?_getD, hk]
theorem gv_n {xs : List Int} {size : Int} {n : Nat} (h : gv xs size = true) (hl : xs.length = n) : 4 ≤ n ∧ n ≤ 16 ∧ (n : Int) = size * size := by
  obtain ⟨h2, h4⟩ := gv_size h
  have := gv_len h
  obtain ⟨q4, q16⟩ := sq_bd h2 h4
  rw [hl] at this
  omega
theorem gv_short {xs : List Int} {size : Int} {n : Nat} (h : gv xs size = true) (hl : xs.length = n) : gv (xs.take (n - 1)) size = false := by
  obtain ⟨h4, _, hn⟩ := gv_n h hl
  have e : ((xs.take (n - 1)).length : Int) = n - 1 := by rw [List.length_take, hl]; omega
  cases hg : gv (xs.take (n - 1)) size
  · rfl
  · have := gv_len hg
    omega
theorem gv_large {xs : List Int} {size : Int} {n : Nat} (h : gv xs size = true) (hl : xs.length = n) : gv (xs.set 0 (size + 1)) size = false := by
  obtain ⟨h4, _, hn⟩ := gv_n h hl
  cases hg : gv (xs.set 0 (size + 1)) size
  · rfl
  · have := gv_nth hg (k := 0) (by rw [List.length_set, hl]; omega)
    rw [nth_set (by omega), if_pos rfl] at this
    omega

theorem copy_below {w w' : World} (hg : (w.alloc (.cells #[] 3)).grownBy w' (Value.slice (some ⟨w.heap.size, 0, none⟩) 0 0).ownBlock) : Below w.heap.size w w' :=
  ((Below.refl _ _).alloc (Nat.le_refl _) _).grown hg (by simp) (fun k hk => (Ow.made0 w w.heap.size (Nat.le_refl _)).own_lo k hk)
theorem cnz_lt {xs : List Int} {k : Nat} {v : Int} (hk : k < xs.length) : ∀ m, m ≤ k → cnz (xs.set k v) m = cnz xs m := by
  intro m
  induction m with
  | zero => intro _; rfl
  | succ m ih =>
    intro hm
    simp only [cnz]
    have e : k ≠ m := by omega
    rw [ih (by omega), nth_set hk, if_neg e]
theorem cnz_set {xs : List Int} {k : Nat} (hk : k < xs.length) (h : nth xs k ≠ 0) : ∀ m, k < m → cnz (xs.set k 0) m + 1 = cnz xs m := by
  intro m
  induction m with
  | zero => intro hm; omega
  | succ m ih =>
    intro hm
    simp only [cnz]
    by_cases e : k = m
    · subst e
      rw [cnz_lt hk k (Nat.le_refl _), nth_set hk, if_pos rfl, if_pos rfl, if_neg h]
    · rw [nth_set hk, if_neg e]
      have := ih (by omega)
      omega
theorem gv_set0 {xs : List Int} {size : Int} {n k : Nat} (h : gv xs size = true) (hl : xs.length = n) : gv (xs.set k 0) size = true := by
  obtain ⟨h2, h4⟩ := gv_size h
  refine okAll_gv (n := n) (by simpa using hl) (gv_n h hl).2.2 h2 h4 (okAll_set' (fun j hj => gv_nth h (by omega)) (by omega) (by omega))
theorem gf_set {xs : List Int} {size : Int} {k : Nat} (h : gv xs size = true) (hk : k < xs.length) (h0 : nth xs k ≠ 0) : gf (xs.set k 0) size = gf xs size - 1 := by
  have := cnz_set hk h0 xs.length hk
  unfold gf
  rw [if_pos h, if_pos (gv_set0 h rfl), List.length_set]
  omega
theorem cnz_zeros (n m : Nat) : cnz (zeros n) m = 0 := by
  induction m with
  | zero => rfl
  | succ m ih => rw [cnz, ih, zeros_nth]; rfl
theorem gf_zeros {size : Int} {n : Nat} (h2 : 2 ≤ size) (h4 : size ≤ 4) (hn : (n : Int) = size * size) : gf (zeros n) size = 0 := by
  have hg : gv (zeros n) size = true := okAll_gv (zeros_length n) hn h2 h4 (okAll_zeros (by omega) n)
  unfold gf
  rw [if_pos hg, cnz_zeros]; rfl

end Go.Proofs.YtchcmgaohcldjaaDoor
