import Derived.Test.YtoejpodchlepiaaXRS
import Derived.Test.YtoejpodchlepiaaXWz
import Derived.Test.YtoejpodchlepiaaPow
import Derived.Test.YtoejpodchlepiaaDrawH
import Derived.Test.YtoejpodchlepiaaQ4S
import Derived.RangeFuncBound
import Derived.RangeFuncLeaves
import Derived.Shelf.Abstract
import Derived.Shelf.RegionOpen
import Derived.WalkKit
import Derived.OwnWalkIn
import Derived.TacticsInMore
import Derived.LoopNIn
import Derived.LoopIn
set_option maxRecDepth 8000
namespace Go.Proofs.Ytoejpodchlepiaa
open Go.ChangeShapes Go.WideShapes Go.ChangeAt Go.RowKit
/-- what tryWays leaves: all ways told and the callback never said no, or it said no. -/
def TryPost (J : List (List Int) → World → Prop) (Jx : World → Prop) (lo V n c cell : Nat) (vs : List Int) (ways : List (List Int)) (e : Ending) (Y : World) : Prop :=
  (e = .returned (.bool true) ∧ J ways Y ∧ ∃ ys, Ow Y lo (some ⟨V, 0, none⟩) n c ys ∧ ∀ i, i < cell → nth ys i = nth vs i) ∨ (e = .returned (.bool false) ∧ Jx Y)
theorem nth_set_ne {xs : List Int} {k i : Nat} {v : Int} (h : k ≠ i) : nth (xs.set k v) i = nth xs i := by simp [nth, List.getD_eq_getElem?_getD, List.getElem?_set_ne h]
theorem nth_set_same {xs : List Int} {k : Nat} {v : Int} (h : k < xs.length) : nth (xs.set k v) k = v := by simp [nth, List.getD_eq_getElem?_getD, List.getElem?_set_self h]
theorem grown_tr2 {a b c : World} {r : Option Nat} (h : a.grownBy b r) (k : b.grownBy c r) : a.grownBy c r := h.trans k
theorem bits_in {M t u : Nat} (h : M.testBit t = true) (h1 : 1 ≤ t) (h2 : t ≤ u) : (t : Int) ∈ bitsTo M u := by
  induction u with
  | zero => omega
  | succ u ih =>
    simp only [bitsTo, List.mem_append]
    by_cases e : t = u + 1
    · subst e; right; rw [if_pos h]; simp
    · left; exact ih (by omega)
set_option maxHeartbeats 1000000 in
theorem tryWays_any {lb : Array Value} {ms : List Int} {n c lo V cm : Nat} {Am : Option Addr} {J : List (List Int) → World → Prop} {Jx : World → Prop}
    (hM : ∀ pre X, J pre X → Rd X V Am n ms) (hm : ∀ i, i < n → 0 ≤ nth ms i ∧ nth ms i < 32) (hn : n ≤ 4)
    (hJ : ∀ pre X Y, J pre X → X.grownBy Y (some V) → J pre Y)
    (hcb : ∀ pre ys X, ys ∈ allW ms n [] → J pre X → Ow X lo (some ⟨V, 0, none⟩) n c ys → Calls Try.prog 136 lb X fun e Y => (e = .returned (.bool true) ∧ J (pre ++ [ys]) Y ∧ Ow Y lo (some ⟨V, 0, none⟩) n c ys) ∨ (e = .returned (.bool false) ∧ Jx Y)) :
    ∀ (d cell : Nat) (vs ys0 : List Int) (pre : List (List Int)) (X : World), cell + d = n → vs.length = cell → J pre X → Ow X lo (some ⟨V, 0, none⟩) n c ys0 → (∀ i, i < cell → nth ys0 i = nth vs i) → (∀ ys ∈ allW ms d vs, ys ∈ allW ms n []) →
      Calls Try.prog 135 #[.slice Am n cm, .slice (some ⟨V, 0, none⟩) n c, .int .i64 cell, .func (.func 136) #[] lb] X (TryPost J Jx lo V n c cell vs (pre ++ allW ms d vs)) := by
  intro d
  induction d with
  | zero =>
    intro cell vs ys0 pre X hd hl hj ho hys hin
    obtain rfl : cell = n := by omega
    obtain rfl : ys0 = vs := ext_nth (by rw [ho.len, hl]) (fun k hk => hys k (by rw [ho.len] at hk; exact hk))
    have HC := Lib.hid (hcb pre ys0 X (hin ys0 (by simp [allW])) hj ho)
    go_enter Try.func135, Try.ntmps135
    go_wp2_with fail
    refine HC.out.mono ?_
    rintro e Y (⟨rfl, hj', ho'⟩ | ⟨rfl, hx⟩)
    · go_wp2
      go_ret
      exact .inl ⟨rfl, hj', ys0, ho', fun _ _ => rfl⟩
    · go_wp2
      go_ret
      exact .inr ⟨rfl, hx⟩
  | succ d ih =>
    intro cell vs ys0 pre X hd hl hj ho hys hin
    have hlt : cell < n := by omega
    have hltI : (cell : Int) < (n : Int) := by omega
    have hneI : ((cell : Int) == (n : Int)) = false := by simp; omega
    obtain ⟨m0, m1⟩ := hm cell hlt
    obtain ⟨M, hMv⟩ := Int.eq_ofNat_of_zero_le m0
    have hM32 : M < 32 := by omega
    have HW := Lib.hid (show allW ms (d + 1) vs = (bitsTo M 4).flatMap fun x => allW ms d (vs ++ [x]) by simp only [allW, hl, hMv, Int.toNat_natCast])
    have Hin : ∀ (x : Int), x ∈ bitsTo M 4 → ∀ ys ∈ allW ms d (vs ++ [x]), ys ∈ allW ms n [] := fun x hx ys hy => hin ys (by rw [HW.out]; exact List.mem_flatMap.2 ⟨x, hx, hy⟩)
    rw [HW.out]
    have Hc1 := Lib.hid (show (cell : Int) + 1 = ((cell + 1 : Nat) : Int) by omega)
    have Hd := Lib.hid hd
    have Hl := Lib.hid hl
    clear hd hl
    go_enter Try.func135, Try.ntmps135
    go_wp2
    go_loopw [9] (fun v wr => ∃ (u t : Nat) (ys : List Int), u ≤ 4 ∧ t = u + 1 ∧ v = .int .i64 t ∧ J (pre ++ (bitsTo M u).flatMap fun x => allW ms d (vs ++ [x])) wr ∧ Ow wr lo (some ⟨V, 0, none⟩) n c ys ∧ ∀ i, i < cell → nth ys i = nth vs i) (fun v _ => 6 - (intOf v).toNat)
    case atStart => exact ⟨0, 1, ys0, by omega, rfl, rfl, by simpa [bitsTo] using hj, ho, hys⟩
    case round =>
      obtain ⟨u, t, ys, hu, ht, rfl, hj, ho, hys⟩ := hrel
      by_cases hu4 : u < 4
      · have ht4 : (t : Int) ≤ 4 := by omega
        have ht64 : (t : Int) < 64 := by omega
        obtain ⟨b, off, rfl, hbV, hck⟩ := (hM _ _ hj).at_ hlt
        rw [hMv] at hck
        have hand := and_pow0 M t hM32 (by omega)
        have hbits : bitsTo M (u + 1) = bitsTo M u ++ (if M.testBit t = true then [(t : Int)] else []) := by rw [bitsTo, ht]; rfl
        cases hb : M.testBit t
        · rw [hb] at hand
          have Hj := Lib.hid (show ∀ Y, wr.grownBy Y (some V) → J (pre ++ (bitsTo M (u + 1)).flatMap fun x => allW ms d (vs ++ [x])) Y from fun Y hg => by
            rw [hbits, hb]; simpa using hJ _ _ _ hj hg)
          have Ht := Lib.hid ht
          clear hbits hb ht
          go_wp2
          go_quiet (fail)
          go_wp2
          go_roundw
          case rel => exact ⟨u + 1, t + 1, ys, by omega, by have := Ht.out; omega, by go_num, Hj.out _ (grown_of_below (below_drewN (Below.refl _ _) _)), ho.below (below_drewN (Below.refl _ _) _), hys⟩
          case measure => simp [intOf]; omega
        · rw [hb] at hand
          obtain ⟨hold, hfr⟩ := ho.cell hlt
          have hmem : (t : Int) ∈ bitsTo M 4 := bits_in hb (by omega) (by omega)
          have Hj := Lib.hid (show ∀ Y, J ((pre ++ (bitsTo M u).flatMap fun x => allW ms d (vs ++ [x])) ++ allW ms d (vs ++ [(t : Int)])) Y → J (pre ++ (bitsTo M (u + 1)).flatMap fun x => allW ms d (vs ++ [x])) Y from fun Y h => by
            rw [hbits, hb]; simpa using h)
          have hys2 : ∀ i, i < cell + 1 → nth (ys.set cell (t : Int)) i = nth (vs ++ [(t : Int)]) i := fun i hi => by
            rw [nth_push Hl.out]
            by_cases e : i = cell
            · subst e; rw [nth_set_same (by rw [ho.len]; exact hlt), if_neg (by omega), if_pos rfl]
            · rw [nth_set_ne (fun e' => e e'.symm), if_pos (by omega)]; exact hys i (by omega)
          have hback : ∀ zs : List Int, (∀ i, i < cell + 1 → nth zs i = nth (vs ++ [(t : Int)]) i) → ∀ i, i < cell → nth zs i = nth vs i := fun zs h i hi => by
            rw [h i (by omega), nth_push Hl.out, if_pos hi]
          have HI := Lib.hid (show ∀ q, Calls Try.prog 135 #[.slice (some ⟨b, off, none⟩) n cm, .slice (some ⟨V, 0, none⟩) n c, .int .i64 ((cell : Int) + 1), .func (.func 136) #[] lb] ((wr.drewN q).setCell ⟨V, cell, none⟩ (.int .i64 (t : Int))) fun e Y =>
              ∃ bb : Bool, e = .returned (.bool bb) ∧ (bb = true → J (pre ++ (bitsTo M (u + 1)).flatMap fun x => allW ms d (vs ++ [x])) Y ∧ ∃ zs, Ow Y lo (some ⟨V, 0, none⟩) n c zs ∧ ∀ i, i < cell → nth zs i = nth vs i) ∧ (bb = false → Jx Y) from fun q => by
            rw [Hc1.out]
            refine (ih (cell + 1) (vs ++ [(t : Int)]) (ys.set cell (t : Int)) (pre ++ (bitsTo M u).flatMap fun x => allW ms d (vs ++ [x])) _ (by have := Hd.out; omega) (by rw [List.length_append, Hl.out]; rfl) (hJ _ _ _ hj (grown_tr2 (grown_of_below (below_drewN (Below.refl wr.heap.size wr) q)) (grown_set (i := cell) (v := .int .i64 (t : Int))))) (Ow.put (ho.below (below_drewN (Below.refl _ _) q)) cell (t : Int)) hys2 (Hin _ hmem)).mono ?_
            rintro e Y (⟨rfl, hj', zs, ho', hz⟩ | ⟨rfl, hx⟩)
            · exact ⟨true, rfl, fun _ => ⟨Hj.out _ hj', zs, ho', hback zs hz⟩, fun h => by cases h⟩
            · exact ⟨false, rfl, fun h => (by cases h), fun _ => hx⟩)
          have Ht := Lib.hid ht
          clear hbits hb ht hys2 hback hmem Hj ih hj ho hys hM hJ hcb
          go_wp2
          go_quiet (fail)
          go_wp2_with (go_at_call 135; refine (HI.out _).mono ?_; rintro e Y ⟨bb, rfl, hT, hF⟩)
          · rename_i hbb
            obtain rfl : bb = false := by simpa using hbb
            go_ret
            exact .inr ⟨rfl, hF rfl⟩
          · rename_i hbb
            obtain rfl : bb = true := by simpa using hbb
            obtain ⟨hj3, zs, ho3, hz3⟩ := hT rfl
            exact ⟨⟨u + 1, t + 1, zs, by omega, by have := Ht.out; omega, by go_num, hj3, ho3, hz3⟩, by simp [intOf]; omega⟩
      · obtain rfl : u = 4 := by omega
        subst ht
        go_wp2
        go_ret
        exact .inl ⟨rfl, hj, ys, ho, hys⟩
end Go.Proofs.Ytoejpodchlepiaa
set_option maxRecDepth 8000
namespace Go.Proofs.Ytoejpodchlepiaa
open Go.ChangeShapes Go.WideShapes Go.ChangeAt Go.RowKit Go.Shelf
attribute [local go_sem] Oper.semAt_some
/-- what the callback leaves, k being the rule's kind. -/
def CbPost (k v : Int) (ys : List Int) (X : World) (R : World → Bool → World → Prop) (e : Ending) (Y : World) : Prop :=
  (holdsB k v ys = false ∧ e = .returned (.bool true) ∧ Below X.heap.size X Y) ∨ (holdsB k v ys = true ∧ ∃ X' bb, Below X.heap.size X X' ∧ e = .returned (.bool bb) ∧ R X' bb Y)
set_option maxHeartbeats 1000000 in
theorem wayCb1 (l : Nat) (A : Option Addr) (c n : Nat) (v : Int) (V n2 c2 RB VB YB : Nat) (ys : List Int) (X : World) (R : World → Bool → World → Prop)
    (hr : X.cell? ⟨RB, 0, none⟩ = some (.iface 112 (.agg #[.int .i64 1, .slice A n c, .int .i64 v]))) (hv : X.cell? ⟨VB, 0, none⟩ = some (.slice (some ⟨V, 0, none⟩) n2 c2)) (hy : X.cell? ⟨YB, 0, none⟩ = some (.func (.yield l) #[] #[]))
    (hrd : Rd X X.heap.size (some ⟨V, 0, none⟩) n2 ys) (h4 : n2 ≤ 4) (hcap : n2 ≤ c2) (hsm : Hid (small4 ys n2)) (h2 : 4 ≤ 1 → 2 ≤ n2)
    (hY : holdsB 1 v ys = true → ∀ X', Below X.heap.size X X' → YieldAt Fence.wide 0 Try.prog l #[.slice (some ⟨V, 0, none⟩) n2 c2] X' fun e Y => ∃ bb, e = .returned (.bool bb) ∧ R X' bb Y) :
    Calls Try.prog 136 #[.pointer (some ⟨RB, 0, none⟩), .pointer (some ⟨VB, 0, none⟩), .pointer (some ⟨YB, 0, none⟩)] X (CbPost 1 v ys X R) := by
  have M : ∀ w, (method 265 112 (.agg #[.int .i64 1, .slice A n c, .int .i64 v]) "loop.example/gridpuzzles/impl.holdsWith").run Try.prog w = .ok (169, .agg #[.int .i64 1, .slice A n c, .int .i64 v]) w := fun w => mHolds1 _ _ _ _ _ w
  have HH := Lib.hid (hold1 A c n (some ⟨V, 0, none⟩) c2 n2 X.heap.size ys v X hrd (Nat.le_refl _) h4 hcap hsm h2)
  have hRB := cell_lt hr
  have hVB := cell_lt hv
  have hYB := cell_lt hy
  refine (callsIn_wide (n := 9)).1 ?_
  refine callsIn_of_wp Try.func136 rfl trivial ?_ rfl
  simp only [Try.ntmps136, List.size_toArray, List.length_cons, List.length_nil, Nat.reduceAdd, Nat.reduceSub, Array.replicate_succ, Array.replicate_zero, List.push_toArray, List.append_toArray, List.nil_append, List.cons_append]
  cases hh : holdsB 1 v ys
  · gi_wp2_with (refine ⟨trivial, ?_⟩; gi_at_call 169; refine (callsIn_wide.2 HH.out).mono ?_; rintro e w1 ⟨rfl, hb1⟩; rw [hh]; have hv1 := (hb1.cell (p := ⟨VB, 0, none⟩) hVB).trans hv; have hy1 := (hb1.cell (p := ⟨YB, 0, none⟩) hYB).trans hy)
    refine ⟨fun _ h => (by cases h), ?_⟩
    gi_wp2
    go_ret
    exact .inl ⟨hh, rfl, hb1⟩
  · gi_wp2_with (refine ⟨trivial, ?_⟩; gi_at_call 169; refine (callsIn_wide.2 HH.out).mono ?_; rintro e w1 ⟨rfl, hb1⟩; rw [hh]; have hv1 := (hb1.cell (p := ⟨VB, 0, none⟩) hVB).trans hv; have hy1 := (hb1.cell (p := ⟨YB, 0, none⟩) hYB).trans hy; obtain ⟨fn, tmps, assign, body, hyy, hR⟩ := hY hh w1 hb1)
    refine (roundIn_any hR).mono ?_
    rintro e Y ⟨bb, rfl, hR'⟩
    gi_wp2
    go_ret
    exact .inr ⟨hh, w1, bb, hb1, rfl, hR'⟩

set_option maxHeartbeats 1000000 in
theorem wayCb2 (l : Nat) (A : Option Addr) (c n : Nat) (v : Int) (V n2 c2 RB VB YB : Nat) (ys : List Int) (X : World) (R : World → Bool → World → Prop)
    (hr : X.cell? ⟨RB, 0, none⟩ = some (.iface 113 (.agg #[.int .i64 2, .slice A n c, .int .i64 v]))) (hv : X.cell? ⟨VB, 0, none⟩ = some (.slice (some ⟨V, 0, none⟩) n2 c2)) (hy : X.cell? ⟨YB, 0, none⟩ = some (.func (.yield l) #[] #[]))
    (hrd : Rd X X.heap.size (some ⟨V, 0, none⟩) n2 ys) (h4 : n2 ≤ 4) (hcap : n2 ≤ c2) (hsm : Hid (small4 ys n2)) (h2 : 4 ≤ 2 → 2 ≤ n2)
    (hY : holdsB 2 v ys = true → ∀ X', Below X.heap.size X X' → YieldAt Fence.wide 0 Try.prog l #[.slice (some ⟨V, 0, none⟩) n2 c2] X' fun e Y => ∃ bb, e = .returned (.bool bb) ∧ R X' bb Y) :
    Calls Try.prog 136 #[.pointer (some ⟨RB, 0, none⟩), .pointer (some ⟨VB, 0, none⟩), .pointer (some ⟨YB, 0, none⟩)] X (CbPost 2 v ys X R) := by
  have M : ∀ w, (method 265 113 (.agg #[.int .i64 2, .slice A n c, .int .i64 v]) "loop.example/gridpuzzles/impl.holdsWith").run Try.prog w = .ok (171, .agg #[.int .i64 2, .slice A n c, .int .i64 v]) w := fun w => mHolds2 _ _ _ _ _ w
  have HH := Lib.hid (hold2 A c n (some ⟨V, 0, none⟩) c2 n2 X.heap.size ys v X hrd (Nat.le_refl _) h4 hcap hsm h2)
  have hRB := cell_lt hr
  have hVB := cell_lt hv
  have hYB := cell_lt hy
  refine (callsIn_wide (n := 9)).1 ?_
  refine callsIn_of_wp Try.func136 rfl trivial ?_ rfl
  simp only [Try.ntmps136, List.size_toArray, List.length_cons, List.length_nil, Nat.reduceAdd, Nat.reduceSub, Array.replicate_succ, Array.replicate_zero, List.push_toArray, List.append_toArray, List.nil_append, List.cons_append]
  cases hh : holdsB 2 v ys
  · gi_wp2_with (refine ⟨trivial, ?_⟩; gi_at_call 171; refine (callsIn_wide.2 HH.out).mono ?_; rintro e w1 ⟨rfl, hb1⟩; rw [hh]; have hv1 := (hb1.cell (p := ⟨VB, 0, none⟩) hVB).trans hv; have hy1 := (hb1.cell (p := ⟨YB, 0, none⟩) hYB).trans hy)
    refine ⟨fun _ h => (by cases h), ?_⟩
    gi_wp2
    go_ret
    exact .inl ⟨hh, rfl, hb1⟩
  · gi_wp2_with (refine ⟨trivial, ?_⟩; gi_at_call 171; refine (callsIn_wide.2 HH.out).mono ?_; rintro e w1 ⟨rfl, hb1⟩; rw [hh]; have hv1 := (hb1.cell (p := ⟨VB, 0, none⟩) hVB).trans hv; have hy1 := (hb1.cell (p := ⟨YB, 0, none⟩) hYB).trans hy; obtain ⟨fn, tmps, assign, body, hyy, hR⟩ := hY hh w1 hb1)
    refine (roundIn_any hR).mono ?_
    rintro e Y ⟨bb, rfl, hR'⟩
    gi_wp2
    go_ret
    exact .inr ⟨hh, w1, bb, hb1, rfl, hR'⟩

set_option maxHeartbeats 1000000 in
theorem wayCb3 (l : Nat) (A : Option Addr) (c n : Nat) (v : Int) (V n2 c2 RB VB YB : Nat) (ys : List Int) (X : World) (R : World → Bool → World → Prop)
    (hr : X.cell? ⟨RB, 0, none⟩ = some (.iface 114 (.agg #[.int .i64 3, .slice A n c, .int .i64 v]))) (hv : X.cell? ⟨VB, 0, none⟩ = some (.slice (some ⟨V, 0, none⟩) n2 c2)) (hy : X.cell? ⟨YB, 0, none⟩ = some (.func (.yield l) #[] #[]))
    (hrd : Rd X X.heap.size (some ⟨V, 0, none⟩) n2 ys) (h4 : n2 ≤ 4) (hcap : n2 ≤ c2) (hsm : Hid (small4 ys n2)) (h2 : 4 ≤ 3 → 2 ≤ n2)
    (hY : holdsB 3 v ys = true → ∀ X', Below X.heap.size X X' → YieldAt Fence.wide 0 Try.prog l #[.slice (some ⟨V, 0, none⟩) n2 c2] X' fun e Y => ∃ bb, e = .returned (.bool bb) ∧ R X' bb Y) :
    Calls Try.prog 136 #[.pointer (some ⟨RB, 0, none⟩), .pointer (some ⟨VB, 0, none⟩), .pointer (some ⟨YB, 0, none⟩)] X (CbPost 3 v ys X R) := by
  have M : ∀ w, (method 265 114 (.agg #[.int .i64 3, .slice A n c, .int .i64 v]) "loop.example/gridpuzzles/impl.holdsWith").run Try.prog w = .ok (174, .agg #[.int .i64 3, .slice A n c, .int .i64 v]) w := fun w => mHolds3 _ _ _ _ _ w
  have HH := Lib.hid (hold3 A c n (some ⟨V, 0, none⟩) c2 n2 X.heap.size ys v X hrd (Nat.le_refl _) h4 hcap hsm h2)
  have hRB := cell_lt hr
  have hVB := cell_lt hv
  have hYB := cell_lt hy
  refine (callsIn_wide (n := 9)).1 ?_
  refine callsIn_of_wp Try.func136 rfl trivial ?_ rfl
  simp only [Try.ntmps136, List.size_toArray, List.length_cons, List.length_nil, Nat.reduceAdd, Nat.reduceSub, Array.replicate_succ, Array.replicate_zero, List.push_toArray, List.append_toArray, List.nil_append, List.cons_append]
  cases hh : holdsB 3 v ys
  · gi_wp2_with (refine ⟨trivial, ?_⟩; gi_at_call 174; refine (callsIn_wide.2 HH.out).mono ?_; rintro e w1 ⟨rfl, hb1⟩; rw [hh]; have hv1 := (hb1.cell (p := ⟨VB, 0, none⟩) hVB).trans hv; have hy1 := (hb1.cell (p := ⟨YB, 0, none⟩) hYB).trans hy)
    refine ⟨fun _ h => (by cases h), ?_⟩
    gi_wp2
    go_ret
    exact .inl ⟨hh, rfl, hb1⟩
  · gi_wp2_with (refine ⟨trivial, ?_⟩; gi_at_call 174; refine (callsIn_wide.2 HH.out).mono ?_; rintro e w1 ⟨rfl, hb1⟩; rw [hh]; have hv1 := (hb1.cell (p := ⟨VB, 0, none⟩) hVB).trans hv; have hy1 := (hb1.cell (p := ⟨YB, 0, none⟩) hYB).trans hy; obtain ⟨fn, tmps, assign, body, hyy, hR⟩ := hY hh w1 hb1)
    refine (roundIn_any hR).mono ?_
    rintro e Y ⟨bb, rfl, hR'⟩
    gi_wp2
    go_ret
    exact .inr ⟨hh, w1, bb, hb1, rfl, hR'⟩

set_option maxHeartbeats 1000000 in
theorem wayCb4 (l : Nat) (A : Option Addr) (c n : Nat) (v : Int) (V n2 c2 RB VB YB : Nat) (ys : List Int) (X : World) (R : World → Bool → World → Prop)
    (hr : X.cell? ⟨RB, 0, none⟩ = some (.iface 115 (.agg #[.int .i64 4, .slice A n c, .int .i64 v]))) (hv : X.cell? ⟨VB, 0, none⟩ = some (.slice (some ⟨V, 0, none⟩) n2 c2)) (hy : X.cell? ⟨YB, 0, none⟩ = some (.func (.yield l) #[] #[]))
    (hrd : Rd X X.heap.size (some ⟨V, 0, none⟩) n2 ys) (h4 : n2 ≤ 4) (hcap : n2 ≤ c2) (hsm : Hid (small4 ys n2)) (h2 : 4 ≤ 4 → 2 ≤ n2)
    (hY : holdsB 4 v ys = true → ∀ X', Below X.heap.size X X' → YieldAt Fence.wide 0 Try.prog l #[.slice (some ⟨V, 0, none⟩) n2 c2] X' fun e Y => ∃ bb, e = .returned (.bool bb) ∧ R X' bb Y) :
    Calls Try.prog 136 #[.pointer (some ⟨RB, 0, none⟩), .pointer (some ⟨VB, 0, none⟩), .pointer (some ⟨YB, 0, none⟩)] X (CbPost 4 v ys X R) := by
  have M : ∀ w, (method 265 115 (.agg #[.int .i64 4, .slice A n c, .int .i64 v]) "loop.example/gridpuzzles/impl.holdsWith").run Try.prog w = .ok (176, .agg #[.int .i64 4, .slice A n c, .int .i64 v]) w := fun w => mHolds4 _ _ _ _ _ w
  have HH := Lib.hid (hold4 A c n (some ⟨V, 0, none⟩) c2 n2 X.heap.size ys v X hrd (Nat.le_refl _) h4 hcap hsm h2)
  have hRB := cell_lt hr
  have hVB := cell_lt hv
  have hYB := cell_lt hy
  refine (callsIn_wide (n := 9)).1 ?_
  refine callsIn_of_wp Try.func136 rfl trivial ?_ rfl
  simp only [Try.ntmps136, List.size_toArray, List.length_cons, List.length_nil, Nat.reduceAdd, Nat.reduceSub, Array.replicate_succ, Array.replicate_zero, List.push_toArray, List.append_toArray, List.nil_append, List.cons_append]
  cases hh : holdsB 4 v ys
  · gi_wp2_with (refine ⟨trivial, ?_⟩; gi_at_call 176; refine (callsIn_wide.2 HH.out).mono ?_; rintro e w1 ⟨rfl, hb1⟩; rw [hh]; have hv1 := (hb1.cell (p := ⟨VB, 0, none⟩) hVB).trans hv; have hy1 := (hb1.cell (p := ⟨YB, 0, none⟩) hYB).trans hy)
    refine ⟨fun _ h => (by cases h), ?_⟩
    gi_wp2
    go_ret
    exact .inl ⟨hh, rfl, hb1⟩
  · gi_wp2_with (refine ⟨trivial, ?_⟩; gi_at_call 176; refine (callsIn_wide.2 HH.out).mono ?_; rintro e w1 ⟨rfl, hb1⟩; rw [hh]; have hv1 := (hb1.cell (p := ⟨VB, 0, none⟩) hVB).trans hv; have hy1 := (hb1.cell (p := ⟨YB, 0, none⟩) hYB).trans hy; obtain ⟨fn, tmps, assign, body, hyy, hR⟩ := hY hh w1 hb1)
    refine (roundIn_any hR).mono ?_
    rintro e Y ⟨bb, rfl, hR'⟩
    gi_wp2
    go_ret
    exact .inr ⟨hh, w1, bb, hb1, rfl, hR'⟩

set_option maxHeartbeats 1000000 in
theorem wayCb5 (l : Nat) (A : Option Addr) (c n : Nat) (v : Int) (V n2 c2 RB VB YB : Nat) (ys : List Int) (X : World) (R : World → Bool → World → Prop)
    (hr : X.cell? ⟨RB, 0, none⟩ = some (.iface 116 (.agg #[.int .i64 5, .slice A n c, .int .i64 v]))) (hv : X.cell? ⟨VB, 0, none⟩ = some (.slice (some ⟨V, 0, none⟩) n2 c2)) (hy : X.cell? ⟨YB, 0, none⟩ = some (.func (.yield l) #[] #[]))
    (hrd : Rd X X.heap.size (some ⟨V, 0, none⟩) n2 ys) (h4 : n2 ≤ 4) (hcap : n2 ≤ c2) (hsm : Hid (small4 ys n2)) (h2 : 4 ≤ 5 → 2 ≤ n2)
    (hY : holdsB 5 v ys = true → ∀ X', Below X.heap.size X X' → YieldAt Fence.wide 0 Try.prog l #[.slice (some ⟨V, 0, none⟩) n2 c2] X' fun e Y => ∃ bb, e = .returned (.bool bb) ∧ R X' bb Y) :
    Calls Try.prog 136 #[.pointer (some ⟨RB, 0, none⟩), .pointer (some ⟨VB, 0, none⟩), .pointer (some ⟨YB, 0, none⟩)] X (CbPost 5 v ys X R) := by
  have M : ∀ w, (method 265 116 (.agg #[.int .i64 5, .slice A n c, .int .i64 v]) "loop.example/gridpuzzles/impl.holdsWith").run Try.prog w = .ok (178, .agg #[.int .i64 5, .slice A n c, .int .i64 v]) w := fun w => mHolds5 _ _ _ _ _ w
  have HH := Lib.hid (hold5 A c n (some ⟨V, 0, none⟩) c2 n2 X.heap.size ys v X hrd (Nat.le_refl _) h4 hcap hsm h2)
  have hRB := cell_lt hr
  have hVB := cell_lt hv
  have hYB := cell_lt hy
  refine (callsIn_wide (n := 9)).1 ?_
  refine callsIn_of_wp Try.func136 rfl trivial ?_ rfl
  simp only [Try.ntmps136, List.size_toArray, List.length_cons, List.length_nil, Nat.reduceAdd, Nat.reduceSub, Array.replicate_succ, Array.replicate_zero, List.push_toArray, List.append_toArray, List.nil_append, List.cons_append]
  cases hh : holdsB 5 v ys
  · gi_wp2_with (refine ⟨trivial, ?_⟩; gi_at_call 178; refine (callsIn_wide.2 HH.out).mono ?_; rintro e w1 ⟨rfl, hb1⟩; rw [hh]; have hv1 := (hb1.cell (p := ⟨VB, 0, none⟩) hVB).trans hv; have hy1 := (hb1.cell (p := ⟨YB, 0, none⟩) hYB).trans hy)
    refine ⟨fun _ h => (by cases h), ?_⟩
    gi_wp2
    go_ret
    exact .inl ⟨hh, rfl, hb1⟩
  · gi_wp2_with (refine ⟨trivial, ?_⟩; gi_at_call 178; refine (callsIn_wide.2 HH.out).mono ?_; rintro e w1 ⟨rfl, hb1⟩; rw [hh]; have hv1 := (hb1.cell (p := ⟨VB, 0, none⟩) hVB).trans hv; have hy1 := (hb1.cell (p := ⟨YB, 0, none⟩) hYB).trans hy; obtain ⟨fn, tmps, assign, body, hyy, hR⟩ := hY hh w1 hb1)
    refine (roundIn_any hR).mono ?_
    rintro e Y ⟨bb, rfl, hR'⟩
    gi_wp2
    go_ret
    exact .inr ⟨hh, w1, bb, hb1, rfl, hR'⟩

theorem wayCb (l : Nat) (A : Option Addr) (c n : Nat) (k v : Int) (V n2 c2 RB VB YB : Nat) (ys : List Int) (X : World) (R : World → Bool → World → Prop) (hk : k = 1 ∨ k = 2 ∨ k = 3 ∨ k = 4 ∨ k = 5)
    (hr : X.cell? ⟨RB, 0, none⟩ = some (ofk k (rval k A n c v))) (hv : X.cell? ⟨VB, 0, none⟩ = some (.slice (some ⟨V, 0, none⟩) n2 c2)) (hy : X.cell? ⟨YB, 0, none⟩ = some (.func (.yield l) #[] #[]))
    (hrd : Rd X X.heap.size (some ⟨V, 0, none⟩) n2 ys) (h4 : n2 ≤ 4) (hcap : n2 ≤ c2) (hsm : Hid (small4 ys n2)) (h2 : k = 1 ∨ k = 2 ∨ k = 3 ∨ 2 ≤ n2)
    (hY : holdsB k v ys = true → ∀ X', Below X.heap.size X X' → YieldAt Fence.wide 0 Try.prog l #[.slice (some ⟨V, 0, none⟩) n2 c2] X' fun e Y => ∃ bb, e = .returned (.bool bb) ∧ R X' bb Y) :
    Calls Try.prog 136 #[.pointer (some ⟨RB, 0, none⟩), .pointer (some ⟨VB, 0, none⟩), .pointer (some ⟨YB, 0, none⟩)] X (CbPost k v ys X R) := by
  rcases hk with rfl | rfl | rfl | rfl | rfl
  · exact wayCb1 l A c n v V n2 c2 RB VB YB ys X R hr hv hy hrd h4 hcap hsm (by omega) hY
  · exact wayCb2 l A c n v V n2 c2 RB VB YB ys X R hr hv hy hrd h4 hcap hsm (by omega) hY
  · exact wayCb3 l A c n v V n2 c2 RB VB YB ys X R hr hv hy hrd h4 hcap hsm (by omega) hY
  · exact wayCb4 l A c n v V n2 c2 RB VB YB ys X R hr hv hy hrd h4 hcap hsm (by omega) hY
  · exact wayCb5 l A c n v V n2 c2 RB VB YB ys X R hr hv hy hrd h4 hcap hsm (by omega) hY
end Go.Proofs.Ytoejpodchlepiaa
