import Derived.Test.YtjdhfknoldginaaFPow
import Derived.Test.YtjdhfknoldginaaFNa
import Derived.Test.YtjdhfknoldginaaDrawH
import Derived.Test.YtjdhfknoldginaaQ4S
import Derived.RangeFuncBound
import Derived.RangeFuncLeaves
import Derived.Shelf.Abstract
import Derived.Shelf.RegionOpen
import Derived.WalkKit
import Derived.OwnWalkIn
import Derived.TacticsInMore
import Derived.LoopNIn
import Derived.LoopIn
import Derived.Test.YtjdhfknoldginaaFPerm
import Derived.Test.YtjdhfknoldginaaC3
import Derived.Test.YtjdhfknoldginaaR4P
import Derived.Test.YtjdhfknoldginaaC3C
set_option maxRecDepth 8000
namespace Go.Proofs.Ytjdhfknoldginaa
open Go.ChangeShapes Go.WideShapes Go.ChangeAt Go.RowKit
/-- what tryWays leaves: all ways told and the callback never said no, or it said no. -/
def TryPost (J : List (List Int) → World → Prop) (Jx : World → Prop) (lo V n c cell : Nat) (vs : List Int) (ways : List (List Int)) (e : Ending) (Y : World) : Prop :=
  (e = .returned (.bool true) ∧ J ways Y ∧ ∃ ys, Ow Y lo (some ⟨V, 0, none⟩) n c ys ∧ ∀ i, i < cell → nth ys i = nth vs i) ∨ (e = .returned (.bool false) ∧ Jx Y)
theorem nth_set_ne {xs : List Int} {k i : Nat} {v : Int} (h : k ≠ i) : nth (xs.set k v) i = nth xs i := by simp [nth, List.getD_eq_getElem?_getD, List.getElem?_set_ne h]
theorem nth_set_same {xs : List Int} {k : Nat} {v : Int} (h : k < xs.length) : nth (xs.set k v) k = v := by simp [nth, List.getD_eq_getElem?_getD, List.getElem?_set_self h]
theorem grown_tr2 {a b c : World} {r : Option Nat} (h : a.grownBy b r) (k : b.grownBy c r) : a.grownBy c r := h.trans k
theorem bits_in {M t u : Nat} (h : M.testBit t = true) (h1 : 1 ≤ t) (h2 : t ≤ u) : (t : Int) ∈ bitsTo M u := by
  induction u with
  | zero => omega
  | succ u ih =>
    simp only [bitsTo, List.mem_append]
    by_cases e : t = u + 1
    · subst e; right; rw [if_pos h]; simp
    · left; exact ih (by omega)
set_option maxHeartbeats 1000000 in
theorem tryWays_any {lb : Array Value} {ms : List Int} {n c lo V cm : Nat} {Am : Option Addr} {J : List (List Int) → World → Prop} {Jx : World → Prop}
    (hM : ∀ pre X, J pre X → Rd X V Am n ms) (hm : ∀ i, i < n → 0 ≤ nth ms i ∧ nth ms i < 32) (hn : n ≤ 4)
    (hJ : ∀ pre X Y, J pre X → X.grownBy Y (some V) → J pre Y)
    (hcb : ∀ pre ys X, ys ∈ allW ms n [] → J pre X → Ow X lo (some ⟨V, 0, none⟩) n c ys → Calls Try.prog 78 lb X fun e Y => (e = .returned (.bool true) ∧ J (pre ++ [ys]) Y ∧ Ow Y lo (some ⟨V, 0, none⟩) n c ys) ∨ (e = .returned (.bool false) ∧ Jx Y)) :
    ∀ (d cell : Nat) (vs ys0 : List Int) (pre : List (List Int)) (X : World), cell + d = n → vs.length = cell → J pre X → Ow X lo (some ⟨V, 0, none⟩) n c ys0 → (∀ i, i < cell → nth ys0 i = nth vs i) → (∀ ys ∈ allW ms d vs, ys ∈ allW ms n []) →
      Calls Try.prog 77 #[.slice Am n cm, .slice (some ⟨V, 0, none⟩) n c, .int .i64 cell, .func (.func 78) #[] lb] X (TryPost J Jx lo V n c cell vs (pre ++ allW ms d vs)) := by
  intro d
  induction d with
  | zero =>
    intro cell vs ys0 pre X hd hl hj ho hys hin
    obtain rfl : cell = n := by omega
    obtain rfl : ys0 = vs := ext_nth (by rw [ho.len, hl]) (fun k hk => hys k (by rw [ho.len] at hk; exact hk))
    have HC := Lib.hid (hcb pre ys0 X (hin ys0 (by simp [allW])) hj ho)
    go_enter Try.func77, Try.ntmps77
    go_wp2_with fail
    refine HC.out.mono ?_
    rintro e Y (⟨rfl, hj', ho'⟩ | ⟨rfl, hx⟩)
    · go_wp2
      go_ret
      exact .inl ⟨rfl, hj', ys0, ho', fun _ _ => rfl⟩
    · go_wp2
      go_ret
      exact .inr ⟨rfl, hx⟩
  | succ d ih =>
    intro cell vs ys0 pre X hd hl hj ho hys hin
    have hlt : cell < n := by omega
    have hltI : (cell : Int) < (n : Int) := by omega
    have hneI : ((cell : Int) == (n : Int)) = false := by simp; omega
    obtain ⟨m0, m1⟩ := hm cell hlt
    obtain ⟨M, hMv⟩ := Int.eq_ofNat_of_zero_le m0
    have hM32 : M < 32 := by omega
    have HW := Lib.hid (show allW ms (d + 1) vs = (bitsTo M 4).flatMap fun x => allW ms d (vs ++ [x]) by simp only [allW, hl, hMv, Int.toNat_natCast])
    have Hin : ∀ (x : Int), x ∈ bitsTo M 4 → ∀ ys ∈ allW ms d (vs ++ [x]), ys ∈ allW ms n [] := fun x hx ys hy => hin ys (by rw [HW.out]; exact List.mem_flatMap.2 ⟨x, hx, hy⟩)
    rw [HW.out]
    have Hc1 := Lib.hid (show (cell : Int) + 1 = ((cell + 1 : Nat) : Int) by omega)
    have Hd := Lib.hid hd
    have Hl := Lib.hid hl
    clear hd hl
    go_enter Try.func77, Try.ntmps77
    go_wp2
    go_loopw [9] (fun v wr => ∃ (u t : Nat) (ys : List Int), u ≤ 4 ∧ t = u + 1 ∧ v = .int .i64 t ∧ J (pre ++ (bitsTo M u).flatMap fun x => allW ms d (vs ++ [x])) wr ∧ Ow wr lo (some ⟨V, 0, none⟩) n c ys ∧ ∀ i, i < cell → nth ys i = nth vs i) (fun v _ => 6 - (intOf v).toNat)
    case atStart => exact ⟨0, 1, ys0, by omega, rfl, rfl, by simpa [bitsTo] using hj, ho, hys⟩
    case round =>
      obtain ⟨u, t, ys, hu, ht, rfl, hj, ho, hys⟩ := hrel
      by_cases hu4 : u < 4
      · have ht4 : (t : Int) ≤ 4 := by omega
        have ht64 : (t : Int) < 64 := by omega
        obtain ⟨b, off, rfl, hbV, hck⟩ := (hM _ _ hj).at_ hlt
        rw [hMv] at hck
        have hand := and_pow0 M t hM32 (by omega)
        have hbits : bitsTo M (u + 1) = bitsTo M u ++ (if M.testBit t = true then [(t : Int)] else []) := by rw [bitsTo, ht]; rfl
        cases hb : M.testBit t
        · rw [hb] at hand
          have Hj := Lib.hid (show ∀ Y, wr.grownBy Y (some V) → J (pre ++ (bitsTo M (u + 1)).flatMap fun x => allW ms d (vs ++ [x])) Y from fun Y hg => by
            rw [hbits, hb]; simpa using hJ _ _ _ hj hg)
          have Ht := Lib.hid ht
          clear hbits hb ht
          go_wp2
          go_quiet (fail)
          go_wp2
          go_roundw
          case rel => exact ⟨u + 1, t + 1, ys, by omega, by have := Ht.out; omega, by go_num, Hj.out _ (grown_of_below (below_drewN (Below.refl _ _) _)), ho.below (below_drewN (Below.refl _ _) _), hys⟩
          case measure => simp [intOf]; omega
        · rw [hb] at hand
          obtain ⟨hold, hfr⟩ := ho.cell hlt
          have hmem : (t : Int) ∈ bitsTo M 4 := bits_in hb (by omega) (by omega)
          have Hj := Lib.hid (show ∀ Y, J ((pre ++ (bitsTo M u).flatMap fun x => allW ms d (vs ++ [x])) ++ allW ms d (vs ++ [(t : Int)])) Y → J (pre ++ (bitsTo M (u + 1)).flatMap fun x => allW ms d (vs ++ [x])) Y from fun Y h => by
            rw [hbits, hb]; simpa using h)
          have hys2 : ∀ i, i < cell + 1 → nth (ys.set cell (t : Int)) i = nth (vs ++ [(t : Int)]) i := fun i hi => by
            rw [nth_push Hl.out]
            by_cases e : i = cell
            · subst e; rw [nth_set_same (by rw [ho.len]; exact hlt), if_neg (by omega), if_pos rfl]
            · rw [nth_set_ne (fun e' => e e'.symm), if_pos (by omega)]; exact hys i (by omega)
          have hback : ∀ zs : List Int, (∀ i, i < cell + 1 → nth zs i = nth (vs ++ [(t : Int)]) i) → ∀ i, i < cell → nth zs i = nth vs i := fun zs h i hi => by
            rw [h i (by omega), nth_push Hl.out, if_pos hi]
          have HI := Lib.hid (show ∀ q, Calls Try.prog 77 #[.slice (some ⟨b, off, none⟩) n cm, .slice (some ⟨V, 0, none⟩) n c, .int .i64 ((cell : Int) + 1), .func (.func 78) #[] lb] ((wr.drewN q).setCell ⟨V, cell, none⟩ (.int .i64 (t : Int))) fun e Y =>
              ∃ bb : Bool, e = .returned (.bool bb) ∧ (bb = true → J (pre ++ (bitsTo M (u + 1)).flatMap fun x => allW ms d (vs ++ [x])) Y ∧ ∃ zs, Ow Y lo (some ⟨V, 0, none⟩) n c zs ∧ ∀ i, i < cell → nth zs i = nth vs i) ∧ (bb = false → Jx Y) from fun q => by
            rw [Hc1.out]
            refine (ih (cell + 1) (vs ++ [(t : Int)]) (ys.set cell (t : Int)) (pre ++ (bitsTo M u).flatMap fun x => allW ms d (vs ++ [x])) _ (by have := Hd.out; omega) (by rw [List.length_append, Hl.out]; rfl) (hJ _ _ _ hj (grown_tr2 (grown_of_below (below_drewN (Below.refl wr.heap.size wr) q)) (grown_set (i := cell) (v := .int .i64 (t : Int))))) (Ow.put (ho.below (below_drewN (Below.refl _ _) q)) cell (t : Int)) hys2 (Hin _ hmem)).mono ?_
            rintro e Y (⟨rfl, hj', zs, ho', hz⟩ | ⟨rfl, hx⟩)
            · exact ⟨true, rfl, fun _ => ⟨Hj.out _ hj', zs, ho', hback zs hz⟩, fun h => by cases h⟩
            · exact ⟨false, rfl, fun h => (by cases h), fun _ => hx⟩)
          have Ht := Lib.hid ht
          clear hbits hb ht hys2 hback hmem Hj ih hj ho hys hM hJ hcb
          go_wp2
          go_quiet (fail)
          go_wp2_with (go_at_call 77; refine (HI.out _).mono ?_; rintro e Y ⟨bb, rfl, hT, hF⟩)
          · rename_i hbb
            obtain rfl : bb = false := by simpa using hbb
            go_ret
            exact .inr ⟨rfl, hF rfl⟩
          · rename_i hbb
            obtain rfl : bb = true := by simpa using hbb
            obtain ⟨hj3, zs, ho3, hz3⟩ := hT rfl
            exact ⟨⟨u + 1, t + 1, zs, by omega, by have := Ht.out; omega, by go_num, hj3, ho3, hz3⟩, by simp [intOf]; omega⟩
      · obtain rfl : u = 4 := by omega
        subst ht
        go_wp2
        go_ret
        exact .inl ⟨rfl, hj, ys, ho, hys⟩
end Go.Proofs.Ytjdhfknoldginaa
set_option maxRecDepth 8000
namespace Go.Proofs.Ytjdhfknoldginaa
open Go.ChangeShapes Go.WideShapes Go.ChangeAt Go.RowKit Go.Shelf
attribute [local go_sem] Oper.semAt_some
/-- what the callback leaves, k being the rule's kind. -/
def CbPost (k v : Int) (ys : List Int) (X : World) (R : World → Bool → World → Prop) (e : Ending) (Y : World) : Prop :=
  (holdsB k v ys = false ∧ e = .returned (.bool true) ∧ Below X.heap.size X Y) ∨ (holdsB k v ys = true ∧ ∃ X' bb, Below X.heap.size X X' ∧ e = .returned (.bool bb) ∧ R X' bb Y)
set_option maxHeartbeats 1000000 in
theorem wayCb1 (l : Nat) (A : Option Addr) (c n : Nat) (v : Int) (V n2 c2 RB VB YB : Nat) (ys : List Int) (X : World) (R : World → Bool → World → Prop)
    (hr : X.cell? ⟨RB, 0, none⟩ = some (.iface 67 (.agg #[.int .i64 1, .slice A n c, .int .i64 v]))) (hv : X.cell? ⟨VB, 0, none⟩ = some (.slice (some ⟨V, 0, none⟩) n2 c2)) (hy : X.cell? ⟨YB, 0, none⟩ = some (.func (.yield l) #[] #[]))
    (hrd : Rd X X.heap.size (some ⟨V, 0, none⟩) n2 ys) (h4 : n2 ≤ 4) (hcap : n2 ≤ c2) (hsm : Hid (small4 ys n2)) (h2 : 4 ≤ 1 → 2 ≤ n2)
    (hY : holdsB 1 v ys = true → ∀ X', Below X.heap.size X X' → YieldAt Fence.wide 0 Try.prog l #[.slice (some ⟨V, 0, none⟩) n2 c2] X' fun e Y => ∃ bb, e = .returned (.bool bb) ∧ R X' bb Y) :
    Calls Try.prog 78 #[.pointer (some ⟨RB, 0, none⟩), .pointer (some ⟨VB, 0, none⟩), .pointer (some ⟨YB, 0, none⟩)] X (CbPost 1 v ys X R) := by
  have M : ∀ w, (method 218 67 (.agg #[.int .i64 1, .slice A n c, .int .i64 v]) "loop.example/gridpuzzles/impl.holdsWith").run Try.prog w = .ok (97, .agg #[.int .i64 1, .slice A n c, .int .i64 v]) w := fun w => mHolds1 _ _ _ _ _ w
  have HH := Lib.hid (hold1 A c n (some ⟨V, 0, none⟩) c2 n2 X.heap.size ys v X hrd (Nat.le_refl _) h4 hcap hsm h2)
  have hRB := cell_lt hr
  have hVB := cell_lt hv
  have hYB := cell_lt hy
  refine (callsIn_wide (n := 9)).1 ?_
  refine callsIn_of_wp Try.func78 rfl trivial ?_ rfl
  simp only [Try.ntmps78, List.size_toArray, List.length_cons, List.length_nil, Nat.reduceAdd, Nat.reduceSub, Array.replicate_succ, Array.replicate_zero, List.push_toArray, List.append_toArray, List.nil_append, List.cons_append]
  cases hh : holdsB 1 v ys
  · gi_wp2_with (refine ⟨trivial, ?_⟩; gi_at_call 97; refine (callsIn_wide.2 HH.out).mono ?_; rintro e w1 ⟨rfl, hb1⟩; rw [hh]; have hv1 := (hb1.cell (p := ⟨VB, 0, none⟩) hVB).trans hv; have hy1 := (hb1.cell (p := ⟨YB, 0, none⟩) hYB).trans hy)
    refine ⟨fun _ h => (by cases h), ?_⟩
    gi_wp2
    go_ret
    exact .inl ⟨hh, rfl, hb1⟩
  · gi_wp2_with (refine ⟨trivial, ?_⟩; gi_at_call 97; refine (callsIn_wide.2 HH.out).mono ?_; rintro e w1 ⟨rfl, hb1⟩; rw [hh]; have hv1 := (hb1.cell (p := ⟨VB, 0, none⟩) hVB).trans hv; have hy1 := (hb1.cell (p := ⟨YB, 0, none⟩) hYB).trans hy; obtain ⟨fn, tmps, assign, body, hyy, hR⟩ := hY hh w1 hb1)
    refine (roundIn_any hR).mono ?_
    rintro e Y ⟨bb, rfl, hR'⟩
    gi_wp2
    go_ret
    exact .inr ⟨hh, w1, bb, hb1, rfl, hR'⟩

set_option maxHeartbeats 1000000 in
theorem wayCb2 (l : Nat) (A : Option Addr) (c n : Nat) (v : Int) (V n2 c2 RB VB YB : Nat) (ys : List Int) (X : World) (R : World → Bool → World → Prop)
    (hr : X.cell? ⟨RB, 0, none⟩ = some (.iface 68 (.agg #[.int .i64 2, .slice A n c, .int .i64 v]))) (hv : X.cell? ⟨VB, 0, none⟩ = some (.slice (some ⟨V, 0, none⟩) n2 c2)) (hy : X.cell? ⟨YB, 0, none⟩ = some (.func (.yield l) #[] #[]))
    (hrd : Rd X X.heap.size (some ⟨V, 0, none⟩) n2 ys) (h4 : n2 ≤ 4) (hcap : n2 ≤ c2) (hsm : Hid (small4 ys n2)) (h2 : 4 ≤ 2 → 2 ≤ n2)
    (hY : holdsB 2 v ys = true → ∀ X', Below X.heap.size X X' → YieldAt Fence.wide 0 Try.prog l #[.slice (some ⟨V, 0, none⟩) n2 c2] X' fun e Y => ∃ bb, e = .returned (.bool bb) ∧ R X' bb Y) :
    Calls Try.prog 78 #[.pointer (some ⟨RB, 0, none⟩), .pointer (some ⟨VB, 0, none⟩), .pointer (some ⟨YB, 0, none⟩)] X (CbPost 2 v ys X R) := by
  have M : ∀ w, (method 218 68 (.agg #[.int .i64 2, .slice A n c, .int .i64 v]) "loop.example/gridpuzzles/impl.holdsWith").run Try.prog w = .ok (99, .agg #[.int .i64 2, .slice A n c, .int .i64 v]) w := fun w => mHolds2 _ _ _ _ _ w
  have HH := Lib.hid (hold2 A c n (some ⟨V, 0, none⟩) c2 n2 X.heap.size ys v X hrd (Nat.le_refl _) h4 hcap hsm h2)
  have hRB := cell_lt hr
  have hVB := cell_lt hv
  have hYB := cell_lt hy
  refine (callsIn_wide (n := 9)).1 ?_
  refine callsIn_of_wp Try.func78 rfl trivial ?_ rfl
  simp only [Try.ntmps78, List.size_toArray, List.length_cons, List.length_nil, Nat.reduceAdd, Nat.reduceSub, Array.replicate_succ, Array.replicate_zero, List.push_toArray, List.append_toArray, List.nil_append, List.cons_append]
  cases hh : holdsB 2 v ys
  · gi_wp2_with (refine ⟨trivial, ?_⟩; gi_at_call 99; refine (callsIn_wide.2 HH.out).mono ?_; rintro e w1 ⟨rfl, hb1⟩; rw [hh]; have hv1 := (hb1.cell (p := ⟨VB, 0, none⟩) hVB).trans hv; have hy1 := (hb1.cell (p := ⟨YB, 0, none⟩) hYB).trans hy)
    refine ⟨fun _ h => (by cases h), ?_⟩
    gi_wp2
    go_ret
    exact .inl ⟨hh, rfl, hb1⟩
  · gi_wp2_with (refine ⟨trivial, ?_⟩; gi_at_call 99; refine (callsIn_wide.2 HH.out).mono ?_; rintro e w1 ⟨rfl, hb1⟩; rw [hh]; have hv1 := (hb1.cell (p := ⟨VB, 0, none⟩) hVB).trans hv; have hy1 := (hb1.cell (p := ⟨YB, 0, none⟩) hYB).trans hy; obtain ⟨fn, tmps, assign, body, hyy, hR⟩ := hY hh w1 hb1)
    refine (roundIn_any hR).mono ?_
    rintro e Y ⟨bb, rfl, hR'⟩
    gi_wp2
    go_ret
    exact .inr ⟨hh, w1, bb, hb1, rfl, hR'⟩

set_option maxHeartbeats 1000000 in
theorem wayCb3 (l : Nat) (A : Option Addr) (c n : Nat) (v : Int) (V n2 c2 RB VB YB : Nat) (ys : List Int) (X : World) (R : World → Bool → World → Prop)
    (hr : X.cell? ⟨RB, 0, none⟩ = some (.iface 69 (.agg #[.int .i64 3, .slice A n c, .int .i64 v]))) (hv : X.cell? ⟨VB, 0, none⟩ = some (.slice (some ⟨V, 0, none⟩) n2 c2)) (hy : X.cell? ⟨YB, 0, none⟩ = some (.func (.yield l) #[] #[]))
    (hrd : Rd X X.heap.size (some ⟨V, 0, none⟩) n2 ys) (h4 : n2 ≤ 4) (hcap : n2 ≤ c2) (hsm : Hid (small4 ys n2)) (h2 : 4 ≤ 3 → 2 ≤ n2)
    (hY : holdsB 3 v ys = true → ∀ X', Below X.heap.size X X' → YieldAt Fence.wide 0 Try.prog l #[.slice (some ⟨V, 0, none⟩) n2 c2] X' fun e Y => ∃ bb, e = .returned (.bool bb) ∧ R X' bb Y) :
    Calls Try.prog 78 #[.pointer (some ⟨RB, 0, none⟩), .pointer (some ⟨VB, 0, none⟩), .pointer (some ⟨YB, 0, none⟩)] X (CbPost 3 v ys X R) := by
  have M : ∀ w, (method 218 69 (.agg #[.int .i64 3, .slice A n c, .int .i64 v]) "loop.example/gridpuzzles/impl.holdsWith").run Try.prog w = .ok (102, .agg #[.int .i64 3, .slice A n c, .int .i64 v]) w := fun w => mHolds3 _ _ _ _ _ w
  have HH := Lib.hid (hold3 A c n (some ⟨V, 0, none⟩) c2 n2 X.heap.size ys v X hrd (Nat.le_refl _) h4 hcap hsm h2)
  have hRB := cell_lt hr
  have hVB := cell_lt hv
  have hYB := cell_lt hy
  refine (callsIn_wide (n := 9)).1 ?_
  refine callsIn_of_wp Try.func78 rfl trivial ?_ rfl
  simp only [Try.ntmps78, List.size_toArray, List.length_cons, List.length_nil, Nat.reduceAdd, Nat.reduceSub, Array.replicate_succ, Array.replicate_zero, List.push_toArray, List.append_toArray, List.nil_append, List.cons_append]
  cases hh : holdsB 3 v ys
  · gi_wp2_with (refine ⟨trivial, ?_⟩; gi_at_call 102; refine (callsIn_wide.2 HH.out).mono ?_; rintro e w1 ⟨rfl, hb1⟩; rw [hh]; have hv1 := (hb1.cell (p := ⟨VB, 0, none⟩) hVB).trans hv; have hy1 := (hb1.cell (p := ⟨YB, 0, none⟩) hYB).trans hy)
    refine ⟨fun _ h => (by cases h), ?_⟩
    gi_wp2
    go_ret
    exact .inl ⟨hh, rfl, hb1⟩
  · gi_wp2_with (refine ⟨trivial, ?_⟩; gi_at_call 102; refine (callsIn_wide.2 HH.out).mono ?_; rintro e w1 ⟨rfl, hb1⟩; rw [hh]; have hv1 := (hb1.cell (p := ⟨VB, 0, none⟩) hVB).trans hv; have hy1 := (hb1.cell (p := ⟨YB, 0, none⟩) hYB).trans hy; obtain ⟨fn, tmps, assign, body, hyy, hR⟩ := hY hh w1 hb1)
    refine (roundIn_any hR).mono ?_
    rintro e Y ⟨bb, rfl, hR'⟩
    gi_wp2
    go_ret
    exact .inr ⟨hh, w1, bb, hb1, rfl, hR'⟩

set_option maxHeartbeats 1000000 in
theorem wayCb4 (l : Nat) (A : Option Addr) (c n : Nat) (v : Int) (V n2 c2 RB VB YB : Nat) (ys : List Int) (X : World) (R : World → Bool → World → Prop)
    (hr : X.cell? ⟨RB, 0, none⟩ = some (.iface 70 (.agg #[.int .i64 4, .slice A n c, .int .i64 v]))) (hv : X.cell? ⟨VB, 0, none⟩ = some (.slice (some ⟨V, 0, none⟩) n2 c2)) (hy : X.cell? ⟨YB, 0, none⟩ = some (.func (.yield l) #[] #[]))
    (hrd : Rd X X.heap.size (some ⟨V, 0, none⟩) n2 ys) (h4 : n2 ≤ 4) (hcap : n2 ≤ c2) (hsm : Hid (small4 ys n2)) (h2 : 4 ≤ 4 → 2 ≤ n2)
    (hY : holdsB 4 v ys = true → ∀ X', Below X.heap.size X X' → YieldAt Fence.wide 0 Try.prog l #[.slice (some ⟨V, 0, none⟩) n2 c2] X' fun e Y => ∃ bb, e = .returned (.bool bb) ∧ R X' bb Y) :
    Calls Try.prog 78 #[.pointer (some ⟨RB, 0, none⟩), .pointer (some ⟨VB, 0, none⟩), .pointer (some ⟨YB, 0, none⟩)] X (CbPost 4 v ys X R) := by
  have M : ∀ w, (method 218 70 (.agg #[.int .i64 4, .slice A n c, .int .i64 v]) "loop.example/gridpuzzles/impl.holdsWith").run Try.prog w = .ok (104, .agg #[.int .i64 4, .slice A n c, .int .i64 v]) w := fun w => mHolds4 _ _ _ _ _ w
  have HH := Lib.hid (hold4 A c n (some ⟨V, 0, none⟩) c2 n2 X.heap.size ys v X hrd (Nat.le_refl _) h4 hcap hsm h2)
  have hRB := cell_lt hr
  have hVB := cell_lt hv
  have hYB := cell_lt hy
  refine (callsIn_wide (n := 9)).1 ?_
  refine callsIn_of_wp Try.func78 rfl trivial ?_ rfl
  simp only [Try.ntmps78, List.size_toArray, List.length_cons, List.length_nil, Nat.reduceAdd, Nat.reduceSub, Array.replicate_succ, Array.replicate_zero, List.push_toArray, List.append_toArray, List.nil_append, List.cons_append]
  cases hh : holdsB 4 v ys
  · gi_wp2_with (refine ⟨trivial, ?_⟩; gi_at_call 104; refine (callsIn_wide.2 HH.out).mono ?_; rintro e w1 ⟨rfl, hb1⟩; rw [hh]; have hv1 := (hb1.cell (p := ⟨VB, 0, none⟩) hVB).trans hv; have hy1 := (hb1.cell (p := ⟨YB, 0, none⟩) hYB).trans hy)
    refine ⟨fun _ h => (by cases h), ?_⟩
    gi_wp2
    go_ret
    exact .inl ⟨hh, rfl, hb1⟩
  · gi_wp2_with (refine ⟨trivial, ?_⟩; gi_at_call 104; refine (callsIn_wide.2 HH.out).mono ?_; rintro e w1 ⟨rfl, hb1⟩; rw [hh]; have hv1 := (hb1.cell (p := ⟨VB, 0, none⟩) hVB).trans hv; have hy1 := (hb1.cell (p := ⟨YB, 0, none⟩) hYB).trans hy; obtain ⟨fn, tmps, assign, body, hyy, hR⟩ := hY hh w1 hb1)
    refine (roundIn_any hR).mono ?_
    rintro e Y ⟨bb, rfl, hR'⟩
    gi_wp2
    go_ret
    exact .inr ⟨hh, w1, bb, hb1, rfl, hR'⟩

set_option maxHeartbeats 1000000 in
theorem wayCb5 (l : Nat) (A : Option Addr) (c n : Nat) (v : Int) (V n2 c2 RB VB YB : Nat) (ys : List Int) (X : World) (R : World → Bool → World → Prop)
    (hr : X.cell? ⟨RB, 0, none⟩ = some (.iface 71 (.agg #[.int .i64 5, .slice A n c, .int .i64 v]))) (hv : X.cell? ⟨VB, 0, none⟩ = some (.slice (some ⟨V, 0, none⟩) n2 c2)) (hy : X.cell? ⟨YB, 0, none⟩ = some (.func (.yield l) #[] #[]))
    (hrd : Rd X X.heap.size (some ⟨V, 0, none⟩) n2 ys) (h4 : n2 ≤ 4) (hcap : n2 ≤ c2) (hsm : Hid (small4 ys n2)) (h2 : 4 ≤ 5 → 2 ≤ n2)
    (hY : holdsB 5 v ys = true → ∀ X', Below X.heap.size X X' → YieldAt Fence.wide 0 Try.prog l #[.slice (some ⟨V, 0, none⟩) n2 c2] X' fun e Y => ∃ bb, e = .returned (.bool bb) ∧ R X' bb Y) :
    Calls Try.prog 78 #[.pointer (some ⟨RB, 0, none⟩), .pointer (some ⟨VB, 0, none⟩), .pointer (some ⟨YB, 0, none⟩)] X (CbPost 5 v ys X R) := by
  have M : ∀ w, (method 218 71 (.agg #[.int .i64 5, .slice A n c, .int .i64 v]) "loop.example/gridpuzzles/impl.holdsWith").run Try.prog w = .ok (106, .agg #[.int .i64 5, .slice A n c, .int .i64 v]) w := fun w => mHolds5 _ _ _ _ _ w
  have HH := Lib.hid (hold5 A c n (some ⟨V, 0, none⟩) c2 n2 X.heap.size ys v X hrd (Nat.le_refl _) h4 hcap hsm h2)
  have hRB := cell_lt hr
  have hVB := cell_lt hv
  have hYB := cell_lt hy
  refine (callsIn_wide (n := 9)).1 ?_
  refine callsIn_of_wp Try.func78 rfl trivial ?_ rfl
  simp only [Try.ntmps78, List.size_toArray, List.length_cons, List.length_nil, Nat.reduceAdd, Nat.reduceSub, Array.replicate_succ, Array.replicate_zero, List.push_toArray, List.append_toArray, List.nil_append, List.cons_append]
  cases hh : holdsB 5 v ys
  · gi_wp2_with (refine ⟨trivial, ?_⟩; gi_at_call 106; refine (callsIn_wide.2 HH.out).mono ?_; rintro e w1 ⟨rfl, hb1⟩; rw [hh]; have hv1 := (hb1.cell (p := ⟨VB, 0, none⟩) hVB).trans hv; have hy1 := (hb1.cell (p := ⟨YB, 0, none⟩) hYB).trans hy)
    refine ⟨fun _ h => (by cases h), ?_⟩
    gi_wp2
    go_ret
    exact .inl ⟨hh, rfl, hb1⟩
  · gi_wp2_with (refine ⟨trivial, ?_⟩; gi_at_call 106; refine (callsIn_wide.2 HH.out).mono ?_; rintro e w1 ⟨rfl, hb1⟩; rw [hh]; have hv1 := (hb1.cell (p := ⟨VB, 0, none⟩) hVB).trans hv; have hy1 := (hb1.cell (p := ⟨YB, 0, none⟩) hYB).trans hy; obtain ⟨fn, tmps, assign, body, hyy, hR⟩ := hY hh w1 hb1)
    refine (roundIn_any hR).mono ?_
    rintro e Y ⟨bb, rfl, hR'⟩
    gi_wp2
    go_ret
    exact .inr ⟨hh, w1, bb, hb1, rfl, hR'⟩

theorem wayCb (l : Nat) (A : Option Addr) (c n : Nat) (k v : Int) (V n2 c2 RB VB YB : Nat) (ys : List Int) (X : World) (R : World → Bool → World → Prop) (hk : k = 1 ∨ k = 2 ∨ k = 3 ∨ k = 4 ∨ k = 5)
    (hr : X.cell? ⟨RB, 0, none⟩ = some (ofk k (rval k A n c v))) (hv : X.cell? ⟨VB, 0, none⟩ = some (.slice (some ⟨V, 0, none⟩) n2 c2)) (hy : X.cell? ⟨YB, 0, none⟩ = some (.func (.yield l) #[] #[]))
    (hrd : Rd X X.heap.size (some ⟨V, 0, none⟩) n2 ys) (h4 : n2 ≤ 4) (hcap : n2 ≤ c2) (hsm : Hid (small4 ys n2)) (h2 : k = 1 ∨ k = 2 ∨ k = 3 ∨ 2 ≤ n2)
    (hY : holdsB k v ys = true → ∀ X', Below X.heap.size X X' → YieldAt Fence.wide 0 Try.prog l #[.slice (some ⟨V, 0, none⟩) n2 c2] X' fun e Y => ∃ bb, e = .returned (.bool bb) ∧ R X' bb Y) :
    Calls Try.prog 78 #[.pointer (some ⟨RB, 0, none⟩), .pointer (some ⟨VB, 0, none⟩), .pointer (some ⟨YB, 0, none⟩)] X (CbPost k v ys X R) := by
  rcases hk with rfl | rfl | rfl | rfl | rfl
  · exact wayCb1 l A c n v V n2 c2 RB VB YB ys X R hr hv hy hrd h4 hcap hsm (by omega) hY
  · exact wayCb2 l A c n v V n2 c2 RB VB YB ys X R hr hv hy hrd h4 hcap hsm (by omega) hY
  · exact wayCb3 l A c n v V n2 c2 RB VB YB ys X R hr hv hy hrd h4 hcap hsm (by omega) hY
  · exact wayCb4 l A c n v V n2 c2 RB VB YB ys X R hr hv hy hrd h4 hcap hsm (by omega) hY
  · exact wayCb5 l A c n v V n2 c2 RB VB YB ys X R hr hv hy hrd h4 hcap hsm (by omega) hY
end Go.Proofs.Ytjdhfknoldginaa
set_option maxRecDepth 8000
namespace Go.Proofs.Ytjdhfknoldginaa
open Go.ChangeShapes Go.WideShapes Go.ChangeAt Go.RowKit
theorem Ow.same {w w' : World} {lo g n c : Nat} {xs : List Int} (h : Ow w lo (some ⟨g, 0, none⟩) n c xs) (e : w'.heap[g]? = w.heap[g]?) : Ow w' lo (some ⟨g, 0, none⟩) n c xs := by
  obtain ⟨h0, h1⟩ := h
  refine ⟨h0, ?_⟩
  rcases h1 with ⟨h1, _⟩ | ⟨g', cap, cur, hv, h2, h3, h4⟩
  · cases h1
  · injection hv with e1 _ e2
    injection e1 with e1
    injection e1 with e1 _ _
    subst e1 e2
    exact .inr ⟨g, c, cur, rfl, h2, e.trans h3, h4⟩
theorem Rd.up {w : World} {B B' n : Nat} {A : Option Addr} {xs : List Int} (h : Rd w B A n xs) (hB : B ≤ B') : Rd w B' A n xs :=
  ⟨h.1, fun hn => by
    obtain ⟨b, off, e, hl, hc⟩ := h.2 hn
    exact ⟨b, off, e, by omega, hc⟩⟩
theorem Below.of_grown {N V : Nat} {X Y : World} (h : X.grownBy Y (some V)) (hN : N ≤ X.heap.size) (hV : N ≤ V) : Below N X Y :=
  (Below.refl N X).grown h hN (fun k e => by cases e; exact hV)
theorem yieldAt_mono {F : Fence} {m : Nat} {P : Program} {l : Nat} {args : Array Value} {w : World} {R R' : Ending → World → Prop} (h : YieldAt F m P l args w R) (hr : ∀ e w', R e w' → R' e w') : YieldAt F m P l args w R' := by
  obtain ⟨fn, tmps, assign, body, hy, hR⟩ := h
  exact ⟨fn, tmps, assign, body, hy, hR.mono hr⟩
/-- what the iterator reads: its two captured variables, and the masks. -/
def WBase (MB RB B : Nat) (k : Int) (A : Option Addr) (nc c : Nat) (v : Int) (Am : Option Addr) (n cm : Nat) (ms : List Int) (X : World) : Prop :=
  X.cell? ⟨MB, 0, none⟩ = some (.slice Am n cm) ∧ X.cell? ⟨RB, 0, none⟩ = some (ofk k (rval k A nc c v)) ∧ Rd X B Am n ms ∧ B ≤ X.heap.size
theorem WBase.below {N MB RB B : Nat} {k : Int} {A : Option Addr} {nc c : Nat} {v : Int} {Am : Option Addr} {n cm : Nat} {ms : List Int} {X Y : World} (h : WBase MB RB B k A nc c v Am n cm ms X) (hb : Below N X Y) (h1 : MB < N) (h2 : RB < N) (h3 : B ≤ N) : WBase MB RB B k A nc c v Am n cm ms Y :=
  ⟨(hb.cell (p := ⟨MB, 0, none⟩) h1).trans h.1, (hb.cell (p := ⟨RB, 0, none⟩) h2).trans h.2.1, h.2.2.1.below (hb.mono h3), Nat.le_trans h.2.2.2 hb.size⟩
set_option maxHeartbeats 1000000 in
theorem ways_seq (MB RB B : Nat) (k : Int) (A : Option Addr) (nc c : Nat) (v : Int) (Am : Option Addr) (n cm : Nat) (ms : List Int) (hn1 : 1 ≤ n) (hn4 : n ≤ 4) (hms : ∀ i, i < n → 0 ≤ nth ms i ∧ nth ms i < 32)
    (hk : k = 1 ∨ k = 2 ∨ k = 3 ∨ k = 4 ∨ k = 5) (h2 : k = 1 ∨ k = 2 ∨ k = 3 ∨ 2 ≤ n) :
    SeqC Try.prog 76 #[.pointer (some ⟨MB, 0, none⟩), .pointer (some ⟨RB, 0, none⟩)] (WBase MB RB B k A nc c v Am n cm ms) ((allW ms n []).filter (holdsB k v)) := by
  intro l J Jx W hJb hJs hY h0
  obtain ⟨w0, w1, w2, w3⟩ := hJb _ _ h0
  have hMB : MB < W.heap.size := cell_lt w0
  have hRB : RB < W.heap.size := cell_lt w1
  have hsml : ∀ ys ∈ allW ms n [], ys.length = n ∧ small4 ys n := fun ys hy => by
    have h1 := allW_len hy
    simp at h1
    refine ⟨h1, fun i hi => ?_⟩
    have := allW_small (vs := []) (by intro i hi; simp at hi) hy i (by simpa using hi)
    omega
  -- tryWays, called in a world with the two blocks that the iterator has laid
  have HT : ∀ (V VB cv : Nat) (X : World), W.heap.size < V → V < VB → n ≤ cv → Below W.heap.size W X → X.cell? ⟨W.heap.size, 0, none⟩ = some (.func (.yield l) #[] #[]) → X.cell? ⟨VB, 0, none⟩ = some (.slice (some ⟨V, 0, none⟩) n cv) →
      (∃ ys0, Ow X W.heap.size (some ⟨V, 0, none⟩) n cv ys0) →
      Calls Try.prog 77 #[.slice Am n cm, .slice (some ⟨V, 0, none⟩) n cv, .int .i64 (0 : Nat), .func (.func 78) #[] #[.pointer (some ⟨RB, 0, none⟩), .pointer (some ⟨VB, 0, none⟩), .pointer (some ⟨W.heap.size, 0, none⟩)]] X
        fun e Y => ∃ bb : Bool, e = .returned (.bool bb) ∧ (J ((allW ms n []).filter (holdsB k v)) Y ∨ Jx Y) := by
    intro V VB cv X hV hVB hcv hbX hyb hvb hys0
    obtain ⟨ys0, hys0⟩ := hys0
    let J' : List (List Int) → World → Prop := fun pre X => J (pre.filter (holdsB k v)) X ∧ X.cell? ⟨W.heap.size, 0, none⟩ = some (.func (.yield l) #[] #[]) ∧ X.cell? ⟨VB, 0, none⟩ = some (.slice (some ⟨V, 0, none⟩) n cv)
    have hsz : ∀ pre X, J' pre X → W.heap.size < X.heap.size ∧ VB < X.heap.size := fun pre X h => ⟨cell_lt h.2.1, cell_lt h.2.2⟩
    have stab : ∀ pre X Y, J' pre X → Below X.heap.size X Y → J' pre Y := fun pre X Y h hb => by
      obtain ⟨s1, s2⟩ := hsz pre X h
      exact ⟨hJs _ _ _ h.1 (hb.mono (by omega)), (hb.cell (p := ⟨W.heap.size, 0, none⟩) s1).trans h.2.1, (hb.cell (p := ⟨VB, 0, none⟩) s2).trans h.2.2⟩
    refine (tryWays_any (J := J') (Jx := Jx) (ms := ms) (n := n) (c := cv) (lo := W.heap.size) (V := V) (cm := cm) (Am := Am) ?hM hms hn4 ?hJ ?hcb n 0 [] ys0 [] X (by omega) rfl ⟨hJs _ _ _ h0 hbX, hyb, hvb⟩ hys0 (fun i hi => absurd hi (by omega)) (fun ys h => h)).mono ?_
    case hM =>
      intro pre X h
      obtain ⟨_, _, b2, _⟩ := hJb _ _ h.1
      exact b2.up (by omega)
    case hJ =>
      intro pre X Y h hg
      obtain ⟨s1, s2⟩ := hsz pre X h
      exact ⟨hJs _ _ _ h.1 (Below.of_grown hg (by omega) (by omega)), (hg.cell_far ⟨W.heap.size, 0, none⟩ s1 (fun e => by injection e with e; dsimp only at e; omega)).trans h.2.1, (hg.cell_far ⟨VB, 0, none⟩ s2 (fun e => by injection e with e; dsimp only at e; omega)).trans h.2.2⟩
    case hcb =>
      intro pre ys X hmem h ho
      obtain ⟨s1, s2⟩ := hsz pre X h
      obtain ⟨hyl, hsm⟩ := hsml ys hmem
      obtain ⟨_, b1, _, _⟩ := hJb _ _ h.1
      have hVX : V < X.heap.size := by obtain ⟨g, e, _, hg⟩ := ho.form (by omega); cases e; exact hg
      refine (wayCb l A c nc k v V n cv RB VB W.heap.size ys X (fun X' bb Y => Mid W.heap.size X' Y ∧ ((bb = true ∧ J (pre.filter (holdsB k v) ++ [ys]) Y) ∨ (bb = false ∧ Jx Y))) hk b1 h.2.2 h.2.1 ho.rd hn4 hcv (Lib.hid hsm) h2 ?_).mono ?_
      · intro hh X' hb
        have h' := stab _ _ _ h hb
        refine yieldAt_mono (hY _ ys X' V n cv h'.1 (List.mem_filter.2 ⟨hmem, hh⟩) (by omega) ((ho.below hb).rd)) ?_
        rintro e Y ⟨hm, (⟨rfl, hj⟩ | ⟨rfl, hx⟩)⟩
        · exact ⟨true, rfl, hm, .inl ⟨rfl, hj⟩⟩
        · exact ⟨false, rfl, hm, .inr ⟨rfl, hx⟩⟩
      · rintro e Y (⟨hh, rfl, hb⟩ | ⟨hh, X', bb, hb, rfl, hm, hR⟩)
        · have h' := stab _ _ _ h hb
          refine .inl ⟨rfl, ⟨?_, h'.2⟩, ho.below hb⟩
          rw [List.filter_append, List.filter_cons_of_neg (by rw [hh]; simp), List.filter_nil, List.append_nil]
          exact h'.1
        · have h' := stab _ _ _ h hb
          obtain ⟨t1, t2⟩ := hsz _ _ h'
          rcases hR with ⟨rfl, hj⟩ | ⟨rfl, hx⟩
          · refine .inl ⟨rfl, ⟨?_, ?_, ?_⟩, (ho.below hb).same (hm.same V (by omega) (Nat.lt_of_lt_of_le hVX hb.size))⟩
            · rw [List.filter_append, List.filter_cons_of_pos hh, List.filter_nil]
              exact hj
            · exact (World.cell?_of_block (a := ⟨W.heap.size, 0, none⟩) (hm.same _ (Nat.le_refl _) t1)).trans h'.2.1
            · exact (World.cell?_of_block (a := ⟨VB, 0, none⟩) (hm.same _ (by show W.heap.size ≤ VB; omega) t2)).trans h'.2.2
          · exact .inr ⟨rfl, hx⟩
    · rintro e Y (⟨rfl, hj, _⟩ | ⟨rfl, hx⟩)
      · exact ⟨true, rfl, .inl (by simpa using hj.1)⟩
      · exact ⟨false, rfl, .inr hx⟩
  show Calls Try.prog 76 #[.func (.yield l) #[] #[], .pointer (some ⟨MB, 0, none⟩), .pointer (some ⟨RB, 0, none⟩)] W _
  obtain ⟨W1, hW1⟩ : ∃ W1, W.alloc (.cells #[.func (.yield l) #[] #[]] 40) = W1 := ⟨_, rfl⟩
  have hbW : Below W.heap.size W W1 := by rw [← hW1]; exact (Below.refl _ _).alloc (Nat.le_refl _) _
  have hs1 : W1.heap.size = W.heap.size + 1 := by rw [← hW1]; simp
  have hy1 : W1.cell? ⟨W.heap.size, 0, none⟩ = some (.func (.yield l) #[] #[]) := by rw [← hW1]; exact cell_of_row _ _ 0 _ _ (0, 0) (heap_alloc_new W _)
  obtain ⟨W2, hW2⟩ : ∃ W2, W1.alloc (.cells (zeroArr n) 3) = W2 := ⟨_, rfl⟩
  have hb2 : Below W1.heap.size W1 W2 := by rw [← hW2]; exact (Below.refl _ _).alloc (Nat.le_refl _) _
  have hs2 : W2.heap.size = W.heap.size + 1 + 1 := by rw [← hW2]; simp [hs1]
  have ho2 : Ow W2 W.heap.size (some ⟨W.heap.size + 1, 0, none⟩) n n (zeros n) := by
    have := zeroArr_ow (n := n) (lo := W.heap.size) (by omega) W1 (by omega)
    rw [hW2, hs1] at this
    exact this
  have m1 := (hbW.cell (p := ⟨MB, 0, none⟩) hMB).trans w0
  have m2 := (hb2.cell (p := ⟨MB, 0, none⟩) (show MB < W1.heap.size by omega)).trans m1
  obtain ⟨W3, hW3⟩ : ∃ W3, W2.alloc (.cells #[.slice (some ⟨W.heap.size + 1, 0, none⟩) n n] 23) = W3 := ⟨_, rfl⟩
  have hb3 : Below W2.heap.size W2 W3 := by rw [← hW3]; exact (Below.refl _ _).alloc (Nat.le_refl _) _
  have m3 := (hb3.cell (p := ⟨MB, 0, none⟩) (show MB < W2.heap.size by omega)).trans m2
  have hv3 : W3.cell? ⟨W.heap.size + 1 + 1, 0, none⟩ = some (.slice (some ⟨W.heap.size + 1, 0, none⟩) n n) := by
    rw [← hW3, ← hs2]; exact cell_of_row _ _ 0 _ _ (0, 0) (heap_alloc_new W2 _)
  have hbW3 : Below W.heap.size W W3 := (hbW.trans (hb2.mono (by omega))).trans (hb3.mono (by omega))
  have hy3 := (hb3.cell (p := ⟨W.heap.size, 0, none⟩) (show W.heap.size < W2.heap.size by omega)).trans ((hb2.cell (p := ⟨W.heap.size, 0, none⟩) (show W.heap.size < W1.heap.size by omega)).trans hy1)
  have HC := Lib.hid (HT (W.heap.size + 1) (W.heap.size + 1 + 1) n W3 (by omega) (by omega) (Nat.le_refl _) hbW3 hy3 hv3 ⟨_, ho2.below hb3⟩)
  have hmk : (Instr.makeSlice 23 (.int .i64 (n : Int)) (.int .i64 (n : Int))).run Try.prog W1 = .ok (.slice (some ⟨W.heap.size + 1, 0, none⟩) n n) W2 := by rw [make_ints (by omega), hW2, hs1]
  clear HT hJb hJs hY hb2 hb3 hbW hbW3 hy3 ho2 hsml m2 w0 w1 w2 w3 hy1
  go_enter Try.func76, Try.ntmps76
  go_wp2_with (go_at_call 77; refine HC.out.mono ?_; rintro e Y ⟨bb, rfl, hYY⟩)

  go_end0
  exact ⟨⟨_, rfl⟩, hYY⟩
end Go.Proofs.Ytjdhfknoldginaa
set_option maxRecDepth 8000
namespace Go.Proofs.Ytjdhfknoldginaa
open Go.ChangeShapes Go.WideShapes Go.ChangeAt Go.RowKit
theorem waysToHold_any (A : Option Addr) (c n : Nat) (k v : Int) (Am : Option Addr) (n2 cm : Nat) (w : World) (hk : k = 1 ∨ k = 2 ∨ k = 3 ∨ k = 4 ∨ k = 5) :
    Calls Try.prog 70 #[.agg #[.int .i64 k, .slice A n c, .int .i64 v], .slice Am n2 cm] w fun e w' =>
      ∃ MB RB, e = .returned (.func (.func 76) #[] #[.pointer (some ⟨MB, 0, none⟩), .pointer (some ⟨RB, 0, none⟩)]) ∧ w'.cell? ⟨MB, 0, none⟩ = some (.slice Am n2 cm) ∧ w'.cell? ⟨RB, 0, none⟩ = some (ofk k (rval k A n c v)) ∧ Below w.heap.size w w' := by
  have hx0 := rbox_new w k A n c v 36
  have hb0 : Below w.heap.size w (w.alloc (.cells #[.int .i64 k, .slice A n c, .int .i64 v] 36)) := (Below.refl _ _).alloc (Nat.le_refl _) _
  have hs0 : (w.alloc (.cells #[.int .i64 k, .slice A n c, .int .i64 v] 36)).heap.size = w.heap.size + 1 := by simp
  obtain ⟨W1, hW1⟩ : ∃ W1, (w.alloc (.cells #[.int .i64 k, .slice A n c, .int .i64 v] 36)).alloc (.cells #[.slice Am n2 cm] 23) = W1 := ⟨_, rfl⟩
  have hb1 : Below w.heap.size w W1 := by rw [← hW1]; exact hb0.alloc hb0.size _
  have hs1 : W1.heap.size = w.heap.size + 1 + 1 := by rw [← hW1]; simp
  have hx1 : RBox W1 w.heap.size k A n c v := by
    rw [← hW1]
    exact hx0.below (by simp) ((Below.refl _ _).alloc (Nat.le_refl _) _)
  have hm1 : W1.cell? ⟨w.heap.size + 1, 0, none⟩ = some (.slice Am n2 cm) := by
    rw [← hW1, ← hs0]; exact cell_of_row _ _ 0 _ _ (0, 0) (heap_alloc_new _ _)
  obtain ⟨a0, a1, a2⟩ := id hx1
  obtain ⟨x, hx⟩ : ∃ x, rval k A n c v = x := ⟨_, rfl⟩
  obtain ⟨T, hT⟩ : ∃ T, ofk k (rval k A n c v) = .iface T x := by
    rw [hx]
    rcases hk with rfl | rfl | rfl | rfl | rfl <;> exact ⟨_, rfl⟩
  have HK := ofKind_any A c n k v W1
  rw [hT] at HK ⊢
  have HK := Lib.hid HK
  clear hx hT
  have Hs := Lib.hid hs1
  clear hs1 hs0 hb0
  go_enter Try.func70, Try.ntmps70
  go_wp2_with (go_at_call 35; refine HK.out.mono ?_; rintro e w3 ⟨rfl, hb3⟩; have hm3 := (hb3.cell (p := ⟨w.heap.size + 1, 0, none⟩) (show w.heap.size + 1 < _ by rw [Hs.out]; omega)).trans hm1)
  go_ret
  have hb4 : Below w3.heap.size w3 (w3.alloc (.cells #[.iface T x] 56)) := (Below.refl _ _).alloc (Nat.le_refl _) _
  exact ⟨w.heap.size + 1, w3.heap.size, rfl, (hb4.cell (p := ⟨w.heap.size + 1, 0, none⟩) (cell_lt hm3)).trans hm3, cell_of_row _ _ 0 _ _ (0, 0) (heap_alloc_new _ _), step (step hb1 hb3) hb4⟩
end Go.Proofs.Ytjdhfknoldginaa
namespace Go.Proofs.Ytjdhfknoldginaa
open Go.ChangeShapes Go.WideShapes Go.ChangeAt Go.RowKit

theorem subset_and (a m : Nat) (ha : a < 2 ^ 64) (hm : m < 2 ^ 64) (h : a &&& (2 ^ 64 - (m + 1)) = 0) : a = a &&& m := by
  apply Nat.eq_of_testBit_eq
  intro i
  rw [Nat.testBit_and]
  cases hai : a.testBit i
  · rfl
  · have hi : i < 64 := by
      rcases Nat.lt_or_ge i 64 with h | h
      · exact h
      · have := Nat.testBit_lt_two_pow (Nat.lt_of_lt_of_le ha (Nat.pow_le_pow_right (by decide) h))
        rw [hai] at this; cases this
    have h2 := congrArg (fun z => z.testBit i) h
    simp only [Nat.testBit_and, hai, Nat.testBit_two_pow_sub_succ hm, hi, Nat.zero_testBit, decide_true, Bool.true_and, Bool.not_eq_false'] at h2
    rw [h2]; rfl
theorem small_and : ∀ s, s < 5 → ∀ a, a < 32 → a ≤ 2 ^ (s + 1) - 2 → a % 2 = 0 → a &&& (18446744073709551616 - (2 ^ (s + 1) - 2 + 1)) = 0 := by decide +kernel
theorem even_and : ∀ s, s < 5 → ∀ a, a % 2 = 1 → a &&& (2 ^ (s + 1) - 2) ≠ a := by
  intro s hs a ha h
  have h0 := congrArg (fun z => z.testBit 0) h
  have e : (2 ^ (s + 1) - 2).testBit 0 = false := by
    have : s = 0 ∨ s = 1 ∨ s = 2 ∨ s = 3 ∨ s = 4 := by omega
    rcases this with rfl | rfl | rfl | rfl | rfl <;> rfl
  simp only [Nat.testBit_and, e, Bool.and_false] at h0
  rw [Nat.testBit_zero] at h0
  simp [ha] at h0
theorem andNot_ok (x : Int) (s : Nat) (hs : s ≤ 4) (hx : -9223372036854775808 ≤ x ∧ x ≤ 9223372036854775807) :
    (bits .andNot .i64 x ((2 ^ (s + 1) - 2 : Nat) : Int) == 0) = mkOk ((2 : Int) ^ (s + 1) - 2) x := by
  have hp : (2 : Int) ^ (s + 1) - 2 = ((2 ^ (s + 1) - 2 : Nat) : Int) := by
    have : s = 0 ∨ s = 1 ∨ s = 2 ∨ s = 3 ∨ s = 4 := by omega
    rcases this with rfl | rfl | rfl | rfl | rfl <;> rfl
  have hm30 : 2 ^ (s + 1) - 2 ≤ 30 := by
    have : s = 0 ∨ s = 1 ∨ s = 2 ∨ s = 3 ∨ s = 4 := by omega
    rcases this with rfl | rfl | rfl | rfl | rfl <;> decide
  rw [hp]
  have hsa := small_and s (by omega)
  have hev := even_and s (by omega)
  generalize 2 ^ (s + 1) - 2 = m at *
  have hmm : (BitVec.ofInt 64 (m : Int)).toNat = m := ofInt_i64 m (by omega)
  have hb : bits .andNot .i64 x (m : Int) = IntKind.i64.wrap (((BitVec.ofInt 64 x).toNat &&& (2 ^ 64 - (m + 1)) : Nat) : Int) := by
    show IntKind.i64.wrap ((BitVec.ofInt 64 x &&& ~~~BitVec.ofInt 64 (m : Int)).toNat : Int) = _
    rw [BitVec.toNat_and, BitVec.toNat_not, hmm]
    congr 3
    omega
  have hA : (BitVec.ofInt 64 x).toNat < 2 ^ 64 := (BitVec.ofInt 64 x).isLt
  have hAx : ((BitVec.ofInt 64 x).toNat : Int) = x % 2 ^ 64 := by
    rw [BitVec.toNat_ofInt]; exact Int.toNat_of_nonneg (Int.emod_nonneg _ (by decide))
  rw [hb]
  generalize (BitVec.ofInt 64 x).toNat = a at *
  have hlt : a &&& (2 ^ 64 - (m + 1)) < 2 ^ 64 := Nat.and_lt_two_pow _ (by omega)
  have hw : (IntKind.i64.wrap ((a &&& (2 ^ 64 - (m + 1)) : Nat) : Int) == 0) = (a &&& (2 ^ 64 - (m + 1)) == 0) := by
    rw [IntKind.wrap_i64]
    rw [Bool.eq_iff_iff, beq_iff_eq, beq_iff_eq]
    generalize a &&& (2 ^ 64 - (m + 1)) = y at *
    omega
  rw [hw, Bool.eq_iff_iff, beq_iff_eq]
  simp only [mkOk, inr, Bool.and_eq_true, decide_eq_true_eq, beq_iff_eq]
  constructor
  · intro h
    have e := subset_and a m hA (by omega) h
    have hle : a ≤ m := by rw [e]; exact Nat.and_le_right
    have h2 : a % 2 = 0 := by
      rcases Nat.mod_two_eq_zero_or_one a with h' | h'
      · exact h'
      · exact absurd e.symm (hev a h')
    have hxa : x = a := by omega
    refine ⟨⟨by omega, by omega⟩, ?_⟩
    rw [Int.tmod_eq_emod_of_nonneg (by omega)]; omega
  · rintro ⟨⟨h1, h2⟩, h3⟩
    rw [Int.tmod_eq_emod_of_nonneg h1] at h3
    exact hsa a (by omega) (by omega) (by omega)
theorem allValues_any (s : Nat) (hs : s ∈ [2, 3, 4]) (w : World) :
    Calls Try.prog 49 #[.int .i64 s] w fun e w' => e = .returned (.int .i64 ((2 ^ (s + 1) - 2 : Nat) : Int)) ∧ w = w' := by
  simp only [List.mem_cons, List.not_mem_nil, or_false] at hs
  rcases hs with rfl | rfl | rfl
  all_goals
    go_enter Try.func49, Try.ntmps49
    go_wp2
    go_ret
    exact ⟨rfl, rfl⟩
end Go.Proofs.Ytjdhfknoldginaa
set_option maxRecDepth 8000
namespace Go.Proofs.Ytjdhfknoldginaa
open Go.ChangeShapes Go.WideShapes Go.ChangeAt Go.RowKit
theorem emN_lt {vs : List Int} {s j : Nat} (hs : s ∈ [2, 3, 4]) (h0 : 0 ≤ nth vs j) (h4 : nth vs j ≤ 4) : emN vs s j < 32 := by
  unfold emN
  split
  · have := (all_even s hs).2; omega
  · have : (nth vs j).toNat < 5 := by omega
    exact Nat.pow_lt_pow_right (n := 5) (by omega) this
theorem emL_len_ {vs : List Int} {s n : Nat} (h : vs.length = n) : (emL vs s).length = n := by unfold emL; rw [mapTo_length, h]
theorem emL_at {vs : List Int} {s n k : Nat} (hl : vs.length = n) (hk : k < n) : nth (emL vs s) k = ((emN vs s k : Nat) : Int) := by
  unfold emL
  rw [mapTo_nth (by omega)]
  simp [emG]
theorem openMasks_any (A : Option Addr) (c n B : Nat) (vs : List Int) (s : Nat) (w : World) (h : Rd w B A n vs) (hB : B ≤ w.heap.size) (n16 : n ≤ 16) (hs : s ∈ [2, 3, 4]) (hsm : ∀ i, i < n → 0 ≤ nth vs i ∧ nth vs i ≤ 4) :
    Calls Try.prog 71 #[.slice A n c, .int .i64 s] w (RetSl w (emL vs s)) := by
  obtain ⟨i0, hi, hz0, hz1, hz2⟩ := info_parts int_info
  have hlen := h.1
  have Hpm := Lib.hid (fun k (hk : k < n) => emL_at (s := s) hlen hk)
  have Hsm := Lib.hid hsm
  have HAV := Lib.hid (fun w' => allValues_any s hs w')
  have Hall : Hid (∀ k, k < n → nth vs k = 0 → ((2 ^ (s + 1) - 2 : Nat) : Int) = nth (emL vs s) k) := Lib.hid (fun k hk hz => by rw [Hpm.out k hk]; unfold emN; rw [if_pos hz])
  have Hl := Lib.hid (emL_len_ (s := s) hlen)
  clear hlen hsm
  obtain ⟨av, hav⟩ : ∃ av, av = 2 ^ (s + 1) - 2 := ⟨_, rfl⟩
  rw [← hav] at HAV Hall
  clear hav
  go_enter Try.func71, Try.ntmps71
  go_wp2_with (refine wpList_make_full _ rfl (.tmp 9) (.tmp 9) 23 rfl w.heap.size 3 i0 (.int .i64 0) 1 Try.underlying23 hi hz0 hz1 .i64 .i64 n n n rfl rfl rfl rfl (by rw [hz2]; omega) (by simp only [maxLen]; omega) (Nat.le_refl _) ?_; intro w1 hown hgr)
  have ho1 := made_part (emL vs s) hown
  have hb1 := made_below hgr (Nat.le_refl w.heap.size)
  clear hown hgr hz0 hz1 hz2 hi
  go_loopw [13] (fun i wr => ∃ k : Nat, k ≤ n ∧ i = .int .i64 k ∧ Ow wr w.heap.size (some ⟨w.heap.size, 0, none⟩) n n (part (emL vs s) k n) ∧ Below w.heap.size w wr) (fun i _ => n - (intOf i).toNat)
  case atStart => exact ⟨0, Nat.zero_le _, rfl, ho1, hb1⟩
  case round =>
    obtain ⟨k, hk, rfl, ho, hb⟩ := hrel
    by_cases hlt : k < n
    · obtain ⟨b, off, rfl, hbB, hck⟩ := (h.below (hb.mono hB)).at_ hlt
      obtain ⟨x0, x4⟩ := Hsm.out k hlt
      obtain ⟨v, hv⟩ := Int.eq_ofNat_of_zero_le x0
      rw [hv] at hck x4
      have hst := (World.ownsRow.stored ho k (.int .i64 (nth (emL vs s) k))).1
      rw [part_set] at hst
      have Hst := Lib.hid hst; clear hst
      obtain ⟨hold, hfr⟩ := ho.cell hlt
      by_cases hz : v = 0
      · subst hz
        have Hg := Lib.hid (Hall.out k hlt (by rw [hv]; rfl))
        clear hv x0 x4
        go_wp2_with (go_at_call 49; refine (HAV.out _).mono ?_; rintro e w' ⟨rfl, rfl⟩; rw [Hg.out])
        go_roundw
        case rel => exact ⟨k + 1, by omega, by go_num, Hst.out, hb.setCell (p := (⟨w.heap.size, k, none⟩ : Addr)) (Nat.le_refl _) _⟩
        case measure => simp [intOf]; omega
      · have Hg := Lib.hid (show ((2 ^ v : Nat) : Int) = nth (emL vs s) k by
          rw [Hpm.out k hlt]; unfold emN; rw [hv, if_neg (by omega), Int.toNat_natCast])
        have hz1 : ((v : Int) == 0) = false := by simp; omega
        have Hpw := Lib.hid (two_pow_nat v (by omega))
        clear hz hv
        go_wp2
        go_roundw
        case rel => exact ⟨k + 1, by omega, by go_num, by rw [show (wrap64 (2 ^ v)) = nth (emL vs s) k from Hpw.out.trans Hg.out]; exact Hst.out, hb.setCell (p := (⟨w.heap.size, k, none⟩ : Addr)) (Nat.le_refl _) _⟩
        case measure => simp [intOf]; omega
    · obtain rfl : k = n := by omega
      have hp : part (emL vs s) k k = emL vs s := part_all' Hl.out
      rw [hp] at ho
      go_wp2
      go_ret
      exact retSl_mk ho hb
end Go.Proofs.Ytjdhfknoldginaa
set_option maxRecDepth 8000
namespace Go.Proofs.Ytjdhfknoldginaa
open Go.ChangeShapes Go.WideShapes Go.ChangeAt Go.RowKit
/-- range_own where the statement's assignment is empty: the slot of what came has it. -/
theorem range_skip {P : Program} (m : Nat) {g : Operand} {p : Nat} {body : Code} {Q : Exit → Act → World → Prop} {a : Act} {w : World}
    {gf : Nat} {lb : Array Value} (hg : a.eval g = .func (.func gf) #[] lb) (eg : ∀ args w, (callFunc gf args).run P w = .ok (.enter gf args) w)
    {Base : World → Prop} {ways : List (List Int)} (hseq : SeqC P gf lb Base ways)
    (I : List (List Int) → World → Prop) (Ix : Code → World → Prop) (hIb : ∀ pre X, I pre X → Base X)
    (hI : ∀ pre X Y, I pre X → Below w.heap.size X Y → I pre Y) (hIx : ∀ c X Y, Ix c X → Below w.heap.size X Y → Ix c Y) (h0 : I [] w)
    (hbody : ∀ (l : Nat) (pre : List (List Int)) (x : List Int) (X : World) (b n c : Nat), I pre X → x ∈ ways → w.heap.size ≤ b → Rd X X.heap.size (some ⟨b, 0, none⟩) n x →
      body.wpIn (Fence.wide.inRound l) m P (midPost w.heap.size I Ix (pre ++ [x]) X) { tmps := a.tmps.setIfInBounds p (.slice (some ⟨b, 0, none⟩) n c), defers := [] } X)
    (hdone : ∀ (D : Nat) (W : World), w.heap.size ≤ D → I ways W → W.heap[D]? = some (.deferred (some [])) → Q .normal { a with defers := { target := .collected D, args := #[] } :: a.defers } W)
    (hstop : ∀ (D : Nat) (c : Code) (W : World), w.heap.size ≤ D → Ix c W → W.heap[D]? = some (.deferred (some [])) → c.wpIn Fence.wide m P Q { a with defers := { target := .collected D, args := #[] } :: a.defers } W) :
    (Code.rangeFunc g #[p] .skip body).wpIn Fence.wide m P Q a w :=
  range_own m hg eg rfl hseq I Ix hIb hI hIx h0 (fun v => { tmps := a.tmps.setIfInBounds p v, defers := [] }) (fun l v W K hK => by
    refine wpIn_skip ?_
    simpa [Exit.then] using hK) hbody hdone hstop
/-- range_own where the statement's assignment copies what came from slot p into slot q. -/
theorem range_two {P : Program} (m : Nat) {g : Operand} {p q : Nat} {assign body : Code} {Q : Exit → Act → World → Prop} {a : Act} {w : World}
    {gf : Nat} {lb : Array Value} (hg : a.eval g = .func (.func gf) #[] lb) (eg : ∀ args w, (callFunc gf args).run P w = .ok (.enter gf args) w)
    {Base : World → Prop} {ways : List (List Int)} (hseq : SeqC P gf lb Base ways)
    (I : List (List Int) → World → Prop) (Ix : Code → World → Prop) (hIb : ∀ pre X, I pre X → Base X)
    (hI : ∀ pre X Y, I pre X → Below w.heap.size X Y → I pre Y) (hIx : ∀ c X Y, Ix c X → Below w.heap.size X Y → Ix c Y) (h0 : I [] w)
    (hassign : ∀ (l : Nat) (v : Value) (W : World) (K : Act → World → Prop), K { tmps := (a.tmps.setIfInBounds p v).setIfInBounds q v, defers := [] } W →
      assign.wpIn (Fence.wide.inRound l) m P (Exit.then K (fun _ _ _ => False)) { tmps := a.tmps.setIfInBounds p v, defers := [] } W)
    (hbody : ∀ (l : Nat) (pre : List (List Int)) (x : List Int) (X : World) (b n c : Nat), I pre X → x ∈ ways → w.heap.size ≤ b → Rd X X.heap.size (some ⟨b, 0, none⟩) n x →
      body.wpIn (Fence.wide.inRound l) m P (midPost w.heap.size I Ix (pre ++ [x]) X) { tmps := (a.tmps.setIfInBounds p (.slice (some ⟨b, 0, none⟩) n c)).setIfInBounds q (.slice (some ⟨b, 0, none⟩) n c), defers := [] } X)
    (hdone : ∀ (D : Nat) (W : World), w.heap.size ≤ D → I ways W → W.heap[D]? = some (.deferred (some [])) → Q .normal { a with defers := { target := .collected D, args := #[] } :: a.defers } W)
    (hstop : ∀ (D : Nat) (c : Code) (W : World), w.heap.size ≤ D → Ix c W → W.heap[D]? = some (.deferred (some [])) → c.wpIn Fence.wide m P Q { a with defers := { target := .collected D, args := #[] } :: a.defers } W) :
    (Code.rangeFunc g #[p] assign body).wpIn Fence.wide m P Q a w :=
  range_own m hg eg rfl hseq I Ix hIb hI hIx h0 (fun v => { tmps := (a.tmps.setIfInBounds p v).setIfInBounds q v, defers := [] }) (fun l v W K hK => by
    simpa using hassign l v W K hK) hbody hdone hstop
end Go.Proofs.Ytjdhfknoldginaa
