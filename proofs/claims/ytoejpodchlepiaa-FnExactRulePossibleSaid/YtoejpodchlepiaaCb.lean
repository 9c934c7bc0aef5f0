import Derived.Test.YtoejpodchlepiaaTW
import Derived.Test.YtoejpodchlepiaaQ4S
import Derived.RangeFuncBound
import Derived.RangeFuncLeaves
import Derived.Shelf.Abstract
import Derived.Shelf.RegionOpen
import Derived.WalkKit
import Derived.OwnWalkIn
import Derived.TacticsInMore
import Derived.LoopNIn
import Derived.LoopIn
set_option maxRecDepth 8000
namespace Go.Proofs.Ytoejpodchlepiaa
open Go.ChangeShapes Go.WideShapes Go.ChangeAt Go.RowKit Go.Shelf
attribute [local go_sem] Oper.semAt_some
/-- what the callback leaves, k being the rule's kind. -/
def CbPost (k v : Int) (ys : List Int) (X : World) (R : World → Bool → World → Prop) (e : Ending) (Y : World) : Prop :=
  (holdsB k v ys = false ∧ e = .returned (.bool true) ∧ Below X.heap.size X Y) ∨ (holdsB k v ys = true ∧ ∃ X' bb, Below X.heap.size X X' ∧ e = .returned (.bool bb) ∧ R X' bb Y)
set_option maxHeartbeats 1000000 in
theorem wayCb1 (l : Nat) (A : Option Addr) (c n : Nat) (v : Int) (V n2 c2 RB VB YB : Nat) (ys : List Int) (X : World) (R : World → Bool → World → Prop)
    (hr : X.cell? ⟨RB, 0, none⟩ = some (.iface 112 (.agg #[.int .i64 1, .slice A n c, .int .i64 v]))) (hv : X.cell? ⟨VB, 0, none⟩ = some (.slice (some ⟨V, 0, none⟩) n2 c2)) (hy : X.cell? ⟨YB, 0, none⟩ = some (.func (.yield l) #[] #[]))
    (hrd : Rd X X.heap.size (some ⟨V, 0, none⟩) n2 ys) (h4 : n2 ≤ 4) (hcap : n2 ≤ c2) (hsm : Hid (small4 ys n2)) (h2 : 4 ≤ 1 → 2 ≤ n2)
    (hY : holdsB 1 v ys = true → ∀ X', Below X.heap.size X X' → YieldAt Fence.wide 0 Try.prog l #[.slice (some ⟨V, 0, none⟩) n2 c2] X' fun e Y => ∃ bb, e = .returned (.bool bb) ∧ R X' bb Y) :
    Calls Try.prog 136 #[.pointer (some ⟨RB, 0, none⟩), .pointer (some ⟨VB, 0, none⟩), .pointer (some ⟨YB, 0, none⟩)] X (CbPost 1 v ys X R) := by
  have M : ∀ w, (method 265 112 (.agg #[.int .i64 1, .slice A n c, .int .i64 v]) "loop.example/gridpuzzles/impl.holdsWith").run Try.prog w = .ok (169, .agg #[.int .i64 1, .slice A n c, .int .i64 v]) w := fun w => mHolds1 _ _ _ _ _ w
  have HH := Lib.hid (hold1 A c n (some ⟨V, 0, none⟩) c2 n2 X.heap.size ys v X hrd (Nat.le_refl _) h4 hcap hsm h2)
  have hRB := cell_lt hr
  have hVB := cell_lt hv
  have hYB := cell_lt hy
  refine (callsIn_wide (n := 9)).1 ?_
  refine callsIn_of_wp Try.func136 rfl trivial ?_ rfl
  simp only [Try.ntmps136, List.size_toArray, List.length_cons, List.length_nil, Nat.reduceAdd, Nat.reduceSub, Array.replicate_succ, Array.replicate_zero, List.push_toArray, List.append_toArray, List.nil_append, List.cons_append]
  cases hh : holdsB 1 v ys
  · gi_wp2_with (refine ⟨trivial, ?_⟩; gi_at_call 169; refine (callsIn_wide.2 HH.out).mono ?_; rintro e w1 ⟨rfl, hb1⟩; rw [hh]; have hv1 := (hb1.cell (p := ⟨VB, 0, none⟩) hVB).trans hv; have hy1 := (hb1.cell (p := ⟨YB, 0, none⟩) hYB).trans hy)
    refine ⟨fun _ h => (by cases h), ?_⟩
    gi_wp2
    go_ret
    exact .inl ⟨hh, rfl, hb1⟩
  · gi_wp2_with (refine ⟨trivial, ?_⟩; gi_at_call 169; refine (callsIn_wide.2 HH.out).mono ?_; rintro e w1 ⟨rfl, hb1⟩; rw [hh]; have hv1 := (hb1.cell (p := ⟨VB, 0, none⟩) hVB).trans hv; have hy1 := (hb1.cell (p := ⟨YB, 0, none⟩) hYB).trans hy; obtain ⟨fn, tmps, assign, body, hyy, hR⟩ := hY hh w1 hb1)
    refine (roundIn_any hR).mono ?_
    rintro e Y ⟨bb, rfl, hR'⟩
    gi_wp2
    go_ret
    exact .inr ⟨hh, w1, bb, hb1, rfl, hR'⟩

set_option maxHeartbeats 1000000 in
theorem wayCb2 (l : Nat) (A : Option Addr) (c n : Nat) (v : Int) (V n2 c2 RB VB YB : Nat) (ys : List Int) (X : World) (R : World → Bool → World → Prop)
    (hr : X.cell? ⟨RB, 0, none⟩ = some (.iface 113 (.agg #[.int .i64 2, .slice A n c, .int .i64 v]))) (hv : X.cell? ⟨VB, 0, none⟩ = some (.slice (some ⟨V, 0, none⟩) n2 c2)) (hy : X.cell? ⟨YB, 0, none⟩ = some (.func (.yield l) #[] #[]))
    (hrd : Rd X X.heap.size (some ⟨V, 0, none⟩) n2 ys) (h4 : n2 ≤ 4) (hcap : n2 ≤ c2) (hsm : Hid (small4 ys n2)) (h2 : 4 ≤ 2 → 2 ≤ n2)
    (hY : holdsB 2 v ys = true → ∀ X', Below X.heap.size X X' → YieldAt Fence.wide 0 Try.prog l #[.slice (some ⟨V, 0, none⟩) n2 c2] X' fun e Y => ∃ bb, e = .returned (.bool bb) ∧ R X' bb Y) :
    Calls Try.prog 136 #[.pointer (some ⟨RB, 0, none⟩), .pointer (some ⟨VB, 0, none⟩), .pointer (some ⟨YB, 0, none⟩)] X (CbPost 2 v ys X R) := by
  have M : ∀ w, (method 265 113 (.agg #[.int .i64 2, .slice A n c, .int .i64 v]) "loop.example/gridpuzzles/impl.holdsWith").run Try.prog w = .ok (171, .agg #[.int .i64 2, .slice A n c, .int .i64 v]) w := fun w => mHolds2 _ _ _ _ _ w
  have HH := Lib.hid (hold2 A c n (some ⟨V, 0, none⟩) c2 n2 X.heap.size ys v X hrd (Nat.le_refl _) h4 hcap hsm h2)
  have hRB := cell_lt hr
  have hVB := cell_lt hv
  have hYB := cell_lt hy
  refine (callsIn_wide (n := 9)).1 ?_
  refine callsIn_of_wp Try.func136 rfl trivial ?_ rfl
  simp only [Try.ntmps136, List.size_toArray, List.length_cons, List.length_nil, Nat.reduceAdd, Nat.reduceSub, Array.replicate_succ, Array.replicate_zero, List.push_toArray, List.append_toArray, List.nil_append, List.cons_append]
  cases hh : holdsB 2 v ys
  · gi_wp2_with (refine ⟨trivial, ?_⟩; gi_at_call 171; refine (callsIn_wide.2 HH.out).mono ?_; rintro e w1 ⟨rfl, hb1⟩; rw [hh]; have hv1 := (hb1.cell (p := ⟨VB, 0, none⟩) hVB).trans hv; have hy1 := (hb1.cell (p := ⟨YB, 0, none⟩) hYB).trans hy)
    refine ⟨fun _ h => (by cases h), ?_⟩
    gi_wp2
    go_ret
    exact .inl ⟨hh, rfl, hb1⟩
  · gi_wp2_with (refine ⟨trivial, ?_⟩; gi_at_call 171; refine (callsIn_wide.2 HH.out).mono ?_; rintro e w1 ⟨rfl, hb1⟩; rw [hh]; have hv1 := (hb1.cell (p := ⟨VB, 0, none⟩) hVB).trans hv; have hy1 := (hb1.cell (p := ⟨YB, 0, none⟩) hYB).trans hy; obtain ⟨fn, tmps, assign, body, hyy, hR⟩ := hY hh w1 hb1)
    refine (roundIn_any hR).mono ?_
    rintro e Y ⟨bb, rfl, hR'⟩
    gi_wp2
    go_ret
    exact .inr ⟨hh, w1, bb, hb1, rfl, hR'⟩

set_option maxHeartbeats 1000000 in
theorem wayCb3 (l : Nat) (A : Option Addr) (c n : Nat) (v : Int) (V n2 c2 RB VB YB : Nat) (ys : List Int) (X : World) (R : World → Bool → World → Prop)
    (hr : X.cell? ⟨RB, 0, none⟩ = some (.iface 114 (.agg #[.int .i64 3, .slice A n c, .int .i64 v]))) (hv : X.cell? ⟨VB, 0, none⟩ = some (.slice (some ⟨V, 0, none⟩) n2 c2)) (hy : X.cell? ⟨YB, 0, none⟩ = some (.func (.yield l) #[] #[]))
    (hrd : Rd X X.heap.size (some ⟨V, 0, none⟩) n2 ys) (h4 : n2 ≤ 4) (hcap : n2 ≤ c2) (hsm : Hid (small4 ys n2)) (h2 : 4 ≤ 3 → 2 ≤ n2)
    (hY : holdsB 3 v ys = true → ∀ X', Below X.heap.size X X' → YieldAt Fence.wide 0 Try.prog l #[.slice (some ⟨V, 0, none⟩) n2 c2] X' fun e Y => ∃ bb, e = .returned (.bool bb) ∧ R X' bb Y) :
    Calls Try.prog 136 #[.pointer (some ⟨RB, 0, none⟩), .pointer (some ⟨VB, 0, none⟩), .pointer (some ⟨YB, 0, none⟩)] X (CbPost 3 v ys X R) := by
  have M : ∀ w, (method 265 114 (.agg #[.int .i64 3, .slice A n c, .int .i64 v]) "loop.example/gridpuzzles/impl.holdsWith").run Try.prog w = .ok (174, .agg #[.int .i64 3, .slice A n c, .int .i64 v]) w := fun w => mHolds3 _ _ _ _ _ w
  have HH := Lib.hid (hold3 A c n (some ⟨V, 0, none⟩) c2 n2 X.heap.size ys v X hrd (Nat.le_refl _) h4 hcap hsm h2)
  have hRB := cell_lt hr
  have hVB := cell_lt hv
  have hYB := cell_lt hy
  refine (callsIn_wide (n := 9)).1 ?_
  refine callsIn_of_wp Try.func136 rfl trivial ?_ rfl
  simp only [Try.ntmps136, List.size_toArray, List.length_cons, List.length_nil, Nat.reduceAdd, Nat.reduceSub, Array.replicate_succ, Array.replicate_zero, List.push_toArray, List.append_toArray, List.nil_append, List.cons_append]
  cases hh : holdsB 3 v ys
  · gi_wp2_with (refine ⟨trivial, ?_⟩; gi_at_call 174; refine (callsIn_wide.2 HH.out).mono ?_; rintro e w1 ⟨rfl, hb1⟩; rw [hh]; have hv1 := (hb1.cell (p := ⟨VB, 0, none⟩) hVB).trans hv; have hy1 := (hb1.cell (p := ⟨YB, 0, none⟩) hYB).trans hy)
    refine ⟨fun _ h => (by cases h), ?_⟩
    gi_wp2
    go_ret
    exact .inl ⟨hh, rfl, hb1⟩
  · gi_wp2_with (refine ⟨trivial, ?_⟩; gi_at_call 174; refine (callsIn_wide.2 HH.out).mono ?_; rintro e w1 ⟨rfl, hb1⟩; rw [hh]; have hv1 := (hb1.cell (p := ⟨VB, 0, none⟩) hVB).trans hv; have hy1 := (hb1.cell (p := ⟨YB, 0, none⟩) hYB).trans hy; obtain ⟨fn, tmps, assign, body, hyy, hR⟩ := hY hh w1 hb1)
    refine (roundIn_any hR).mono ?_
    rintro e Y ⟨bb, rfl, hR'⟩
    gi_wp2
    go_ret
    exact .inr ⟨hh, w1, bb, hb1, rfl, hR'⟩

set_option maxHeartbeats 1000000 in
theorem wayCb4 (l : Nat) (A : Option Addr) (c n : Nat) (v : Int) (V n2 c2 RB VB YB : Nat) (ys : List Int) (X : World) (R : World → Bool → World → Prop)
    (hr : X.cell? ⟨RB, 0, none⟩ = some (.iface 115 (.agg #[.int .i64 4, .slice A n c, .int .i64 v]))) (hv : X.cell? ⟨VB, 0, none⟩ = some (.slice (some ⟨V, 0, none⟩) n2 c2)) (hy : X.cell? ⟨YB, 0, none⟩ = some (.func (.yield l) #[] #[]))
    (hrd : Rd X X.heap.size (some ⟨V, 0, none⟩) n2 ys) (h4 : n2 ≤ 4) (hcap : n2 ≤ c2) (hsm : Hid (small4 ys n2)) (h2 : 4 ≤ 4 → 2 ≤ n2)
    (hY : holdsB 4 v ys = true → ∀ X', Below X.heap.size X X' → YieldAt Fence.wide 0 Try.prog l #[.slice (some ⟨V, 0, none⟩) n2 c2] X' fun e Y => ∃ bb, e = .returned (.bool bb) ∧ R X' bb Y) :
    Calls Try.prog 136 #[.pointer (some ⟨RB, 0, none⟩), .pointer (some ⟨VB, 0, none⟩), .pointer (some ⟨YB, 0, none⟩)] X (CbPost 4 v ys X R) := by
  have M : ∀ w, (method 265 115 (.agg #[.int .i64 4, .slice A n c, .int .i64 v]) "loop.example/gridpuzzles/impl.holdsWith").run Try.prog w = .ok (176, .agg #[.int .i64 4, .slice A n c, .int .i64 v]) w := fun w => mHolds4 _ _ _ _ _ w
  have HH := Lib.hid (hold4 A c n (some ⟨V, 0, none⟩) c2 n2 X.heap.size ys v X hrd (Nat.le_refl _) h4 hcap hsm h2)
  have hRB := cell_lt hr
  have hVB := cell_lt hv
  have hYB := cell_lt hy
  refine (callsIn_wide (n := 9)).1 ?_
  refine callsIn_of_wp Try.func136 rfl trivial ?_ rfl
  simp only [Try.ntmps136, List.size_toArray, List.length_cons, List.length_nil, Nat.reduceAdd, Nat.reduceSub, Array.replicate_succ, Array.replicate_zero, List.push_toArray, List.append_toArray, List.nil_append, List.cons_append]
  cases hh : holdsB 4 v ys
  · gi_wp2_with (refine ⟨trivial, ?_⟩; gi_at_call 176; refine (callsIn_wide.2 HH.out).mono ?_; rintro e w1 ⟨rfl, hb1⟩; rw [hh]; have hv1 := (hb1.cell (p := ⟨VB, 0, none⟩) hVB).trans hv; have hy1 := (hb1.cell (p := ⟨YB, 0, none⟩) hYB).trans hy)
    refine ⟨fun _ h => (by cases h), ?_⟩
    gi_wp2
    go_ret
    exact .inl ⟨hh, rfl, hb1⟩
  · gi_wp2_with (refine ⟨trivial, ?_⟩; gi_at_call 176; refine (callsIn_wide.2 HH.out).mono ?_; rintro e w1 ⟨rfl, hb1⟩; rw [hh]; have hv1 := (hb1.cell (p := ⟨VB, 0, none⟩) hVB).trans hv; have hy1 := (hb1.cell (p := ⟨YB, 0, none⟩) hYB).trans hy; obtain ⟨fn, tmps, assign, body, hyy, hR⟩ := hY hh w1 hb1)
    refine (roundIn_any hR).mono ?_
    rintro e Y ⟨bb, rfl, hR'⟩
    gi_wp2
    go_ret
    exact .inr ⟨hh, w1, bb, hb1, rfl, hR'⟩

set_option maxHeartbeats 1000000 in
theorem wayCb5 (l : Nat) (A : Option Addr) (c n : Nat) (v : Int) (V n2 c2 RB VB YB : Nat) (ys : List Int) (X : World) (R : World → Bool → World → Prop)
    (hr : X.cell? ⟨RB, 0, none⟩ = some (.iface 116 (.agg #[.int .i64 5, .slice A n c, .int .i64 v]))) (hv : X.cell? ⟨VB, 0, none⟩ = some (.slice (some ⟨V, 0, none⟩) n2 c2)) (hy : X.cell? ⟨YB, 0, none⟩ = some (.func (.yield l) #[] #[]))
    (hrd : Rd X X.heap.size (some ⟨V, 0, none⟩) n2 ys) (h4 : n2 ≤ 4) (hcap : n2 ≤ c2) (hsm : Hid (small4 ys n2)) (h2 : 4 ≤ 5 → 2 ≤ n2)
    (hY : holdsB 5 v ys = true → ∀ X', Below X.heap.size X X' → YieldAt Fence.wide 0 Try.prog l #[.slice (some ⟨V, 0, none⟩) n2 c2] X' fun e Y => ∃ bb, e = .returned (.bool bb) ∧ R X' bb Y) :
    Calls Try.prog 136 #[.pointer (some ⟨RB, 0, none⟩), .pointer (some ⟨VB, 0, none⟩), .pointer (some ⟨YB, 0, none⟩)] X (CbPost 5 v ys X R) := by
  have M : ∀ w, (method 265 116 (.agg #[.int .i64 5, .slice A n c, .int .i64 v]) "loop.example/gridpuzzles/impl.holdsWith").run Try.prog w = .ok (178, .agg #[.int .i64 5, .slice A n c, .int .i64 v]) w := fun w => mHolds5 _ _ _ _ _ w
  have HH := Lib.hid (hold5 A c n (some ⟨V, 0, none⟩) c2 n2 X.heap.size ys v X hrd (Nat.le_refl _) h4 hcap hsm h2)
  have hRB := cell_lt hr
  have hVB := cell_lt hv
  have hYB := cell_lt hy
  refine (callsIn_wide (n := 9)).1 ?_
  refine callsIn_of_wp Try.func136 rfl trivial ?_ rfl
  simp only [Try.ntmps136, List.size_toArray, List.length_cons, List.length_nil, Nat.reduceAdd, Nat.reduceSub, Array.replicate_succ, Array.replicate_zero, List.push_toArray, List.append_toArray, List.nil_append, List.cons_append]
  cases hh : holdsB 5 v ys
  · gi_wp2_with (refine ⟨trivial, ?_⟩; gi_at_call 178; refine (callsIn_wide.2 HH.out).mono ?_; rintro e w1 ⟨rfl, hb1⟩; rw [hh]; have hv1 := (hb1.cell (p := ⟨VB, 0, none⟩) hVB).trans hv; have hy1 := (hb1.cell (p := ⟨YB, 0, none⟩) hYB).trans hy)
    refine ⟨fun _ h => (by cases h), ?_⟩
    gi_wp2
    go_ret
    exact .inl ⟨hh, rfl, hb1⟩
  · gi_wp2_with (refine ⟨trivial, ?_⟩; gi_at_call 178; refine (callsIn_wide.2 HH.out).mono ?_; rintro e w1 ⟨rfl, hb1⟩; rw [hh]; have hv1 := (hb1.cell (p := ⟨VB, 0, none⟩) hVB).trans hv; have hy1 := (hb1.cell (p := ⟨YB, 0, none⟩) hYB).trans hy; obtain ⟨fn, tmps, assign, body, hyy, hR⟩ := hY hh w1 hb1)
    refine (roundIn_any hR).mono ?_
    rintro e Y ⟨bb, rfl, hR'⟩
    gi_wp2
    go_ret
    exact .inr ⟨hh, w1, bb, hb1, rfl, hR'⟩

theorem wayCb (l : Nat) (A : Option Addr) (c n : Nat) (k v : Int) (V n2 c2 RB VB YB : Nat) (ys : List Int) (X : World) (R : World → Bool → World → Prop) (hk : k = 1 ∨ k = 2 ∨ k = 3 ∨ k = 4 ∨ k = 5)
    (hr : X.cell? ⟨RB, 0, none⟩ = some (ofk k (rval k A n c v))) (hv : X.cell? ⟨VB, 0, none⟩ = some (.slice (some ⟨V, 0, none⟩) n2 c2)) (hy : X.cell? ⟨YB, 0, none⟩ = some (.func (.yield l) #[] #[]))
    (hrd : Rd X X.heap.size (some ⟨V, 0, none⟩) n2 ys) (h4 : n2 ≤ 4) (hcap : n2 ≤ c2) (hsm : Hid (small4 ys n2)) (h2 : k = 1 ∨ k = 2 ∨ k = 3 ∨ 2 ≤ n2)
    (hY : holdsB k v ys = true → ∀ X', Below X.heap.size X X' → YieldAt Fence.wide 0 Try.prog l #[.slice (some ⟨V, 0, none⟩) n2 c2] X' fun e Y => ∃ bb, e = .returned (.bool bb) ∧ R X' bb Y) :
    Calls Try.prog 136 #[.pointer (some ⟨RB, 0, none⟩), .pointer (some ⟨VB, 0, none⟩), .pointer (some ⟨YB, 0, none⟩)] X (CbPost k v ys X R) := by
  rcases hk with rfl | rfl | rfl | rfl | rfl
  · exact wayCb1 l A c n v V n2 c2 RB VB YB ys X R hr hv hy hrd h4 hcap hsm (by omega) hY
  · exact wayCb2 l A c n v V n2 c2 RB VB YB ys X R hr hv hy hrd h4 hcap hsm (by omega) hY
  · exact wayCb3 l A c n v V n2 c2 RB VB YB ys X R hr hv hy hrd h4 hcap hsm (by omega) hY
  · exact wayCb4 l A c n v V n2 c2 RB VB YB ys X R hr hv hy hrd h4 hcap hsm (by omega) hY
  · exact wayCb5 l A c n v V n2 c2 RB VB YB ys X R hr hv hy hrd h4 hcap hsm (by omega) hY
end Go.Proofs.Ytoejpodchlepiaa
