import Derived.Test.YtcjdjcpappfkgaaGreatDoorEGTW
import Derived.RangeFuncBound
import Derived.Shelf.RegionOpen
import Derived.OwnWalkIn
import Derived.LoopNIn
import Derived.LoopIn
set_option maxRecDepth 8000
namespace Go.Proofs.YtcjdjcpappfkgaaGreatDoor
open Go.ChangeShapes Go.WideShapes Go.ChangeAt Go.RowKit Go.Shelf
attribute [local go_sem] Oper.semAt_some
def CbPost (k v : Int) (ys : List Int) (X : World) (R : World → Bool → World → Prop) (e : Ending) (Y : World) : Prop :=
  (holdsB k v ys = false ∧ e = .returned (.bool true) ∧ Below X.heap.size X Y) ∨ (holdsB k v ys = true ∧ ∃ X' bb, Below X.heap.size X X' ∧ e = .returned (.bool bb) ∧ R X' bb Y)
set_option maxHeartbeats 1000000 in
theorem wayCb1 (l : Nat) (A : Option Addr) (c n : Nat) (v : Int) (V n2 c2 RB VB YB : Nat) (ys : List Int) (X : World) (R : World → Bool → World → Prop)
    (hr : X.cell? ⟨RB, 0, none⟩ = some (.iface 186 (.agg #[.int .i64 1, .slice A n c, .int .i64 v]))) (hv : X.cell? ⟨VB, 0, none⟩ = some (.slice (some ⟨V, 0, none⟩) n2 c2)) (hy : X.cell? ⟨YB, 0, none⟩ = some (.func (.yield l) #[] #[]))
    (hrd : Rd X X.heap.size (some ⟨V, 0, none⟩) n2 ys) (h4 : n2 ≤ 4) (hcap : n2 ≤ c2) (hsm : Hid (small4 ys n2)) (h2 : 4 ≤ 1 → 2 ≤ n2)
    (hY : holdsB 1 v ys = true → ∀ X', Below X.heap.size X X' → YieldAt Fence.wide 0 Tryz.prog l #[.slice (some ⟨V, 0, none⟩) n2 c2] X' fun e Y => ∃ bb, e = .returned (.bool bb) ∧ R X' bb Y) :
    Calls Tryz.prog 176 #[.pointer (some ⟨RB, 0, none⟩), .pointer (some ⟨VB, 0, none⟩), .pointer (some ⟨YB, 0, none⟩)] X (CbPost 1 v ys X R) := by
  have M : ∀ w, (method 311 186 (.agg #[.int .i64 1, .slice A n c, .int .i64 v]) "loop.example/gridpuzzles/impl.holdsWith").run Tryz.prog w = .ok (199, .agg #[.int .i64 1, .slice A n c, .int .i64 v]) w := fun w => mHolds1 _ _ _ _ _ w
  have HH := Lib.hid (hold1 A c n (some ⟨V, 0, none⟩) c2 n2 X.heap.size ys v X hrd (Nat.le_refl _) h4 hcap hsm h2); have hRB := cell_lt hr; have hVB := cell_lt hv; have hYB := cell_lt hy; refine (callsIn_wide (n := 9)).1 ?_; refine callsIn_of_wp Tryz.func176 rfl trivial ?_ rfl; simp only [Tryz.ntmps176, List.size_toArray, List.length_cons, List.length_nil, Nat.reduceAdd, Nat.reduceSub, Array.replicate_succ, Array.replicate_zero, List.push_toArray, List.append_toArray, List.nil_append, List.cons_append]; cases hh : holdsB 1 v ys
  · gi_wp2_with (refine ⟨trivial, ?_⟩; gi_at_call 199; refine (callsIn_wide.2 HH.out).mono ?_; rintro e w1 ⟨rfl, hb1⟩; rw [hh]; have hv1 := (hb1.cell (p := ⟨VB, 0, none⟩) hVB).trans hv; have hy1 := (hb1.cell (p := ⟨YB, 0, none⟩) hYB).trans hy)
    refine ⟨fun _ h => (by cases h), ?_⟩
    gi_wp2
    go_ret
    exact .inl ⟨hh, rfl, hb1⟩
  · gi_wp2_with (refine ⟨trivial, ?_⟩; gi_at_call 199; refine (callsIn_wide.2 HH.out).mono ?_; rintro e w1 ⟨rfl, hb1⟩; rw [hh]; have hv1 := (hb1.cell (p := ⟨VB, 0, none⟩) hVB).trans hv; have hy1 := (hb1.cell (p := ⟨YB, 0, none⟩) hYB).trans hy; obtain ⟨fn, tmps, assign, body, hyy, hR⟩ := hY hh w1 hb1)
    refine (roundIn_any hR).mono ?_; rintro e Y ⟨bb, rfl, hR'⟩
    gi_wp2
    go_ret
    exact .inr ⟨hh, w1, bb, hb1, rfl, hR'⟩
set_option maxHeartbeats 1000000 in
theorem wayCb2 (l : Nat) (A : Option Addr) (c n : Nat) (v : Int) (V n2 c2 RB VB YB : Nat) (ys : List Int) (X : World) (R : World → Bool → World → Prop)
    (hr : X.cell? ⟨RB, 0, none⟩ = some (.iface 187 (.agg #[.int .i64 2, .slice A n c, .int .i64 v]))) (hv : X.cell? ⟨VB, 0, none⟩ = some (.slice (some ⟨V, 0, none⟩) n2 c2)) (hy : X.cell? ⟨YB, 0, none⟩ = some (.func (.yield l) #[] #[]))
    (hrd : Rd X X.heap.size (some ⟨V, 0, none⟩) n2 ys) (h4 : n2 ≤ 4) (hcap : n2 ≤ c2) (hsm : Hid (small4 ys n2)) (h2 : 4 ≤ 2 → 2 ≤ n2)
    (hY : holdsB 2 v ys = true → ∀ X', Below X.heap.size X X' → YieldAt Fence.wide 0 Tryz.prog l #[.slice (some ⟨V, 0, none⟩) n2 c2] X' fun e Y => ∃ bb, e = .returned (.bool bb) ∧ R X' bb Y) :
    Calls Tryz.prog 176 #[.pointer (some ⟨RB, 0, none⟩), .pointer (some ⟨VB, 0, none⟩), .pointer (some ⟨YB, 0, none⟩)] X (CbPost 2 v ys X R) := by
  have M : ∀ w, (method 311 187 (.agg #[.int .i64 2, .slice A n c, .int .i64 v]) "loop.example/gridpuzzles/impl.holdsWith").run Tryz.prog w = .ok (201, .agg #[.int .i64 2, .slice A n c, .int .i64 v]) w := fun w => mHolds2 _ _ _ _ _ w
  have HH := Lib.hid (hold2 A c n (some ⟨V, 0, none⟩) c2 n2 X.heap.size ys v X hrd (Nat.le_refl _) h4 hcap hsm h2); have hRB := cell_lt hr; have hVB := cell_lt hv; have hYB := cell_lt hy; refine (callsIn_wide (n := 9)).1 ?_; refine callsIn_of_wp Tryz.func176 rfl trivial ?_ rfl; simp only [Tryz.ntmps176, List.size_toArray, List.length_cons, List.length_nil, Nat.reduceAdd, Nat.reduceSub, Array.replicate_succ, Array.replicate_zero, List.push_toArray, List.append_toArray, List.nil_append, List.cons_append]; cases hh : holdsB 2 v ys
  · gi_wp2_with (refine ⟨trivial, ?_⟩; gi_at_call 201; refine (callsIn_wide.2 HH.out).mono ?_; rintro e w1 ⟨rfl, hb1⟩; rw [hh]; have hv1 := (hb1.cell (p := ⟨VB, 0, none⟩) hVB).trans hv; have hy1 := (hb1.cell (p := ⟨YB, 0, none⟩) hYB).trans hy)
    refine ⟨fun _ h => (by cases h), ?_⟩
    gi_wp2
    go_ret
    exact .inl ⟨hh, rfl, hb1⟩
  · gi_wp2_with (refine ⟨trivial, ?_⟩; gi_at_call 201; refine (callsIn_wide.2 HH.out).mono ?_; rintro e w1 ⟨rfl, hb1⟩; rw [hh]; have hv1 := (hb1.cell (p := ⟨VB, 0, none⟩) hVB).trans hv; have hy1 := (hb1.cell (p := ⟨YB, 0, none⟩) hYB).trans hy; obtain ⟨fn, tmps, assign, body, hyy, hR⟩ := hY hh w1 hb1)
    refine (roundIn_any hR).mono ?_; rintro e Y ⟨bb, rfl, hR'⟩
    gi_wp2
    go_ret
    exact .inr ⟨hh, w1, bb, hb1, rfl, hR'⟩
set_option maxHeartbeats 1000000 in
theorem wayCb3 (l : Nat) (A : Option Addr) (c n : Nat) (v : Int) (V n2 c2 RB VB YB : Nat) (ys : List Int) (X : World) (R : World → Bool → World → Prop)
    (hr : X.cell? ⟨RB, 0, none⟩ = some (.iface 188 (.agg #[.int .i64 3, .slice A n c, .int .i64 v]))) (hv : X.cell? ⟨VB, 0, none⟩ = some (.slice (some ⟨V, 0, none⟩) n2 c2)) (hy : X.cell? ⟨YB, 0, none⟩ = some (.func (.yield l) #[] #[]))
    (hrd : Rd X X.heap.size (some ⟨V, 0, none⟩) n2 ys) (h4 : n2 ≤ 4) (hcap : n2 ≤ c2) (hsm : Hid (small4 ys n2)) (h2 : 4 ≤ 3 → 2 ≤ n2)
    (hY : holdsB 3 v ys = true → ∀ X', Below X.heap.size X X' → YieldAt Fence.wide 0 Tryz.prog l #[.slice (some ⟨V, 0, none⟩) n2 c2] X' fun e Y => ∃ bb, e = .returned (.bool bb) ∧ R X' bb Y) :
    Calls Tryz.prog 176 #[.pointer (some ⟨RB, 0, none⟩), .pointer (some ⟨VB, 0, none⟩), .pointer (some ⟨YB, 0, none⟩)] X (CbPost 3 v ys X R) := by
  have M : ∀ w, (method 311 188 (.agg #[.int .i64 3, .slice A n c, .int .i64 v]) "loop.example/gridpuzzles/impl.holdsWith").run Tryz.prog w = .ok (204, .agg #[.int .i64 3, .slice A n c, .int .i64 v]) w := fun w => mHolds3 _ _ _ _ _ w
  have HH := Lib.hid (hold3 A c n (some ⟨V, 0, none⟩) c2 n2 X.heap.size ys v X hrd (Nat.le_refl _) h4 hcap hsm h2); have hRB := cell_lt hr; have hVB := cell_lt hv; have hYB := cell_lt hy; refine (callsIn_wide (n := 9)).1 ?_; refine callsIn_of_wp Tryz.func176 rfl trivial ?_ rfl; simp only [Tryz.ntmps176, List.size_toArray, List.length_cons, List.length_nil, Nat.reduceAdd, Nat.reduceSub, Array.replicate_succ, Array.replicate_zero, List.push_toArray, List.append_toArray, List.nil_append, List.cons_append]; cases hh : holdsB 3 v ys
  · gi_wp2_with (refine ⟨trivial, ?_⟩; gi_at_call 204; refine (callsIn_wide.2 HH.out).mono ?_; rintro e w1 ⟨rfl, hb1⟩; rw [hh]; have hv1 := (hb1.cell (p := ⟨VB, 0, none⟩) hVB).trans hv; have hy1 := (hb1.cell (p := ⟨YB, 0, none⟩) hYB).trans hy)
    refine ⟨fun _ h => (by cases h), ?_⟩
    gi_wp2
    go_ret
    exact .inl ⟨hh, rfl, hb1⟩
  · gi_wp2_with (refine ⟨trivial, ?_⟩; gi_at_call 204; refine (callsIn_wide.2 HH.out).mono ?_; rintro e w1 ⟨rfl, hb1⟩; rw [hh]; have hv1 := (hb1.cell (p := ⟨VB, 0, none⟩) hVB).trans hv; have hy1 := (hb1.cell (p := ⟨YB, 0, none⟩) hYB).trans hy; obtain ⟨fn, tmps, assign, body, hyy, hR⟩ := hY hh w1 hb1)
    refine (roundIn_any hR).mono ?_; rintro e Y ⟨bb, rfl, hR'⟩
    gi_wp2
    go_ret
    exact .inr ⟨hh, w1, bb, hb1, rfl, hR'⟩
set_option maxHeartbeats 1000000 in
theorem wayCb4 (l : Nat) (A : Option Addr) (c n : Nat) (v : Int) (V n2 c2 RB VB YB : Nat) (ys : List Int) (X : World) (R : World → Bool → World → Prop)
    (hr : X.cell? ⟨RB, 0, none⟩ = some (.iface 189 (.agg #[.int .i64 4, .slice A n c, .int .i64 v]))) (hv : X.cell? ⟨VB, 0, none⟩ = some (.slice (some ⟨V, 0, none⟩) n2 c2)) (hy : X.cell? ⟨YB, 0, none⟩ = some (.func (.yield l) #[] #[]))
    (hrd : Rd X X.heap.size (some ⟨V, 0, none⟩) n2 ys) (h4 : n2 ≤ 4) (hcap : n2 ≤ c2) (hsm : Hid (small4 ys n2)) (h2 : 4 ≤ 4 → 2 ≤ n2)
    (hY : holdsB 4 v ys = true → ∀ X', Below X.heap.size X X' → YieldAt Fence.wide 0 Tryz.prog l #[.slice (some ⟨V, 0, none⟩) n2 c2] X' fun e Y => ∃ bb, e = .returned (.bool bb) ∧ R X' bb Y) :
    Calls Tryz.prog 176 #[.pointer (some ⟨RB, 0, none⟩), .pointer (some ⟨VB, 0, none⟩), .pointer (some ⟨YB, 0, none⟩)] X (CbPost 4 v ys X R) := by
  have M : ∀ w, (method 311 189 (.agg #[.int .i64 4, .slice A n c, .int .i64 v]) "loop.example/gridpuzzles/impl.holdsWith").run Tryz.prog w = .ok (206, .agg #[.int .i64 4, .slice A n c, .int .i64 v]) w := fun w => mHolds4 _ _ _ _ _ w
  have HH := Lib.hid (hold4 A c n (some ⟨V, 0, none⟩) c2 n2 X.heap.size ys v X hrd (Nat.le_refl _) h4 hcap hsm h2); have hRB := cell_lt hr; have hVB := cell_lt hv; have hYB := cell_lt hy; refine (callsIn_wide (n := 9)).1 ?_; refine callsIn_of_wp Tryz.func176 rfl trivial ?_ rfl; simp only [Tryz.ntmps176, List.size_toArray, List.length_cons, List.length_nil, Nat.reduceAdd, Nat.reduceSub, Array.replicate_succ, Array.replicate_zero, List.push_toArray, List.append_toArray, List.nil_append, List.cons_append]; cases hh : holdsB 4 v ys
  · gi_wp2_with (refine ⟨trivial, ?_⟩; gi_at_call 206; refine (callsIn_wide.2 HH.out).mono ?_; rintro e w1 ⟨rfl, hb1⟩; rw [hh]; have hv1 := (hb1.cell (p := ⟨VB, 0, none⟩) hVB).trans hv; have hy1 := (hb1.cell (p := ⟨YB, 0, none⟩) hYB).trans hy)
    refine ⟨fun _ h => (by cases h), ?_⟩
    gi_wp2
    go_ret
    exact .inl ⟨hh, rfl, hb1⟩
  · gi_wp2_with (refine ⟨trivial, ?_⟩; gi_at_call 206; refine (callsIn_wide.2 HH.out).mono ?_; rintro e w1 ⟨rfl, hb1⟩; rw [hh]; have hv1 := (hb1.cell (p := ⟨VB, 0, none⟩) hVB).trans hv; have hy1 := (hb1.cell (p := ⟨YB, 0, none⟩) hYB).trans hy; obtain ⟨fn, tmps, assign, body, hyy, hR⟩ := hY hh w1 hb1)
    refine (roundIn_any hR).mono ?_; rintro e Y ⟨bb, rfl, hR'⟩
    gi_wp2
    go_ret
    exact .inr ⟨hh, w1, bb, hb1, rfl, hR'⟩
set_option maxHeartbeats 1000000 in
theorem wayCb5 (l : Nat) (A : Option Addr) (c n : Nat) (v : Int) (V n2 c2 RB VB YB : Nat) (ys : List Int) (X : World) (R : World → Bool → World → Prop)
    (hr : X.cell? ⟨RB, 0, none⟩ = some (.iface 190 (.agg #[.int .i64 5, .slice A n c, .int .i64 v]))) (hv : X.cell? ⟨VB, 0, none⟩ = some (.slice (some ⟨V, 0, none⟩) n2 c2)) (hy : X.cell? ⟨YB, 0, none⟩ = some (.func (.yield l) #[] #[]))
    (hrd : Rd X X.heap.size (some ⟨V, 0, none⟩) n2 ys) (h4 : n2 ≤ 4) (hcap : n2 ≤ c2) (hsm : Hid (small4 ys n2)) (h2 : 4 ≤ 5 → 2 ≤ n2)
    (hY : holdsB 5 v ys = true → ∀ X', Below X.heap.size X X' → YieldAt Fence.wide 0 Tryz.prog l #[.slice (some ⟨V, 0, none⟩) n2 c2] X' fun e Y => ∃ bb, e = .returned (.bool bb) ∧ R X' bb Y) :
    Calls Tryz.prog 176 #[.pointer (some ⟨RB, 0, none⟩), .pointer (some ⟨VB, 0, none⟩), .pointer (some ⟨YB, 0, none⟩)] X (CbPost 5 v ys X R) := by
  have M : ∀ w, (method 311 190 (.agg #[.int .i64 5, .slice A n c, .int .i64 v]) "loop.example/gridpuzzles/impl.holdsWith").run Tryz.prog w = .ok (208, .agg #[.int .i64 5, .slice A n c, .int .i64 v]) w := fun w => mHolds5 _ _ _ _ _ w
  have HH := Lib.hid (hold5 A c n (some ⟨V, 0, none⟩) c2 n2 X.heap.size ys v X hrd (Nat.le_refl _) h4 hcap hsm h2); have hRB := cell_lt hr; have hVB := cell_lt hv; have hYB := cell_lt hy; refine (callsIn_wide (n := 9)).1 ?_; refine callsIn_of_wp Tryz.func176 rfl trivial ?_ rfl; simp only [Tryz.ntmps176, List.size_toArray, List.length_cons, List.length_nil, Nat.reduceAdd, Nat.reduceSub, Array.replicate_succ, Array.replicate_zero, List.push_toArray, List.append_toArray, List.nil_append, List.cons_append]; cases hh : holdsB 5 v ys
  · gi_wp2_with (refine ⟨trivial, ?_⟩; gi_at_call 208; refine (callsIn_wide.2 HH.out).mono ?_; rintro e w1 ⟨rfl, hb1⟩; rw [hh]; have hv1 := (hb1.cell (p := ⟨VB, 0, none⟩) hVB).trans hv; have hy1 := (hb1.cell (p := ⟨YB, 0, none⟩) hYB).trans hy)
    refine ⟨fun _ h => (by cases h), ?_⟩
    gi_wp2
    go_ret
    exact .inl ⟨hh, rfl, hb1⟩
  · gi_wp2_with (refine ⟨trivial, ?_⟩; gi_at_call 208; refine (callsIn_wide.2 HH.out).mono ?_; rintro e w1 ⟨rfl, hb1⟩; rw [hh]; have hv1 := (hb1.cell (p := ⟨VB, 0, none⟩) hVB).trans hv; have hy1 := (hb1.cell (p := ⟨YB, 0, none⟩) hYB).trans hy; obtain ⟨fn, tmps, assign, body, hyy, hR⟩ := hY hh w1 hb1)
    refine (roundIn_any hR).mono ?_; rintro e Y ⟨bb, rfl, hR'⟩
    gi_wp2
    go_ret
    exact .inr ⟨hh, w1, bb, hb1, rfl, hR'⟩
theorem wayCb (l : Nat) (A : Option Addr) (c n : Nat) (k v : Int) (V n2 c2 RB VB YB : Nat) (ys : List Int) (X : World) (R : World → Bool → World → Prop) (hk : k = 1 ∨ k = 2 ∨ k = 3 ∨ k = 4 ∨ k = 5)
    (hr : X.cell? ⟨RB, 0, none⟩ = some (ofk k (rval k A n c v))) (hv : X.cell? ⟨VB, 0, none⟩ = some (.slice (some ⟨V, 0, none⟩) n2 c2)) (hy : X.cell? ⟨YB, 0, none⟩ = some (.func (.yield l) #[] #[]))
    (hrd : Rd X X.heap.size (some ⟨V, 0, none⟩) n2 ys) (h4 : n2 ≤ 4) (hcap : n2 ≤ c2) (hsm : Hid (small4 ys n2)) (h2 : k = 1 ∨ k = 2 ∨ k = 3 ∨ 2 ≤ n2)
    (hY : holdsB k v ys = true → ∀ X', Below X.heap.size X X' → YieldAt Fence.wide 0 Tryz.prog l #[.slice (some ⟨V, 0, none⟩) n2 c2] X' fun e Y => ∃ bb, e = .returned (.bool bb) ∧ R X' bb Y) :
    Calls Tryz.prog 176 #[.pointer (some ⟨RB, 0, none⟩), .pointer (some ⟨VB, 0, none⟩), .pointer (some ⟨YB, 0, none⟩)] X (CbPost k v ys X R) := by
  rcases hk with rfl | rfl | rfl | rfl | rfl
  · exact wayCb1 l A c n v V n2 c2 RB VB YB ys X R hr hv hy hrd h4 hcap hsm (by omega) hY
  · exact wayCb2 l A c n v V n2 c2 RB VB YB ys X R hr hv hy hrd h4 hcap hsm (by omega) hY
  · exact wayCb3 l A c n v V n2 c2 RB VB YB ys X R hr hv hy hrd h4 hcap hsm (by omega) hY
  · exact wayCb4 l A c n v V n2 c2 RB VB YB ys X R hr hv hy hrd h4 hcap hsm (by omega) hY
  · exact wayCb5 l A c n v V n2 c2 RB VB YB ys X R hr hv hy hrd h4 hcap hsm (by omega) hY
end Go.Proofs.YtcjdjcpappfkgaaGreatDoor
namespace Go.Proofs.YtcjdjcpappfkgaaGreatDoor
open Go.ChangeShapes Go.WideShapes Go.ChangeAt Go.RowKit
def zeroArr (n : Nat) : Array Value := madeCells #[.int .i64 0] n
theorem make_ints {n : Nat} (hn : n ≤ 1099511627776) (w : World) : (Instr.makeSlice 23 (.int .i64 (n : Int)) (.int .i64 (n : Int))).run Tryz.prog w = .ok (.slice (some ⟨w.heap.size, 0, none⟩) n n) (w.alloc (.cells (zeroArr n) 3)) := by
  obtain ⟨i0, hi, hz0, hz1, hz2⟩ := info_parts int_info; have hr := run_make (P := Tryz.prog) w 23 3 i0 (.int .i64 0) Tryz.underlying23 hi hz0 .i64 .i64 (n : Int) (n : Int) (by omega) (Int.le_refl _) (by rw [hz2]; omega) (by omega); rw [hz1, Int.toNat_natCast, Nat.mul_one] at hr; exact hr
theorem zeroArr_ow {n lo : Nat} (hn : n ≤ 1099511627776) (w : World) (hlo : lo ≤ w.heap.size) : Ow (w.alloc (.cells (zeroArr n) 3)) lo (some ⟨w.heap.size, 0, none⟩) n n (zeros n) := by
  have hs : (zeroArr n).size = n * 1 := by simp [zeroArr, madeCells]
  have h := World.ownsRow_lit (e := 3) (size := 1) w (zeroArr n) n hlo (by simp only [maxLen]; omega) hs; unfold Ow
  have e : (zeroArr n).toList = vals (zeros n) := by
    rw [zeroArr, toList_madeCells_one]
    simp [vals, zeros]
  rw [← e]; exact h
theorem Ow.same {w w' : World} {lo g n c : Nat} {xs : List Int} (h : Ow w lo (some ⟨g, 0, none⟩) n c xs) (e : w'.heap[g]? = w.heap[g]?) : Ow w' lo (some ⟨g, 0, none⟩) n c xs := by
  obtain ⟨h0, h1⟩ := h; refine ⟨h0, ?_⟩
  rcases h1 with ⟨h1, _⟩ | ⟨g', cap, cur, hv, h2, h3, h4⟩
  · cases h1
  · injection hv with e1 _ e2
    injection e1 with e1
    injection e1 with e1 _ _
    subst e1 e2; exact .inr ⟨g, c, cur, rfl, h2, e.trans h3, h4⟩
theorem Rd.up {w : World} {B B' n : Nat} {A : Option Addr} {xs : List Int} (h : Rd w B A n xs) (hB : B ≤ B') : Rd w B' A n xs :=
  ⟨h.1, fun hn => by
    obtain ⟨b, off, e, hl, hc⟩ := h.2 hn
    exact ⟨b, off, e, by omega, hc⟩⟩
theorem Below.of_grown {N V : Nat} {X Y : World} (h : X.grownBy Y (some V)) (hN : N ≤ X.heap.size) (hV : N ≤ V) : Below N X Y :=
  (Below.refl N X).grown h hN (fun k e => by cases e; exact hV)
theorem yieldAt_mono {F : Fence} {m : Nat} {P : Program} {l : Nat} {args : Array Value} {w : World} {R R' : Ending → World → Prop} (h : YieldAt F m P l args w R) (hr : ∀ e w', R e w' → R' e w') : YieldAt F m P l args w R' := by
  obtain ⟨fn, tmps, assign, body, hy, hR⟩ := h; exact ⟨fn, tmps, assign, body, hy, hR.mono hr⟩
def WBase (MB RB B : Nat) (k : Int) (A : Option Addr) (nc c : Nat) (v : Int) (Am : Option Addr) (n cm : Nat) (ms : List Int) (X : World) : Prop :=
  X.cell? ⟨MB, 0, none⟩ = some (.slice Am n cm) ∧ X.cell? ⟨RB, 0, none⟩ = some (ofk k (rval k A nc c v)) ∧ Rd X B Am n ms ∧ B ≤ X.heap.size
theorem WBase.below {N MB RB B : Nat} {k : Int} {A : Option Addr} {nc c : Nat} {v : Int} {Am : Option Addr} {n cm : Nat} {ms : List Int} {X Y : World} (h : WBase MB RB B k A nc c v Am n cm ms X) (hb : Below N X Y) (h1 : MB < N) (h2 : RB < N) (h3 : B ≤ N) : WBase MB RB B k A nc c v Am n cm ms Y :=
  ⟨(hb.cell (p := ⟨MB, 0, none⟩) h1).trans h.1, (hb.cell (p := ⟨RB, 0, none⟩) h2).trans h.2.1, h.2.2.1.below (hb.mono h3), Nat.le_trans h.2.2.2 hb.size⟩
set_option maxHeartbeats 1000000 in
theorem ways_seq (MB RB B : Nat) (k : Int) (A : Option Addr) (nc c : Nat) (v : Int) (Am : Option Addr) (n cm : Nat) (ms : List Int) (hn1 : 1 ≤ n) (hn4 : n ≤ 4) (hms : ∀ i, i < n → 0 ≤ nth ms i ∧ nth ms i < 32)
    (hk : k = 1 ∨ k = 2 ∨ k = 3 ∨ k = 4 ∨ k = 5) (h2 : k = 1 ∨ k = 2 ∨ k = 3 ∨ 2 ≤ n) :
    SeqC Tryz.prog 174 #[.pointer (some ⟨MB, 0, none⟩), .pointer (some ⟨RB, 0, none⟩)] (WBase MB RB B k A nc c v Am n cm ms) ((allW ms n []).filter (holdsB k v)) := by
  intro l J Jx W hJb hJs hY h0; obtain ⟨w0, w1, w2, w3⟩ := hJb _ _ h0; have hMB : MB < W.heap.size := cell_lt w0; have hRB : RB < W.heap.size := cell_lt w1
  have hsml : ∀ ys ∈ allW ms n [], ys.length = n ∧ small4 ys n := fun ys hy => by
    have h1 := allW_len hy
    simp at h1
    refine ⟨h1, fun i hi => ?_⟩; have := allW_small (vs := []) (by intro i hi; simp at hi) hy i (by simpa using hi); omega
  have HT : ∀ (V VB cv : Nat) (X : World), W.heap.size < V → V < VB → n ≤ cv → Below W.heap.size W X → X.cell? ⟨W.heap.size, 0, none⟩ = some (.func (.yield l) #[] #[]) → X.cell? ⟨VB, 0, none⟩ = some (.slice (some ⟨V, 0, none⟩) n cv) →
      (∃ ys0, Ow X W.heap.size (some ⟨V, 0, none⟩) n cv ys0) →
      Calls Tryz.prog 175 #[.slice Am n cm, .slice (some ⟨V, 0, none⟩) n cv, .int .i64 (0 : Nat), .func (.func 176) #[] #[.pointer (some ⟨RB, 0, none⟩), .pointer (some ⟨VB, 0, none⟩), .pointer (some ⟨W.heap.size, 0, none⟩)]] X
        fun e Y => ∃ bb : Bool, e = .returned (.bool bb) ∧ (J ((allW ms n []).filter (holdsB k v)) Y ∨ Jx Y) := by
    intro V VB cv X hV hVB hcv hbX hyb hvb hys0; obtain ⟨ys0, hys0⟩ := hys0
    let J' : List (List Int) → World → Prop := fun pre X => J (pre.filter (holdsB k v)) X ∧ X.cell? ⟨W.heap.size, 0, none⟩ = some (.func (.yield l) #[] #[]) ∧ X.cell? ⟨VB, 0, none⟩ = some (.slice (some ⟨V, 0, none⟩) n cv)
    have hsz : ∀ pre X, J' pre X → W.heap.size < X.heap.size ∧ VB < X.heap.size := fun pre X h => ⟨cell_lt h.2.1, cell_lt h.2.2⟩
    have stab : ∀ pre X Y, J' pre X → Below X.heap.size X Y → J' pre Y := fun pre X Y h hb => by
      obtain ⟨s1, s2⟩ := hsz pre X h; exact ⟨hJs _ _ _ h.1 (hb.mono (by omega)), (hb.cell (p := ⟨W.heap.size, 0, none⟩) s1).trans h.2.1, (hb.cell (p := ⟨VB, 0, none⟩) s2).trans h.2.2⟩
    refine (tryWays_any (J := J') (Jx := Jx) (ms := ms) (n := n) (c := cv) (lo := W.heap.size) (V := V) (cm := cm) (Am := Am) ?hM hms hn4 ?hJ ?hcb n 0 [] ys0 [] X (by omega) rfl ⟨hJs _ _ _ h0 hbX, hyb, hvb⟩ hys0 (fun i hi => absurd hi (by omega)) (fun ys h => h)).mono ?_
    case hM =>
      intro pre X h; obtain ⟨_, _, b2, _⟩ := hJb _ _ h.1; exact b2.up (by omega)
    case hJ =>
      intro pre X Y h hg; obtain ⟨s1, s2⟩ := hsz pre X h; exact ⟨hJs _ _ _ h.1 (Below.of_grown hg (by omega) (by omega)), (hg.cell_far ⟨W.heap.size, 0, none⟩ s1 (fun e => by injection e with e; dsimp only at e; omega)).trans h.2.1, (hg.cell_far ⟨VB, 0, none⟩ s2 (fun e => by injection e with e; dsimp only at e; omega)).trans h.2.2⟩
    case hcb =>
      intro pre ys X hmem h ho; obtain ⟨s1, s2⟩ := hsz pre X h; obtain ⟨hyl, hsm⟩ := hsml ys hmem; obtain ⟨_, b1, _, _⟩ := hJb _ _ h.1; have hVX : V < X.heap.size := (by obtain ⟨g, e, _, hg⟩ := ho.form (by omega); cases e; exact hg); refine (wayCb l A c nc k v V n cv RB VB W.heap.size ys X (fun X' bb Y => Mid W.heap.size X' Y ∧ ((bb = true ∧ J (pre.filter (holdsB k v) ++ [ys]) Y) ∨ (bb = false ∧ Jx Y))) hk b1 h.2.2 h.2.1 ho.rd hn4 hcv (Lib.hid hsm) h2 ?_).mono ?_
      · intro hh X' hb; have h' := stab _ _ _ h hb; refine yieldAt_mono (hY _ ys X' V n cv h'.1 (List.mem_filter.2 ⟨hmem, hh⟩) (by omega) ((ho.below hb).rd)) ?_; rintro e Y ⟨hm, (⟨rfl, hj⟩ | ⟨rfl, hx⟩)⟩
        · exact ⟨true, rfl, hm, .inl ⟨rfl, hj⟩⟩
        · exact ⟨false, rfl, hm, .inr ⟨rfl, hx⟩⟩
      · rintro e Y (⟨hh, rfl, hb⟩ | ⟨hh, X', bb, hb, rfl, hm, hR⟩)
        · have h' := stab _ _ _ h hb; refine .inl ⟨rfl, ⟨?_, h'.2⟩, ho.below hb⟩; rw [List.filter_append, List.filter_cons_of_neg (by rw [hh]; simp), List.filter_nil, List.append_nil]; exact h'.1
        · have h' := stab _ _ _ h hb; obtain ⟨t1, t2⟩ := hsz _ _ h'
          rcases hR with ⟨rfl, hj⟩ | ⟨rfl, hx⟩
          · refine .inl ⟨rfl, ⟨?_, ?_, ?_⟩, (ho.below hb).same (hm.same V (by omega) (Nat.lt_of_lt_of_le hVX hb.size))⟩
            · rw [List.filter_append, List.filter_cons_of_pos hh, List.filter_nil]; exact hj
            · exact (World.cell?_of_block (a := ⟨W.heap.size, 0, none⟩) (hm.same _ (Nat.le_refl _) t1)).trans h'.2.1
            · exact (World.cell?_of_block (a := ⟨VB, 0, none⟩) (hm.same _ (by show W.heap.size ≤ VB; omega) t2)).trans h'.2.2
          · exact .inr ⟨rfl, hx⟩
    · rintro e Y (⟨rfl, hj, _⟩ | ⟨rfl, hx⟩)
      · exact ⟨true, rfl, .inl (by simpa using hj.1)⟩
      · exact ⟨false, rfl, .inr hx⟩
  show Calls Tryz.prog 174 #[.func (.yield l) #[] #[], .pointer (some ⟨MB, 0, none⟩), .pointer (some ⟨RB, 0, none⟩)] W _
  obtain ⟨W1, hW1⟩ : ∃ W1, W.alloc (.cells #[.func (.yield l) #[] #[]] 117) = W1 := ⟨_, rfl⟩
  have hbW : Below W.heap.size W W1 := by rw [← hW1]; exact (Below.refl _ _).alloc (Nat.le_refl _) _
  have hs1 : W1.heap.size = W.heap.size + 1 := by rw [← hW1]; simp
  have hy1 : W1.cell? ⟨W.heap.size, 0, none⟩ = some (.func (.yield l) #[] #[]) := by rw [← hW1]; exact cell_of_row _ _ 0 _ _ (0, 0) (heap_alloc_new W _)
  obtain ⟨W2, hW2⟩ : ∃ W2, W1.alloc (.cells (zeroArr n) 3) = W2 := ⟨_, rfl⟩
  have hb2 : Below W1.heap.size W1 W2 := by rw [← hW2]; exact (Below.refl _ _).alloc (Nat.le_refl _) _
  have hs2 : W2.heap.size = W.heap.size + 1 + 1 := by rw [← hW2]; simp [hs1]
  have ho2 : Ow W2 W.heap.size (some ⟨W.heap.size + 1, 0, none⟩) n n (zeros n) := by
    have := zeroArr_ow (n := n) (lo := W.heap.size) (by omega) W1 (by omega); rw [hW2, hs1] at this; exact this
  have m1 := (hbW.cell (p := ⟨MB, 0, none⟩) hMB).trans w0; have m2 := (hb2.cell (p := ⟨MB, 0, none⟩) (show MB < W1.heap.size by omega)).trans m1; obtain ⟨W3, hW3⟩ : ∃ W3, W2.alloc (.cells #[.slice (some ⟨W.heap.size + 1, 0, none⟩) n n] 23) = W3 := ⟨_, rfl⟩
  have hb3 : Below W2.heap.size W2 W3 := by rw [← hW3]; exact (Below.refl _ _).alloc (Nat.le_refl _) _
  have m3 := (hb3.cell (p := ⟨MB, 0, none⟩) (show MB < W2.heap.size by omega)).trans m2
  have hv3 : W3.cell? ⟨W.heap.size + 1 + 1, 0, none⟩ = some (.slice (some ⟨W.heap.size + 1, 0, none⟩) n n) := by
    rw [← hW3, ← hs2]; exact cell_of_row _ _ 0 _ _ (0, 0) (heap_alloc_new W2 _)
  have hbW3 : Below W.heap.size W W3 := (hbW.trans (hb2.mono (by omega))).trans (hb3.mono (by omega)); have hy3 := (hb3.cell (p := ⟨W.heap.size, 0, none⟩) (show W.heap.size < W2.heap.size by omega)).trans ((hb2.cell (p := ⟨W.heap.size, 0, none⟩) (show W.heap.size < W1.heap.size by omega)).trans hy1); have HC := Lib.hid (HT (W.heap.size + 1) (W.heap.size + 1 + 1) n W3 (by omega) (by omega) (Nat.le_refl _) hbW3 hy3 hv3 ⟨_, ho2.below hb3⟩)
  have hmk : (Instr.makeSlice 23 (.int .i64 (n : Int)) (.int .i64 (n : Int))).run Tryz.prog W1 = .ok (.slice (some ⟨W.heap.size + 1, 0, none⟩) n n) W2 := by rw [make_ints (by omega), hW2, hs1]
  clear HT hJb hJs hY hb2 hb3 hbW hbW3 hy3 ho2 hsml m2 w0 w1 w2 w3 hy1
  go_enter Tryz.func174, Tryz.ntmps174
  go_wp2_with (go_at_call 175; refine HC.out.mono ?_; rintro e Y ⟨bb, rfl, hYY⟩)
  go_end0
  exact ⟨⟨_, rfl⟩, hYY⟩
theorem range_two {P : Program} (m : Nat) {g : Operand} {p q : Nat} {assign body : Code} {Q : Exit → Act → World → Prop} {a : Act} {w : World}
    {gf : Nat} {lb : Array Value} (hg : a.eval g = .func (.func gf) #[] lb) (eg : ∀ args w, (callFunc gf args).run P w = .ok (.enter gf args) w)
    {Base : World → Prop} {ways : List (List Int)} (hseq : SeqC P gf lb Base ways)
    (I : List (List Int) → World → Prop) (Ix : Code → World → Prop) (hIb : ∀ pre X, I pre X → Base X)
    (hI : ∀ pre X Y, I pre X → Below w.heap.size X Y → I pre Y) (hIx : ∀ c X Y, Ix c X → Below w.heap.size X Y → Ix c Y) (h0 : I [] w)
    (hassign : ∀ (l : Nat) (v : Value) (W : World) (K : Act → World → Prop), K { tmps := (a.tmps.setIfInBounds p v).setIfInBounds q v, defers := [] } W →
      assign.wpIn (Fence.wide.inRound l) m P (Exit.then K (fun _ _ _ => False)) { tmps := a.tmps.setIfInBounds p v, defers := [] } W)
    (hbody : ∀ (l : Nat) (pre : List (List Int)) (x : List Int) (X : World) (b n c : Nat), I pre X → x ∈ ways → w.heap.size ≤ b → Rd X X.heap.size (some ⟨b, 0, none⟩) n x →
      body.wpIn (Fence.wide.inRound l) m P (midPost w.heap.size I Ix (pre ++ [x]) X) { tmps := (a.tmps.setIfInBounds p (.slice (some ⟨b, 0, none⟩) n c)).setIfInBounds q (.slice (some ⟨b, 0, none⟩) n c), defers := [] } X)
    (hdone : ∀ (D : Nat) (W : World), w.heap.size ≤ D → I ways W → W.heap[D]? = some (.deferred (some [])) → Q .normal { a with defers := { target := .collected D, args := #[] } :: a.defers } W)
    (hstop : ∀ (D : Nat) (c : Code) (W : World), w.heap.size ≤ D → Ix c W → W.heap[D]? = some (.deferred (some [])) → c.wpIn Fence.wide m P Q { a with defers := { target := .collected D, args := #[] } :: a.defers } W) :
    (Code.rangeFunc g #[p] assign body).wpIn Fence.wide m P Q a w :=
  range_own m hg eg rfl hseq I Ix hIb hI hIx h0 (fun v => { tmps := (a.tmps.setIfInBounds p v).setIfInBounds q v, defers := [] }) (fun l v W K hK => by
    simpa using hassign l v W K hK) hbody hdone hstop
end Go.Proofs.YtcjdjcpappfkgaaGreatDoor
namespace Go.Proofs.YtcjdjcpappfkgaaGreatDoor
open Go.ChangeShapes Go.WideShapes Go.ChangeAt Go.RowKit Go.Shelf
attribute [local go_sem] Oper.semAt_some
theorem ways_small {k v : Int} {ms : List Int} {n : Nat} {x : List Int} (h : x ∈ waysN k v ms n) : x.length = n ∧ small4 x n := by
  have hy := (List.mem_filter.1 h).1; have h1 := allW_len hy
  simp at h1
  refine ⟨h1, fun i hi => ?_⟩; have := allW_small (vs := []) (by intro i hi; simp at hi) hy i (by simpa using hi); omega
attribute [local go_sem] Oper.semAt_some
attribute [local go_sem] Oper.semAt_some
def tcells (F : Nat → Nat) (A : Option Addr) (n c : Nat) : Array Value := #[.slice A n c, .int .u64 (F 0), .int .u64 (F 1), .int .u64 (F 2), .int .u64 (F 3), .int .u64 (F 4), .int .u64 (F 5), .int .u64 (F 6), .int .u64 (F 7), .int .u64 (F 8), .int .u64 (F 9), .int .u64 (F 10), .int .u64 (F 11), .int .u64 (F 12), .int .u64 (F 13), .int .u64 (F 14), .int .u64 (F 15), .int .u64 (F 16), .int .u64 (F 17), .int .u64 (F 18), .int .u64 (F 19)]
theorem tcell_at (F : Nat → Nat) (A : Option Addr) (n c : Nat) {i : Nat} (hi : i < 20) : (tcells F A n c)[1 + i]? = some (.int .u64 (F i)) := by
  have : i = 0 ∨ i = 1 ∨ i = 2 ∨ i = 3 ∨ i = 4 ∨ i = 5 ∨ i = 6 ∨ i = 7 ∨ i = 8 ∨ i = 9 ∨ i = 10 ∨ i = 11 ∨ i = 12 ∨ i = 13 ∨ i = 14 ∨ i = 15 ∨ i = 16 ∨ i = 17 ∨ i = 18 ∨ i = 19 := by omega
  rcases this with rfl | rfl | rfl | rfl | rfl | rfl | rfl | rfl | rfl | rfl | rfl | rfl | rfl | rfl | rfl | rfl | rfl | rfl | rfl | rfl <;> rfl
def tput (F : Nat → Nat) (i x : Nat) : Nat → Nat := fun j => if j = i then x else F j
theorem tcells_set (F : Nat → Nat) (A : Option Addr) (n c : Nat) {i : Nat} (hi : i < 20) (x : Nat) : (tcells F A n c).setIfInBounds (1 + i) (.int .u64 (x : Nat)) = tcells (tput F i x) A n c := by
  have : i = 0 ∨ i = 1 ∨ i = 2 ∨ i = 3 ∨ i = 4 ∨ i = 5 ∨ i = 6 ∨ i = 7 ∨ i = 8 ∨ i = 9 ∨ i = 10 ∨ i = 11 ∨ i = 12 ∨ i = 13 ∨ i = 14 ∨ i = 15 ∨ i = 16 ∨ i = 17 ∨ i = 18 ∨ i = 19 := by omega
  rcases this with rfl | rfl | rfl | rfl | rfl | rfl | rfl | rfl | rfl | rfl | rfl | rfl | rfl | rfl | rfl | rfl | rfl | rfl | rfl | rfl <;> rfl
def TBox (w : World) (g : Nat) (F : Nat → Nat) (A : Option Addr) (n c : Nat) : Prop := w.heap[g]? = some (.cells (tcells F A n c) 135)
theorem TBox.lt {w : World} {g : Nat} {F : Nat → Nat} {A : Option Addr} {n c : Nat} (h : TBox w g F A n c) : g < w.heap.size := (Array.getElem?_eq_some_iff.1 h).1
theorem TBox.cell {w : World} {g : Nat} {F : Nat → Nat} {A : Option Addr} {n c : Nat} (h : TBox w g F A n c) {i : Nat} (hi : i < 20) : w.cell? ⟨g, 1 + i, none⟩ = some (.int .u64 (F i)) :=
  (cell_of_row _ _ (1 + i) _ _ (0, 0) h).trans (tcell_at F A n c hi)
theorem TBox.cell0 {w : World} {g : Nat} {F : Nat → Nat} {A : Option Addr} {n c : Nat} (h : TBox w g F A n c) : w.cell? ⟨g, 0, none⟩ = some (.slice A n c) :=
  (cell_of_row _ _ 0 _ _ (0, 0) h).trans rfl
theorem TBox.frozen {w : World} {g : Nat} {F : Nat → Nat} {A : Option Addr} {n c : Nat} (h : TBox w g F A n c) (l : Nat) : w.frozen? ⟨g, l, none⟩ = false := by
  unfold World.frozen?; rw [show w.heap[g]? = _ from h]
  simp
theorem TBox.set {w : World} {g : Nat} {F : Nat → Nat} {A : Option Addr} {n c : Nat} (h : TBox w g F A n c) {i : Nat} (hi : i < 20) (x : Nat) : TBox (w.setCell ⟨g, 1 + i, none⟩ (.int .u64 (x : Nat))) g (tput F i x) A n c := by
  unfold TBox; rw [heap_setCell_same w g (1 + i) _ _ _ h, ← tcells_set F A n c hi x]
theorem TBox.kept {w w' : World} {g : Nat} {F : Nat → Nat} {A : Option Addr} {n c : Nat} (h : TBox w g F A n c) (e : w'.heap[g]? = w.heap[g]?) : TBox w' g F A n c := e.trans h
def wsM (L : List (List Int)) (j u : Nat) : Nat := wsT L j u (min L.length 64)
def wyV (m : Nat) : Nat := if m < 64 then 2 ^ m else 0
theorem wsM_lt (L : List (List Int)) (j u : Nat) : wsM L j u < 2 ^ 64 := Nat.lt_of_lt_of_le (wsT_lt _) (Nat.pow_le_pow_right (by omega) (by omega))
theorem wsM_is {L : List (List Int)} (h : L.length ≤ 64) (j u : Nat) : wsM L j u = wsP L j u := by
  unfold wsM wsP; rw [Nat.min_eq_left h]
theorem wsM_push (L : List (List Int)) (x : List Int) (j u : Nat) : wsM (L ++ [x]) j u = wsM L j u ||| (if (nth x j).toNat = u then wyV L.length else 0) := by
  unfold wsM wyV; rw [List.length_append, List.length_singleton]
  by_cases h : L.length < 64
  · rw [if_pos h, Nat.min_eq_left (show L.length + 1 ≤ 64 by omega), Nat.min_eq_left (show L.length ≤ 64 by omega)]; simp only [wsT]; rw [wsT_app _ (Nat.le_refl _), show (L ++ [x]).getD L.length [] = x by simp [List.getD_eq_getElem?_getD]]
  · rw [if_neg h, Nat.min_eq_right (show 64 ≤ L.length + 1 by omega), Nat.min_eq_right (show 64 ≤ L.length by omega), wsT_app _ (show 64 ≤ L.length by omega)]
    split <;> rw [Nat.or_zero]
theorem wyV_lt (m : Nat) : wyV m < 2 ^ 64 := by
  unfold wyV
  split
  · exact Nat.pow_lt_pow_right (by omega) (by assumption)
  · exact Nat.two_pow_pos _
theorem wyV_next (m : Nat) : IntKind.u64.wrap (((wyV m : Nat) : Int) * 2) = ((wyV (m + 1) : Nat) : Int) := by
  rw [IntKind.wrap_u64]; unfold wyV
  by_cases h : m < 63
  · rw [if_pos (by omega), if_pos (by omega), Nat.pow_succ]; have : 2 ^ m < 2 ^ 63 := Nat.pow_lt_pow_right (by omega) h
    generalize 2 ^ m = p at *
    omega
  · by_cases h2 : m = 63
    · subst h2; decide
    · rw [if_neg (by omega), if_neg (by omega)]; rfl
def tG (L : List (List Int)) (x : List Int) (n t : Nat) : Nat → Nat := fun i => if i / 5 < t then wsM (L ++ [x]) (i / 5) (i % 5) else if i / 5 < n then wsM L (i / 5) (i % 5) else 0
def tF (L : List (List Int)) (n : Nat) : Nat → Nat := fun i => if i / 5 < n then wsM L (i / 5) (i % 5) else 0
theorem tG_zero (L : List (List Int)) (x : List Int) (n : Nat) : tG L x n 0 = tF L n := by
  funext i
  unfold tG tF; rw [if_neg (by omega)]
theorem tG_all (L : List (List Int)) (x : List Int) (n : Nat) : tG L x n n = tF (L ++ [x]) n := by
  funext i
  unfold tG tF
  by_cases h : i / 5 < n
  · rw [if_pos h, if_pos h]
  · rw [if_neg h, if_neg h, if_neg h]
theorem tF_nil (n : Nat) : tF [] n = fun _ => 0 := by
  funext i
  unfold tF
  split <;> rfl
theorem tG_lt (L : List (List Int)) (x : List Int) (n t i : Nat) : tG L x n t i < 2 ^ 64 := by
  unfold tG
  split
  · exact wsM_lt _ _ _
  · split
    · exact wsM_lt _ _ _
    · exact Nat.two_pow_pos _
theorem tF_lt (L : List (List Int)) (n i : Nat) : tF L n i < 2 ^ 64 := by
  rw [← tG_zero L []]; exact tG_lt _ _ _ _ _
theorem tG_step (L : List (List Int)) (x : List Int) {n t z : Nat} (ht : t < n) (hz : z < 5) (hx : (nth x t).toNat = z) : tput (tG L x n t) (t * 5 + z) (tG L x n t (t * 5 + z) ||| wyV L.length) = tG L x n (t + 1) := by
  funext i
  unfold tput
  have e1 : (t * 5 + z) / 5 = t := by omega
  have e2 : (t * 5 + z) % 5 = z := by omega
  by_cases e : i = t * 5 + z
  · subst e; rw [if_pos rfl]; unfold tG; rw [e1, e2, if_neg (Nat.lt_irrefl t), if_pos ht, if_pos (Nat.lt_succ_self t), wsM_push, if_pos hx]
  · rw [if_neg e]; unfold tG
    by_cases h1 : i / 5 < t
    · rw [if_pos h1, if_pos (by omega)]
    · rw [if_neg h1]
      by_cases h2 : i / 5 < t + 1
      · have h3 : i / 5 = t := (by omega); rw [if_pos (by omega), if_pos h2, wsM_push, h3, if_neg (by omega), Nat.or_zero]
      · rw [if_neg h2]
theorem tF_at {L : List (List Int)} {n j u : Nat} (hL : L.length ≤ 64) (hj : j < n) (hu : u < 5) : tF L n (j * 5 + u) = wsP L j u := by
  unfold tF; rw [show (j * 5 + u) / 5 = j by omega, show (j * 5 + u) % 5 = u by omega, if_pos hj, wsM_is hL]
theorem opN_lt {s n : Nat} (hs : s ∈ [2, 3, 4]) : ∀ i, i < n → 0 ≤ nth (opN n s) i ∧ nth (opN n s) i < 32 := fun i hi => by
  unfold opN; rw [emL_at (n := n) (by simp [zeros]) hi]; have := emN_lt (vs := zeros n) (j := i) hs (by rw [zeros_nth]; omega) (by rw [zeros_nth]; omega); omega
theorem opN_len (n s : Nat) : (opN n s).length = n := by unfold opN; exact emL_len_ (by simp [zeros])
end Go.Proofs.YtcjdjcpappfkgaaGreatDoor
namespace Go.Proofs.YtcjdjcpappfkgaaGreatDoor
open Go.ChangeShapes Go.WideShapes Go.ChangeAt Go.RowKit
theorem toIntS_any (A : Option Addr) (c n B : Nat) (xs : List Int) (w : World) (h : Rd w B A n xs) (hB : B ≤ w.heap.size) (hm : n ≤ 1099511627776) :
    Calls Tryz.prog 86 #[.slice A n c] w fun e w' => e = .returned (.slice (some ⟨w.heap.size, 0, none⟩) n n) ∧ Ow w' w.heap.size (some ⟨w.heap.size, 0, none⟩) n n xs ∧ Below w.heap.size w w' := by
  obtain ⟨i0, hi, hz0, hz1, hz2⟩ := info_parts int_info; have hlen := Lib.hid h.1
  go_enter Tryz.func86, Tryz.ntmps86
  go_wp2_with (refine wpList_make_full _ rfl (.tmp 6) (.tmp 6) 23 rfl w.heap.size 3 i0 (.int .i64 0) 1 Tryz.underlying23 hi hz0 hz1 .i64 .i64 n n n rfl rfl rfl rfl ?_ ?_ (Nat.le_refl _) ?_)
  · rw [hz2]; omega
  · simp only [maxLen]; omega
  · intro w1 hown hgr
    have hown1 : Ow w1 w.heap.size (some ⟨w.heap.size, 0, none⟩) n n (part xs 0 n) := by
      unfold Ow; rw [part_zero, ← toList_madeCells_one]; exact hown
    have hb1 : Below w.heap.size w w1 := (Below.refl _ _).grown hgr (Nat.le_refl _) (fun k hk => by cases hk); clear hown hgr
    go_wp2
    go_loopw [4] (fun i wr => ∃ k : Nat, k ≤ n ∧ i = .int .i64 k ∧ Ow wr w.heap.size (some ⟨w.heap.size, 0, none⟩) n n (part xs k n) ∧ Below w.heap.size w wr) (fun i _ => n - (intOf i).toNat)
    case atStart => exact ⟨0, Nat.zero_le _, rfl, hown1, hb1⟩
    case round =>
      obtain ⟨k, hk, rfl, ho, hb⟩ := hrel
      by_cases hlt : k < n
      · obtain ⟨b, off, rfl, hbB, hck⟩ := (h.below (hb.mono hB)).at_ hlt; have hold := World.ownsRow.cellAt ho k (by omega); rw [vals_get (by rw [part_length]; exact hlt)] at hold; have hfr := World.ownsRow.frozenAt ho k; have hst := World.ownsRow.stored ho k (.int .i64 (nth xs k)); rw [part_set] at hst; have Hst := Lib.hid hst; clear hst
        go_wp2
        go_roundw
        case rel => exact ⟨k + 1, by omega, by go_num, Hst.out.1, hb.setCell (Nat.le_refl _) _⟩
        case measure => simp [intOf]; omega
      · obtain rfl : k = n := by omega
        go_wp2
        go_ret
        refine ⟨rfl, ?_, hb⟩; have e := part_all xs; rw [hlen.out] at e; rw [e] at ho; exact ho
theorem eqIntS_any (A A' : Option Addr) (c c' n n' B B' : Nat) (xs ys : List Int) (w : World) (h : Rd w B A n xs) (h' : Rd w B' A' n' ys) (hm : n ≤ 1099511627776) :
    Calls Tryz.prog 88 #[.slice A n c, .slice A' n' c'] w fun e w' => e = .returned (.bool (same xs ys)) ∧ Below w.heap.size w w' := by
  have hl := Lib.hid h.1; have hl' := Lib.hid h'.1
  by_cases hnn : n = n'
  · subst hnn
    go_enter Tryz.func88, Tryz.ntmps88
    go_wp2
    go_loopw [5] (fun i wr => ∃ k : Nat, k ≤ n ∧ i = .int .i64 k ∧ eqTo xs ys k ∧ Below w.heap.size w wr ∧ Rd wr B A n xs ∧ Rd wr B' A' n ys) (fun i _ => n - (intOf i).toNat)
    case atStart => exact ⟨0, Nat.zero_le _, rfl, eqTo_zero, Below.refl _ _, h, h'⟩
    case round =>
      obtain ⟨k, hk, rfl, heq, hb, hr, hr'⟩ := hrel
      by_cases hlt : k < n
      · obtain ⟨b, off, rfl, hbB, hck⟩ := hr.at_ hlt; obtain ⟨b', off', rfl, hbB', hck'⟩ := hr'.at_ hlt; have hltI : (k : Int) < (n : Int) := (by omega)
        by_cases e : nth xs k = nth ys k
        · have hne : (nth xs k != nth ys k) = false := (by simp [e]); have He := Lib.hid e; clear e
          go_wp2
          go_quiet (fail)
          go_wp2
          go_roundw
          case rel => exact ⟨k + 1, by omega, by go_num, eqTo_succ heq He.out, below_drewN hb _, hr, hr'⟩
          case measure => simp [intOf]; omega
        · have hne : (nth xs k != nth ys k) = true := (by simp [e]); have He := Lib.hid e; clear e
          go_wp2
          go_quiet (fail)
          go_wp2
          go_ret
          exact ⟨by rw [same_f He.out]; rfl, below_drewN hb _⟩
      · obtain rfl : k = n := by omega
        go_wp2
        go_ret
        exact ⟨by rw [same_t hl.out hl'.out heq]; rfl, hb⟩
  · have hne : ((n : Int) != (n' : Int)) = true := by rw [bne_iff_ne]; omega
    go_enter Tryz.func88, Tryz.ntmps88
    go_wp2
    go_ret
    exact ⟨by rw [same_len (by rw [hl.out, hl'.out]; exact hnn)]; rfl, Below.refl _ _⟩
def turnIx (size : Int) (k : Nat) : Nat := ((size - 1 - (k : Int) % size) * size + (k : Int) / size).toNat
def turnG (xs : List Int) (size : Int) (k : Nat) : Int := nth xs (turnIx size k)
def turnL (xs : List Int) (size : Int) : List Int := if gv xs size = true then mapTo (turnG xs size) xs.length else []
def mirIx (size : Int) (k : Nat) : Nat := ((k : Int) / size * size + size - 1 - (k : Int) % size).toNat
def mirG (xs : List Int) (size : Int) (k : Nat) : Int := nth xs (mirIx size k)
def mirL (xs : List Int) (size : Int) : List Int := if gv xs size = true then mapTo (mirG xs size) xs.length else []
def pm (xs : List Int) (P : Nat → Nat) (n : Nat) : List Int := mapTo (fun k => nth xs (P k)) n
theorem size_nat {xs : List Int} {size : Int} (hg : gv xs size = true) : ∃ s : Nat, size = s ∧ s ∈ [2, 3, 4] ∧ xs.length = s * s := by
  obtain ⟨h2, h4⟩ := gv_size hg; obtain ⟨s, rfl⟩ := Int.eq_ofNat_of_zero_le (by omega : 0 ≤ size); refine ⟨s, rfl, by simp; omega, ?_⟩; have := gv_len hg; rw [← Int.natCast_mul] at this; omega
structure TurnFacts (xs : List Int) (size : Int) (n : Nat) : Prop where
  len : (turnL xs size).length = n
  valid : gv (turnL xs size) size = true
  four : turnL (turnL (turnL (turnL xs size) size) size) size = xs
  filled : gf (turnL xs size) size = gf xs size
  edge : ∀ k : Nat, (k : Int) < size → nth (turnL xs size) ((k : Int) * size + size - 1).toNat = nth xs k
structure MirFacts (xs : List Int) (size : Int) (n : Nat) : Prop where
  len : (mirL xs size).length = n
  valid : gv (mirL xs size) size = true
  two : mirL (mirL xs size) size = xs
  turned : turnL (mirL xs size) size = mirL (turnL (turnL (turnL xs size) size) size) size
theorem hasTo_iff {f : Nat → Int} {k : Nat} {v : Int} : hasTo f k v = true ↔ ∃ i, i < k ∧ f i = v := by
  simp [hasTo]
theorem dupTo_iff {f : Nat → Int} {n : Nat} : dupTo f n = true ↔ ∃ i j, i < j ∧ j < n ∧ f i = f j ∧ 0 < f j := by
  induction n with
  | zero => simp [dupTo]
  | succ n ih =>
    rw [dupTo, Bool.or_eq_true, ih, Bool.and_eq_true, hasTo_iff, decide_eq_true_eq]
    constructor
    · rintro (⟨i, j, h1, h2, h3⟩ | ⟨h0, i, hi, he⟩)
      · exact ⟨i, j, h1, by omega, h3⟩
      · exact ⟨i, n, hi, by omega, he, h0⟩
    · rintro ⟨i, j, h1, h2, h3, h4⟩
      by_cases e : j = n
      · subst e; exact .inr ⟨h4, i, h1, h3⟩
      · exact .inl ⟨i, j, h1, by omega, h3, h4⟩
theorem clashTo_iff {xs : List Int} {size : Int} {n : Nat} : clashTo xs size n = true ↔ ∃ l, l < n ∧ dupTo (lineV xs size (l : Nat)) size.toNat = true := by
  induction n with
  | zero => simp [clashTo]
  | succ n ih =>
    rw [clashTo, Bool.or_eq_true, ih]
    constructor
    · rintro (⟨l, h1, h2⟩ | h)
      · exact ⟨l, by omega, h2⟩
      · exact ⟨n, by omega, h⟩
    · rintro ⟨l, h1, h2⟩
      by_cases e : l = n
      · subst e; exact .inr h2
      · exact .inl ⟨l, by omega, h2⟩
def adj (s i j : Nat) : Bool := i != j && (i / s == j / s || i % s == j % s)
def adjLine (s i j : Nat) : Bool := (List.range (2 * s)).any fun l => (List.range s).any fun a => (List.range s).any fun b => a != b && ((lineAt (s : Nat) (l : Nat) a).toNat == i && (lineAt (s : Nat) (l : Nat) b).toNat == j)
theorem adj_line0 : ∀ s ∈ [2, 3, 4], ∀ i, i < s * s → ∀ j, j < s * s → adj s i j = true → adjLine s i j = true := by decide +kernel
theorem adj_line (s : Nat) (hs : s ∈ [2, 3, 4]) (i : Nat) (hi : i < s * s) (j : Nat) (hj : j < s * s) (h : adj s i j = true) : ∃ l, l < 2 * s ∧ ∃ a, a < s ∧ ∃ b, b < s ∧ a ≠ b ∧ (lineAt (s : Nat) (l : Nat) a).toNat = i ∧ (lineAt (s : Nat) (l : Nat) b).toNat = j := by
  have := adj_line0 s hs i hi j hj h; simp only [adjLine, List.any_eq_true, List.mem_range, Bool.and_eq_true, bne_iff_ne, beq_iff_eq] at this; obtain ⟨l, hl, a, ha, b, hb, hab, e1, e2⟩ := this; exact ⟨l, hl, a, ha, b, hb, hab, e1, e2⟩
def lineAdj (s l a b : Nat) : Bool := a == b || (adj s (lineAt (s : Nat) (l : Nat) a).toNat (lineAt (s : Nat) (l : Nat) b).toNat && (Nat.blt (lineAt (s : Nat) (l : Nat) a).toNat (s * s) && Nat.blt (lineAt (s : Nat) (l : Nat) b).toNat (s * s)))
theorem line_adj0 : ∀ s ∈ [2, 3, 4], ∀ l, l < 2 * s → ∀ a, a < s → ∀ b, b < s → lineAdj s l a b = true := by decide +kernel
theorem line_adj (s : Nat) (hs : s ∈ [2, 3, 4]) (l : Nat) (hl : l < 2 * s) (a : Nat) (ha : a < s) (b : Nat) (hb : b < s) (hab : a ≠ b) : adj s (lineAt (s : Nat) (l : Nat) a).toNat (lineAt (s : Nat) (l : Nat) b).toNat = true ∧ (lineAt (s : Nat) (l : Nat) a).toNat < s * s ∧ (lineAt (s : Nat) (l : Nat) b).toNat < s * s := by
  have := line_adj0 s hs l hl a ha b hb; simp only [lineAdj, Bool.or_eq_true, beq_iff_eq, Bool.and_eq_true, Nat.blt_eq] at this
  rcases this with h | h
  · exact absurd h hab
  · exact h
theorem clash_iff {xs : List Int} {s : Nat} (hs : s ∈ [2, 3, 4]) : clash xs s = true ↔ ∃ i j, i < s * s ∧ j < s * s ∧ adj s i j = true ∧ nth xs i = nth xs j ∧ 0 < nth xs j := by
  have e2 : (2 * (s : Int)).toNat = 2 * s := by omega
  rw [clash, clashTo_iff, e2]
  constructor
  · rintro ⟨l, hl, h⟩; rw [dupTo_iff, Int.toNat_natCast] at h; obtain ⟨a, b, h1, h2, h3, h4⟩ := h; obtain ⟨p, q, r⟩ := line_adj s hs l hl a (by omega) b h2 (by omega); exact ⟨_, _, q, r, p, h3, h4⟩
  · rintro ⟨i, j, hi, hj, ha, he, hp⟩; obtain ⟨l, hl, a, ha', b, hb, hab, ei, ej⟩ := adj_line s hs i hi j hj ha; refine ⟨l, hl, ?_⟩; rw [dupTo_iff, Int.toNat_natCast]
    rcases Nat.lt_or_ge a b with h | h
    · exact ⟨a, b, h, hb, by unfold lineV; rw [ei, ej]; exact he, by unfold lineV; rw [ej]; exact hp⟩
    · exact ⟨b, a, by omega, ha', by unfold lineV; rw [ei, ej]; exact he.symm, by unfold lineV; rw [ei, he]; exact hp⟩
def mcells (M : Nat → Nat) (s : Int) : Array Value := #[.int .i64 (M 0), .int .i64 (M 1), .int .i64 (M 2), .int .i64 (M 3), .int .i64 (M 4), .int .i64 (M 5), .int .i64 (M 6), .int .i64 (M 7), .int .i64 s]
theorem mcell_at (M : Nat → Nat) (s : Int) {l : Nat} (hl : l < 8) : (mcells M s)[l]? = some (.int .i64 (M l)) := by
  have : l = 0 ∨ l = 1 ∨ l = 2 ∨ l = 3 ∨ l = 4 ∨ l = 5 ∨ l = 6 ∨ l = 7 := by omega
  rcases this with rfl | rfl | rfl | rfl | rfl | rfl | rfl | rfl <;> rfl
theorem linesThrough_any (s cell : Int) (w : World) (h2 : 2 ≤ s) (h4 : s ≤ 4) (c0 : 0 ≤ cell) (c1 : cell < 16) :
    Calls Tryz.prog 145 #[.int .i64 s, .int .i64 cell] w fun e w' => e = .returned (.tuple #[.int .i64 (cell / s), .int .i64 (s + cell % s)]) ∧ Below w.heap.size w w' := by
  have q0 : 0 ≤ cell / s := Int.ediv_nonneg c0 (by omega); have q1 : cell / s ≤ cell := Int.ediv_le_self _ c0; have r0 : 0 ≤ cell % s := Int.emod_nonneg _ (by omega); have r1 : cell % s < s := Int.emod_lt_of_pos _ (by omega); have e1 : cell.tmod s = cell % s := Int.tmod_eq_emod_of_nonneg c0; have e2 : cell.tdiv s = cell / s := Int.tdiv_eq_ediv_of_nonneg c0; have e3 : IntKind.i64.wrap (cell / s) = cell / s := IntWalk.i64_in _ (by omega); have e4 : IntKind.i64.wrap (s + cell % s) = s + cell % s := IntWalk.i64_in _ (by omega)
  have hz : (s == 0) = false := by simp; omega
  go_enter Tryz.func145, Tryz.ntmps145
  go_wp2
  go_quiet (fail)
  go_wp2
  go_ret2
  exact ⟨rfl, below_drewN (Below.refl _ _) _⟩
theorem or_pow (a v : Nat) (ha : a < 32) (hv : v ≤ 4) : bits .or .i64 (a : Int) (wrap64 (2 ^ v)) = ((a ||| 2 ^ v : Nat) : Int) := by
  have hlt : 2 ^ v < 2 ^ 5 := Nat.pow_lt_pow_right (by omega) (by omega); rw [pow_int]
  generalize 2 ^ v = p at *
  rw [IntWalk.wrap64_in _ ⟨by omega, by omega⟩, i64_or_nat _ _ (by omega) (by omega)]
def mput (M : Nat → Nat) (l v : Nat) : Nat → Nat := fun j => if j = l then M j ||| 2 ^ v else M j
theorem mcells_set (M : Nat → Nat) (s : Int) {l v : Nat} (hl : l < 8) : (mcells M s).setIfInBounds l (.int .i64 ((M l ||| 2 ^ v : Nat) : Int)) = mcells (mput M l v) s := by
  have : l = 0 ∨ l = 1 ∨ l = 2 ∨ l = 3 ∨ l = 4 ∨ l = 5 ∨ l = 6 ∨ l = 7 := by omega
  rcases this with rfl | rfl | rfl | rfl | rfl | rfl | rfl | rfl <;> rfl
def MBox (w : World) (g : Nat) (M : Nat → Nat) (s : Int) : Prop := w.heap[g]? = some (.cells (mcells M s) 80)
theorem MBox.cell {w : World} {g : Nat} {M : Nat → Nat} {s : Int} (h : MBox w g M s) {l : Nat} (hl : l < 8) : w.cell? ⟨g, l, none⟩ = some (.int .i64 (M l)) :=
  (cell_of_row _ _ l _ _ (0, 0) h).trans (mcell_at M s hl)
theorem MBox.size_ {w : World} {g : Nat} {M : Nat → Nat} {s : Int} (h : MBox w g M s) : w.cell? ⟨g, 8, none⟩ = some (.int .i64 s) :=
  (cell_of_row _ _ 8 _ _ (0, 0) h).trans rfl
theorem MBox.frozen {w : World} {g : Nat} {M : Nat → Nat} {s : Int} (h : MBox w g M s) (l : Nat) : w.frozen? ⟨g, l, none⟩ = false := by
  unfold World.frozen?; rw [show w.heap[g]? = _ from h]
  simp
theorem MBox.set {w : World} {g : Nat} {M : Nat → Nat} {s : Int} (h : MBox w g M s) {l v : Nat} (hl : l < 8) : MBox (w.setCell ⟨g, l, none⟩ (.int .i64 ((M l ||| 2 ^ v : Nat) : Int))) g (mput M l v) s := by
  unfold MBox; rw [heap_setCell_same w g l _ _ _ h, ← mcells_set M s hl]
theorem MBox.below {w w' : World} {g B : Nat} {M : Nat → Nat} {s : Int} (h : MBox w g M s) (hg : g < B) (hb : Below B w w') : MBox w' g M s := (hb.block g hg).trans h
theorem MBox.other {w : World} {g g' k : Nat} {v : Value} {M : Nat → Nat} {s : Int} (h : MBox w g M s) (hne : g ≠ g') : MBox (w.setCell ⟨g', k, none⟩ v) g M s := (heap_setCell_other w _ g v hne).trans h
theorem MBox.stored {w : World} {g : Nat} {M M' : Nat → Nat} {s s' : Int} (h : MBox w g M s) : MBox (w.setRow g (mcells M' s')) g M' s' := setRow_heap w g _ _ _ _ h
theorem setRow_below {B g : Nat} {w w' : World} {cs : Array Value} (h : Below B w w') (hg : B ≤ g) : Below B w (w'.setRow g cs) :=
  h.trans ⟨rfl, rfl, rfl, by simp, fun k hk => by unfold World.setRow; simp only [Array.getElem?_modify]; rw [if_neg (by omega)]⟩
theorem linesThrough_rc (s : Int) (cell r c : Nat) (w : World) (h2 : 2 ≤ s) (h4 : s ≤ 4) (c1 : cell < 16) (hr : (cell : Int) / s = (r : Int)) (hc : s + (cell : Int) % s = (c : Int)) :
    Calls Tryz.prog 145 #[.int .i64 s, .int .i64 cell] w fun e w' => e = .returned (.tuple #[.int .i64 r, .int .i64 c]) ∧ Below w.heap.size w w' := by
  rw [← hr, ← hc]; exact linesThrough_any s cell w h2 h4 (by omega) (by omega)
def sqFits (xs : List Int) (size : Int) : Bool := gv xs size && !clash xs size
def sqSolved (xs : List Int) (size : Int) : Bool := sqFits xs size && (gf xs size == size * size)
theorem cnz_full {xs : List Int} {n : Nat} : cnz xs n = n ↔ ∀ k, k < n → nth xs k ≠ 0 := by
  induction n with
  | zero => simp [cnz]
  | succ n ih =>
    have hle := cnz_le xs n
    constructor
    · intro h
      by_cases e : nth xs n = 0
      · rw [cnz_z e] at h; omega
      · rw [cnz_nz e] at h; have h' := ih.1 (by omega); intro k hk
        by_cases ek : k = n
        · subst ek; exact e
        · exact h' k (by omega)
    · intro h; rw [cnz_nz (h n (by omega)), ih.2 (fun k hk => h k (by omega))]
theorem solved_iff {xs : List Int} {size : Int} {n : Nat} (hl : xs.length = n) : sqSolved xs size = true ↔ gv xs size = true ∧ clash xs size = false ∧ ∀ k, k < n → nth xs k ≠ 0 := by
  subst hl; unfold sqSolved sqFits; simp only [Bool.and_eq_true, Bool.not_eq_true', beq_iff_eq]
  constructor
  · rintro ⟨⟨h1, h2⟩, h3⟩; refine ⟨h1, h2, ?_⟩; have := gv_len h1; unfold gf at h3; rw [if_pos h1] at h3; exact cnz_full.1 (by omega)
  · rintro ⟨h1, h2, h3⟩; refine ⟨⟨h1, h2⟩, ?_⟩; have := gv_len h1; unfold gf; rw [if_pos h1, cnz_full.2 h3]; omega
def pigB2 (a b v : Nat) : Bool := (a == 0 || b == 0 || v == 0) || ((a == b) || (a == v || b == v))
theorem pig2 : ∀ a, a < 3 → ∀ b, b < 3 → ∀ v, v < 3 → pigB2 a b v = true := by decide +kernel
def pigB3 (a b c v : Nat) : Bool := (a == 0 || b == 0 || c == 0 || v == 0) || ((a == b || a == c || b == c) || (a == v || b == v || c == v))
theorem pig3 : ∀ a, a < 4 → ∀ b, b < 4 → ∀ c, c < 4 → ∀ v, v < 4 → pigB3 a b c v = true := by decide +kernel
def pigB4 (a b c d v : Nat) : Bool := (a == 0 || b == 0 || c == 0 || d == 0 || v == 0) || ((a == b || a == c || a == d || b == c || b == d || c == d) || (a == v || b == v || c == v || d == v))
theorem pig4 : ∀ a, a < 5 → ∀ b, b < 5 → ∀ c, c < 5 → ∀ d, d < 5 → ∀ v, v < 5 → pigB4 a b c d v = true := by decide +kernel
theorem pig {f : Nat → Int} {s : Nat} (hs : s ∈ [2, 3, 4]) (hf : ∀ i, i < s → 1 ≤ f i ∧ f i ≤ s) (hd : dupTo f s = false) {v : Int} (v1 : 1 ≤ v) (v2 : v ≤ s) : hasTo f s v = true := by
  have hne : ∀ i j, i < j → j < s → f i ≠ f j := by
    intro i j hij hj he; have : dupTo f s = true := dupTo_iff.2 ⟨i, j, hij, hj, he, by have := hf j hj; omega⟩; rw [hd] at this; cases this
  have hT : ∀ i, i < s → ((f i).toNat : Int) = f i := fun i hi => Int.toNat_of_nonneg (by have := hf i hi; omega)
  simp at hs
  rw [hasTo_iff]
  rcases hs with rfl | rfl | rfl
  · have b0 := hf 0 (by omega); have b1 := hf 1 (by omega); have n01 := hne 0 1 (by omega) (by omega); have hp := pig2 (f 0).toNat (by omega) (f 1).toNat (by omega) v.toNat (by omega); simp only [pigB2, Bool.or_eq_true, beq_iff_eq] at hp
    have hp' : (f 0).toNat = v.toNat ∨ (f 1).toNat = v.toNat := by omega
    clear hp
    rcases hp' with h | h
    · exact ⟨0, by omega, by omega⟩
    · exact ⟨1, by omega, by omega⟩
  · have b0 := hf 0 (by omega); have b1 := hf 1 (by omega); have b2 := hf 2 (by omega); have n01 := hne 0 1 (by omega) (by omega); have n02 := hne 0 2 (by omega) (by omega); have n12 := hne 1 2 (by omega) (by omega); have hp := pig3 (f 0).toNat (by omega) (f 1).toNat (by omega) (f 2).toNat (by omega) v.toNat (by omega); simp only [pigB3, Bool.or_eq_true, beq_iff_eq] at hp
    have hp' : (f 0).toNat = v.toNat ∨ (f 1).toNat = v.toNat ∨ (f 2).toNat = v.toNat := by omega
    clear hp
    rcases hp' with h | h | h
    · exact ⟨0, by omega, by omega⟩
    · exact ⟨1, by omega, by omega⟩
    · exact ⟨2, by omega, by omega⟩
  · have b0 := hf 0 (by omega); have b1 := hf 1 (by omega); have b2 := hf 2 (by omega); have b3 := hf 3 (by omega); have n01 := hne 0 1 (by omega) (by omega); have n02 := hne 0 2 (by omega) (by omega); have n03 := hne 0 3 (by omega) (by omega); have n12 := hne 1 2 (by omega) (by omega); have n13 := hne 1 3 (by omega) (by omega); have n23 := hne 2 3 (by omega) (by omega); have hp := pig4 (f 0).toNat (by omega) (f 1).toNat (by omega) (f 2).toNat (by omega) (f 3).toNat (by omega) v.toNat (by omega); simp only [pigB4, Bool.or_eq_true, beq_iff_eq] at hp
    have hp' : (f 0).toNat = v.toNat ∨ (f 1).toNat = v.toNat ∨ (f 2).toNat = v.toNat ∨ (f 3).toNat = v.toNat := by omega
    clear hp
    rcases hp' with h | h | h | h
    · exact ⟨0, by omega, by omega⟩
    · exact ⟨1, by omega, by omega⟩
    · exact ⟨2, by omega, by omega⟩
    · exact ⟨3, by omega, by omega⟩
theorem okTo3_iff {xs : List Int} {s : Int} {k : Nat} {v : Int} (m : Nat) : okTo3 xs s k v m = true ↔ ∀ j, j < m → ok3 xs s k v j = true := by
  induction m with
  | zero => simp [okTo3]
  | succ m ih =>
    rw [okTo3, Bool.and_eq_true, ih]
    constructor
    · rintro ⟨h1, h2⟩ j hj
      by_cases e : j = m
      · subst e; exact h2
      · exact h1 j (by omega)
    · intro h; exact ⟨fun j hj => h j (by omega), h m (by omega)⟩
def seen3 (s k i : Nat) : Bool := (List.range s).any fun j => ((rIx (s : Nat) k j).toNat == i) || ((cIx (s : Nat) k j).toNat == i)
theorem seen_adj : ∀ s ∈ [2, 3, 4], ∀ k, k < s * s → ∀ i, i < s * s → adj s i k = true → seen3 s k i = true := by decide +kernel
def adjSeen (s k j : Nat) : Bool := ((rIx (s : Nat) k j == (k : Int)) || (adj s (rIx (s : Nat) k j).toNat k && Nat.blt (rIx (s : Nat) k j).toNat (s * s))) && ((cIx (s : Nat) k j == (k : Int)) || (adj s (cIx (s : Nat) k j).toNat k && Nat.blt (cIx (s : Nat) k j).toNat (s * s)))
theorem adj_seen : ∀ s ∈ [2, 3, 4], ∀ k, k < s * s → ∀ j, j < s → adjSeen s k j = true := by decide +kernel
theorem ix_nn : ∀ s ∈ [2, 3, 4], ∀ k, k < s * s → ∀ j, j < s → ((rIx (s : Nat) k j).toNat : Int) = rIx (s : Nat) k j ∧ ((cIx (s : Nat) k j).toNat : Int) = cIx (s : Nat) k j := by decide +kernel
theorem adj_ne (s i j : Nat) : (adj s i j = true → i ≠ j) ∧ True := ⟨fun h => by simp only [adj, Bool.and_eq_true, bne_iff_ne] at h; exact h.1, trivial⟩
theorem adj_sym : ∀ s ∈ [2, 3, 4], ∀ i, i < s * s → ∀ j, j < s * s → adj s i j = adj s j i := by decide +kernel
theorem ok3_adj {xs : List Int} {s k : Nat} (hs : s ∈ [2, 3, 4]) (hk : k < s * s) (v : Int) : okTo3 xs s k v s = true ↔ ∀ i, i < s * s → adj s i k = true → nth xs i ≠ v := by
  rw [okTo3_iff]
  constructor
  · intro h i hi ha he; have := seen_adj s hs k hk i hi ha; simp only [seen3, List.any_eq_true, List.mem_range, Bool.or_eq_true, beq_iff_eq] at this; obtain ⟨j, hj, hor⟩ := this; have ho := h j hj; obtain ⟨n1, n2⟩ := ix_nn s hs k hk j hj; have hne := ((adj_ne s i k).1 ha); simp only [ok3, Bool.and_eq_true, Bool.or_eq_true, beq_iff_eq, bne_iff_ne] at ho
    rcases hor with e | e
    · rcases ho.1 with h1 | h1
      · omega
      · rw [e] at h1; exact h1 he
    · rcases ho.2 with h1 | h1
      · omega
      · rw [e] at h1; exact h1 he
  · intro h j hj; have := adj_seen s hs k hk j hj; simp only [adjSeen, Bool.and_eq_true, Bool.or_eq_true, beq_iff_eq, Nat.blt_eq] at this; simp only [ok3, Bool.and_eq_true, Bool.or_eq_true, beq_iff_eq, bne_iff_ne]; refine ⟨?_, ?_⟩
    · rcases this.1 with e | ⟨e1, e2⟩
      · exact .inl e
      · exact .inr (h _ e2 e1)
    · rcases this.2 with e | ⟨e1, e2⟩
      · exact .inl e
      · exact .inr (h _ e2 e1)
theorem candTo_test (xs : List Int) (s : Int) (k u : Nat) : ∀ v, (candTo xs s k v).testBit u = true ↔ 1 ≤ u ∧ u ≤ v ∧ okTo3 xs s k (u : Int) s.toNat = true := by
  intro v
  induction v with
  | zero => simp [candTo]; omega
  | succ v ih =>
    have hc : ((v : Int) + 1) = ((v + 1 : Nat) : Int) := by omega
    simp only [candTo]
    split
    · next h =>
      rw [hc] at h; rw [Nat.testBit_or, Bool.or_eq_true, ih, Nat.testBit_two_pow, decide_eq_true_eq]
      constructor
      · rintro (⟨h1, h2, h3⟩ | rfl)
        · exact ⟨h1, by omega, h3⟩
        · exact ⟨by omega, Nat.le_refl _, h⟩
      · rintro ⟨h1, h2, h3⟩
        by_cases e : u = v + 1
        · exact .inr e.symm
        · exact .inl ⟨h1, by omega, h3⟩
    · next h =>
      rw [hc] at h; rw [ih]
      constructor
      · rintro ⟨h1, h2, h3⟩; exact ⟨h1, by omega, h3⟩
      · rintro ⟨h1, h2, h3⟩; refine ⟨h1, ?_, h3⟩
        by_cases e : u = v + 1
        · subst e; exact absurd h3 h
        · omega
theorem candN_lt {xs : List Int} {s n : Nat} (hs4 : s ≤ 4) (hok : okAll xs s n) {k : Nat} (hk : k < n) : candN xs s k < 32 := by
  unfold candN
  split
  · have := hok k hk; exact Nat.pow_lt_pow_right (n := 5) (by omega) (by omega)
  · exact candTo_lt _ _ _ _ (by omega)
end Go.Proofs.YtcjdjcpappfkgaaGreatDoor
