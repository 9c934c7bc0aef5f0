import Derived.Test.YtkeoflnmbcdmfaaDoorQ4V
import Derived.Test.YtkeoflnmbcdmfaaDoorBase
import Derived.Test.YtkeoflnmbcdmfaaDoorR4M
import Derived.Test.YtkeoflnmbcdmfaaDoorC1
import Derived.Test.YtkeoflnmbcdmfaaDoorP5S
import Derived.Test.YtkeoflnmbcdmfaaDoorOwnL
import Derived.Test.YtkeoflnmbcdmfaaDoorHp
import Derived.Test.YtkeoflnmbcdmfaaDoorMadeR
import Derived.Test.YtkeoflnmbcdmfaaDoorCln
import Derived.Test.YtkeoflnmbcdmfaaDoorRInts
import Derived.Test.YtkeoflnmbcdmfaaDoorPz
import Derived.Deep.RegionWith
import Derived.Test.YtkeoflnmbcdmfaaDoorPInB
set_option maxRecDepth 8000
namespace Go.Proofs.YtkeoflnmbcdmfaaDoor
open Go.ChangeShapes Go.WideShapes Go.ChangeAt Go.RowKit

theorem shp_false {k v : Int} {xs : List Int} {n : Nat} {s : Int} (hl : xs.length = n) (h : shp k v n s = false) : rv k xs v s = false := by
  subst hl
  unfold shp at h
  unfold rv
  cases h4 : decide (xs.length ≤ 4)
  · simp
  · rw [h4, Bool.true_and] at h
    rw [h, Bool.and_false]
theorem shp_true {k v : Int} {xs : List Int} {n : Nat} {s : Int} (hl : xs.length = n) (hs : inr s 2 4 = true) (h : shp k v n s = true) : rv k xs v s = (List.range n).all (cellOk (s * s - 1) xs) := by
  subst hl
  unfold shp at h
  rw [Bool.and_eq_true] at h
  unfold rv
  rw [hs, h.1, h.2, Bool.and_true, Bool.true_and, Bool.true_and]
theorem mShaped1 (k v : Int) (A : Option Addr) (n c : Nat) (w : World) : (method 264 135 (.agg #[.int .i64 k, .slice A n c, .int .i64 v]) "loop.example/gridpuzzles/impl.shaped").run Tryd.prog w = .ok (161, .agg #[.int .i64 k, .slice A n c, .int .i64 v]) w := by kernel_rfl
theorem mHolds1 (k v : Int) (A : Option Addr) (n c : Nat) (w : World) : (method 264 135 (.agg #[.int .i64 k, .slice A n c, .int .i64 v]) "loop.example/gridpuzzles/impl.holdsWith").run Tryd.prog w = .ok (160, .agg #[.int .i64 k, .slice A n c, .int .i64 v]) w := by kernel_rfl
theorem ruleValid1 (A : Option Addr) (c n B : Nat) (xs : List Int) (v size : Int) (w : World) (h : Rd w B A n xs) (hB : B ≤ w.heap.size) (hm : n ≤ 1099511627776) (hcap : n ≤ c) (hs : inr size 2 4 = true) :
    Calls Tryd.prog 112 #[.agg #[.int .i64 1, .slice A n c, .int .i64 v], .int .i64 size] w fun e w' => e = .returned (.bool (rv 1 xs v size)) ∧ Below w.heap.size w w' := by
  have hlen := Lib.hid h.1
  have hx0 := rbox_new w 1 A n c v 63
  have hb0 : Below w.heap.size w (w.alloc (.cells #[.int .i64 1, .slice A n c, .int .i64 v] 63)) := (Below.refl _ _).alloc (Nat.le_refl _) _
  have hsz0 : w.heap.size < (w.alloc (.cells #[.int .i64 1, .slice A n c, .int .i64 v] 63)).heap.size := by simp
  obtain ⟨k0, k1, k2⟩ := id hx0
  obtain ⟨h2s, h4s⟩ := inr_t hs
  have M : ∀ w, (method 264 135 (.agg #[.int .i64 1, .slice A n c, .int .i64 v]) "loop.example/gridpuzzles/impl.shaped").run Tryd.prog w = .ok (161, .agg #[.int .i64 1, .slice A n c, .int .i64 v]) w := fun w => mShaped1 _ _ _ _ _ w
  cases hsh : shp 1 v n size
  · have HL := Lib.hid (shp_false hlen.out hsh)
    go_enter Tryd.func112, Tryd.ntmps112
    go_wp2_with (first | (go_at_call 105; refine (sizeValid_any _ _).mono ?_; rintro e w' ⟨rfl, rfl⟩; rw [hs]) | (go_at_call 125; refine (ofKind_any _ _ _ _ _ _).mono ?_; rintro e w1 ⟨rfl, hb1⟩; have hB1 := step hb0 hb1; rw [show ofk 1 (rval 1 A n c v) = .iface 135 (.agg #[.int .i64 1, .slice A n c, .int .i64 v]) from rfl]) | (go_at_call 161; refine (differentShaped _ _ _ _ _ _ h2s h4s _).mono ?_; rintro e w2 ⟨rfl, hb2⟩; rw [hsh]; have hB2 := step hB1 hb2))
    go_ret
    exact ⟨by rw [HL.out]; rfl, hB2⟩
  · have HL := Lib.hid (shp_true hlen.out hs hsh)
    go_enter Tryd.func112, Tryd.ntmps112
    go_wp2_with (first | (go_at_call 105; refine (sizeValid_any _ _).mono ?_; rintro e w' ⟨rfl, rfl⟩; rw [hs]) | (go_at_call 125; refine (ofKind_any _ _ _ _ _ _).mono ?_; rintro e w1 ⟨rfl, hb1⟩; have hB1 := step hb0 hb1; have hx1 := hx0.below hsz0 hb1; rw [show ofk 1 (rval 1 A n c v) = .iface 135 (.agg #[.int .i64 1, .slice A n c, .int .i64 v]) from rfl]) | (go_at_call 161; refine (differentShaped _ _ _ _ _ _ h2s h4s _).mono ?_; rintro e w2 ⟨rfl, hb2⟩; rw [hsh]; have hB2 := step hB1 hb2; obtain ⟨j0, j1, j2⟩ := hx1.below (Nat.lt_of_lt_of_le hsz0 hb1.size) hb2) | (go_at_call 126; refine (cellsDiffer_any _ _ _ _ _ _ h2s h4s _ (h.below (hB2.mono hB)) hm hcap).mono ?_; rintro e w3 ⟨rfl, rfl⟩))
    go_ret
    exact ⟨by rw [HL.out]; rfl, hB2⟩

theorem mShaped2 (k v : Int) (A : Option Addr) (n c : Nat) (w : World) : (method 264 136 (.agg #[.int .i64 k, .slice A n c, .int .i64 v]) "loop.example/gridpuzzles/impl.shaped").run Tryd.prog w = .ok (163, .agg #[.int .i64 k, .slice A n c, .int .i64 v]) w := by kernel_rfl
theorem mHolds2 (k v : Int) (A : Option Addr) (n c : Nat) (w : World) : (method 264 136 (.agg #[.int .i64 k, .slice A n c, .int .i64 v]) "loop.example/gridpuzzles/impl.holdsWith").run Tryd.prog w = .ok (162, .agg #[.int .i64 k, .slice A n c, .int .i64 v]) w := by kernel_rfl
theorem ruleValid2 (A : Option Addr) (c n B : Nat) (xs : List Int) (v size : Int) (w : World) (h : Rd w B A n xs) (hB : B ≤ w.heap.size) (hm : n ≤ 1099511627776) (hcap : n ≤ c) (hs : inr size 2 4 = true) :
    Calls Tryd.prog 112 #[.agg #[.int .i64 2, .slice A n c, .int .i64 v], .int .i64 size] w fun e w' => e = .returned (.bool (rv 2 xs v size)) ∧ Below w.heap.size w w' := by
  have hlen := Lib.hid h.1
  have hx0 := rbox_new w 2 A n c v 63
  have hb0 : Below w.heap.size w (w.alloc (.cells #[.int .i64 2, .slice A n c, .int .i64 v] 63)) := (Below.refl _ _).alloc (Nat.le_refl _) _
  have hsz0 : w.heap.size < (w.alloc (.cells #[.int .i64 2, .slice A n c, .int .i64 v] 63)).heap.size := by simp
  obtain ⟨k0, k1, k2⟩ := id hx0
  obtain ⟨h2s, h4s⟩ := inr_t hs
  have M : ∀ w, (method 264 136 (.agg #[.int .i64 2, .slice A n c, .int .i64 v]) "loop.example/gridpuzzles/impl.shaped").run Tryd.prog w = .ok (163, .agg #[.int .i64 2, .slice A n c, .int .i64 v]) w := fun w => mShaped2 _ _ _ _ _ w
  cases hsh : shp 2 v n size
  · have HL := Lib.hid (shp_false hlen.out hsh)
    go_enter Tryd.func112, Tryd.ntmps112
    go_wp2_with (first | (go_at_call 105; refine (sizeValid_any _ _).mono ?_; rintro e w' ⟨rfl, rfl⟩; rw [hs]) | (go_at_call 125; refine (ofKind_any _ _ _ _ _ _).mono ?_; rintro e w1 ⟨rfl, hb1⟩; have hB1 := step hb0 hb1; rw [show ofk 2 (rval 2 A n c v) = .iface 136 (.agg #[.int .i64 2, .slice A n c, .int .i64 v]) from rfl]) | (go_at_call 163; refine (sumShaped _ _ _ _ _ _ h2s h4s _).mono ?_; rintro e w2 ⟨rfl, hb2⟩; rw [hsh]; have hB2 := step hB1 hb2))
    go_ret
    exact ⟨by rw [HL.out]; rfl, hB2⟩
  · have HL := Lib.hid (shp_true hlen.out hs hsh)
    go_enter Tryd.func112, Tryd.ntmps112
    go_wp2_with (first | (go_at_call 105; refine (sizeValid_any _ _).mono ?_; rintro e w' ⟨rfl, rfl⟩; rw [hs]) | (go_at_call 125; refine (ofKind_any _ _ _ _ _ _).mono ?_; rintro e w1 ⟨rfl, hb1⟩; have hB1 := step hb0 hb1; have hx1 := hx0.below hsz0 hb1; rw [show ofk 2 (rval 2 A n c v) = .iface 136 (.agg #[.int .i64 2, .slice A n c, .int .i64 v]) from rfl]) | (go_at_call 163; refine (sumShaped _ _ _ _ _ _ h2s h4s _).mono ?_; rintro e w2 ⟨rfl, hb2⟩; rw [hsh]; have hB2 := step hB1 hb2; obtain ⟨j0, j1, j2⟩ := hx1.below (Nat.lt_of_lt_of_le hsz0 hb1.size) hb2) | (go_at_call 126; refine (cellsDiffer_any _ _ _ _ _ _ h2s h4s _ (h.below (hB2.mono hB)) hm hcap).mono ?_; rintro e w3 ⟨rfl, rfl⟩))
    go_ret
    exact ⟨by rw [HL.out]; rfl, hB2⟩

theorem mShaped3 (k v : Int) (A : Option Addr) (n c : Nat) (w : World) : (method 264 137 (.agg #[.int .i64 k, .slice A n c, .int .i64 v]) "loop.example/gridpuzzles/impl.shaped").run Tryd.prog w = .ok (166, .agg #[.int .i64 k, .slice A n c, .int .i64 v]) w := by kernel_rfl
theorem mHolds3 (k v : Int) (A : Option Addr) (n c : Nat) (w : World) : (method 264 137 (.agg #[.int .i64 k, .slice A n c, .int .i64 v]) "loop.example/gridpuzzles/impl.holdsWith").run Tryd.prog w = .ok (165, .agg #[.int .i64 k, .slice A n c, .int .i64 v]) w := by kernel_rfl
theorem ruleValid3 (A : Option Addr) (c n B : Nat) (xs : List Int) (v size : Int) (w : World) (h : Rd w B A n xs) (hB : B ≤ w.heap.size) (hm : n ≤ 1099511627776) (hcap : n ≤ c) (hs : inr size 2 4 = true) :
    Calls Tryd.prog 112 #[.agg #[.int .i64 3, .slice A n c, .int .i64 v], .int .i64 size] w fun e w' => e = .returned (.bool (rv 3 xs v size)) ∧ Below w.heap.size w w' := by
  have hlen := Lib.hid h.1
  have hx0 := rbox_new w 3 A n c v 63
  have hb0 : Below w.heap.size w (w.alloc (.cells #[.int .i64 3, .slice A n c, .int .i64 v] 63)) := (Below.refl _ _).alloc (Nat.le_refl _) _
  have hsz0 : w.heap.size < (w.alloc (.cells #[.int .i64 3, .slice A n c, .int .i64 v] 63)).heap.size := by simp
  obtain ⟨k0, k1, k2⟩ := id hx0
  obtain ⟨h2s, h4s⟩ := inr_t hs
  have M : ∀ w, (method 264 137 (.agg #[.int .i64 3, .slice A n c, .int .i64 v]) "loop.example/gridpuzzles/impl.shaped").run Tryd.prog w = .ok (166, .agg #[.int .i64 3, .slice A n c, .int .i64 v]) w := fun w => mShaped3 _ _ _ _ _ w
  cases hsh : shp 3 v n size
  · have HL := Lib.hid (shp_false hlen.out hsh)
    go_enter Tryd.func112, Tryd.ntmps112
    go_wp2_with (first | (go_at_call 105; refine (sizeValid_any _ _).mono ?_; rintro e w' ⟨rfl, rfl⟩; rw [hs]) | (go_at_call 125; refine (ofKind_any _ _ _ _ _ _).mono ?_; rintro e w1 ⟨rfl, hb1⟩; have hB1 := step hb0 hb1; rw [show ofk 3 (rval 3 A n c v) = .iface 137 (.agg #[.int .i64 3, .slice A n c, .int .i64 v]) from rfl]) | (go_at_call 166; refine (productShaped _ _ _ _ _ _ h2s h4s _).mono ?_; rintro e w2 ⟨rfl, hb2⟩; rw [hsh]; have hB2 := step hB1 hb2))
    go_ret
    exact ⟨by rw [HL.out]; rfl, hB2⟩
  · have HL := Lib.hid (shp_true hlen.out hs hsh)
    go_enter Tryd.func112, Tryd.ntmps112
    go_wp2_with (first | (go_at_call 105; refine (sizeValid_any _ _).mono ?_; rintro e w' ⟨rfl, rfl⟩; rw [hs]) | (go_at_call 125; refine (ofKind_any _ _ _ _ _ _).mono ?_; rintro e w1 ⟨rfl, hb1⟩; have hB1 := step hb0 hb1; have hx1 := hx0.below hsz0 hb1; rw [show ofk 3 (rval 3 A n c v) = .iface 137 (.agg #[.int .i64 3, .slice A n c, .int .i64 v]) from rfl]) | (go_at_call 166; refine (productShaped _ _ _ _ _ _ h2s h4s _).mono ?_; rintro e w2 ⟨rfl, hb2⟩; rw [hsh]; have hB2 := step hB1 hb2; obtain ⟨j0, j1, j2⟩ := hx1.below (Nat.lt_of_lt_of_le hsz0 hb1.size) hb2) | (go_at_call 126; refine (cellsDiffer_any _ _ _ _ _ _ h2s h4s _ (h.below (hB2.mono hB)) hm hcap).mono ?_; rintro e w3 ⟨rfl, rfl⟩))
    go_ret
    exact ⟨by rw [HL.out]; rfl, hB2⟩

theorem mShaped4 (k v : Int) (A : Option Addr) (n c : Nat) (w : World) : (method 264 138 (.agg #[.int .i64 k, .slice A n c, .int .i64 v]) "loop.example/gridpuzzles/impl.shaped").run Tryd.prog w = .ok (168, .agg #[.int .i64 k, .slice A n c, .int .i64 v]) w := by kernel_rfl
theorem mHolds4 (k v : Int) (A : Option Addr) (n c : Nat) (w : World) : (method 264 138 (.agg #[.int .i64 k, .slice A n c, .int .i64 v]) "loop.example/gridpuzzles/impl.holdsWith").run Tryd.prog w = .ok (167, .agg #[.int .i64 k, .slice A n c, .int .i64 v]) w := by kernel_rfl
theorem ruleValid4 (A : Option Addr) (c n B : Nat) (xs : List Int) (v size : Int) (w : World) (h : Rd w B A n xs) (hB : B ≤ w.heap.size) (hm : n ≤ 1099511627776) (hcap : n ≤ c) (hs : inr size 2 4 = true) :
    Calls Tryd.prog 112 #[.agg #[.int .i64 4, .slice A n c, .int .i64 v], .int .i64 size] w fun e w' => e = .returned (.bool (rv 4 xs v size)) ∧ Below w.heap.size w w' := by
  have hlen := Lib.hid h.1
  have hx0 := rbox_new w 4 A n c v 63
  have hb0 : Below w.heap.size w (w.alloc (.cells #[.int .i64 4, .slice A n c, .int .i64 v] 63)) := (Below.refl _ _).alloc (Nat.le_refl _) _
  have hsz0 : w.heap.size < (w.alloc (.cells #[.int .i64 4, .slice A n c, .int .i64 v] 63)).heap.size := by simp
  obtain ⟨k0, k1, k2⟩ := id hx0
  obtain ⟨h2s, h4s⟩ := inr_t hs
  have M : ∀ w, (method 264 138 (.agg #[.int .i64 4, .slice A n c, .int .i64 v]) "loop.example/gridpuzzles/impl.shaped").run Tryd.prog w = .ok (168, .agg #[.int .i64 4, .slice A n c, .int .i64 v]) w := fun w => mShaped4 _ _ _ _ _ w
  cases hsh : shp 4 v n size
  · have HL := Lib.hid (shp_false hlen.out hsh)
    go_enter Tryd.func112, Tryd.ntmps112
    go_wp2_with (first | (go_at_call 105; refine (sizeValid_any _ _).mono ?_; rintro e w' ⟨rfl, rfl⟩; rw [hs]) | (go_at_call 125; refine (ofKind_any _ _ _ _ _ _).mono ?_; rintro e w1 ⟨rfl, hb1⟩; have hB1 := step hb0 hb1; rw [show ofk 4 (rval 4 A n c v) = .iface 138 (.agg #[.int .i64 4, .slice A n c, .int .i64 v]) from rfl]) | (go_at_call 168; refine (lessShaped _ _ _ _ _ _ h2s h4s _).mono ?_; rintro e w2 ⟨rfl, hb2⟩; rw [hsh]; have hB2 := step hB1 hb2))
    go_ret
    exact ⟨by rw [HL.out]; rfl, hB2⟩
  · have HL := Lib.hid (shp_true hlen.out hs hsh)
    go_enter Tryd.func112, Tryd.ntmps112
    go_wp2_with (first | (go_at_call 105; refine (sizeValid_any _ _).mono ?_; rintro e w' ⟨rfl, rfl⟩; rw [hs]) | (go_at_call 125; refine (ofKind_any _ _ _ _ _ _).mono ?_; rintro e w1 ⟨rfl, hb1⟩; have hB1 := step hb0 hb1; have hx1 := hx0.below hsz0 hb1; rw [show ofk 4 (rval 4 A n c v) = .iface 138 (.agg #[.int .i64 4, .slice A n c, .int .i64 v]) from rfl]) | (go_at_call 168; refine (lessShaped _ _ _ _ _ _ h2s h4s _).mono ?_; rintro e w2 ⟨rfl, hb2⟩; rw [hsh]; have hB2 := step hB1 hb2; obtain ⟨j0, j1, j2⟩ := hx1.below (Nat.lt_of_lt_of_le hsz0 hb1.size) hb2) | (go_at_call 126; refine (cellsDiffer_any _ _ _ _ _ _ h2s h4s _ (h.below (hB2.mono hB)) hm hcap).mono ?_; rintro e w3 ⟨rfl, rfl⟩))
    go_ret
    exact ⟨by rw [HL.out]; rfl, hB2⟩

theorem mShaped5 (k v : Int) (A : Option Addr) (n c : Nat) (w : World) : (method 264 139 (.agg #[.int .i64 k, .slice A n c, .int .i64 v]) "loop.example/gridpuzzles/impl.shaped").run Tryd.prog w = .ok (170, .agg #[.int .i64 k, .slice A n c, .int .i64 v]) w := by kernel_rfl
theorem mHolds5 (k v : Int) (A : Option Addr) (n c : Nat) (w : World) : (method 264 139 (.agg #[.int .i64 k, .slice A n c, .int .i64 v]) "loop.example/gridpuzzles/impl.holdsWith").run Tryd.prog w = .ok (169, .agg #[.int .i64 k, .slice A n c, .int .i64 v]) w := by kernel_rfl
theorem ruleValid5 (A : Option Addr) (c n B : Nat) (xs : List Int) (v size : Int) (w : World) (h : Rd w B A n xs) (hB : B ≤ w.heap.size) (hm : n ≤ 1099511627776) (hcap : n ≤ c) (hs : inr size 2 4 = true) :
    Calls Tryd.prog 112 #[.agg #[.int .i64 5, .slice A n c, .int .i64 v], .int .i64 size] w fun e w' => e = .returned (.bool (rv 5 xs v size)) ∧ Below w.heap.size w w' := by
  have hlen := Lib.hid h.1
  have hx0 := rbox_new w 5 A n c v 63
  have hb0 : Below w.heap.size w (w.alloc (.cells #[.int .i64 5, .slice A n c, .int .i64 v] 63)) := (Below.refl _ _).alloc (Nat.le_refl _) _
  have hsz0 : w.heap.size < (w.alloc (.cells #[.int .i64 5, .slice A n c, .int .i64 v] 63)).heap.size := by simp
  obtain ⟨k0, k1, k2⟩ := id hx0
  obtain ⟨h2s, h4s⟩ := inr_t hs
  have M : ∀ w, (method 264 139 (.agg #[.int .i64 5, .slice A n c, .int .i64 v]) "loop.example/gridpuzzles/impl.shaped").run Tryd.prog w = .ok (170, .agg #[.int .i64 5, .slice A n c, .int .i64 v]) w := fun w => mShaped5 _ _ _ _ _ w
  cases hsh : shp 5 v n size
  · have HL := Lib.hid (shp_false hlen.out hsh)
    go_enter Tryd.func112, Tryd.ntmps112
    go_wp2_with (first | (go_at_call 105; refine (sizeValid_any _ _).mono ?_; rintro e w' ⟨rfl, rfl⟩; rw [hs]) | (go_at_call 125; refine (ofKind_any _ _ _ _ _ _).mono ?_; rintro e w1 ⟨rfl, hb1⟩; have hB1 := step hb0 hb1; rw [show ofk 5 (rval 5 A n c v) = .iface 139 (.agg #[.int .i64 5, .slice A n c, .int .i64 v]) from rfl]) | (go_at_call 170; refine (apartShaped _ _ _ _ _ _ h2s h4s _).mono ?_; rintro e w2 ⟨rfl, hb2⟩; rw [hsh]; have hB2 := step hB1 hb2))
    go_ret
    exact ⟨by rw [HL.out]; rfl, hB2⟩
  · have HL := Lib.hid (shp_true hlen.out hs hsh)
    go_enter Tryd.func112, Tryd.ntmps112
    go_wp2_with (first | (go_at_call 105; refine (sizeValid_any _ _).mono ?_; rintro e w' ⟨rfl, rfl⟩; rw [hs]) | (go_at_call 125; refine (ofKind_any _ _ _ _ _ _).mono ?_; rintro e w1 ⟨rfl, hb1⟩; have hB1 := step hb0 hb1; have hx1 := hx0.below hsz0 hb1; rw [show ofk 5 (rval 5 A n c v) = .iface 139 (.agg #[.int .i64 5, .slice A n c, .int .i64 v]) from rfl]) | (go_at_call 170; refine (apartShaped _ _ _ _ _ _ h2s h4s _).mono ?_; rintro e w2 ⟨rfl, hb2⟩; rw [hsh]; have hB2 := step hB1 hb2; obtain ⟨j0, j1, j2⟩ := hx1.below (Nat.lt_of_lt_of_le hsz0 hb1.size) hb2) | (go_at_call 126; refine (cellsDiffer_any _ _ _ _ _ _ h2s h4s _ (h.below (hB2.mono hB)) hm hcap).mono ?_; rintro e w3 ⟨rfl, rfl⟩))
    go_ret
    exact ⟨by rw [HL.out]; rfl, hB2⟩

theorem implRuleValid (A : Option Addr) (c n B : Nat) (xs : List Int) (k v size : Int) (w : World) (h : Rd w B A n xs) (hB : B ≤ w.heap.size) (hm : n ≤ 1099511627776) (hcap : n ≤ c) :
    Calls Tryd.prog 112 #[.agg #[.int .i64 k, .slice A n c, .int .i64 v], .int .i64 size] w fun e w' => e = .returned (.bool (rv k xs v size)) ∧ Below w.heap.size w w' := by
  have hx0 := rbox_new w k A n c v 63
  have hb0 : Below w.heap.size w (w.alloc (.cells #[.int .i64 k, .slice A n c, .int .i64 v] 63)) := (Below.refl _ _).alloc (Nat.le_refl _) _
  obtain ⟨k0, k1, k2⟩ := id hx0
  cases hs : inr size 2 4
  · have HL := Lib.hid (show rv k xs v size = false by simp [rv, hs])
    go_enter Tryd.func112, Tryd.ntmps112
    go_wp2_with (go_at_call 105; refine (sizeValid_any _ _).mono ?_; rintro e w' ⟨rfl, rfl⟩; rw [hs])
    go_ret
    exact ⟨by rw [HL.out]; rfl, hb0⟩
  · have hcase : k = 1 ∨ k = 2 ∨ k = 3 ∨ k = 4 ∨ k = 5 ∨ ((k == 1) = false ∧ (k == 2) = false ∧ (k == 3) = false ∧ (k == 4) = false ∧ (k == 5) = false) := by simp only [beq_eq_false_iff_ne]; omega
    rcases hcase with rfl | rfl | rfl | rfl | rfl | ⟨e1, e2, e3, e4, e5⟩
    · exact ruleValid1 _ _ _ _ _ _ _ _ h hB hm hcap hs
    · exact ruleValid2 _ _ _ _ _ _ _ _ h hB hm hcap hs
    · exact ruleValid3 _ _ _ _ _ _ _ _ h hB hm hcap hs
    · exact ruleValid4 _ _ _ _ _ _ _ _ h hB hm hcap hs
    · exact ruleValid5 _ _ _ _ _ _ _ _ h hB hm hcap hs
    · have HK : Hid (ofk k (rval k A n c v) = .nilIface) := Lib.hid (by
        unfold ofk
        rw [if_neg (by simpa using e1), if_neg (by simpa using e2), if_neg (by simpa using e3), if_neg (by simpa using e4), if_neg (by simpa using e5)])
      have HL := Lib.hid (show rv k xs v size = false by
        have : kindOk k v xs.length size = false := by
          unfold kindOk
          rw [if_neg (by simpa using e1), if_neg (by simpa using e2), if_neg (by simpa using e3), if_neg (by simpa using e4), if_neg (by simpa using e5)]
        unfold rv
        rw [this, Bool.and_false])
      go_enter Tryd.func112, Tryd.ntmps112
      go_wp2_with (first | (go_at_call 105; refine (sizeValid_any _ _).mono ?_; rintro e w' ⟨rfl, rfl⟩; rw [hs]) | (go_at_call 125; refine (ofKind_any _ _ _ _ _ _).mono ?_; rintro e w1 ⟨rfl, hb1⟩; have hB1 := step hb0 hb1; rw [HK.out]))
      go_ret
      exact ⟨by rw [HL.out]; rfl, hB1⟩
end Go.Proofs.YtkeoflnmbcdmfaaDoor
set_option maxRecDepth 8000
namespace Go.Proofs.YtkeoflnmbcdmfaaDoor
open Go.ChangeShapes Go.WideShapes Go.ChangeAt Go.RowKit

/-- the elements with the given numbers. -/
def pks (g xs : List Int) (n : Nat) : List Int := mapTo (fun k => nth g (nth xs k).toNat) n
theorem pks_length (g xs : List Int) (n : Nat) : (pks g xs n).length = n := mapTo_length _ _
theorem pks_nth {g xs : List Int} {n k : Nat} (h : k < n) : nth (pks g xs n) k = nth g (nth xs k).toNat := mapTo_nth h
set_option maxHeartbeats 1000000 in
theorem implPick (Ag : Option Addr) (cg ng Bg : Nat) (g : List Int) (A : Option Addr) (c n B : Nat) (xs : List Int) (w : World) (hg : Rd w Bg Ag ng g) (h : Rd w B A n xs) (hBg : Bg ≤ w.heap.size) (hB : B ≤ w.heap.size) (hm : n ≤ 1099511627776) (hx : ∀ i, i < n → 0 ≤ nth xs i ∧ nth xs i < ng) :
    Calls Tryd.prog 107 #[.slice Ag ng cg, .slice A n c] w (RetSl w (pks g xs n)) := by
  obtain ⟨i0, hi, hz0, hz1, hz2⟩ := info_parts int_info
  have hpl := Lib.hid (pks_length g xs n)
  have Hx := Lib.hid hx; clear hx
  go_enter Tryd.func107, Tryd.ntmps107
  go_wp2_with (refine wpList_make_full _ rfl (.tmp 9) (.tmp 9) 23 rfl w.heap.size 3 i0 (.int .i64 0) 1 Tryd.underlying23 hi hz0 hz1 .i64 .i64 n n n rfl rfl rfl rfl ?_ ?_ (Nat.le_refl _) ?_)
  · rw [hz2]; omega
  · simp only [maxLen]; omega
  · intro w1 hown hgr
    have hown1 : Ow w1 w.heap.size (some ⟨w.heap.size, 0, none⟩) n n (part (pks g xs n) 0 n) := by
      unfold Ow; rw [part_zero, ← toList_madeCells_one]; exact hown
    have hb1 : Below w.heap.size w w1 := (Below.refl _ _).grown hgr (Nat.le_refl _) (fun k hk => by cases hk)
    clear hown hgr
    go_wp2
    go_loopw [13] (fun i wr => ∃ k : Nat, k ≤ n ∧ i = .int .i64 k ∧ Ow wr w.heap.size (some ⟨w.heap.size, 0, none⟩) n n (part (pks g xs n) k n) ∧ Below w.heap.size w wr) (fun i _ => n - (intOf i).toNat)
    case atStart => exact ⟨0, Nat.zero_le _, rfl, hown1, hb1⟩
    case round =>
      obtain ⟨k, hk, rfl, ho, hb⟩ := hrel
      by_cases hlt : k < n
      · obtain ⟨b, off, rfl, hbB, hck⟩ := (h.below (hb.mono hB)).at_ hlt
        obtain ⟨x0, x1⟩ := Hx.out k hlt
        obtain ⟨x, hxv⟩ := Int.eq_ofNat_of_zero_le x0
        rw [hxv] at hck x1
        have hxn : x < ng := by omega
        obtain ⟨bg, og, rfl, hbBg, hcg⟩ := (hg.below (hb.mono hBg)).at_ hxn
        have hp := pks_nth (g := g) (xs := xs) hlt
        rw [hxv, Int.toNat_natCast] at hp
        rw [← hp] at hcg
        have hold := World.ownsRow.cellAt ho k (by omega)
        rw [vals_get (by rw [part_length]; exact hlt)] at hold
        have hfr := World.ownsRow.frozenAt ho k
        have hst := World.ownsRow.stored ho k (.int .i64 (nth (pks g xs n) k))
        rw [part_set] at hst
        have Hst := Lib.hid hst; clear hst hp hxv
        go_wp2
        go_roundw
        case rel => exact ⟨k + 1, by omega, by go_num, Hst.out.1, hb.setCell (Nat.le_refl _) _⟩
        case measure => simp [intOf]; omega
      · obtain rfl : k = n := by omega
        go_wp2
        go_ret
        have e := part_all (pks g xs k)
        rw [hpl.out] at e
        rw [e] at ho
        exact retSl_mk ho hb
end Go.Proofs.YtkeoflnmbcdmfaaDoor
set_option maxRecDepth 8000
namespace Go.Proofs.YtkeoflnmbcdmfaaDoor
open Go.ChangeShapes Go.WideShapes Go.ChangeAt Go.RowKit

/-- whether a rule holds for a grid. -/
def rhB (k : Int) (xs : List Int) (v : Int) (g : List Int) (s : Int) : Bool := rv k xs v s && gv g s && !(memTo (pks g xs xs.length) 0 xs.length) && holdsB k v (pks g xs xs.length)
theorem Ow.le_cap {w : World} {lo : Nat} {A : Option Addr} {n c : Nat} {xs : List Int} (h : Ow w lo A n c xs) : n ≤ c := by
  rcases h.2 with ⟨_, hn⟩ | ⟨g, cap, cur, hv, _, _, hle, _⟩
  · omega
  · injection hv with _ _ hc
    omega
theorem rv_kind {k v s : Int} {xs : List Int} (h : rv k xs v s = true) : k = 1 ∨ k = 2 ∨ k = 3 ∨ k = 4 ∨ k = 5 := by
  simp only [rv, Bool.and_eq_true] at h
  have h4 := h.2
  unfold kindOk at h4
  by_cases h1 : k = 1
  · exact .inl h1
  · by_cases h2 : k = 2
    · exact .inr (.inl h2)
    · by_cases h3 : k = 3
      · exact .inr (.inr (.inl h3))
      · by_cases h5 : k = 4
        · exact .inr (.inr (.inr (.inl h5)))
        · by_cases h6 : k = 5
          · exact .inr (.inr (.inr (.inr h6)))
          · rw [if_neg h1, if_neg h2, if_neg h3, if_neg h5, if_neg h6] at h4
            cases h4
/-- the facts on the values of a rule's cells. -/
theorem pks_small {k v s : Int} {xs g : List Int} {n : Nat} (hl : xs.length = n) (hv : rv k xs v s = true) (hg : gv g s = true) : small4 (pks g xs n) n ∧ ∀ i, i < n → 0 ≤ nth xs i ∧ nth xs i < g.length := by
  obtain ⟨hs, _, _, hx⟩ := rv_facts hl hv
  have hgl := gv_len hg
  have hin : ∀ i, i < n → 0 ≤ nth xs i ∧ nth xs i < g.length := fun i hi => by
    obtain ⟨a, b⟩ := hx i hi
    exact ⟨a, by omega⟩
  refine ⟨fun i hi => ?_, hin⟩
  rw [pks_nth hi]
  obtain ⟨a, b⟩ := hin i hi
  obtain ⟨c, d⟩ := gv_nth hg (show (nth xs i).toNat < g.length by omega)
  exact ⟨c, by omega⟩
theorem hold1 (A : Option Addr) (c n : Nat) (A2 : Option Addr) (c2 n2 B : Nat) (vs : List Int) (v : Int) (w : World) (h : Rd w B A2 n2 vs) (hB : B ≤ w.heap.size) (h4 : n2 ≤ 4) (hcap : n2 ≤ c2) (_hv : Hid (small4 vs n2)) (_h2 : 4 ≤ 1 → 2 ≤ n2) :
    Calls Tryd.prog 160 #[.agg #[.int .i64 1, .slice A n c, .int .i64 v], .slice A2 n2 c2] w fun e w' => e = .returned (.bool (holdsB 1 v vs)) ∧ Below w.heap.size w w' :=
  (differentHolds A c n A2 c2 n2 B vs 1 v w h hB h4 hcap).mono fun _ _ ⟨e, b⟩ => ⟨e.trans (by rw [← h.1]; rfl), b⟩
theorem hold2 (A : Option Addr) (c n : Nat) (A2 : Option Addr) (c2 n2 B : Nat) (vs : List Int) (v : Int) (w : World) (h : Rd w B A2 n2 vs) (hB : B ≤ w.heap.size) (h4 : n2 ≤ 4) (_hcap : n2 ≤ c2) (hv : Hid (small4 vs n2)) (_h2 : 4 ≤ 2 → 2 ≤ n2) :
    Calls Tryd.prog 162 #[.agg #[.int .i64 2, .slice A n c, .int .i64 v], .slice A2 n2 c2] w fun e w' => e = .returned (.bool (holdsB 2 v vs)) ∧ Below w.heap.size w w' :=
  (sumHolds A c n A2 c2 n2 B vs 2 v w h hB h4 hv).mono fun _ _ ⟨e, b⟩ => ⟨e.trans (by rw [← h.1]; rfl), b⟩
theorem hold3 (A : Option Addr) (c n : Nat) (A2 : Option Addr) (c2 n2 B : Nat) (vs : List Int) (v : Int) (w : World) (h : Rd w B A2 n2 vs) (hB : B ≤ w.heap.size) (h4 : n2 ≤ 4) (_hcap : n2 ≤ c2) (hv : Hid (small4 vs n2)) (_h2 : 4 ≤ 3 → 2 ≤ n2) :
    Calls Tryd.prog 165 #[.agg #[.int .i64 3, .slice A n c, .int .i64 v], .slice A2 n2 c2] w fun e w' => e = .returned (.bool (holdsB 3 v vs)) ∧ Below w.heap.size w w' :=
  (productHolds A c n A2 c2 n2 B vs 3 v w h hB h4 hv).mono fun _ _ ⟨e, b⟩ => ⟨e.trans (by rw [← h.1]; rfl), b⟩
theorem hold4 (A : Option Addr) (c n : Nat) (A2 : Option Addr) (c2 n2 B : Nat) (vs : List Int) (v : Int) (w : World) (h : Rd w B A2 n2 vs) (hB : B ≤ w.heap.size) (_h4 : n2 ≤ 4) (_hcap : n2 ≤ c2) (_hv : Hid (small4 vs n2)) (h2 : 4 ≤ 4 → 2 ≤ n2) :
    Calls Tryd.prog 167 #[.agg #[.int .i64 4, .slice A n c, .int .i64 v], .slice A2 n2 c2] w fun e w' => e = .returned (.bool (holdsB 4 v vs)) ∧ Below w.heap.size w w' :=
  (lessHolds A c n A2 c2 n2 B vs 4 v w h hB (h2 (Nat.le_refl _))).mono fun _ _ ⟨e, b⟩ => ⟨e.trans rfl, b⟩
theorem hold5 (A : Option Addr) (c n : Nat) (A2 : Option Addr) (c2 n2 B : Nat) (vs : List Int) (v : Int) (w : World) (h : Rd w B A2 n2 vs) (hB : B ≤ w.heap.size) (_h4 : n2 ≤ 4) (_hcap : n2 ≤ c2) (hv : Hid (small4 vs n2)) (h2 : 4 ≤ 5 → 2 ≤ n2) :
    Calls Tryd.prog 169 #[.agg #[.int .i64 5, .slice A n c, .int .i64 v], .slice A2 n2 c2] w fun e w' => e = .returned (.bool (holdsB 5 v vs)) ∧ Below w.heap.size w w' :=
  (apartHolds A c n A2 c2 n2 B vs 5 v w h hB (h2 (by omega)) hv).mono fun _ _ ⟨e, b⟩ => ⟨e.trans rfl, b⟩
end Go.Proofs.YtkeoflnmbcdmfaaDoor
set_option maxRecDepth 8000
namespace Go.Proofs.YtkeoflnmbcdmfaaDoor
open Go.ChangeShapes Go.WideShapes Go.ChangeAt Go.RowKit
/-- a slice of rules whose cells' lengths keep to their capacities, as every slice of the program's does. -/
def RdRc (w : World) (B : Nat) (A : Option Addr) (n : Nat) (rs : List RuleM) : Prop :=
  rs.length = n ∧ (0 < n → ∃ b off, A = some ⟨b, off, none⟩ ∧ b < B ∧ ∀ i, i < n → ∃ A' c', w.cell? ⟨b, off + i * 3, none⟩ = some (.int .i64 (rat rs i).k) ∧ w.cell? ⟨b, off + i * 3 + 1, none⟩ = some (.slice A' (rat rs i).xs.length c') ∧ w.cell? ⟨b, off + i * 3 + 2, none⟩ = some (.int .i64 (rat rs i).v) ∧ Rd w B A' (rat rs i).xs.length (rat rs i).xs ∧ (rat rs i).xs.length ≤ 1099511627776 ∧ (rat rs i).xs.length ≤ c')
theorem RdRc.below {w w' : World} {B : Nat} {A : Option Addr} {n : Nat} {rs : List RuleM} (h : RdRc w B A n rs) (hb : Below B w w') : RdRc w' B A n rs :=
  ⟨h.1, fun hn => by
    obtain ⟨b, off, e, hlt, hc⟩ := h.2 hn
    refine ⟨b, off, e, hlt, fun i hi => ?_⟩
    obtain ⟨A', c', h0, h1, h2, h3, h4, h5⟩ := hc i hi
    exact ⟨A', c', (hb.cell (p := ⟨b, off + i * 3, none⟩) hlt).trans h0, (hb.cell (p := ⟨b, off + i * 3 + 1, none⟩) hlt).trans h1, (hb.cell (p := ⟨b, off + i * 3 + 2, none⟩) hlt).trans h2, h3.below hb, h4, h5⟩⟩
theorem RdRc.rd {w : World} {B : Nat} {A : Option Addr} {n : Nat} {rs : List RuleM} (h : RdRc w B A n rs) : RdRs w B A n rs :=
  ⟨h.1, fun hn => by
    obtain ⟨b, off, e, hlt, hc⟩ := h.2 hn
    refine ⟨b, off, e, hlt, fun i hi => ?_⟩
    obtain ⟨A', c', h0, h1, h2, h3, h4, h5⟩ := hc i hi
    exact ⟨A', c', h0, h1, h2, h3, h4⟩⟩
theorem OwR.rdc {w : World} {lo k c : Nat} {A : Option Addr} {rs : List RuleM} (hl : rs.length = k) (h : OwR w lo (.slice A k c) rs k) : RdRc w w.heap.size A k rs := by
  refine ⟨hl, fun hn => ?_⟩
  obtain ⟨vs, hown, hin⟩ := h
  obtain ⟨hvl, hcase⟩ := id hown
  rcases hcase with ⟨_, h0⟩ | ⟨g, cap, cur, hv, hlog, hrow, h1, h2, h3, h4⟩
  · omega
  · injection hv with hA _ _
    subst hA
    have hlt : g < w.heap.size := (Array.getElem?_eq_some_iff.1 hrow).1
    have hcell : ∀ j u, vs[j]? = some u → w.cell? ⟨g, 0 + j, none⟩ = some u := fun j u hj => by
      rw [Nat.zero_add, cell_of_row w g j cur _ _ hrow]
      rw [← h4, List.getElem?_take] at hj
      split at hj
      · simpa using hj
      · cases hj
    refine ⟨g, 0, rfl, hlt, fun i hi => ?_⟩
    obtain ⟨A', c', e0, e1, e2, e3, e4, e5⟩ := hin i hi
    exact ⟨A', c', hcell _ _ e0, by rw [Nat.add_assoc]; exact hcell _ _ e1, by rw [Nat.add_assoc]; exact hcell _ _ e2, e3.rd, e4, e3.le_cap⟩
def rulesB (s : Int) (rs : List RuleM) : Bool := (List.range rs.length).all fun i => rvR s (rat rs i)
set_option maxHeartbeats 1000000 in
theorem rulesValid_any (s : Int) (Ag : Option Addr) (ng cg : Nat) (Ar : Option Addr) (nr cr Br : Nat) (rs : List RuleM) (w : World) (hr : RdRc w Br Ar nr rs) (hBr : Br ≤ w.heap.size) (hmr : nr ≤ 1099511627776) :
    Calls Tryd.prog 88 #[.agg #[.int .i64 s, .slice Ag ng cg, .slice Ar nr cr]] w fun e w' => e = .returned (.bool (rulesB s rs)) ∧ Below w.heap.size w w' := by
  have hlen := Lib.hid hr.1
  have hx0 := pbox_new w s Ag ng cg Ar nr cr 26
  have hb0 : Below w.heap.size w (w.alloc (.cells #[.int .i64 s, .slice Ag ng cg, .slice Ar nr cr] 26)) := (Below.refl _ _).alloc (Nat.le_refl _) _
  have hs0 : w.heap.size + 1 ≤ (w.alloc (.cells #[.int .i64 s, .slice Ag ng cg, .slice Ar nr cr] 26)).heap.size := by simp
  obtain ⟨z0, z1, z2⟩ := id hx0
  have HR := Lib.hid (fun (w' : World) (hb : Below w.heap.size w w') => hr.below (hb.mono hBr))
  go_enter Tryd.func88, Tryd.ntmps88
  go_wp2
  go_loopw [8] (fun i wr => ∃ u : Nat, u ≤ nr ∧ i = .int .i64 u ∧ Hid (allR (rvR s) rs u) ∧ PBox wr w.heap.size s Ag ng cg Ar nr cr ∧ Below w.heap.size w wr ∧ w.heap.size + 1 ≤ wr.heap.size) (fun i _ => nr - (intOf i).toNat)
  case atStart => exact ⟨0, Nat.zero_le _, rfl, Lib.hid (fun j hj => absurd hj (by omega)), hx0, hb0, hs0⟩
  case round =>
    obtain ⟨u, hu, rfl, hall, hx, hb, hsw⟩ := hrel
    obtain ⟨c0, c1, c2⟩ := id hx
    by_cases hlt : u < nr
    · obtain ⟨b, off, rfl, hbB, hcc⟩ := (HR.out _ hb).2 (by omega)
      obtain ⟨A', c', r0, r1, r2, r3, r4, r5⟩ := hcc u hlt
      obtain ⟨rk, hrk⟩ : ∃ x, x = (rat rs u).k := ⟨_, rfl⟩
      obtain ⟨rx, hrx⟩ : ∃ x, x = (rat rs u).xs := ⟨_, rfl⟩
      obtain ⟨rvv, hrv⟩ : ∃ x, x = (rat rs u).v := ⟨_, rfl⟩
      have hrr : rvR s (rat rs u) = rv rk rx rvv s := by simp only [rvR, hrk, hrx, hrv]
      rw [← hrk] at r0
      rw [← hrx] at r1 r3 r4 r5
      rw [← hrv] at r2
      have hin : (u : Int) < (nr : Int) := by omega
      have hy := rbox_new wr rk A' rx.length c' rvv 63
      have hb1 : Below wr.heap.size wr (wr.alloc (.cells #[.int .i64 rk, .slice A' rx.length c', .int .i64 rvv] 63)) := (Below.refl _ _).alloc (Nat.le_refl _) _
      obtain ⟨y0, y1, y2⟩ := id hy
      have hx1 := hx.below (Nat.lt_of_lt_of_le (Nat.lt_succ_self _) hsw) hb1
      obtain ⟨d0, d1, d2⟩ := id hx1
      have HC := Lib.hid (implRuleValid A' c' rx.length Br rx rk rvv s (wr.alloc (.cells #[.int .i64 rk, .slice A' rx.length c', .int .i64 rvv] 63)) (r3.below (hb1.mono (Nat.le_trans hBr hb.size))) (Nat.le_trans (Nat.le_trans hBr hb.size) hb1.size) r4 r5)
      have hbw := hb.trans (hb1.mono hb.size)
      have hs1 : w.heap.size < (wr.alloc (.cells #[.int .i64 rk, .slice A' rx.length c', .int .i64 rvv] 63)).heap.size := by simp; omega
      cases hv : rv rk rx rvv s
      · have HL := Lib.hid (show rulesB s rs = false from not_all_rat hlen.out hlt (hrr.trans hv))
        clear hrk hrx hrv hcc hrr
        go_wp2_with (go_at_call 112; refine HC.out.mono ?_; rintro e w3 ⟨rfl, hb3⟩; rw [hv])
        go_ret
        exact ⟨by rw [HL.out]; rfl, step hbw hb3⟩
      · have hall2 := Lib.hid (show allR (rvR s) rs (u + 1) from fun i hi => by
          by_cases e : i = u
          · subst e; exact hrr.trans hv
          · exact hall.out i (by omega))
        clear hrk hrx hrv hcc hrr
        go_wp2_with (go_at_call 112; refine HC.out.mono ?_; rintro e w3 ⟨rfl, hb3⟩; rw [hv])
        go_roundw
        case rel => exact ⟨u + 1, hlt, by go_num, hall2, hx1.below hs1 hb3, step hbw hb3, Nat.le_trans hs1 hb3.size⟩
        case measure => simp [intOf]; omega
    · obtain rfl : u = nr := by omega
      have HL := Lib.hid (show rulesB s rs = true from all_rat hlen.out hall.out)
      go_wp2
      go_ret
      exact ⟨by rw [HL.out]; rfl, hb⟩
/-- a puzzle and a grid that the program reads. -/
structure PGc (w : World) (s : Int) (Ag : Option Addr) (ng cg Bg : Nat) (gi : List Int) (Ar : Option Addr) (nr cr Br : Nat) (rs : List RuleM) : Prop where
  g : Rd w Bg Ag ng gi
  gB : Bg ≤ w.heap.size
  gm : ng ≤ 1099511627776
  r : RdRc w Br Ar nr rs
  rB : Br ≤ w.heap.size
  rm : nr ≤ 1099511627776
theorem PGc.below {w w' : World} {s : Int} {Ag : Option Addr} {ng cg Bg : Nat} {gi : List Int} {Ar : Option Addr} {nr cr Br : Nat} {rs : List RuleM} (h : PGc w s Ag ng cg Bg gi Ar nr cr Br rs) (hb : Below w.heap.size w w') : PGc w' s Ag ng cg Bg gi Ar nr cr Br rs :=
  ⟨h.g.below (hb.mono h.gB), Nat.le_trans h.gB hb.size, h.gm, h.r.below (hb.mono h.rB), Nat.le_trans h.rB hb.size, h.rm⟩
theorem PGc.rd {w : World} {s : Int} {Ag : Option Addr} {ng cg Bg : Nat} {gi : List Int} {Ar : Option Addr} {nr cr Br : Nat} {rs : List RuleM} (h : PGc w s Ag ng cg Bg gi Ar nr cr Br rs) : PGs w s Ag ng cg Bg gi Ar nr cr Br rs := ⟨h.g, h.gB, h.gm, h.r.rd, h.rB, h.rm⟩
set_option maxHeartbeats 1000000 in
theorem valid_any (s : Int) (Ag : Option Addr) (ng cg Bg : Nat) (gi : List Int) (Ar : Option Addr) (nr cr Br : Nat) (rs : List RuleM) (w : World) (hp : PGc w s Ag ng cg Bg gi Ar nr cr Br rs) :
    Calls Tryd.prog 48 #[.agg #[.int .i64 s, .slice Ag ng cg, .slice Ar nr cr]] w fun e w' => e = .returned (.bool (pvB s gi rs)) ∧ Below w.heap.size w w' := by
  have hlen := Lib.hid hp.r.1
  have hx0 := pbox_new w s Ag ng cg Ar nr cr 26
  have hb0 : Below w.heap.size w (w.alloc (.cells #[.int .i64 s, .slice Ag ng cg, .slice Ar nr cr] 26)) := (Below.refl _ _).alloc (Nat.le_refl _) _
  have hs0 : w.heap.size < (w.alloc (.cells #[.int .i64 s, .slice Ag ng cg, .slice Ar nr cr] 26)).heap.size := by simp
  obtain ⟨z0, z1, z2⟩ := id hx0
  have HG := Lib.hid (fun w' (hb : Below w.heap.size w w') => implGridValid Ag cg ng Bg gi s w' (hp.below hb).g (hp.below hb).gB hp.gm)
  have HR := Lib.hid (fun w' (hb : Below w.heap.size w w') => rulesValid_any s Ag ng cg Ar nr cr Br rs w' (hp.below hb).r (hp.below hb).rB hp.rm)
  cases hg : gv gi s
  · have HL := Lib.hid (show pvB s gi rs = false by simp [pvB, hg])
    go_enter Tryd.func48, Tryd.ntmps48
    go_wp2_with (go_at_call 87; refine (HG.out _ hb0).mono ?_; rintro e w1 ⟨rfl, hb1⟩; rw [hg])
    go_ret
    exact ⟨by rw [HL.out]; rfl, step hb0 hb1⟩
  · by_cases hn : (nr : Int) ≤ 20
    · have HL := Lib.hid (show pvB s gi rs = rulesB s rs by
        unfold pvB rulesB
        rw [hg, decide_eq_true (by rw [hlen.out]; omega), Bool.and_true, Bool.and_true])
      go_enter Tryd.func48, Tryd.ntmps48
      go_wp2_with (first | (go_at_call 87; refine (HG.out _ hb0).mono ?_; rintro e w1 ⟨rfl, hb1⟩; rw [hg]; have h01 := step hb0 hb1; obtain ⟨c0, c1, c2⟩ := hx0.below hs0 hb1) | (go_at_call 88; refine (HR.out _ h01).mono ?_; rintro e w2 ⟨rfl, hb2⟩))
      go_ret
      exact ⟨by rw [HL.out]; rfl, step h01 hb2⟩
    · have HL := Lib.hid (show pvB s gi rs = false by
        unfold pvB
        rw [show decide (rs.length ≤ 20) = false from decide_eq_false (by rw [hlen.out]; omega), Bool.and_false])
      go_enter Tryd.func48, Tryd.ntmps48
      go_wp2_with (go_at_call 87; refine (HG.out _ hb0).mono ?_; rintro e w1 ⟨rfl, hb1⟩; rw [hg]; have h01 := step hb0 hb1; obtain ⟨c0, c1, c2⟩ := hx0.below hs0 hb1)
      go_ret
      exact ⟨by rw [HL.out]; rfl, h01⟩
end Go.Proofs.YtkeoflnmbcdmfaaDoor
set_option maxRecDepth 8000
namespace Go.Proofs.YtkeoflnmbcdmfaaDoor
open Go.ChangeShapes Go.WideShapes Go.ChangeAt Go.RowKit
/-! a puzzle in memory of its own. -/
theorem OwRd.bound {w : World} {lo g n u : Nat} {rs : List RuleM} {Q : Nat → Prop} (h : OwRd w lo g n rs Q u) : OwRd w lo g n rs (fun b => Q b ∧ b < w.heap.size) u := by
  obtain ⟨vs, a, b, c⟩ := h
  refine ⟨vs, a, fun i hi => ?_, c⟩
  obtain ⟨A', c', e0, e1, e2, e3, e4, e5⟩ := b i hi
  exact ⟨A', c', e0, e1, e2, e3, e4, fun x hx => ⟨(e5 x hx).1, (e5 x hx).2, e3.own_hi x hx⟩⟩
theorem OwRd.there {w : World} {lo g n : Nat} {rs : List RuleM} {Q : Nat → Prop} {k u : Nat} (h : OwRd w lo g n rs Q k) (hu : u < n) : w.there g (u * 3) 3 := h.rp.there hu
theorem OwRd.mono {w : World} {lo lo' g n : Nat} {rs : List RuleM} {Q : Nat → Prop} {k : Nat} (h : OwRd w lo g n rs Q k) (hl : lo' ≤ lo) : OwRd w lo' g n rs Q k := by
  obtain ⟨vs, a, b, c⟩ := h
  refine ⟨vs, World.ownsRow.mono a hl, fun i hi => ?_, c⟩
  obtain ⟨A', c', e0, e1, e2, e3, e4, e5⟩ := b i hi
  exact ⟨A', c', e0, e1, e2, e3.mono hl, e4, e5⟩
theorem OwRd.imp {w : World} {lo g n : Nat} {rs : List RuleM} {Q Q' : Nat → Prop} {k : Nat} (h : OwRd w lo g n rs Q k) (hq : ∀ b, Q b → Q' b) : OwRd w lo g n rs Q' k := by
  obtain ⟨vs, a, b, c⟩ := h
  refine ⟨vs, a, fun i hi => ?_, c⟩
  obtain ⟨A', c', e0, e1, e2, e3, e4, e5⟩ := b i hi
  exact ⟨A', c', e0, e1, e2, e3, e4, fun x hx => ⟨(e5 x hx).1, hq x (e5 x hx).2⟩⟩
theorem OwRd.far {w w' : World} {lo g n X : Nat} {rs : List RuleM} {Q : Nat → Prop} {k : Nat} (h : OwRd w lo g n rs Q k) (hg : w.grownBy w' (some X)) (hX : X < lo) : OwRd w' lo g n rs Q k := by
  obtain ⟨vs, a, b, c⟩ := h
  refine ⟨vs, World.ownsRow.kept a hg (.inr (fun e => by have := (World.ownsRow.lt a g (by simp [Value.ownBlock])).1; simp [Value.ownBlock] at e; omega)), fun i hi => ?_, c⟩
  obtain ⟨A', c', e0, e1, e2, e3, e4, e5⟩ := b i hi
  exact ⟨A', c', e0, e1, e2, Ow.far e3 hg (fun b hb e => by have := e3.own_lo b hb; have := Option.some.inj e; omega), e4, e5⟩
/-- the values of 'Rule{rule.Kind, slices.Clone(rule.Cells), rule.Value}' and of where it goes. -/
def CrG (X g n u lo l C' : Nat) (k v : Int) (A' : Option Addr) (xs : List Int) : Nat → Value → World → Prop
  | 0, x, _ => x = .slice (some ⟨g, 0, none⟩) n n
  | 1, x, _ => x = .int .i64 (u : Nat)
  | 2, x, _ => x = .pointer (some ⟨X, 0, none⟩)
  | 3, x, _ => x = .int .i64 k
  | 4, x, _ => x = .pointer (some ⟨X, 1, none⟩)
  | 5, x, _ => x = .slice A' l C'
  | 6, x, w => ∃ A3 c3, x = .slice A3 l c3 ∧ Ow w lo A3 l c3 xs
  | 7, x, _ => x = .pointer (some ⟨X, 2, none⟩)
  | 8, x, _ => x = .int .i64 v
  | 9, x, w => ∃ A3 c3, x = .agg #[.int .i64 k, .slice A3 l c3, .int .i64 v] ∧ Ow w lo A3 l c3 xs
  | 10, x, _ => x = .pointer (some ⟨g, u * 3, none⟩)
  | _, _, _ => True
theorem crG_below {X g n u lo l C' : Nat} {k v : Int} {A' : Option Addr} {xs : List Int} (j : Nat) (x : Value) (w w' : World) (hb : Below w.heap.size w w') (h : CrG X g n u lo l C' k v A' xs j x w) : CrG X g n u lo l C' k v A' xs j x w' := by
  match j, h with
  | 0, h => exact h
  | 1, h => exact h
  | 2, h => exact h
  | 3, h => exact h
  | 4, h => exact h
  | 5, h => exact h
  | 6, ⟨A3, c3, e, h⟩ => exact ⟨A3, c3, e, h.below hb⟩
  | 7, h => exact h
  | 8, h => exact h
  | 9, ⟨A3, c3, e, h⟩ => exact ⟨A3, c3, e, h.below hb⟩
  | 10, h => exact h
  | _ + 11, h => exact h
set_option maxHeartbeats 2000000 in
theorem copiedRules_any (A : Option Addr) (c n B : Nat) (rs : List RuleM) (w : World) (h : RdRs w B A n rs) (hB : B ≤ w.heap.size) (hm : n ≤ 1048576) (hL : ∀ i, i < n → 0 < (rat rs i).xs.length) :
    Calls Tryd.prog 103 #[.slice A n c] w fun e w' => ∃ g, e = .returned (.slice (some ⟨g, 0, none⟩) n n) ∧ OwRd w' w.heap.size g n rs (fun b => w.heap.size ≤ b ∧ b < w'.heap.size) n ∧ Below w.heap.size w w' := by
  obtain ⟨i0, hi, hz0, hz1, hz2⟩ := info_parts rule_parts
  have HR := Lib.hid (fun (w' : World) (hb : Below w.heap.size w w') => h.below (hb.mono hB))
  have Hi : Hid (∀ k A m c v, (Tryd.prog.info? 63).map (·.size) = some (#[Value.int .i64 k, .slice A m c, .int .i64 v] : Array Value).size) := Lib.hid (fun _ _ _ _ _ => by rw [hi]; simpa using hz1)
  have Hone : Hid (∀ k A m c v, ((#[Value.int .i64 k, .slice A m c, .int .i64 v] : Array Value).all (·.oneCell')) = true) := Lib.hid (fun _ _ _ _ _ => by simp [Value.oneCell'])
  have HLen := Lib.hid hL
  clear hL
  go_enter Tryd.func103, Tryd.ntmps103
  go_wp2_with (refine wpList_make_full _ rfl (.tmp 7) (.tmp 7) 24 rfl w.heap.size 63 i0 (.agg #[.int .i64 0, .slice none 0 0, .int .i64 0]) 3 Tryd.underlying24 hi hz0 hz1 .i64 .i64 n n n rfl rfl rfl rfl (by rw [hz2]; omega) (by simp only [maxLen]; omega) (Nat.le_refl _) ?_; intro w3 hown hgr; have hb3 := made_below hgr (Nat.le_refl _); have ho3 := OwRd.zero_ (rs := rs) (Q := fun b => w.heap.size ≤ b) hown)
  go_loopw [11] (fun i wr => ∃ u : Nat, u ≤ n ∧ i = .int .i64 u ∧ OwRd wr w.heap.size w.heap.size n rs (fun b => w.heap.size ≤ b) u ∧ Below w.heap.size w wr) (fun i _ => n - (intOf i).toNat)
  case atStart => exact ⟨0, Nat.zero_le _, rfl, ho3, hb3⟩
  case round =>
    obtain ⟨u, hu, rfl, ho, hb⟩ := hrel
    by_cases hlt : u < n
    · obtain ⟨b, off, rfl, hbB, hcc⟩ := (HR.out _ hb).2 (by omega)
      obtain ⟨A', c', r0, r1, r2, r3, r4⟩ := hcc u hlt
      have hL := HLen.out u hlt
      obtain ⟨rk, hrk⟩ : ∃ x, x = (rat rs u).k := ⟨_, rfl⟩
      obtain ⟨rx, hrx⟩ : ∃ x, x = (rat rs u).xs := ⟨_, rfl⟩
      obtain ⟨rvv, hrv⟩ : ∃ x, x = (rat rs u).v := ⟨_, rfl⟩
      have hb1 : Below wr.heap.size wr (wr.alloc (.cells #[.int .i64 rk, .slice A' rx.length c', .int .i64 rvv] 63)) := (Below.refl _ _).alloc (Nat.le_refl _) _
      have hs1 : (wr.alloc (.cells #[.int .i64 rk, .slice A' rx.length c', .int .i64 rvv] 63)).heap.size = wr.heap.size + 1 := by simp
      have hy := rbox_new wr rk A' rx.length c' rvv 63
      obtain ⟨W, hW⟩ : ∃ W, wr.alloc (.cells #[.int .i64 rk, .slice A' rx.length c', .int .i64 rvv] 63) = W := ⟨_, rfl⟩
      rw [hW] at hb1 hs1 hy
      have hbW : wr.heap.size ≤ W.heap.size := hb1.size
      have Hput := Lib.hid (fun (w3 : World) (A3 : Option Addr) (c3 : Nat) (hb' : Below wr.heap.size wr w3) (ho3 : Ow w3 wr.heap.size A3 (rat rs u).xs.length c3 (rat rs u).xs) => ho.put (Nat.le_trans (Nat.le_refl _) hb.size) hlt hb' ho3 r4 (fun b hb'' => Nat.le_trans hb.size hb''))
      have Hth := Lib.hid (fun (w3 : World) (hb' : Below wr.heap.size wr w3) => (ho.below hb').there hlt)
      rw [← hrk] at r0 Hput
      rw [← hrx] at r1 r3 r4 Hput hL
      rw [← hrv] at r2 Hput
      have HC := Lib.hid (fun (w' : World) (hb' : Below W.heap.size W w') => clone_any A' rx.length c' B rx w' (r3.below ((hb1.trans (hb'.mono hbW)).mono (Nat.le_trans hB hb.size))) (Nat.le_trans (Nat.le_trans hB hb.size) (Nat.le_trans hbW hb'.size)) hL r4)
      have HY := Lib.hid (fun (w' : World) (hb' : Below W.heap.size W w') => hy.below (by omega : wr.heap.size < W.heap.size) hb')
      have hin : (u : Int) < (n : Int) := by omega
      have HW := Lib.hid hW
      have Hbb := Lib.hid hb
      have Hb1 := Lib.hid hb1
      obtain ⟨l, hl⟩ : ∃ l, l = rx.length := ⟨_, rfl⟩
      rw [← hl] at r1 HC HY Hput hL HW
      clear hrk hrx hrv hcc hW ho hb r3 hb1 hy hl h
      go_wp2
      rw [HW.out]
      refine wp_region_dsR [16, 17, 18, 19, 20, 21, 22, 23, 24, 25, 26] (CrG wr.heap.size w.heap.size n u wr.heap.size l c' rk rvv A' rx) (fun w1 w2 => Below w1.heap.size w1 w2) (fun _ w1 w2 => Below w1.heap.size w1 w2) (fun _ _ => True) (fun _ => trivial) ((Below.refl _ _).drew) (fun _ _ h h' => step h h') (by kernel_rfl) (by kernel_rfl) (by simp) (fun j i v w w' _ _ he hg => crG_below j v w w' he hg) ?step ?last
      case step =>
        intro i o a w' K hi hoo hrel hfr hpre hC hK
        have e3 : a.eval (.tmp 3) = .slice (some ⟨w.heap.size, 0, none⟩) n n := hfr 3 (by simp)
        have e4 : a.eval (.tmp 4) = .int .i64 (u : Nat) := hfr 4 (by simp)
        have e5 : a.eval (.tmp 5) = .pointer (some ⟨wr.heap.size, 0, none⟩) := hfr 5 (by simp)
        obtain ⟨y0, y1, y2⟩ := HY.out _ hrel
        have hkeep : ∀ (v : Value), CrG wr.heap.size w.heap.size n u wr.heap.size l c' rk rvv A' rx i v w' → K (a.put o.dst v) w' := fun v hv => hK v w' (Below.refl _ _) (Below.refl _ _) (fun _ _ h => h) hv
        have hi12 : i < 11 := hi
        have : i = 0 ∨ i = 1 ∨ i = 2 ∨ i = 3 ∨ i = 4 ∨ i = 5 ∨ i = 6 ∨ i = 7 ∨ i = 8 ∨ i = 9 ∨ i = 10 := by omega
        rcases this with rfl | rfl | rfl | rfl | rfl | rfl | rfl | rfl | rfl | rfl | rfl
        all_goals
          simp only [List.getElem?_toArray, List.getElem?_cons_zero, List.getElem?_cons_succ, Option.some.injEq] at hoo
          subst hoo
        · refine oper_val (v := .slice (some ⟨w.heap.size, 0, none⟩) n n) (w' := w') ?_ (hkeep _ rfl)
          unfold execOp
          simp only [e3]
          go_simp
        · refine oper_val (v := .int .i64 (u : Nat)) (w' := w') ?_ (hkeep _ rfl)
          unfold execOp
          simp only [e4]
          go_simp
        · refine oper_val (v := .pointer (some ⟨wr.heap.size, 0, none⟩)) (w' := w') ?_ (hkeep _ rfl)
          unfold execOp
          simp only [e5]
          go_simp
        · have p0 : a.eval (.tmp 18) = .pointer (some ⟨wr.heap.size, 0, none⟩) := hpre ⟨2, .data⟩ (by simp) rfl
          refine oper_val (v := .int .i64 rk) (w' := w') ?_ (hkeep _ rfl)
          unfold execOp
          simp only [p0]
          go_simp
        · refine oper_val (v := .pointer (some ⟨wr.heap.size, 1, none⟩)) (w' := w') ?_ (hkeep _ rfl)
          unfold execOp
          simp only [e5]
          go_simp
        · have p0 : a.eval (.tmp 20) = .pointer (some ⟨wr.heap.size, 1, none⟩) := hpre ⟨4, .data⟩ (by simp) rfl
          refine oper_val (v := .slice A' l c') (w' := w') ?_ (hkeep _ rfl)
          unfold execOp
          simp only [p0]
          go_simp
        · have p0 : a.eval (.tmp 21) = .slice A' l c' := hpre ⟨5, .data⟩ (by simp) rfl
          refine oper_call (f := 50) (args := #[.slice A' l c']) ?_ (HC.out w' hrel) ?_
          · unfold execOp
            go_simp
            first | exact (by simpa [Act.eval] using p0) | (simpa [Act.eval] using p0)
          · rintro e w5 ⟨A3, c3, rfl, ho3, hb3⟩
            exact ⟨_, rfl, hK _ _ hb3 hb3 (fun _ _ h => h) ⟨A3, c3, rfl, ho3.mono (Nat.le_trans hbW hrel.size)⟩⟩
        · refine oper_val (v := .pointer (some ⟨wr.heap.size, 2, none⟩)) (w' := w') ?_ (hkeep _ rfl)
          unfold execOp
          simp only [e5]
          go_simp
        · have p0 : a.eval (.tmp 23) = .pointer (some ⟨wr.heap.size, 2, none⟩) := hpre ⟨7, .data⟩ (by simp) rfl
          refine oper_val (v := .int .i64 rvv) (w' := w') ?_ (hkeep _ rfl)
          unfold execOp
          simp only [p0]
          go_simp
        · have p0 : a.eval (.tmp 19) = .int .i64 rk := hpre ⟨3, .data⟩ (by simp) rfl
          obtain ⟨A3, c3, p1, q1⟩ : ∃ A3 c3, a.eval (.tmp 22) = .slice A3 l c3 ∧ Ow w' wr.heap.size A3 l c3 rx := hpre ⟨6, .data⟩ (by simp) rfl
          have p2 : a.eval (.tmp 24) = .int .i64 rvv := hpre ⟨8, .data⟩ (by simp) rfl
          refine oper_val (v := .agg #[.int .i64 rk, .slice A3 l c3, .int .i64 rvv]) (w' := w') ?_ (hkeep _ ⟨A3, c3, rfl, q1⟩)
          unfold execOp
          simp only [List.map_toArray, List.map_cons, List.map_nil, p0, p1, p2]
          go_simp
        · have p0 : a.eval (.tmp 16) = .slice (some ⟨w.heap.size, 0, none⟩) n n := hpre ⟨0, .data⟩ (by simp) rfl
          have p1 : a.eval (.tmp 17) = .int .i64 (u : Nat) := hpre ⟨1, .data⟩ (by simp) rfl
          refine oper_val (v := .pointer (some ⟨w.heap.size, u * 3, none⟩)) (w' := w') ?_ (hkeep _ rfl)
          unfold execOp
          simp only [p0, p1]
          go_simp
      case last =>
        intro o a w5 hoo hb5 hdef htm hfr hpre
        simp only [List.length_cons, List.length_nil, Nat.reduceAdd, List.getElem?_toArray, List.getElem?_cons_zero, List.getElem?_cons_succ, Option.some.injEq] at hoo
        subst hoo
        have g0 : a.tmps.getD 16 undef = .slice (some ⟨w.heap.size, 0, none⟩) n n := hpre 0 (by simp)
        have g1 : a.tmps.getD 17 undef = .int .i64 (u : Nat) := hpre 1 (by simp)
        have g2 : a.tmps.getD 18 undef = .pointer (some ⟨wr.heap.size, 0, none⟩) := hpre 2 (by simp)
        have g3 : a.tmps.getD 19 undef = .int .i64 rk := hpre 3 (by simp)
        have g4 : a.tmps.getD 20 undef = .pointer (some ⟨wr.heap.size, 1, none⟩) := hpre 4 (by simp)
        have g5 : a.tmps.getD 21 undef = .slice A' l c' := hpre 5 (by simp)
        obtain ⟨A6, c6, g6, _⟩ : ∃ A3 c3, a.tmps.getD 22 undef = .slice A3 l c3 ∧ _ := hpre 6 (by simp)
        have g7 : a.tmps.getD 23 undef = .pointer (some ⟨wr.heap.size, 2, none⟩) := hpre 7 (by simp)
        have g8 : a.tmps.getD 24 undef = .int .i64 rvv := hpre 8 (by simp)
        obtain ⟨A3, c3, g9, ho9⟩ : ∃ A3 c3, a.tmps.getD 25 undef = .agg #[.int .i64 rk, .slice A3 l c3, .int .i64 rvv] ∧ Ow w5 wr.heap.size A3 l c3 rx := hpre 9 (by simp)
        have g10 : a.tmps.getD 26 undef = .pointer (some ⟨w.heap.size, u * 3, none⟩) := hpre 10 (by simp)
        have h25 : a.eval (.tmp 25) = .agg #[.int .i64 rk, .slice A3 l c3, .int .i64 rvv] := g9
        have h26 : a.eval (.tmp 26) = .pointer (some ⟨w.heap.size, u * 3, none⟩) := g10
        have hb15 : Below wr.heap.size wr w5 := Hb1.out.trans (hb5.mono hbW)
        refine ⟨w5.setCells w.heap.size (u * 3) [.int .i64 rk, .slice A3 l c3, .int .i64 rvv], ?_, ?_⟩
        · have hst := run_storeVar_mid (P := Tryd.prog) w5 w.heap.size (u * 3) 63 #[.int .i64 rk, .slice A3 l c3, .int .i64 rvv] (Hth.out _ hb15) (Hi.out _ _ _ _ _) (Hone.out _ _ _ _ _)
          unfold execOp
          simp only [h25, h26, Instr.storeAt, Instr.sureAddr, Sem.run_bind, Sem.run_pure, Result.andThen_ok, hst]
        · have key := htm
          simp only [List.foldl_cons, List.foldl_nil, g0, g1, g2, g3, g4, g5, g6, g7, g8, g9, g10, List.setIfInBounds_toArray, List.set_cons_succ, List.set_cons_zero] at key
          clear htm hfr hpre g0 g1 g2 g3 g4 g5 g6 g7 g8 g9 g10 h25 h26
          obtain ⟨tm, df⟩ := a
          dsimp only at key hdef
          subst key hdef
          have hP := Hput.out _ _ _ hb15 ho9
          go_wp2
          go_roundw
          case rel => exact ⟨u + 1, by omega, by go_num, hP, below_setCells3 (Hbb.out.trans (hb15.mono Hbb.out.size)) (Nat.le_refl _)⟩
          case measure => simp [intOf]; omega
    · obtain rfl : u = n := by omega
      go_wp2
      go_ret
      exact ⟨_, rfl, ho.bound, hb⟩
end Go.Proofs.YtkeoflnmbcdmfaaDoor
set_option maxRecDepth 8000
namespace Go.Proofs.YtkeoflnmbcdmfaaDoor
open Go.ChangeShapes Go.WideShapes Go.ChangeAt Go.RowKit

theorem row_max {k : IntKind} {w : World} {a : Option Addr} {len cap : Nat} {zs : List Int} (h : IsRow k w a len cap zs) : len ≤ 9223372036854775807 := by
  rcases h with ⟨rfl, rfl, rfl, rfl⟩ | ⟨x, rfl, hl, hm, _⟩
  · omega
  · simp only [maxLen] at hm; omega
theorem below_undrew {w w2 : World} (h : Below w.drew.heap.size w.drew w2) : Below w.heap.size w w2 := ⟨h.os, h.tape, h.output, h.size, h.block⟩
theorem szRule_big (A : Option Addr) (c n : Nat) (k v : Int) (w : World) (hn : ¬ n ≤ 1048576) (hm : n ≤ 9223372036854775807) :
    Calls Tryd.prog 96 #[.agg #[.int .i64 k, .slice A n c, .int .i64 v], .int .i64 1048576] w fun e w' => e = .returned (.int .i64 (-1)) ∧ Below w.heap.size w w' := by
  refine (szRule_any A c n k v 1048576 w hm (by omega) (by omega)).mono ?_
  rintro e w' ⟨rfl, hb⟩
  exact ⟨by rw [if_neg (by omega)], hb⟩
end Go.Proofs.YtkeoflnmbcdmfaaDoor
set_option maxRecDepth 8000
namespace Go.Proofs.YtkeoflnmbcdmfaaDoor
open Go.ChangeShapes Go.WideShapes Go.ChangeAt Go.RowKit
/-- a puzzle of the call's own, what is given and the rules' cells apart. -/
def OwnP (w : World) (lo : Nat) (A1 : Option Addr) (n c1 : Nat) (gi : List Int) (g nr : Nat) (rs : List RuleM) : Prop :=
  Ow w lo A1 n c1 gi ∧ ∃ Q : Nat → Prop, OwRd w lo g nr rs Q nr ∧ (∀ b, Q b → b < w.heap.size) ∧ ∀ b, (Value.slice A1 n c1).ownBlock = some b → ¬ Q b
set_option maxHeartbeats 4000000 in
theorem copied_any (s : Int) (Ag : Option Addr) (n cg Bg : Nat) (gi : List Int) (Ar : Option Addr) (nr cr Br : Nat) (rs : List RuleM) (w : World) (hp : PGs w s Ag n cg Bg gi Ar nr cr Br rs) (hn : 0 < n) (hnr : nr ≤ 1048576) (hL : ∀ i, i < nr → 0 < (rat rs i).xs.length) :
    Calls Tryd.prog 67 #[.agg #[.int .i64 s, .slice Ag n cg, .slice Ar nr cr]] w fun e w' => ∃ A1 c1 g, e = .returned (.agg #[.int .i64 s, .slice A1 n c1, .slice (some ⟨g, 0, none⟩) nr nr]) ∧ OwnP w' w.heap.size A1 n c1 gi g nr rs ∧ Below w.heap.size w w' := by
  have hx0 := pbox_new w s Ag n cg Ar nr cr 26
  have hb0 : Below w.heap.size w (w.alloc (.cells #[.int .i64 s, .slice Ag n cg, .slice Ar nr cr] 26)) := (Below.refl _ _).alloc (Nat.le_refl _) _
  have hs0 : w.heap.size < (w.alloc (.cells #[.int .i64 s, .slice Ag n cg, .slice Ar nr cr] 26)).heap.size := by simp
  obtain ⟨V, hV⟩ : ∃ V, V = (w.alloc (.cells #[.int .i64 s, .slice Ag n cg, .slice Ar nr cr] 26)).alloc (.cells #[.int .i64 0, .slice none 0 0, .slice none 0 0] 26) := ⟨_, rfl⟩
  have hbV : Below w.heap.size w V := by rw [hV]; exact hb0.alloc hb0.size _
  have hsV : V.heap.size = w.heap.size + 1 + 1 := by rw [hV]; simp
  have hxV : PBox V w.heap.size s Ag n cg Ar nr cr := by
    rw [hV]
    exact hx0.below hs0 ((Below.refl _ _).alloc (Nat.le_refl _) _)
  have hrow : V.heap[w.heap.size + 1]? = some (.cells #[.int .i64 0, .slice none 0 0, .slice none 0 0] 26) := by rw [hV]; exact heap_alloc2_new w _ _
  have Hi := Lib.hid puz_info
  have HCl := Lib.hid (fun (w' : World) (hb : Below V.heap.size V w') => clone_any Ag n cg Bg gi w' ((hp.below (hbV.trans (hb.mono hbV.size))).g) ((hp.below (hbV.trans (hb.mono hbV.size))).gB) hn hp.gm)
  have HCR := Lib.hid (fun (w' : World) (hb : Below V.heap.size V w') => copiedRules_any Ar cr nr Br rs w' ((hp.below (hbV.trans (hb.mono hbV.size))).r) ((hp.below (hbV.trans (hb.mono hbV.size))).rB) hnr hL)
  have HX := Lib.hid (fun (w' : World) (hb : Below V.heap.size V w') => (⟨hxV.below (by omega) hb, (hb.block (w.heap.size + 1) (by omega)).trans hrow⟩ : PBox w' w.heap.size s Ag n cg Ar nr cr ∧ w'.heap[w.heap.size + 1]? = some (.cells #[.int .i64 0, .slice none 0 0, .slice none 0 0] 26)))
  have HV := Lib.hid hV
  have HbV := Lib.hid hbV
  have hVd : Below V.heap.size V V.drew := (Below.refl _ _).drew
  obtain ⟨z0, z1, z2⟩ := id hxV
  clear hV hx0 hb0 hs0 hp hxV hrow hL hbV
  go_enter Tryd.func67, Tryd.ntmps67
  go_wp2
  rw [← HV.out]
  go_region_with (first
    | (go_at_call 50; (with_reducible refine (HCl.out _ ?hd).mono ?_); (case hd => exact hVd); rintro e w1 ⟨A1, c1, rfl, ho1, hb1d⟩; have hb1 := below_undrew hb1d; clear hb1d; obtain ⟨⟨y0, y1, y2⟩, _⟩ := HX.out _ hb1)
    | (go_at_call 103; (with_reducible refine (HCR.out _ ?hd2).mono ?_); (case hd2 => exact hb1); rintro e w2 ⟨g, rfl, hrd2, hb2⟩; have h2 := step hb1 hb2; obtain ⟨⟨x0, x1, x2⟩, hr2⟩ := HX.out _ h2; have d0 := cell_of_row _ _ 0 _ _ (0, 0) hr2; have d1 := cell_of_row _ _ 1 _ _ (0, 0) hr2; have d2 := cell_of_row _ _ 2 _ _ (0, 0) hr2; have f0 := frozen_of_row _ _ 0 _ _ hr2; have f1 := frozen_of_row _ _ 1 _ _ hr2; have f2 := frozen_of_row _ _ 2 _ _ hr2))
  all_goals
    go_wp2
    have e0 := heap_setCell_same w2 (w.heap.size + 1) 0 _ _ (.int .i64 s) hr2
    have e1 := heap_setCell_same _ (w.heap.size + 1) 1 _ _ (.slice A1 n c1) e0
    have e2 := heap_setCell_same _ (w.heap.size + 1) 2 _ _ (.slice (some ⟨g, 0, none⟩) nr nr) e1
    have hbV := HbV.out
    have h2s := h2.size
    have hbY : Below V.heap.size w2 (((w2.setCell ⟨w.heap.size + 1, 0, none⟩ (.int .i64 s)).setCell ⟨w.heap.size + 1, 1, none⟩ (.slice A1 n c1)).setCell ⟨w.heap.size + 1, 2, none⟩ (.slice (some ⟨g, 0, none⟩) nr nr)) → True := fun _ => trivial
    have hgY : w2.grownBy (((w2.setCell ⟨w.heap.size + 1, 0, none⟩ (.int .i64 s)).setCell ⟨w.heap.size + 1, 1, none⟩ (.slice A1 n c1)).setCell ⟨w.heap.size + 1, 2, none⟩ (.slice (some ⟨g, 0, none⟩) nr nr)) (some (w.heap.size + 1)) := (grown_set.trans grown_set).trans grown_set
    have hB2 : Below w.heap.size w w2 := hbV.trans (h2.mono hbV.size)
    have hBe : Below w.heap.size w (((w2.setCell ⟨w.heap.size + 1, 0, none⟩ (.int .i64 s)).setCell ⟨w.heap.size + 1, 1, none⟩ (.slice A1 n c1)).setCell ⟨w.heap.size + 1, 2, none⟩ (.slice (some ⟨g, 0, none⟩) nr nr)) := ((hB2.setCell (p := ⟨w.heap.size + 1, 0, none⟩) (Nat.le_succ _) _).setCell (p := ⟨w.heap.size + 1, 1, none⟩) (Nat.le_succ _) _).setCell (p := ⟨w.heap.size + 1, 2, none⟩) (Nat.le_succ _) _
    have ho2 := ho1.below hb2
    have hA1 : ∀ b, (Value.slice A1 n c1).ownBlock = some b → w.heap.size + 1 < b ∧ b < w1.heap.size := fun b hb => ⟨by have := ho1.own_lo b hb; have e : V.drew.heap.size = V.heap.size := rfl; omega, ho1.own_hi b hb⟩
    have hV1 := hb1.size
    refine bodyPost_ret (v := .agg #[.int .i64 s, .slice A1 n c1, .slice (some ⟨g, 0, none⟩) nr nr]) (results_cell_row (by rfl) _ _ (w.heap.size + 1) 26 _ (0, 0) _ rfl e2 Tryd.underlying26 rfl (Hi.out _ _ _ _ _ _ _)) rfl ⟨_, _, _, rfl, ⟨?_, fun b => w1.heap.size ≤ b ∧ b < w2.heap.size, ?_, fun b hb => ?_, fun b hb hq => ?_⟩, hBe⟩
    · exact (Ow.far ho2 hgY (fun b hb e => by have := (hA1 b hb).1; have := Option.some.inj e; omega)).mono (by have e : V.drew.heap.size = V.heap.size := rfl; omega)
    · exact (hrd2.far hgY (by omega)).mono (by omega)
    · have := hgY.size; omega
    · have := (hA1 b hb).2; omega
end Go.Proofs.YtkeoflnmbcdmfaaDoor
set_option maxRecDepth 8000
namespace Go.Proofs.YtkeoflnmbcdmfaaDoor
open Go.ChangeShapes Go.WideShapes Go.ChangeAt Go.RowKit
set_option maxHeartbeats 1000000 in
theorem szRuleS_any (A : Option Addr) (c n B : Nat) (rs : List RuleM) (l : Int) (w : World) (h : RdRx w B A n rs) (hB : B ≤ w.heap.size) (hm : n ≤ 9223372036854775807) (h0 : 0 ≤ l) (h1 : l ≤ 1099511627776) :
    Calls Tryd.prog 56 #[.slice A n c, .int .i64 l] w fun e w' => ∃ r : Int, e = .returned (.int .i64 r) ∧ Below w.heap.size w w' ∧ (r = -1 ∨ (0 ≤ r ∧ (n : Int) ≤ l ∧ ∀ i, i < n → ((rat rs i).xs.length : Int) ≤ l)) := by
  have HR := Lib.hid (fun (w' : World) (hb : Below w.heap.size w w') => h.below (hb.mono hB))
  have e1 : wrap64 (l - n) = l - n := IntWalk.wrap64_in _ ⟨by omega, by omega⟩
  by_cases hn : (n : Int) ≤ l
  · have hq4 : ¬ l - (n : Int) < 0 := by omega
    have HQ := Lib.hid (show 0 ≤ l - (n : Int) ∧ l - (n : Int) ≤ l by omega)
    have HN := Lib.hid hn
    clear hn
    go_enter Tryd.func56, Tryd.ntmps56
    go_wp2
    go_loopw [1, 5] (fun lv i wr => ∃ (u : Nat) (q : Int), u ≤ n ∧ 0 ≤ q ∧ q ≤ l ∧ lv = .int .i64 q ∧ i = .int .i64 u ∧ Hid (∀ j, j < u → ((rat rs j).xs.length : Int) ≤ l) ∧ Below w.heap.size w wr) (fun _ i _ => n - (intOf i).toNat)
    case atStart => exact ⟨0, _, Nat.zero_le _, HQ.out.1, HQ.out.2, rfl, rfl, Lib.hid (fun j hj => absurd hj (by omega)), Below.refl _ _⟩
    case round =>
      obtain ⟨u, q, hu, hq0', hq1', rfl, rfl, hall, hb⟩ := hrel
      by_cases hlt : u < n
      · obtain ⟨b, off, rfl, hbB, hcc⟩ := (HR.out _ hb).2 (by omega)
        obtain ⟨A', c', r0, r1, r2, r3, r4⟩ := hcc u hlt
        obtain ⟨rx, hrx⟩ : ∃ x, x = (rat rs u).xs := ⟨_, rfl⟩
        rw [← hrx] at r1 r3 r4
        have HC := Lib.hid (szRule_any A' c' rx.length (rat rs u).k (rat rs u).v q wr r4 hq0' (by omega))
        have hin : (u : Int) < (n : Int) := by omega
        by_cases hfit : (rx.length : Int) ≤ q
        · obtain ⟨q2, hq2⟩ : ∃ z, q - (rx.length : Int) = z := ⟨_, rfl⟩
          rw [if_pos hfit, hq2] at HC
          have hq5 : ¬ q2 < 0 := by omega
          have Hall2 := Lib.hid (show ∀ j, j < u + 1 → ((rat rs j).xs.length : Int) ≤ l from fun j hj => by
            by_cases e : j = u
            · subst e; rw [← hrx]; omega
            · exact hall.out j (by omega))
          have HQ := Lib.hid (show 0 ≤ q2 ∧ q2 ≤ l by omega)
          clear hq2 hfit hcc hrx
          go_wp2_with (go_at_call 96; refine HC.out.mono ?_; rintro e w4 ⟨rfl, hb4⟩)
          go_roundw
          case rel => exact ⟨u + 1, q2, by omega, HQ.out.1, HQ.out.2, rfl, by go_num, Hall2, step hb hb4⟩
          case measure => simp [intOf]; omega
        · rw [if_neg hfit] at HC
          clear hcc hrx
          go_wp2_with (go_at_call 96; refine HC.out.mono ?_; rintro e w4 ⟨rfl, hb4⟩)
          go_ret
          exact ⟨-1, rfl, step hb hb4, .inl rfl⟩
      · obtain rfl : u = n := by omega
        go_wp2
        go_ret
        exact ⟨q, rfl, hb, .inr ⟨hq0', HN.out, hall.out⟩⟩
  · have hq4 : l - (n : Int) < 0 := by omega
    go_enter Tryd.func56, Tryd.ntmps56
    go_wp2
    go_ret
    exact ⟨-1, rfl, Below.refl _ _, .inl rfl⟩
set_option maxHeartbeats 1000000 in
theorem szPuzzle_any (s : Int) (Ag : Option Addr) (cg ng : Nat) (Ar : Option Addr) (cr nr B : Nat) (rs : List RuleM) (l : Int) (w : World) (hg : ng ≤ 9223372036854775807) (h : RdRx w B Ar nr rs) (hB : B ≤ w.heap.size) (hm : nr ≤ 9223372036854775807) (h0 : 0 ≤ l) (h1 : l ≤ 1099511627776) :
    Calls Tryd.prog 23 #[.agg #[.int .i64 s, .slice Ag ng cg, .slice Ar nr cr], .int .i64 l] w fun e w' => ∃ r : Int, e = .returned (.int .i64 r) ∧ Below w.heap.size w w' ∧ (r = -1 ∨ (0 ≤ r ∧ (ng : Int) ≤ l ∧ (nr : Int) ≤ l ∧ ∀ i, i < nr → ((rat rs i).xs.length : Int) ≤ l)) := by
  have hx := pbox_new w s Ag ng cg Ar nr cr 37
  have hb0 : Below w.heap.size w (w.alloc (.cells #[.int .i64 s, .slice Ag ng cg, .slice Ar nr cr] 37)) := (Below.refl _ _).alloc (Nat.le_refl _) _
  obtain ⟨a0, a1, a2⟩ := id hx
  have HC := Lib.hid (fun w => szIntS_any Ag cg ng l w hg h0 h1)
  by_cases hn : (ng : Int) ≤ l
  · obtain ⟨q, hq⟩ : ∃ z, l - (ng : Int) = z := ⟨_, rfl⟩
    rw [if_pos hn, hq] at HC
    have hq5 : ¬ q < 0 := by omega
    have HN := Lib.hid hn
    have HQ := Lib.hid (show 0 ≤ q ∧ q ≤ l by omega)
    have HS := Lib.hid (fun w' (hb : Below w.heap.size w w') => szRuleS_any Ar cr nr B rs q w' (h.below (hb.mono hB)) (Nat.le_trans hB hb.size) hm (by omega) (by omega))
    clear hq hn
    go_enter Tryd.func23, Tryd.ntmps23
    go_wp2_with (first | (go_at_call 55; go_loud (refine (HC.out _).mono ?_; rintro e w1 ⟨rfl, rfl⟩)) | (go_at_call 56; go_loud (refine (HS.out _ hb0).mono ?_; rintro e w2 ⟨r, rfl, hb2, hr⟩)))
    · go_ret
      rename_i hneg
      exact ⟨-1, rfl, step hb0 hb2, .inl rfl⟩
    · go_ret
      rename_i hneg
      rcases hr with rfl | ⟨r0, r1, r2⟩
      · omega
      · exact ⟨r, rfl, step hb0 hb2, .inr ⟨r0, HN.out, Int.le_trans r1 HQ.out.2, fun i hi => Int.le_trans (r2 i hi) HQ.out.2⟩⟩
  · rw [if_neg hn] at HC
    go_enter Tryd.func23, Tryd.ntmps23
    go_wp2_with (go_at_call 55; refine (HC.out _).mono ?_; rintro e w1 ⟨rfl, rfl⟩)
    go_ret
    exact ⟨-1, rfl, hb0, .inl rfl⟩
end Go.Proofs.YtkeoflnmbcdmfaaDoor
set_option maxRecDepth 8000
namespace Go.Proofs.YtkeoflnmbcdmfaaDoor
open Go.ChangeShapes Go.WideShapes Go.ChangeAt Go.RowKit
theorem OwR.keptG {w w' : World} {lo G k : Nat} {v : Value} {rs : List RuleM} (h : OwR w lo v rs k) (hg : w.grownBy w' (some G)) (hG : G < lo) : OwR w' lo v rs k := by
  obtain ⟨vs, hown, hin⟩ := h
  refine ⟨vs, World.ownsRow.kept hown hg (by
    cases e : v.ownBlock
    · exact .inl rfl
    · refine .inr (fun e2 => ?_)
      have h1 := (World.ownsRow.lt hown _ e).1
      have h2 := Option.some.inj e2
      omega), fun i hi => ?_⟩
  obtain ⟨A', c', e0, e1, e2, e3, e4, e5⟩ := hin i hi
  exact ⟨A', c', e0, e1, e2, Ow.far e3 hg (fun g hgg e => by have h1 := e3.own_lo g hgg; have h2 := Option.some.inj e; omega), e4, e5⟩
theorem grown_setRow {w : World} {g : Nat} {cs : Array Value} : w.grownBy (w.setRow g cs) (some g) :=
  ⟨rfl, rfl, rfl, by simp, fun k hk hne => by unfold World.setRow; simp only [Array.getElem?_modify]; rw [if_neg (fun e => hne (by rw [e]))]⟩
set_option maxHeartbeats 1000000 in
theorem eqRuleS_any (A A2 : Option Addr) (c c2 n B B2 : Nat) (rs : List RuleM) (w : World) (h : RdRs w B A n rs) (h2 : RdRs w B2 A2 n rs) (hB : B ≤ w.heap.size) (hB2 : B2 ≤ w.heap.size) (hm : n ≤ 1099511627776) :
    Calls Tryd.prog 61 #[.slice A n c, .slice A2 n c2] w fun e w' => e = .returned (.bool true) ∧ Below w.heap.size w w' := by
  have HR := Lib.hid (fun (w' : World) (hb : Below w.heap.size w w') => h.below (hb.mono hB))
  have HR2 := Lib.hid (fun (w' : World) (hb : Below w.heap.size w w') => h2.below (hb.mono hB2))
  have hnn : ((n : Int) != (n : Int)) = false := by simp
  go_enter Tryd.func61, Tryd.ntmps61
  go_wp2
  go_loopw [5] (fun i wr => ∃ u : Nat, u ≤ n ∧ i = .int .i64 u ∧ Below w.heap.size w wr) (fun i _ => n - (intOf i).toNat)
  case atStart => exact ⟨0, Nat.zero_le _, rfl, Below.refl _ _⟩
  case round =>
    obtain ⟨u, hu, rfl, hb⟩ := hrel
    by_cases hlt : u < n
    · obtain ⟨b, off, rfl, hbB, hcc⟩ := (HR.out _ hb).2 (by omega)
      obtain ⟨b2, off2, rfl, hbB2, hcc2⟩ := (HR2.out _ hb).2 (by omega)
      obtain ⟨A', c', r0, r1, r2, r3, r4⟩ := hcc u hlt
      obtain ⟨A'', c'', t0, t1, t2, t3, t4⟩ := hcc2 u hlt
      obtain ⟨rk, hrk⟩ : ∃ x, x = (rat rs u).k := ⟨_, rfl⟩
      obtain ⟨rx, hrx⟩ : ∃ x, x = (rat rs u).xs := ⟨_, rfl⟩
      obtain ⟨rvv, hrv⟩ : ∃ x, x = (rat rs u).v := ⟨_, rfl⟩
      rw [← hrk] at r0 t0
      rw [← hrx] at r1 r3 r4 t1 t3
      rw [← hrv] at r2 t2
      have hbw : b < wr.heap.size := cell_lt r0
      have hbw2 : b2 < wr.heap.size := cell_lt t0
      have HC := Lib.hid (fun w' (hbb : Below wr.heap.size wr w') => eqRule_any A' A'' c' c'' rx.length rx.length B B2 rx rx rk rvv rk rvv w' (r3.below (hbb.mono (Nat.le_trans hB hb.size))) (t3.below (hbb.mono (Nat.le_trans hB2 hb.size))) (Nat.le_trans (Nat.le_trans hB hb.size) hbb.size) (Nat.le_trans (Nat.le_trans hB2 hb.size) hbb.size) r4 rfl rfl rfl)
      have HS : Hid (∀ w', Below wr.heap.size wr w' → w'.cell? ⟨b, off + u * 3, none⟩ = some (.int .i64 rk) ∧ w'.cell? ⟨b, off + u * 3 + 1, none⟩ = some (.slice A' rx.length c') ∧ w'.cell? ⟨b, off + u * 3 + 2, none⟩ = some (.int .i64 rvv) ∧ w'.cell? ⟨b2, off2 + u * 3, none⟩ = some (.int .i64 rk) ∧ w'.cell? ⟨b2, off2 + u * 3 + 1, none⟩ = some (.slice A'' rx.length c'') ∧ w'.cell? ⟨b2, off2 + u * 3 + 2, none⟩ = some (.int .i64 rvv)) :=
        Lib.hid (fun w' hb => ⟨(hb.cell (p := ⟨b, off + u * 3, none⟩) hbw).trans r0, (hb.cell (p := ⟨b, off + u * 3 + 1, none⟩) hbw).trans r1, (hb.cell (p := ⟨b, off + u * 3 + 2, none⟩) hbw).trans r2, (hb.cell (p := ⟨b2, off2 + u * 3, none⟩) hbw2).trans t0, (hb.cell (p := ⟨b2, off2 + u * 3 + 1, none⟩) hbw2).trans t1, (hb.cell (p := ⟨b2, off2 + u * 3 + 2, none⟩) hbw2).trans t2⟩)
      have hin : (u : Int) < (n : Int) := by omega
      have Hlt := Lib.hid hlt
      clear hrk hrx hrv hcc hcc2
      go_wp2
      go_region_held3 (fun w' => w'.cell? ⟨b, off + u * 3, none⟩ = some (.int .i64 rk) ∧ w'.cell? ⟨b, off + u * 3 + 1, none⟩ = some (.slice A' rx.length c') ∧ w'.cell? ⟨b, off + u * 3 + 2, none⟩ = some (.int .i64 rvv) ∧ w'.cell? ⟨b2, off2 + u * 3, none⟩ = some (.int .i64 rk) ∧ w'.cell? ⟨b2, off2 + u * 3 + 1, none⟩ = some (.slice A'' rx.length c'') ∧ w'.cell? ⟨b2, off2 + u * 3 + 2, none⟩ = some (.int .i64 rvv))
        (first | go_keep | exact HS.out _ hb5)
        ((go_simp; go_at_call 98; refine (HC.out _ (Below.refl _ _).drew).mono ?_; rintro e w5 ⟨rfl, hb4⟩; have hb5 : Below wr.heap.size wr w5 := ((Below.refl _ _).drew).trans hb4))
      go_wp2
      go_roundw
      case rel => exact ⟨u + 1, Hlt.out, by go_num, hb.trans (hb5.mono hb.size)⟩
      case measure => have := Hlt.out; simp [intOf]; omega
    · obtain rfl : u = n := by omega
      go_wp2
      go_ret
      exact ⟨rfl, hb⟩
set_option maxHeartbeats 1000000 in
theorem eqPuzzle_any (s : Int) (Ag Ag2 : Option Addr) (cg cg2 ng Bg Bg2 : Nat) (g : List Int) (Ar Ar2 : Option Addr) (cr cr2 nr B B2 : Nat) (rs : List RuleM) (w : World) (hg : Rd w Bg Ag ng g) (hBg : Bg ≤ w.heap.size) (hmg : ng ≤ 1099511627776) (hg2 : Rd w Bg2 Ag2 ng g) (hBg2 : Bg2 ≤ w.heap.size) (h : RdRs w B Ar nr rs) (h2 : RdRs w B2 Ar2 nr rs) (hB : B ≤ w.heap.size) (hB2 : B2 ≤ w.heap.size) (hm : nr ≤ 1099511627776) :
    Calls Tryd.prog 26 #[.agg #[.int .i64 s, .slice Ag ng cg, .slice Ar nr cr], .agg #[.int .i64 s, .slice Ag2 ng cg2, .slice Ar2 nr cr2]] w fun e w' => e = .returned (.bool true) ∧ Below w.heap.size w w' := by
  have hx := pbox_new w s Ag ng cg Ar nr cr 26
  have hb0 : Below w.heap.size w (w.alloc (.cells #[.int .i64 s, .slice Ag ng cg, .slice Ar nr cr] 26)) := (Below.refl _ _).alloc (Nat.le_refl _) _
  have hs0 : w.heap.size < (w.alloc (.cells #[.int .i64 s, .slice Ag ng cg, .slice Ar nr cr] 26)).heap.size := by simp
  have hx2 := pbox_new (w.alloc (.cells #[.int .i64 s, .slice Ag ng cg, .slice Ar nr cr] 26)) s Ag2 ng cg2 Ar2 nr cr2 26
  obtain ⟨U, hU⟩ : ∃ U, U = (w.alloc (.cells #[.int .i64 s, .slice Ag ng cg, .slice Ar nr cr] 26)).alloc (.cells #[.int .i64 s, .slice Ag2 ng cg2, .slice Ar2 nr cr2] 26) := ⟨_, rfl⟩
  rw [World.size_alloc, ← hU] at hx2
  have hx1 : PBox U w.heap.size s Ag ng cg Ar nr cr := by rw [hU]; exact hx.below hs0 ((Below.refl _ _).alloc (Nat.le_refl _) _)
  have hbU : Below w.heap.size w U := by rw [hU]; exact hb0.alloc hb0.size _
  have hsU : U.heap.size = w.heap.size + 1 + 1 := by rw [hU]; simp
  have hs1 : w.heap.size < U.heap.size := by omega
  have hs2 : w.heap.size + 1 < U.heap.size := by omega
  obtain ⟨a0, a1, a2⟩ := id hx1
  obtain ⟨b0, b1, b2⟩ := id hx2
  have hss : (s != s) = false := by simp
  have hsame := same_refl g
  have HI := Lib.hid (eqIntS_any Ag Ag2 cg cg2 ng ng Bg Bg2 g g U (hg.below (hbU.mono hBg)) (hg2.below (hbU.mono hBg2)) hmg)
  rw [hsame] at HI
  have HE := Lib.hid (fun w' (hb : Below w.heap.size w w') => eqRuleS_any Ar Ar2 cr cr2 nr B B2 rs w' (h.below (hb.mono hB)) (h2.below (hb.mono hB2)) (Nat.le_trans hB hb.size) (Nat.le_trans hB2 hb.size) hm)
  have HU := Lib.hid hU
  clear hU hx hsU
  go_enter Tryd.func26, Tryd.ntmps26
  go_wp2_with (first | (go_at_call 60; rw [← HU.out]; refine HI.out.mono ?_; rintro e w2 ⟨rfl, hb2⟩; have h02 := step hbU hb2; obtain ⟨d0, d1, d2⟩ := hx1.below hs1 hb2; obtain ⟨e0, e1, e2⟩ := hx2.below hs2 hb2) | (go_at_call 61; refine (HE.out _ h02).mono ?_; rintro e w3 ⟨rfl, hb3⟩))
  go_ret
  exact ⟨rfl, step h02 hb3⟩
set_option maxHeartbeats 1000000 in
theorem toPuzzle_any (s : Int) (Ag : Option Addr) (cg n Bg : Nat) (g : List Int) (Ar : Option Addr) (cr nr B : Nat) (rs : List RuleM) (w : World) (hg : Rd w Bg Ag n g) (hBg : Bg ≤ w.heap.size) (hmg : n ≤ 1099511627776) (h : RdRs w B Ar nr rs) (hB : B ≤ w.heap.size) (hm : nr ≤ 1048576) :
    Calls Tryd.prog 25 #[.agg #[.int .i64 s, .slice Ag n cg, .slice Ar nr cr]] w fun e w' => ∃ A1 g2, e = .returned (.agg #[.int .i64 s, .slice A1 n n, .slice (some ⟨g2, 0, none⟩) nr nr]) ∧ Ow w' w.heap.size A1 n n g ∧ OwR w' w.heap.size (.slice (some ⟨g2, 0, none⟩) nr nr) rs nr ∧ Below w.heap.size w w' := by
  have Hone := Lib.hid puz_one
  have Hi := Lib.hid puz_info
  have hx0 := pbox_new w s Ag n cg Ar nr cr 37
  have hb0 : Below w.heap.size w (w.alloc (.cells #[.int .i64 s, .slice Ag n cg, .slice Ar nr cr] 37)) := (Below.refl _ _).alloc (Nat.le_refl _) _
  have hs0 : w.heap.size < (w.alloc (.cells #[.int .i64 s, .slice Ag n cg, .slice Ar nr cr] 37)).heap.size := by simp
  obtain ⟨V, hV⟩ : ∃ V, V = ((w.alloc (.cells #[.int .i64 s, .slice Ag n cg, .slice Ar nr cr] 37)).alloc (.cells #[.int .i64 0, .slice none 0 0, .slice none 0 0] 26)).alloc (.cells #[.int .i64 s, .slice none 0 0, .slice none 0 0] 26) := ⟨_, rfl⟩
  have hbV : Below w.heap.size w V := by rw [hV]; exact (hb0.alloc hb0.size _).alloc (by simp; omega) _
  have hsV : V.heap.size = w.heap.size + 1 + 1 + 1 := by rw [hV]; simp
  have hv2 : V.heap[w.heap.size + 1 + 1]? = some (.cells #[.int .i64 s, .slice none 0 0, .slice none 0 0] 26) := by
    have := heap_alloc2_new (w.alloc (.cells #[.int .i64 s, .slice Ag n cg, .slice Ar nr cr] 37)) (.cells #[.int .i64 0, .slice none 0 0, .slice none 0 0] 26) (.cells #[.int .i64 s, .slice none 0 0, .slice none 0 0] 26)
    rw [World.size_alloc] at this
    rw [hV]
    exact this
  have hv1 : V.heap[w.heap.size + 1]? = some (.cells #[.int .i64 0, .slice none 0 0, .slice none 0 0] 26) := by
    have := heap_alloc2_old (w.alloc (.cells #[.int .i64 s, .slice Ag n cg, .slice Ar nr cr] 37)) (.cells #[.int .i64 0, .slice none 0 0, .slice none 0 0] 26) (.cells #[.int .i64 s, .slice none 0 0, .slice none 0 0] 26)
    rw [World.size_alloc] at this
    rw [hV]
    exact this
  have hx1 : PBox V w.heap.size s Ag n cg Ar nr cr := by
    rw [hV]
    exact hx0.below hs0 (((Below.refl _ _).alloc (Nat.le_refl _) _).alloc (by simp) _)
  obtain ⟨k0, k1, k2⟩ := id hx1
  have hwV : w.heap.size ≤ V.heap.size := by omega
  have hwV0 : w.heap.size < V.heap.size := by omega
  have hwV1 : w.heap.size + 1 < V.heap.size := by omega
  have hwV2 : w.heap.size + 1 + 1 < V.heap.size := by omega
  have hne02 : w.heap.size + 1 + 1 ≠ w.heap.size := by omega
  have hne12 : w.heap.size + 1 ≠ w.heap.size + 1 + 1 := by omega
  have hle2 : w.heap.size ≤ w.heap.size + 1 + 1 := by omega
  have HG := Lib.hid (toIntS_any Ag cg n Bg g V (hg.below (hbV.mono hBg)) (Nat.le_trans hBg hwV) hmg)
  have HRR := Lib.hid (fun w' (hb : Below w.heap.size w w') => toRuleS_any Ar cr nr B rs w' (h.below (hb.mono hB)) (Nat.le_trans hB hb.size) hm)
  have HV := Lib.hid hV
  have HsV := Lib.hid hsV
  have HbV := Lib.hid hbV
  clear hV hsV hbV hx0 hb0 hs0
  go_enter Tryd.func25, Tryd.ntmps25
  go_wp2_with fail
  rw [← HV.out]
  refine HG.out.mono ?_
  rintro e w1 ⟨rfl, ho1, hbw1⟩
  have f1 := (hbw1.block (w.heap.size + 1) hwV1).trans hv1
  have f2 := (hbw1.block (w.heap.size + 1 + 1) hwV2).trans hv2
  obtain ⟨j0, j1, j2⟩ := hx1.below hwV0 hbw1
  have m0 : w1.cell? ⟨w.heap.size + 1 + 1, 0, none⟩ = some (.int .i64 s) := cell_of_row _ _ 0 _ _ (0, 0) f2
  have m1 : w1.cell? ⟨w.heap.size + 1 + 1, 1, none⟩ = some (.slice none 0 0) := cell_of_row _ _ 1 _ _ (0, 0) f2
  have fz := frozen_of_row w1 (w.heap.size + 1 + 1) 1 _ _ f2
  obtain ⟨W2, hW2⟩ : ∃ W2, w1.setCell ⟨w.heap.size + 1 + 1, 1, none⟩ (.slice (some ⟨V.heap.size, 0, none⟩) n n) = W2 := ⟨_, rfl⟩
  have g1 : W2.heap[w.heap.size + 1]? = some (.cells #[.int .i64 0, .slice none 0 0, .slice none 0 0] 26) := by rw [← hW2]; exact (heap_setCell_other w1 ⟨w.heap.size + 1 + 1, 1, none⟩ (w.heap.size + 1) _ hne12).trans f1
  have g2 : W2.heap[w.heap.size + 1 + 1]? = some (.cells #[.int .i64 s, .slice (some ⟨V.heap.size, 0, none⟩) n n, .slice none 0 0] 26) := by rw [← hW2]; exact heap_setCell_same w1 (w.heap.size + 1 + 1) 1 _ _ (.slice (some ⟨V.heap.size, 0, none⟩) n n) f2
  have hb2 : Below w.heap.size w W2 := by rw [← hW2]; exact (HbV.out.trans (hbw1.mono hwV)).setCell (p := ⟨w.heap.size + 1 + 1, 1, none⟩) hle2 _
  have hj2 : W2.cell? ⟨w.heap.size, 2, none⟩ = some (.slice Ar nr cr) := by rw [← hW2]; exact (World.cell?_setCell_far w1 ⟨w.heap.size + 1 + 1, 1, none⟩ ⟨w.heap.size, 2, none⟩ _ hne02).trans j2
  have ho2 : Ow W2 V.heap.size (some ⟨V.heap.size, 0, none⟩) n n g := by rw [← hW2]; exact ho1.far (row := some (w.heap.size + 1 + 1)) grown_set (fun b hb e => by have := ho1.own_lo b hb; injection e with e; omega)
  have hs2 : w.heap.size + 1 + 1 < W2.heap.size := (Array.getElem?_eq_some_iff.1 g2).1
  have HR2 := Lib.hid (HRR.out W2 hb2)
  clear f1 f2 k0 k1 k2 hv1 hv2
  go_wp2_with fail
  (try rw [hW2])
  refine HR2.out.mono ?_
  rintro e w3 ⟨gr, rfl, ho3, hb3⟩
  have q1 := (hb3.block (w.heap.size + 1) (by omega)).trans g1
  have q2 := (hb3.block (w.heap.size + 1 + 1) hs2).trans g2
  have fz3 := frozen_of_row w3 (w.heap.size + 1 + 1) 2 _ _ q2
  have p2 : w3.cell? ⟨w.heap.size + 1 + 1, 2, none⟩ = some (.slice none 0 0) := cell_of_row _ _ 2 _ _ (0, 0) q2
  have r1 := (heap_setCell_other w3 ⟨w.heap.size + 1 + 1, 2, none⟩ (w.heap.size + 1) (.slice (some ⟨gr, 0, none⟩) nr nr) hne12).trans q1
  have r2 := heap_setCell_same w3 (w.heap.size + 1 + 1) 2 _ _ (.slice (some ⟨gr, 0, none⟩) nr nr) q2
  go_wp2_with (first
    | (refine wpList_load_row rfl 26 _ rfl (w.heap.size + 1 + 1) rfl 26 #[.int .i64 s, .slice (some ⟨V.heap.size, 0, none⟩) n n, .slice (some ⟨gr, 0, none⟩) nr nr] (0, 0) _ r2 Tryd.underlying26 rfl (Hi.out _ _ _ _ _ _ _) ?_)
    | (refine wpList_store_row rfl 26 _ _ rfl (w.heap.size + 1) #[.int .i64 s, .slice (some ⟨V.heap.size, 0, none⟩) n n, .slice (some ⟨gr, 0, none⟩) nr nr] rfl rfl 26 #[.int .i64 0, .slice none 0 0, .slice none 0 0] r1 (Hi.out _ _ _ _ _ _ _) rfl (Hone.out _ _ _ _ _ _ _) ?_))
  have hB3 : Below w.heap.size w w3 := step hb2 hb3
  have hBe : Below w.heap.size w ((w3.setCell ⟨w.heap.size + 1 + 1, 2, none⟩ (.slice (some ⟨gr, 0, none⟩) nr nr)).setRow (w.heap.size + 1) #[.int .i64 s, .slice (some ⟨V.heap.size, 0, none⟩) n n, .slice (some ⟨gr, 0, none⟩) nr nr]) := setRow_below5 (hB3.setCell (p := ⟨w.heap.size + 1 + 1, 2, none⟩) hle2 _) (by omega)
  have HsV' := HsV.out
  have ho2' := ho2.below hb3
  refine bodyPost_ret (v := .agg #[.int .i64 s, .slice (some ⟨V.heap.size, 0, none⟩) n n, .slice (some ⟨gr, 0, none⟩) nr nr]) (results_cell_row (by rfl) _ _ (w.heap.size + 1) 26 _ (0, 0) _ rfl (setRow_heap _ _ _ _ _ _ r1) Tryd.underlying26 rfl (Hi.out _ _ _ _ _ _ _)) rfl ⟨_, _, rfl, ?own, ?ownr, hBe⟩
  case own =>
    refine (((ho2'.far (row := some (w.heap.size + 1 + 1)) grown_set (fun b hb e => by have := ho2.own_lo b hb; injection e with e; omega)).row5 (fun b hb => ?_)).mono (by omega))
    have := ho2.own_lo b hb
    omega
  case ownr => exact ((ho3.keptG grown_set hs2).keptG grown_setRow (by omega)).mono (by omega)
end Go.Proofs.YtkeoflnmbcdmfaaDoor
