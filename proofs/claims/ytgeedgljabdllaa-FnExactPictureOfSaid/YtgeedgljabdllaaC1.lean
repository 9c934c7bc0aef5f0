import Derived.Test.YtgeedgljabdllaaBase
namespace Go.Proofs.Ytgeedgljabdllaa
open Go.ChangeShapes Go.WideShapes Go.ChangeAt Go.RowKit

theorem l1In_any (n lo hi : Int) (w : World) : Calls Try.prog 49 #[.int .i64 n, .int .i64 lo, .int .i64 hi] w fun e w' => e = .returned (.bool (inr n lo hi)) ∧ w = w' := by
  by_cases h1 : lo ≤ n
  · go_enter Try.func49, Try.ntmps49
    go_wp2
    go_ret
    exact ⟨by simp [inr, h1], rfl⟩
  · go_enter Try.func49, Try.ntmps49
    go_wp2
    go_ret
    exact ⟨by simp [inr]; omega, rfl⟩

theorem sizeValid_any (n : Int) (w : World) : Calls Try.prog 101 #[.int .i64 n] w fun e w' => e = .returned (.bool (inr n 2 4)) ∧ w = w' := by
  by_cases h1 : 2 ≤ n
  · go_enter Try.func101, Try.ntmps101
    go_wp2
    go_ret
    exact ⟨by simp [inr, h1], rfl⟩
  · go_enter Try.func101, Try.ntmps101
    go_wp2
    go_ret
    exact ⟨by simp [inr]; omega, rfl⟩

def okTo (xs : List Int) (size : Int) (k : Nat) : Prop := ∀ j, j < k → inr (nth xs j) 0 size = true
theorem okTo_zero {xs : List Int} {size : Int} : okTo xs size 0 := fun j hj => by omega
theorem okTo_succ {xs : List Int} {size : Int} {k : Nat} (h : okTo xs size k) (hv : inr (nth xs k) 0 size = true) : okTo xs size (k + 1) := fun j hj => by
  by_cases e : j = k
  · subst e; exact hv
  · exact h j (by omega)
def gv (xs : List Int) (size : Int) : Bool := inr size 2 4 && ((xs.length : Int) == size * size) && xs.all (fun x => inr x 0 size)

theorem okTo_all {xs : List Int} {size : Int} {n : Nat} (h : okTo xs size n) (hn : xs.length = n) : xs.all (fun x => inr x 0 size) = true := by
  subst hn
  rw [List.all_eq_true]
  intro x hx
  obtain ⟨j, hj, rfl⟩ := List.getElem_of_mem hx
  have := h j hj
  simpa [nth, List.getD_eq_getElem?_getD, hj] using this
theorem not_all {xs : List Int} {size : Int} {n k : Nat} (hn : xs.length = n) (hk : k < n) (h : inr (nth xs k) 0 size = false) : gv xs size = false := by
  subst hn
  have : xs.all (fun x => inr x 0 size) = false := by
    rw [List.all_eq_false]
    exact ⟨xs[k], List.getElem_mem hk, by simpa [nth, List.getD_eq_getElem?_getD, hk] using h⟩
  simp only [gv, this, Bool.and_false]

theorem sq_bd {size : Int} (h2 : 2 ≤ size) (h4 : size ≤ 4) : 4 ≤ size * size ∧ size * size ≤ 16 := by
  have : size = 2 ∨ size = 3 ∨ size = 4 := by omega
  rcases this with rfl | rfl | rfl <;> omega
theorem sq_wrap {size : Int} (h2 : 2 ≤ size) (h4 : size ≤ 4) : wrap64 (size * size) = size * size :=
  IntWalk.wrap64_in _ ⟨by have := sq_bd h2 h4; omega, by have := sq_bd h2 h4; omega⟩

theorem implValid (A : Option Addr) (c n B : Nat) (xs : List Int) (size : Int) (w : World) (h : Rd w B A n xs) (hB : B ≤ w.heap.size) (hm : n ≤ 1099511627776) :
    Calls Try.prog 82 #[.agg #[.slice A n c, .int .i64 size]] w fun e w' => e = .returned (.bool (gv xs size)) ∧ Below w.heap.size w w' := by
  have hlen := Lib.hid h.1
  cases hs : inr size 2 4
  · go_enter Try.func82, Try.ntmps82
    go_wp2_with (go_at_call 101; refine (sizeValid_any _ _).mono ?_; rintro e w' ⟨rfl, rfl⟩)
    go_ret
    exact ⟨by simp [gv, hs], (Below.refl _ _).alloc (Nat.le_refl _) _⟩
  · obtain ⟨h2, h4⟩ := inr_t hs
    have hw := sq_wrap h2 h4
    cases hsq : ((n : Int) == size * size)
    · have hg := Lib.hid (show gv xs size = false by simp [gv, hlen.out, hsq])
      have hsq2 : ((n : Int) != wrap64 (size * size)) = true := by rw [hw, bne, hsq]; rfl
      clear hw hsq
      go_enter Try.func82, Try.ntmps82
      go_wp2_with (go_at_call 101; refine (sizeValid_any _ _).mono ?_; rintro e w' ⟨rfl, rfl⟩)
      go_ret
      exact ⟨by rw [hg.out]; rfl, (Below.refl _ _).alloc (Nat.le_refl _) _⟩
    · have hg0 : xs.all (fun x => inr x 0 size) = true → gv xs size = true := fun h => by simp [gv, hlen.out, hsq, hs, h]
      have hg := Lib.hid hg0; clear hg0
      have hsq2 : ((n : Int) != wrap64 (size * size)) = false := by rw [hw, bne, hsq]; rfl
      clear hw hsq
      go_enter Try.func82, Try.ntmps82
      go_wp2_with (go_at_call 101; refine (sizeValid_any _ _).mono ?_; rintro e w' ⟨rfl, rfl⟩)
      go_loop [23] (fun i => ∃ k : Nat, k ≤ n ∧ i = .int .i64 k ∧ okTo xs size k) (fun i => n - (intOf i).toNat)
      case atStart => exact ⟨0, Nat.zero_le _, rfl, okTo_zero⟩
      case round =>
        obtain ⟨k, hk, rfl, hok⟩ := hrel
        by_cases hlt : k < n
        · obtain ⟨b, off, rfl, hb, hck⟩ := h.at_ hlt
          have hbw : b < w.heap.size := by omega
          by_cases hv0 : 0 ≤ nth xs k
          · by_cases hv1 : nth xs k ≤ size
            · go_wp2
              go_round
              case rel => exact ⟨k + 1, by omega, by go_num, okTo_succ hok (by simp [inr, hv0, hv1])⟩
              case measure => simp [intOf]; omega
            · go_wp2
              go_ret
              exact ⟨by rw [not_all hlen.out hlt (by simp [inr]; omega)]; rfl, (Below.refl _ _).alloc (Nat.le_refl _) _⟩
          · go_wp2
            go_ret
            exact ⟨by rw [not_all hlen.out hlt (by simp [inr]; omega)]; rfl, (Below.refl _ _).alloc (Nat.le_refl _) _⟩
        · obtain rfl : k = n := by omega
          have hall := Lib.hid (okTo_all hok hlen.out)
          go_wp2
          go_ret
          exact ⟨by rw [hg.out hall.out]; rfl, (Below.refl _ _).alloc (Nat.le_refl _) _⟩
theorem gv_nth {xs : List Int} {size : Int} (h : gv xs size = true) {k : Nat} (hk : k < xs.length) : 0 ≤ nth xs k ∧ nth xs k ≤ size := by
  simp only [gv, Bool.and_eq_true, List.all_eq_true] at h
  have := inr_t (h.2 xs[k] (List.getElem_mem hk))
  simpa [nth, List.getD_eq_getElem?_getD, hk] using this
theorem gv_size {xs : List Int} {size : Int} (h : gv xs size = true) : 2 ≤ size ∧ size ≤ 4 := by
  simp only [gv, Bool.and_eq_true] at h
  exact inr_t h.1.1
theorem gv_len {xs : List Int} {size : Int} (h : gv xs size = true) : (xs.length : Int) = size * size := by
  simp only [gv, Bool.and_eq_true, beq_iff_eq] at h
  exact h.1.2

/-- how many of the first k are not 0. -/
def cnz (xs : List Int) : Nat → Nat
  | 0 => 0
  | k + 1 => cnz xs k + if nth xs k = 0 then 0 else 1
theorem cnz_le (xs : List Int) (k : Nat) : cnz xs k ≤ k := by
  induction k with
  | zero => simp [cnz]
  | succ k ih => simp only [cnz]; split <;> omega
theorem cnz_z {xs : List Int} {k : Nat} (h : nth xs k = 0) : cnz xs (k + 1) = cnz xs k := by simp [cnz, h]
theorem cnz_nz {xs : List Int} {k : Nat} (h : nth xs k ≠ 0) : cnz xs (k + 1) = cnz xs k + 1 := by simp [cnz, h]
def gf (xs : List Int) (size : Int) : Int := if gv xs size = true then (cnz xs xs.length : Int) else -1

theorem implFilled (A : Option Addr) (c n B : Nat) (xs : List Int) (size : Int) (w : World) (h : Rd w B A n xs) (hB : B ≤ w.heap.size) (hm : n ≤ 1099511627776) :
    Calls Try.prog 83 #[.agg #[.slice A n c, .int .i64 size]] w fun e w' => e = .returned (.int .i64 (cnz xs n)) ∧ Below w.heap.size w w' := by
  go_enter Try.func83, Try.ntmps83
  go_wp2
  go_loop [3, 9] (fun q i => ∃ k : Nat, k ≤ n ∧ i = .int .i64 k ∧ q = .int .i64 (cnz xs k)) (fun _ i => n - (intOf i).toNat)
  case atStart => exact ⟨0, Nat.zero_le _, rfl, rfl⟩
  case round =>
    obtain ⟨k, hk, rfl, rfl⟩ := hrel
    have hle := cnz_le xs k
    by_cases hlt : k < n
    · obtain ⟨b, off, rfl, hb, hck⟩ := h.at_ hlt
      have hbw : b < w.heap.size := by omega
      by_cases h0 : nth xs k = 0
      · have hne : (nth xs k != 0) = false := by simp [h0]
        have hs := Lib.hid (cnz_z (xs := xs) (k := k) h0)
        clear h0
        go_wp2
        go_round
        case rel => exact ⟨k + 1, by omega, by go_num, by rw [hs.out]⟩
        case measure => simp [intOf]; omega
      · have hne : (nth xs k != 0) = true := by simp [h0]
        have hs := Lib.hid (cnz_nz (xs := xs) (k := k) h0)
        clear h0
        go_wp2
        go_round
        case rel => exact ⟨k + 1, by omega, by go_num, by rw [hs.out]; go_num⟩
        case measure => simp [intOf]; omega
    · obtain rfl : k = n := by omega
      go_wp2
      go_ret
      exact ⟨rfl, (Below.refl _ _).alloc (Nat.le_refl _) _⟩
theorem implGridFilled (A : Option Addr) (c n B : Nat) (xs : List Int) (size : Int) (w : World) (h : Rd w B A n xs) (hB : B ≤ w.heap.size) (hm : n ≤ 1099511627776) :
    Calls Try.prog 50 #[.slice A n c, .int .i64 size] w fun e w' => e = .returned (.int .i64 (gf xs size)) ∧ Below w.heap.size w w' := by
  have hlen := Lib.hid h.1
  cases hg : gv xs size
  · go_enter Try.func50, Try.ntmps50
    go_wp2_with fail
    refine (implValid _ _ _ _ _ _ _ (h.alloc hB _) (by simp; omega) hm).mono ?_
    rintro e w1 ⟨rfl, hb⟩
    go_wp2
    go_ret
    exact ⟨by simp [gf, hg], box_below hb⟩
  · go_enter Try.func50, Try.ntmps50
    go_wp2_with fail
    refine (implValid _ _ _ _ _ _ _ (h.alloc hB _) (by simp; omega) hm).mono ?_
    rintro e w1 ⟨rfl, hb⟩
    have c0 := box_cell hb 0
    have c1 := box_cell hb 1
    simp at c0 c1
    have hbb := box_below hb
    go_wp2_with fail
    refine (implFilled _ _ _ _ _ _ _ (h.below (hbb.mono hB)) (Nat.le_trans hB hbb.size) hm).mono ?_
    rintro e w2 ⟨rfl, hb2⟩
    go_wp2
    go_ret
    exact ⟨by simp [gf, hg, hlen.out], hbb.trans (hb2.mono hbb.size)⟩
end Go.Proofs.Ytgeedgljabdllaa
