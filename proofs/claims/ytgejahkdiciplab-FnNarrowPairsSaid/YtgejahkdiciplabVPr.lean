import Derived.Test.YtgejahkdiciplabVI6M
import Derived.Test.YtgejahkdiciplabVNr
import Derived.Test.YtgejahkdiciplabVNp
set_option maxRecDepth 8000
namespace Go.Proofs.Ytgejahkdiciplab
open Go.ChangeShapes Go.WideShapes Go.ChangeAt Go.RowKit
/-- masks within masks, bit by bit. -/
def Wi (a b : List Int) : Prop := ∀ k, k < b.length → bits .andNot .i64 (nth a k) (nth b k) = 0
theorem an_self : ∀ x, x < 32 → bits .andNot .i64 (x : Nat) (x : Nat) = 0 := by decide +kernel
theorem an_and : ∀ x, x < 32 → ∀ v, v < 5 → ∀ y, y < 32 → bits .andNot .i64 (x : Nat) (y : Nat) = 0 → bits .andNot .i64 (bits .and .i64 (x : Nat) (2 ^ v)) (y : Nat) = 0 := by decide +kernel
theorem and_bit : ∀ x, x < 32 → ∀ v, v < 5 → (bits .and .i64 (x : Nat) (2 ^ v)).toNat.testBit v = x.testBit v := by decide +kernel
theorem Wi.refl {m : List Int} {s : Int} (hm : mvd m s = true) : Wi m m := fun k hk => by
  obtain ⟨x0, x1, _⟩ := mvd_nth hm k
  obtain ⟨x, hx⟩ := Int.eq_ofNat_of_zero_le x0
  rw [hx]; exact an_self x (by omega)
theorem within_any (A A' : Option Addr) (c c' n n' B B' : Nat) (xs ys : List Int) (w : World) (h : Rd w B A n xs) (h' : Rd w B' A' n' ys) (hnn : n = n') (hw : Hid (Wi xs ys)) (hm : n ≤ 1099511627776) :
    Calls Try.prog 30 #[.slice A n c, .slice A' n' c'] w fun e w' => e = .returned (.bool true) ∧ Below w.heap.size w w' := by
  subst hnn
  have hl' := Lib.hid h'.1
  go_enter Try.func30, Try.ntmps30
  go_wp2
  go_loopw [5] (fun i wr => ∃ k : Nat, k ≤ n ∧ i = .int .i64 k ∧ Below w.heap.size w wr ∧ Rd wr B A n xs ∧ Rd wr B' A' n ys) (fun i _ => n - (intOf i).toNat)
  case atStart => exact ⟨0, Nat.zero_le _, rfl, Below.refl _ _, h, h'⟩
  case round =>
    obtain ⟨k, hk, rfl, hb, hr, hr'⟩ := hrel
    by_cases hlt : k < n
    · obtain ⟨b, off, rfl, hbB, hck⟩ := hr.at_ hlt
      obtain ⟨b', off', rfl, hbB', hck'⟩ := hr'.at_ hlt
      have hltI : (k : Int) < (n : Int) := by omega
      have hne : (bits .andNot .i64 (nth xs k) (nth ys k) != 0) = false := by rw [hw.out k (by rw [hl'.out]; exact hlt)]; rfl
      go_wp2
      go_quiet (fail)
      go_wp2
      go_roundw
      case rel => exact ⟨k + 1, by omega, by go_num, below_drewN hb _, hr, hr'⟩
      case measure => simp [intOf]; omega
    · obtain rfl : k = n := by omega
      go_wp2
      go_ret
      exact ⟨rfl, hb⟩
set_option maxHeartbeats 1000000 in
theorem keeps_any (A A' : Option Addr) (c c' n n' B B' : Nat) (m x : List Int) (s : Int) (w : World) (h : Rd w B A n m) (h' : Rd w B' A' n' x) (hB : B ≤ w.heap.size) (hB' : B' ≤ w.heap.size) (hm : n ≤ 1099511627776) (hm' : n' ≤ 1099511627776) (h64 : B64 x) (s2 : 2 ≤ s) (s4 : s ≤ 4)
    (hk : Hid (∀ q : Nat, sqSolved (sqn s q) s = true → mhB m s (sqn s q) = true → mhB x s (sqn s q) = true)) :
    Calls Try.prog 31 #[.slice A n c, .slice A' n' c', .int .i64 s] w fun e w' => e = .returned (.bool true) ∧ Below w.heap.size w w' := by
  have hsb : -9223372036854775808 ≤ s ∧ s ≤ 9223372036854775807 := by omega
  go_enter Try.func31, Try.ntmps31
  go_wp2
  go_loopw [7] (fun i wr => ∃ k : Nat, k ≤ 14 ∧ i = .int .i64 k ∧ Below w.heap.size w wr) (fun i _ => 14 - (intOf i).toNat)
  case atStart => exact ⟨0, Nat.zero_le _, rfl, Below.refl _ _⟩
  case round =>
    obtain ⟨k, hk14, rfl, hb⟩ := hrel
    by_cases hlt : k < 14
    · have hltI : (k : Int) < 14 := by omega
      have HS := Lib.hid (fun w' => specSquareNumber s (k : Int) w' (by omega) (by omega))
      by_cases hc : (k : Int) < sqCnt s
      · obtain ⟨hl, hsv, _⟩ := sqn_some s2 s4 (by omega : (0 : Int) ≤ k) hc
        obtain ⟨q4, q16⟩ := sq_bd s2 s4
        obtain ⟨ng, hng⟩ : ∃ ng : Nat, (sqn s k).length = ng := ⟨_, rfl⟩
        have hng4 : 4 ≤ ng := by omega
        have hng16 : ng ≤ 16 := by omega
        have hnz : ((ng : Int) == 0) = false := by simp only [beq_eq_false_iff_ne]; omega
        have Hng := Lib.hid hng
        have Hk := Lib.hid (hk.out k hsv)
        clear hl hsv hng hc q4 q16
        have hX : ∃ bb, mhB x s (sqn s k) = bb := ⟨_, rfl⟩
        obtain ⟨bb, hbb⟩ := hX
        have Hbb := Lib.hid hbb
        cases hmh : mhB m s (sqn s k)
        · go_wp2_with (first
            | (go_at_call 69; refine (HS.out _).mono ?_; rintro e w2 ⟨Ag, cg, rfl, hog, hb2⟩; rw [Hng.out] at hog ⊢; have h02 := step hb hb2; have hrg := hog.rd; have hrm := h.below (h02.mono hB); have hBm := Nat.le_trans hB h02.size)
            | (go_at_call 70; refine (specMasksHave A c n B m s Ag cg ng _ (sqn s k) _ hrm hBm hm hrg (Nat.le_refl _) (by omega) hsb).mono ?_; rintro e w3 ⟨rfl, hb3⟩; rw [hmh]; have h03 := step h02 hb3))
          go_roundw
          case rel => exact ⟨k + 1, by omega, by go_num, h03⟩
          case measure => simp [intOf]; omega
        · have hx := Lib.hid (Hk.out hmh)
          clear hbb
          go_wp2_with (first
            | (go_at_call 69; refine (HS.out _).mono ?_; rintro e w2 ⟨Ag, cg, rfl, hog, hb2⟩; rw [Hng.out] at hog ⊢; have h02 := step hb hb2; have hrg := hog.rd; have hrm := h.below (h02.mono hB); have hBm := Nat.le_trans hB h02.size)
            | (go_at_call 70; refine (specMasksHave A c n B m s Ag cg ng _ (sqn s k) _ hrm hBm hm hrg (Nat.le_refl _) (by omega) hsb).mono ?_; rintro e w3 ⟨rfl, hb3⟩; rw [hmh]; have h03 := step h02 hb3; have hrg3 := hrg.below hb3; have hrx := h'.below (h03.mono hB'); have hBx := Nat.le_trans hB' h03.size; have hBg := hb3.size)
            | (go_at_call 71; refine (implMasksHave A' c' n' B' x s Ag cg ng _ (sqn s k) _ hrx h64 hBx hm' hrg3 hBg (by omega) hsb).mono ?_; rintro e w4 ⟨rfl, hb4⟩; rw [hx.out]; have h04 := step h03 hb4))
          go_roundw
          case rel => exact ⟨k + 1, by omega, by go_num, h04⟩
          case measure => simp [intOf]; omega
      · have hz := Lib.hid (sqn_none (n := (k : Int)) s2 s4 (by omega))
        go_wp2_with (go_at_call 69; refine (HS.out _).mono ?_; rintro e w2 ⟨Ag, cg, rfl, hog, hb2⟩; rw [hz.out])
        go_ret
        exact ⟨rfl, step hb hb2⟩
    · obtain rfl : k = 14 := by omega
      go_wp2
      go_ret
      exact ⟨rfl, hb⟩
end Go.Proofs.Ytgejahkdiciplab
set_option maxRecDepth 8000
namespace Go.Proofs.Ytgejahkdiciplab
open Go.ChangeShapes Go.WideShapes Go.ChangeAt Go.RowKit
theorem line_at {s u : Nat} (hs : s ∈ [2, 3, 4]) (hu : u < 2 * s) : ∀ j, j < s → (lineAt s u j).toNat < s * s := by
  intro j hj
  simp at hs
  by_cases hx : (u : Int) < (s : Int)
  · rw [lineAt_row hx]
    rcases hs with rfl | rfl | rfl <;> omega
  · rw [lineAt_col hx]
    rcases hs with rfl | rfl | rfl <;> omega
theorem hC_none {m : List Int} {S u : Int} {v : Nat} : ∀ {N : Nat}, hC m S u v N = 0 → ∀ k, k < N → hB m S u v k = false := by
  intro N
  induction N with
  | zero => intro _ k hk; omega
  | succ N ih =>
    intro h k hk
    simp only [hC] at h
    split at h
    · omega
    · next hn =>
      by_cases e : k = N
      · subst e; simpa using hn
      · exact ih h k (by omega)
theorem hL_one {m : List Int} {S u : Int} {v : Nat} : ∀ {N : Nat}, hC m S u v N = 1 → ∀ k, k < N → hB m S u v k = true → hL m S u v N = (lineAt S u k).toNat := by
  intro N
  induction N with
  | zero => intro _ k hk; omega
  | succ N ih =>
    intro h k hk hb
    simp only [hC] at h
    simp only [hL]
    split at h
    · next hn =>
      rw [if_pos hn]
      by_cases e : k = N
      · subst e; rfl
      · have := hC_none (by omega : hC m S u v N = 0) k (by omega)
        rw [hb] at this; cases this
    · next hn =>
      rw [if_neg hn]
      by_cases e : k = N
      · subst e; exact absurd hb hn
      · exact ih h k (by omega) hb
theorem inr_bit {x : Int} (h0 : 0 ≤ x) (h1 : x ≤ 30) {v : Nat} (hv : v ≤ 4) : (bits .and .i64 x (2 ^ v)).toNat.testBit v = x.toNat.testBit v := by
  obtain ⟨y, rfl⟩ := Int.eq_ofNat_of_zero_le h0
  rw [Int.toNat_natCast]
  exact and_bit y (by omega) v (by omega)
/-- a solved grid within masks stays within them. -/
theorem hVs_in {m g o : List Int} {s : Nat} {u : Nat} (hs : s ∈ [2, 3, 4]) (hm : mvd m s = true) (hsb : Sub o m) (hu : u < 2 * s)
    (hg : ∀ v : Nat, 1 ≤ v → v ≤ s → ∃ i, i < s ∧ lineV g s u i = v) (hin : ∀ k, k < s * s → inMask m g k = true) (ho : ∀ k, k < s * s → inMask o g k = true) (r : Nat) (hr : r ≤ s) : ∀ k, k < s * s → inMask (hVs m s s u o r) g k = true := by
  induction r with
  | zero => exact ho
  | succ r ih =>
    have ih := ih (by omega)
    simp only [hVs]
    split
    · next h1 =>
      obtain ⟨i, hi, hv⟩ := hg (r + 1) (by omega) hr
      have hp := line_at hs hu i hi
      have hbi : hB m s u (r + 1) i = true := by
        have := hin _ hp
        unfold inMask at this
        unfold hB
        unfold lineV at hv
        rw [hv] at this
        exact this
      have he := hL_one h1 i hi hbi
      rw [he]
      have hln : m.length = s * s := by
        have := (mvd_at hm).2.1
        simp at hs
        rcases hs with rfl | rfl | rfl <;> omega
      have hlo : (hVs m s s u o r).length = s * s := by rw [hVs_len, hsb.1, hln]
      intro k hk
      unfold inMask
      rw [nth_set (by rw [hlo]; exact hp)]
      split
      · next e =>
        subst e
        have hs4 : s ≤ 4 := by simp at hs; omega
        have hsub := hVs_sub (u := (u : Int)) (S := (s : Int)) (N := s) hm hsb r (by omega)
        obtain ⟨⟨x0, x1, _⟩, _⟩ := hsub.at_ hm (by rw [hln]; exact hp)
        have := ih _ hp
        unfold inMask at this
        unfold lineV at hv
        rw [hv] at this ⊢
        have e2 : ((r + 1 : Nat) : Int).toNat = r + 1 := by omega
        rw [e2] at this ⊢
        rw [inr_bit x0 x1 (by omega)]
        exact this
      · exact ih k hk
    · exact ih
theorem hU_in {m g : List Int} {s : Nat} (hs : s ∈ [2, 3, 4]) (hm : mvd m s = true)
    (hg : ∀ u, u < 2 * s → ∀ v : Nat, 1 ≤ v → v ≤ s → ∃ i, i < s ∧ lineV g s (u : Nat) i = v) (hin : ∀ k, k < s * s → inMask m g k = true) (u : Nat) (hu : u ≤ 2 * s) : ∀ k, k < s * s → inMask (hU m s s u) g k = true := by
  have hs4 : s ≤ 4 := by simp at hs; omega
  induction u with
  | zero => exact hin
  | succ u ih =>
    simp only [hU]
    exact hVs_in hs hm (hU_sub hm hs4 u) (by omega) (hg u (by omega)) hin (ih (by omega)) s (Nat.le_refl _)
theorem sol_lines {g : List Int} {s : Nat} (hs : s ∈ [2, 3, 4]) (hl : g.length = s * s) (h : sqSolved g s = true) : ∀ u, u < 2 * s → ∀ v : Nat, 1 ≤ v → v ≤ s → ∃ i, i < s ∧ lineV g s (u : Nat) i = v := by
  obtain ⟨h1, h2, h3⟩ := (solved_iff hl).1 h
  intro u hu v v1 v2
  have hd : dupTo (lineV g s (u : Nat)) s = false := by
    cases e : dupTo (lineV g s (u : Nat)) s
    · rfl
    · have := clash_at (xs := g) (size := (s : Int)) (l := u) (by omega) (by rw [Int.toNat_natCast]; exact e)
      rw [h2] at this; cases this
  have := pig (f := lineV g s (u : Nat)) hs (fun i hi => by
    have hp := line_at hs hu i hi
    have hz := h3 _ hp
    obtain ⟨q0, q1⟩ := gv_nth h1 (k := (lineAt s u i).toNat) (by rw [hl]; exact hp)
    unfold lineV
    omega) hd (v := (v : Int)) (by omega) (by omega)
  exact hasTo_iff.1 this
theorem nh_keeps {m g : List Int} {s : Int} (hm : mvd m s = true) (hg : sqSolved g s = true) (h : mhB m s g = true) : mhB (nhL m s) s g = true := by
  obtain ⟨⟨s2, s4⟩, hlm, _, _⟩ := mvd_at hm
  obtain ⟨t, rfl⟩ : ∃ t : Nat, s = t := ⟨s.toNat, by omega⟩
  have hs : t ∈ [2, 3, 4] := by simp; omega
  simp only [mhB, Bool.and_eq_true, List.all_eq_true, List.mem_range] at h ⊢
  obtain ⟨⟨_, hgv⟩, hin⟩ := h
  have hlg := gv_len hgv
  have hln : g.length = t * t := by
    simp at hs
    rcases hs with rfl | rfl | rfl <;> omega
  refine ⟨⟨(nh_sub hm).mvd_ hm, hgv⟩, ?_⟩
  rw [hln] at hin ⊢
  have := hU_in hs hm (sol_lines hs hln hg) hin (2 * t) (Nat.le_refl _)
  unfold nhL
  rw [if_pos hm, Int.toNat_natCast]
  exact this
theorem hVs_wi {m o : List Int} {s : Int} {S : Int} {N : Nat} {u : Int} (hm : mvd m s = true) (h : Sub o m) (hw : Wi o m) (r : Nat) (hr : r ≤ 4) : Wi (hVs m S N u o r) m := by
  induction r with
  | zero => exact hw
  | succ r ih =>
    have ih := ih (by omega)
    simp only [hVs]
    split
    · have hsub := hVs_sub (u := u) (S := S) (N := N) hm h r (by omega)
      intro k hk
      rw [show nth ((hVs m S N u o r).set (hL m S u (r + 1) N) (bits .and .i64 (nth (hVs m S N u o r) (hL m S u (r + 1) N)) (2 ^ (r + 1)))) k = if hL m S u (r + 1) N = k then bits .and .i64 (nth (hVs m S N u o r) (hL m S u (r + 1) N)) (2 ^ (r + 1)) else nth (hVs m S N u o r) k from ?_]
      · split
        · next e =>
          rw [e]
          obtain ⟨⟨x0, x1, _⟩, _⟩ := hsub.at_ hm hk
          obtain ⟨y0, y1, _⟩ := mvd_nth hm k
          have hz := ih k hk
          obtain ⟨x, hx⟩ := Int.eq_ofNat_of_zero_le x0
          obtain ⟨y, hy⟩ := Int.eq_ofNat_of_zero_le y0
          rw [hx, hy] at hz ⊢
          exact an_and x (by omega) (r + 1) (by omega) y (by omega) hz
        · exact ih k hk
      · by_cases hj : hL m S u (r + 1) N < (hVs m S N u o r).length
        · exact nth_set hj
        · rw [List.set_eq_of_length_le (by omega)]
          rw [if_neg (by have := hsub.1; omega)]
    · exact ih
theorem hU_wi {m : List Int} {s S : Int} {N : Nat} (hm : mvd m s = true) (hN : N ≤ 4) (u : Nat) : Wi (hU m S N u) m := by
  induction u with
  | zero => exact Wi.refl hm
  | succ u ih => simp only [hU]; exact hVs_wi hm (hU_sub hm hN u) ih N hN
theorem nh_wi {m : List Int} {s : Int} (hm : mvd m s = true) : Wi (nhL m s) m := by
  unfold nhL; rw [if_pos hm]; exact hU_wi hm (by have := (mvd_at hm).1; omega) _
end Go.Proofs.Ytgejahkdiciplab
set_option maxRecDepth 8000
namespace Go.Proofs.Ytgejahkdiciplab
open Go.ChangeShapes Go.WideShapes Go.ChangeAt Go.RowKit
theorem an_an : ∀ x, x < 32 → ∀ y, y < 32 → ∀ z, z < 32 → bits .andNot .i64 (x : Nat) (z : Nat) = 0 → bits .andNot .i64 (bits .andNot .i64 (x : Nat) (y : Nat)) (z : Nat) = 0 := by decide +kernel
theorem an_bit : ∀ x, x < 32 → ∀ y, y < 32 → ∀ v, v < 5 → (bits .andNot .i64 (x : Nat) (y : Nat)).toNat.testBit v = (x.testBit v && !y.testBit v) := by decide +kernel
def twoB (M a b v : Nat) : Bool := !((maskVals (M : Int)).length == 2 && M.testBit a && M.testBit b && a != b && v != a && v != b) || !M.testBit v
theorem two_key : ∀ M, M < 32 → ∀ a, a < 5 → ∀ b, b < 5 → ∀ v, v < 5 → twoB M a b v = true := by decide +kernel
/-- the cells of a line of a solved grid have different values. -/
theorem sol_ne {g : List Int} {s : Nat} (hs : s ∈ [2, 3, 4]) (hl : g.length = s * s) (h : sqSolved g s = true) {u : Nat} (hu : u < 2 * s) {i j : Nat} (hij : i ≠ j) (hi : i < s) (hj : j < s) : lineV g s (u : Nat) i ≠ lineV g s (u : Nat) j := by
  obtain ⟨h1, h2, h3⟩ := (solved_iff hl).1 h
  have hd : dupTo (lineV g s (u : Nat)) s = false := by
    cases e : dupTo (lineV g s (u : Nat)) s
    · rfl
    · have := clash_at (xs := g) (size := (s : Int)) (l := u) (by omega) (by rw [Int.toNat_natCast]; exact e)
      rw [h2] at this; cases this
  have hp : ∀ k, k < s → 0 < lineV g s (u : Nat) k := fun k hk => by
    have hp := line_at hs hu k hk
    have hz := h3 _ hp
    obtain ⟨q0, _⟩ := gv_nth h1 (k := (lineAt s u k).toNat) (by rw [hl]; exact hp)
    unfold lineV
    omega
  intro e
  have : dupTo (lineV g s (u : Nat)) s = true := by
    rw [dupTo_iff]
    rcases Nat.lt_or_gt_of_ne hij with hlt | hlt
    · exact ⟨i, j, hlt, hj, e, hp j hj⟩
    · exact ⟨j, i, hlt, hi, e.symm, hp i hi⟩
  rw [hd] at this; cases this
theorem len_of {m : List Int} {s : Nat} (hs : s ∈ [2, 3, 4]) (hm : mvd m s = true) : m.length = s * s := by
  have := (mvd_at hm).2.1
  simp at hs
  rcases hs with rfl | rfl | rfl <;> omega
theorem pIn_in {m g o : List Int} {s u a b : Nat} (hs : s ∈ [2, 3, 4]) (hm : mvd m s = true) (hsb : Sub o m) (hu : u < 2 * s) (hno : ∀ k, k < s → k ≠ a → k ≠ b → inMask (m.set (lcN s u k) (nth m (lcN s u a))) g (lcN s u k) = false) (hg4 : ∀ k, k < s * s → (nth g k).toNat < 5)
    (ho : ∀ k, k < s * s → inMask o g k = true) (K : Nat) (hK : K ≤ s) : ∀ k, k < s * s → inMask (pIn m s u a b o K) g k = true := by
  induction K with
  | zero => exact ho
  | succ K ih =>
    have ih := ih (by omega)
    simp only [pIn]
    split
    · next hne =>
      have hp : lcN s u K < s * s := line_at hs hu K (by omega)
      have hln := len_of hs hm
      have hsub := pIn_sub (u := (u : Int)) (S := (s : Int)) (a := a) (b := b) hm hsb K
      have hlo : (pIn m s u a b o K).length = s * s := by rw [hsub.1, hln]
      intro k hk
      unfold inMask
      rw [nth_set (by rw [hlo]; exact hp)]
      split
      · next e =>
        subst e
        obtain ⟨⟨x0, x1, _⟩, _⟩ := hsub.at_ hm (k := lcN s u K) (by rw [hln]; exact hp)
        obtain ⟨y0, y1, _⟩ := mvd_nth hm (lcN s u a)
        have h1 := ih _ hp
        have h2 := hno K (by omega) hne.1 hne.2
        unfold inMask at h1 h2
        rw [nth_set (by rw [hln]; exact hp), if_pos rfl] at h2
        obtain ⟨x, hx⟩ := Int.eq_ofNat_of_zero_le x0
        obtain ⟨y, hy⟩ := Int.eq_ofNat_of_zero_le y0
        rw [hx] at h1 ⊢
        rw [hy] at h2 ⊢
        rw [Int.toNat_natCast] at h1 h2
        rw [an_bit x (by omega) y (by omega) _ (hg4 _ hp), h1, h2]
        rfl
      · exact ih k hk
    · exact ih
theorem pB_in {m g o : List Int} {s u a : Nat} (hs : s ∈ [2, 3, 4]) (hm : mvd m s = true) (hsb : Sub o m) (hu : u < 2 * s) (hl : g.length = s * s) (hg : sqSolved g s = true) (hin : ∀ k, k < s * s → inMask m g k = true) (ha : a < s) (ho : ∀ k, k < s * s → inMask o g k = true) (b : Nat) (hb : b ≤ a) : ∀ k, k < s * s → inMask (pB m s s u a o b) g k = true := by
  have hg4 : ∀ k, k < s * s → (nth g k).toNat < 5 := fun k hk => by
    obtain ⟨h1, _, _⟩ := (solved_iff hl).1 hg
    obtain ⟨q0, q1⟩ := gv_nth h1 (k := k) (by omega)
    have := gv_size h1
    omega
  induction b with
  | zero => exact ho
  | succ b ih =>
    have ih := ih (by omega)
    simp only [pB]
    split
    · next hc =>
      refine pIn_in hs hm (pB_sub hm hsb b) hu (fun k hk hka hkb => ?_) hg4 ih s (Nat.le_refl _)
      have hln := len_of hs hm
      have hpa : lcN s u a < s * s := line_at hs hu a ha
      have hpb : lcN s u b < s * s := line_at hs hu b (by omega)
      have hpk : lcN s u k < s * s := line_at hs hu k hk
      have ma := hin _ hpa
      have mb := hin _ hpb
      have n1 : nth g (lcN s u a) ≠ nth g (lcN s u b) := sol_ne hs hl hg hu (by omega) ha (by omega)
      have n2 : nth g (lcN s u k) ≠ nth g (lcN s u a) := sol_ne hs hl hg hu hka hk ha
      have n3 : nth g (lcN s u k) ≠ nth g (lcN s u b) := sol_ne hs hl hg hu hkb hk (by omega)
      obtain ⟨h1, _, _⟩ := (solved_iff hl).1 hg
      have p1 := (gv_nth h1 (k := lcN s u a) (by omega)).1
      have p2 := (gv_nth h1 (k := lcN s u b) (by omega)).1
      have p3 := (gv_nth h1 (k := lcN s u k) (by omega)).1
      obtain ⟨y0, y1, _⟩ := mvd_nth hm (lcN s u a)
      unfold inMask at ma mb ⊢
      rw [← hc.1] at mb
      rw [nth_set (by rw [hln]; exact hpk), if_pos rfl]
      obtain ⟨M, hM⟩ := Int.eq_ofNat_of_zero_le y0
      have h2 := hc.2
      rw [hM] at ma mb h2 ⊢
      rw [Int.toNat_natCast] at ma mb ⊢
      have := two_key M (by omega) _ (hg4 _ hpa) _ (hg4 _ hpb) _ (hg4 _ hpk)
      unfold twoB at this
      rw [ma, mb, h2, bne_iff_ne.2 (show (nth g (lcN s u a)).toNat ≠ (nth g (lcN s u b)).toNat by omega), bne_iff_ne.2 (show (nth g (lcN s u k)).toNat ≠ (nth g (lcN s u a)).toNat by omega), bne_iff_ne.2 (show (nth g (lcN s u k)).toNat ≠ (nth g (lcN s u b)).toNat by omega)] at this
      simpa using this
    · exact ih
theorem pA_in {m g o : List Int} {s u : Nat} (hs : s ∈ [2, 3, 4]) (hm : mvd m s = true) (hsb : Sub o m) (hu : u < 2 * s) (hl : g.length = s * s) (hg : sqSolved g s = true) (hin : ∀ k, k < s * s → inMask m g k = true) (ho : ∀ k, k < s * s → inMask o g k = true) (a : Nat) (ha : a ≤ s) : ∀ k, k < s * s → inMask (pA m s s u o a) g k = true := by
  induction a with
  | zero => exact ho
  | succ a ih =>
    simp only [pA]
    exact pB_in hs hm (pA_sub hm hsb a) hu hl hg hin (by omega) (ih (by omega)) a (Nat.le_refl _)
theorem pU_in {m g : List Int} {s : Nat} (hs : s ∈ [2, 3, 4]) (hm : mvd m s = true) (hl : g.length = s * s) (hg : sqSolved g s = true) (hin : ∀ k, k < s * s → inMask m g k = true) (u : Nat) (hu : u ≤ 2 * s) : ∀ k, k < s * s → inMask (pU m s s u) g k = true := by
  induction u with
  | zero => exact hin
  | succ u ih =>
    simp only [pU]
    exact pA_in hs hm (pU_sub hm u) (by omega) hl hg hin (ih (by omega)) s (Nat.le_refl _)
/-- the third technique loses no solved grid. -/
theorem np_keeps {m g : List Int} {s : Int} (hm : mvd m s = true) (hg : sqSolved g s = true) (h : mhB m s g = true) : mhB (npL m s) s g = true := by
  obtain ⟨⟨s2, s4⟩, _, _, _⟩ := mvd_at hm
  obtain ⟨t, rfl⟩ : ∃ t : Nat, s = t := ⟨s.toNat, by omega⟩
  have hs : t ∈ [2, 3, 4] := by simp; omega
  simp only [mhB, Bool.and_eq_true, List.all_eq_true, List.mem_range] at h ⊢
  obtain ⟨⟨_, hgv⟩, hin⟩ := h
  have hlg := gv_len hgv
  have hln : g.length = t * t := by
    simp at hs
    rcases hs with rfl | rfl | rfl <;> omega
  refine ⟨⟨(np_sub hm).mvd_ hm, hgv⟩, ?_⟩
  rw [hln] at hin ⊢
  have := pU_in hs hm hln hg hin (2 * t) (Nat.le_refl _)
  unfold npL
  rw [if_pos hm, Int.toNat_natCast]
  exact this
theorem Wi.anput {o m : List Int} {s y : Int} (h : Wi o m) (hs : Sub o m) (hm : mvd m s = true) (hy : 0 ≤ y ∧ y ≤ 30) (p : Nat) : Wi (o.set p (bits .andNot .i64 (nth o p) y)) m := fun k hk => by
  by_cases hp : p < o.length
  · rw [nth_set hp]
    split
    · next e =>
      subst e
      obtain ⟨⟨x0, x1, _⟩, _⟩ := hs.at_ hm hk
      obtain ⟨z0, z1, _⟩ := mvd_nth hm p
      have hz := h p hk
      obtain ⟨x, hx⟩ := Int.eq_ofNat_of_zero_le x0
      obtain ⟨z, hzz⟩ := Int.eq_ofNat_of_zero_le z0
      obtain ⟨yy, hyy⟩ := Int.eq_ofNat_of_zero_le hy.1
      rw [hx, hzz] at hz ⊢
      rw [hyy]
      exact an_an x (by omega) yy (by omega) z (by omega) hz
    · exact h k hk
  · rw [List.set_eq_of_length_le (by omega)]
    exact h k hk
theorem pIn_wi {m o : List Int} {s S u : Int} {a b : Nat} (hm : mvd m s = true) (hs : Sub o m) (h : Wi o m) (k : Nat) : Wi (pIn m S u a b o k) m := by
  induction k with
  | zero => exact h
  | succ k ih =>
    simp only [pIn]
    split
    · exact ih.anput (pIn_sub hm hs k) hm ⟨(mvd_nth hm _).1, (mvd_nth hm _).2.1⟩ _
    · exact ih
theorem pB_wi {m o : List Int} {s S u : Int} {N a : Nat} (hm : mvd m s = true) (hs : Sub o m) (h : Wi o m) (b : Nat) : Wi (pB m S N u a o b) m := by
  induction b with
  | zero => exact h
  | succ b ih =>
    simp only [pB]
    split
    · exact pIn_wi hm (pB_sub hm hs b) ih N
    · exact ih
theorem pA_wi {m o : List Int} {s S u : Int} {N : Nat} (hm : mvd m s = true) (hs : Sub o m) (h : Wi o m) (a : Nat) : Wi (pA m S N u o a) m := by
  induction a with
  | zero => exact h
  | succ a ih => simp only [pA]; exact pB_wi hm (pA_sub hm hs a) ih a
theorem pU_wi {m : List Int} {s S : Int} {N : Nat} (hm : mvd m s = true) (u : Nat) : Wi (pU m S N u) m := by
  induction u with
  | zero => exact Wi.refl hm
  | succ u ih => simp only [pU]; exact pA_wi hm (pU_sub hm u) ih N
theorem np_wi {m : List Int} {s : Int} (hm : mvd m s = true) : Wi (npL m s) m := by
  unfold npL; rw [if_pos hm]; exact pU_wi hm _
/-- how many pairs of a line there are: of cell a and those before b; of the first a cells. -/
def prB (m : List Int) (S u : Int) (a : Nat) : Nat → Nat
  | 0 => 0
  | b + 1 => if nth m (lcN S u a) = nth m (lcN S u b) ∧ (maskVals (nth m (lcN S u a))).length = 2 then prB m S u a b + 1 else prB m S u a b
def prA (m : List Int) (S u : Int) : Nat → Nat
  | 0 => 0
  | a + 1 => prA m S u a + prB m S u a a
theorem pB_none {m o : List Int} {S u : Int} {N a : Nat} : ∀ {b : Nat}, prB m S u a b = 0 → pB m S N u a o b = o := by
  intro b
  induction b with
  | zero => intro _; rfl
  | succ b ih =>
    intro h
    simp only [prB] at h
    simp only [pB]
    split at h
    · omega
    · next hn => rw [if_neg hn]; exact ih h
theorem pA_none {m o : List Int} {S u : Int} {N : Nat} : ∀ {a : Nat}, prA m S u a = 0 → pA m S N u o a = o := by
  intro a
  induction a with
  | zero => intro _; rfl
  | succ a ih =>
    intro h
    simp only [prA] at h
    simp only [pA]
    rw [ih (by omega)]
    exact pB_none (by omega)
theorem pU_none {m : List Int} {S : Int} {N : Nat} : ∀ {u : Nat}, (∀ l : Nat, l < u → prA m S l N = 0) → pU m S N u = m := by
  intro u
  induction u with
  | zero => intro _; rfl
  | succ u ih =>
    intro h
    simp only [pU]
    rw [ih (fun l hl => h l (by omega))]
    exact pA_none (h u (by omega))
/-- without pairs nothing changes. -/
theorem np_none {m : List Int} {s : Int} (hm : mvd m s = true) (h : ∀ l : Nat, l < 2 * s.toNat → prA m s l s.toNat = 0) : npL m s = m := by
  unfold npL; rw [if_pos hm]; exact pU_none h
theorem prB_le {m : List Int} {S u : Int} {a : Nat} (b : Nat) : prB m S u a b ≤ b := by
  induction b with
  | zero => exact Nat.le_refl _
  | succ b ih => simp only [prB]; split <;> omega
/-- at most as many pairs as two cells of a line. -/
theorem prA_le {m : List Int} {S u : Int} (a : Nat) : 2 * prA m S u a ≤ a * (a - 1) := by
  induction a with
  | zero => exact Nat.le_refl _
  | succ a ih =>
    have := prB_le (m := m) (S := S) (u := u) (a := a) a
    simp only [prA]
    rcases a with _ | a
    · simp at *; omega
    · simp only [Nat.add_sub_cancel] at ih ⊢
      have e : (a + 1 + 1) * (a + 1) = (a + 1) * a + 2 * (a + 1) := by rw [Nat.mul_comm (a + 1 + 1), show a + 1 + 1 = a + 2 from rfl, Nat.mul_add, Nat.mul_comm 2]
      omega
end Go.Proofs.Ytgejahkdiciplab
set_option maxRecDepth 8000
namespace Go.Proofs.Ytgejahkdiciplab
open Go.ChangeShapes Go.WideShapes Go.ChangeAt Go.RowKit
/-! how often each mask stands in a line, and what its pairs take away: the program's way, and that it is the reference's. -/
def cN (v : Nat → Nat) (x : Nat) : Nat → Nat
  | 0 => 0
  | k + 1 => if v k = x then cN v x k + 1 else cN v x k
def two (x : Nat) : Bool := Lib.onesCount x == 2
def tkC (C : Nat → Nat) (x P : Nat) : Bool := two P && (decide (2 < C P) || (C P == 2 && P != x))
def tkF (C : Nat → Nat) (x : Nat) : Nat → Nat
  | 0 => 0
  | P + 1 => if tkC C x P = true then tkF C x P ||| P else tkF C x P
def prF (C : Nat → Nat) : Nat → Nat
  | 0 => 0
  | P + 1 => if two P = true then prF C P + C P * (C P - 1) / 2 else prF C P
theorem cN_le (v : Nat → Nat) (x k : Nat) : cN v x k ≤ k := by
  induction k with
  | zero => exact Nat.le_refl _
  | succ k ih => simp only [cN]; split <;> omega
theorem tkF_bit {C : Nat → Nat} {x j : Nat} : ∀ K, (tkF C x K).testBit j = true ↔ ∃ P, P < K ∧ tkC C x P = true ∧ P.testBit j = true := by
  intro K
  induction K with
  | zero => simp [tkF]
  | succ K ih =>
    simp only [tkF]
    constructor
    · intro h
      split at h
      · next hc =>
        rw [Nat.testBit_or, Bool.or_eq_true] at h
        rcases h with h | h
        · obtain ⟨P, h1, h2⟩ := ih.1 h
          exact ⟨P, by omega, h2⟩
        · exact ⟨K, by omega, hc, h⟩
      · obtain ⟨P, h1, h2⟩ := ih.1 h
        exact ⟨P, by omega, h2⟩
    · rintro ⟨P, h1, h2, h3⟩
      by_cases e : P = K
      · subst e
        rw [if_pos h2, Nat.testBit_or, h3, Bool.or_true]
      · have := ih.2 ⟨P, by omega, h2, h3⟩
        split
        · rw [Nat.testBit_or, this, Bool.true_or]
        · exact this
theorem tkF_lt (C : Nat → Nat) (x K : Nat) (hK : K ≤ 32) : tkF C x K < 32 := by
  induction K with
  | zero => simp [tkF]
  | succ K ih =>
    simp only [tkF]
    split
    · exact Nat.or_lt_two_pow (n := 5) (ih (by omega)) (by omega)
    · exact ih (by omega)
/-- what the pairs take away from cell k, as the reference goes: of cell a and those before b; of the first a cells. -/
def tB (v : Nat → Nat) (k a : Nat) : Nat → Nat
  | 0 => 0
  | b + 1 => if (v a = v b ∧ two (v a) = true) ∧ (k ≠ a ∧ k ≠ b) then tB v k a b ||| v a else tB v k a b
def tA (v : Nat → Nat) (k : Nat) : Nat → Nat
  | 0 => 0
  | a + 1 => tA v k a ||| tB v k a a
theorem tB_bit {v : Nat → Nat} {k a j : Nat} : ∀ b, (tB v k a b).testBit j = true ↔ ∃ i, i < b ∧ v a = v i ∧ two (v a) = true ∧ k ≠ a ∧ k ≠ i ∧ (v a).testBit j = true := by
  intro b
  induction b with
  | zero => simp [tB]
  | succ b ih =>
    simp only [tB]
    constructor
    · intro h
      split at h
      · next hc =>
        rw [Nat.testBit_or, Bool.or_eq_true] at h
        rcases h with h | h
        · obtain ⟨i, h1, h2⟩ := ih.1 h
          exact ⟨i, by omega, h2⟩
        · exact ⟨b, by omega, hc.1.1, hc.1.2, hc.2.1, hc.2.2, h⟩
      · obtain ⟨i, h1, h2⟩ := ih.1 h
        exact ⟨i, by omega, h2⟩
    · rintro ⟨i, h1, h2, h3, h4, h5, h6⟩
      by_cases e : i = b
      · subst e
        rw [if_pos ⟨⟨h2, h3⟩, h4, h5⟩, Nat.testBit_or, h6, Bool.or_true]
      · have := ih.2 ⟨i, by omega, h2, h3, h4, h5, h6⟩
        split
        · rw [Nat.testBit_or, this, Bool.true_or]
        · exact this
theorem tA_bit {v : Nat → Nat} {k j : Nat} : ∀ n, (tA v k n).testBit j = true ↔ ∃ a b, a < n ∧ b < a ∧ v a = v b ∧ two (v a) = true ∧ k ≠ a ∧ k ≠ b ∧ (v a).testBit j = true := by
  intro n
  induction n with
  | zero => simp [tA]
  | succ n ih =>
    simp only [tA]
    rw [Nat.testBit_or, Bool.or_eq_true, ih, tB_bit]
    constructor
    · rintro (⟨a, b, h1, h2⟩ | ⟨i, h1, h2⟩)
      · exact ⟨a, b, by omega, h2⟩
      · exact ⟨n, i, by omega, h1, h2⟩
    · rintro ⟨a, b, h1, h2, h3⟩
      by_cases e : a = n
      · subst e; exact .inr ⟨b, h2, h3⟩
      · exact .inl ⟨a, b, by omega, h2, h3⟩
theorem tB_lt {v : Nat → Nat} {k a : Nat} (ha : v a < 32) (b : Nat) : tB v k a b < 32 := by
  induction b with
  | zero => simp [tB]
  | succ b ih =>
    simp only [tB]
    split
    · exact Nat.or_lt_two_pow (n := 5) ih ha
    · exact ih
theorem tA_lt {v : Nat → Nat} {k : Nat} (n : Nat) (hv : ∀ i, i < n → v i < 32) : tA v k n < 32 := by
  induction n with
  | zero => simp [tA]
  | succ n ih => exact Nat.or_lt_two_pow (n := 5) (ih fun i hi => hv i (by omega)) (tB_lt (hv n (by omega)) n)
/-- how many of the first cells, apart from k, have mask P. -/
def cX (v : Nat → Nat) (P k : Nat) : Nat → Nat
  | 0 => 0
  | a + 1 => if v a = P ∧ k ≠ a then cX v P k a + 1 else cX v P k a
theorem cX_pos {v : Nat → Nat} {P k : Nat} : ∀ n, 1 ≤ cX v P k n ↔ ∃ b, b < n ∧ v b = P ∧ k ≠ b := by
  intro n
  induction n with
  | zero => simp [cX]
  | succ n ih =>
    simp only [cX]
    constructor
    · intro h
      split at h
      · next hc => exact ⟨n, by omega, hc⟩
      · obtain ⟨b, h1, h2⟩ := ih.1 h
        exact ⟨b, by omega, h2⟩
    · rintro ⟨b, h1, h2⟩
      by_cases e : b = n
      · subst e; rw [if_pos h2]; omega
      · have := ih.2 ⟨b, by omega, h2⟩
        split <;> omega
theorem cX_two {v : Nat → Nat} {P k : Nat} : ∀ n, 2 ≤ cX v P k n ↔ ∃ a b, a < n ∧ b < a ∧ v a = P ∧ v b = P ∧ k ≠ a ∧ k ≠ b := by
  intro n
  induction n with
  | zero => simp [cX]
  | succ n ih =>
    simp only [cX]
    constructor
    · intro h
      split at h
      · next hc =>
        obtain ⟨b, h1, h2, h3⟩ := (cX_pos (v := v) (P := P) (k := k) n).1 (by omega)
        exact ⟨n, b, by omega, h1, hc.1, h2, hc.2, h3⟩
      · obtain ⟨a, b, h1, h2⟩ := ih.1 h
        exact ⟨a, b, by omega, h2⟩
    · rintro ⟨a, b, h1, h2, h3, h4, h5, h6⟩
      by_cases e : a = n
      · subst e
        have := (cX_pos a).2 ⟨b, h2, h4, h6⟩
        rw [if_pos ⟨h3, h5⟩]; omega
      · have := ih.2 ⟨a, b, by omega, h2, h3, h4, h5, h6⟩
        split <;> omega
theorem cN_X {v : Nat → Nat} {P k : Nat} : ∀ n, cN v P n = cX v P k n + if k < n ∧ v k = P then 1 else 0 := by
  intro n
  induction n with
  | zero => simp [cN, cX]
  | succ n ih =>
    by_cases e : k = n
    · subst e
      have e1 : (if k < k ∧ v k = P then 1 else 0) = 0 := if_neg (fun h => absurd h.1 (by omega))
      rw [e1] at ih
      have e2 : cX v P k (k + 1) = cX v P k k := by simp only [cX]; rw [if_neg (fun h => h.2 rfl)]
      rw [e2]
      simp only [cN]
      by_cases h : v k = P
      · rw [if_pos h, if_pos ⟨by omega, h⟩]; omega
      · rw [if_neg h, if_neg (fun h' => h h'.2)]; omega
    · have e3 : (if k < n + 1 ∧ v k = P then 1 else 0) = if k < n ∧ v k = P then 1 else 0 := by
        by_cases h2 : k < n ∧ v k = P
        · rw [if_pos h2, if_pos ⟨by omega, h2.2⟩]
        · rw [if_neg h2, if_neg (fun h' => h2 ⟨by omega, h'.2⟩)]
      rw [e3]
      simp only [cN, cX]
      by_cases h : v n = P
      · rw [if_pos h, if_pos ⟨h, e⟩]; omega
      · rw [if_neg h, if_neg (fun h' => h h'.1)]; exact ih
theorem tk_is {v : Nat → Nat} {k N : Nat} (hk : k < N) (hv : ∀ i, i < N → v i < 32) : tkF (fun x => cN v x N) (v k) 32 = tA v k N := by
  apply Nat.eq_of_testBit_eq
  intro j
  rw [Bool.eq_iff_iff, tkF_bit, tA_bit]
  have key : ∀ P, tkC (fun x => cN v x N) (v k) P = true ↔ two P = true ∧ 2 ≤ cX v P k N := fun P => by
    have h := cN_X (v := v) (P := P) (k := k) N
    simp only [tkC, Bool.and_eq_true, Bool.or_eq_true, decide_eq_true_eq, beq_iff_eq, bne_iff_ne]
    by_cases e : v k = P
    · rw [if_pos ⟨hk, e⟩] at h
      constructor
      · rintro ⟨h1, h2 | h2⟩
        · exact ⟨h1, by omega⟩
        · exact absurd e.symm h2.2
      · rintro ⟨h1, h2⟩
        exact ⟨h1, .inl (by omega)⟩
    · rw [if_neg (fun h' => e h'.2)] at h
      constructor
      · rintro ⟨h1, h2 | h2⟩
        · exact ⟨h1, by omega⟩
        · exact ⟨h1, by omega⟩
      · rintro ⟨h1, h2⟩
        refine ⟨h1, ?_⟩
        by_cases h3 : 2 < cN v P N
        · exact .inl h3
        · exact .inr ⟨by omega, fun e' => e e'.symm⟩
  constructor
  · rintro ⟨P, h1, h2, h3⟩
    obtain ⟨h4, h5⟩ := (key P).1 h2
    obtain ⟨a, b, ha, hb, ea, eb, na, nb⟩ := (cX_two N).1 h5
    exact ⟨a, b, ha, hb, by rw [ea, eb], by rw [ea]; exact h4, na, nb, by rw [ea]; exact h3⟩
  · rintro ⟨a, b, ha, hb, e, h2, na, nb, h3⟩
    exact ⟨v a, hv a ha, (key _).2 ⟨h2, (cX_two N).2 ⟨a, b, ha, hb, rfl, e.symm, na, nb⟩⟩, h3⟩

/-! the pairs of a line. -/
theorem half_step (c : Nat) : (c + 1) * (c + 1 - 1) / 2 = c * (c - 1) / 2 + c := by
  have e : (c + 1) * (c + 1 - 1) = c * (c - 1) + 2 * c := by
    rcases c with _ | c
    · rfl
    · simp only [Nat.add_sub_cancel]
      rw [Nat.add_mul (c + 1) 1, Nat.one_mul, Nat.mul_add (c + 1) c 1, Nat.mul_one]; omega
  rw [e, Nat.add_mul_div_left _ _ (by omega)]
theorem prF_step (v : Nat → Nat) (a : Nat) : ∀ K, prF (fun x => cN v x (a + 1)) K = prF (fun x => cN v x a) K + if v a < K ∧ two (v a) = true then cN v (v a) a else 0 := by
  intro K
  induction K with
  | zero => simp [prF]
  | succ K ih =>
    simp only [prF]
    by_cases e : v a = K
    · have hlt : ¬ (v a < K) := by omega
      rw [if_neg (fun h => hlt h.1)] at ih
      subst e
      by_cases h2 : two (v a) = true
      · rw [if_pos h2, if_pos h2, ih, if_pos ⟨by omega, h2⟩]
        simp only [cN, if_pos]
        rw [half_step]; omega
      · rw [if_neg h2, if_neg h2, ih, if_neg (fun h => h2 h.2)]
    · have hc : cN v K (a + 1) = cN v K a := by simp only [cN]; rw [if_neg e]
      rw [hc]
      have e3 : (if v a < K + 1 ∧ two (v a) = true then cN v (v a) a else 0) = if v a < K ∧ two (v a) = true then cN v (v a) a else 0 := by
        by_cases h2 : v a < K ∧ two (v a) = true
        · rw [if_pos h2, if_pos ⟨by omega, h2.2⟩]
        · rw [if_neg h2, if_neg (fun h' => h2 ⟨by omega, h'.2⟩)]
      rw [e3, ih]
      split <;> omega
/-- the masks of a line. -/
def lv (m : List Int) (S u : Int) (k : Nat) : Nat := (nth m (lcN S u k)).toNat
theorem lv_lt {m : List Int} {S u : Int} {s : Int} (hm : mvd m s = true) (k : Nat) : lv m S u k < 32 := by
  have := mvd_nth hm (lcN S u k)
  unfold lv; omega
theorem lv_int {m : List Int} {S u : Int} {s : Int} (hm : mvd m s = true) (k : Nat) : nth m (lcN S u k) = (lv m S u k : Nat) := by
  have := mvd_nth hm (lcN S u k)
  unfold lv; omega
theorem lv_even {m : List Int} {S u : Int} {s : Int} (hm : mvd m s = true) (k : Nat) : lv m S u k % 2 = 0 := by
  obtain ⟨h0, h1, h2⟩ := mvd_nth hm (lcN S u k)
  rw [Int.tmod_eq_emod_of_nonneg h0] at h2
  unfold lv; omega
theorem mv_two {M : Nat} (h : M < 32) (he : M % 2 = 0) : (maskVals (M : Int)).length = 2 ↔ two M = true := by
  have e : maskVals (M : Int) = bitsTo M 4 := by
    simp only [maskVals]
    rw [if_pos (by simp only [mvOk, inr, Bool.and_eq_true, decide_eq_true_eq, beq_iff_eq]; exact ⟨⟨by omega, by omega⟩, by rw [Int.tmod_eq_emod_of_nonneg (by omega)]; omega⟩), Int.toNat_natCast]
  rw [e, ← ones_bits M h he, two, beq_iff_eq]
theorem cond_is {m : List Int} {S u s : Int} (hm : mvd m s = true) (a b : Nat) : (nth m (lcN S u a) = nth m (lcN S u b) ∧ (maskVals (nth m (lcN S u a))).length = 2) ↔ (lv m S u a = lv m S u b ∧ two (lv m S u a) = true) := by
  rw [lv_int hm a, lv_int hm b, mv_two (lv_lt hm a) (lv_even hm a)]
  constructor
  · rintro ⟨h1, h2⟩; exact ⟨by omega, h2⟩
  · rintro ⟨h1, h2⟩; exact ⟨by omega, h2⟩
theorem prB_is {m : List Int} {S u s : Int} (hm : mvd m s = true) (a : Nat) : ∀ b, prB m S u a b = if two (lv m S u a) = true then cN (lv m S u) (lv m S u a) b else 0 := by
  intro b
  induction b with
  | zero => simp [prB, cN]
  | succ b ih =>
    simp only [prB, cN]
    by_cases h2 : two (lv m S u a) = true
    · rw [if_pos h2] at ih ⊢
      by_cases e : lv m S u b = lv m S u a
      · rw [if_pos ((cond_is hm a b).2 ⟨e.symm, h2⟩), if_pos e, ih]
      · rw [if_neg (fun h => e ((cond_is hm a b).1 h).1.symm), if_neg e, ih]
    · rw [if_neg h2] at ih ⊢
      rw [if_neg (fun h => h2 ((cond_is hm a b).1 h).2), ih]
theorem prA_is {m : List Int} {S u s : Int} (hm : mvd m s = true) : ∀ n, prA m S u n = prF (fun x => cN (lv m S u) x n) 32 := by
  intro n
  induction n with
  | zero =>
    have : ∀ K, prF (fun x => cN (lv m S u) x 0) K = 0 := fun K => by
      induction K with
      | zero => rfl
      | succ K ih => simp only [prF, cN] at *; split <;> omega
    rw [this]; rfl
  | succ n ih =>
    simp only [prA]
    rw [prF_step, ih, prB_is hm]
    have := lv_lt (S := S) (u := u) hm n
    by_cases h2 : two (lv m S u n) = true
    · rw [if_pos h2, if_pos ⟨this, h2⟩]
    · rw [if_neg h2, if_neg (fun h => h2 h.2)]

/-! what a line takes away. -/
theorem an_or : ∀ x, x < 32 → ∀ y, y < 32 → ∀ z, z < 32 → bits .andNot .i64 (bits .andNot .i64 (x : Nat) (y : Nat)) (z : Nat) = bits .andNot .i64 (x : Nat) ((y ||| z : Nat) : Int) := by decide +kernel
theorem an_zero : ∀ x, x < 32 → bits .andNot .i64 (x : Nat) 0 = (x : Nat) := by decide +kernel
theorem lc_inj {s u : Nat} (hs : s ∈ [2, 3, 4]) {i j : Nat} (hi : i < s) (hj : j < s) (h : lcN s u i = lcN s u j) : i = j := by
  simp only [lcN] at h
  simp at hs
  by_cases hx : (u : Int) < (s : Int)
  · rw [lineAt_row hx, lineAt_row hx] at h
    rcases hs with rfl | rfl | rfl <;> omega
  · rw [lineAt_col hx, lineAt_col hx] at h
    rcases hs with rfl | rfl | rfl <;> omega
theorem pIn_nth {m o : List Int} {s u a b : Nat} (hs : s ∈ [2, 3, 4]) (hu : u < 2 * s) (hl : o.length = s * s) {k : Nat} (hk : k < s) (K : Nat) (hK : K ≤ s) :
    nth (pIn m s u a b o K) (lcN s u k) = if k < K ∧ (k ≠ a ∧ k ≠ b) then bits .andNot .i64 (nth o (lcN s u k)) (nth m (lcN s u a)) else nth o (lcN s u k) := by
  induction K with
  | zero => simp [pIn]
  | succ K ih =>
    have ih := ih (by omega)
    simp only [pIn]
    have hp : lcN s u K < s * s := line_at hs hu K (by omega)
    by_cases e : k = K
    · subst e
      rw [if_neg (fun h => absurd h.1 (by omega))] at ih
      by_cases hc : k ≠ a ∧ k ≠ b
      · rw [if_pos hc, if_pos ⟨by omega, hc⟩, nth_set (by rw [pIn_len, hl]; exact hp), if_pos rfl, ih]
      · rw [if_neg hc, if_neg (fun h => hc h.2), ih]
    · have hne : lcN s u K ≠ lcN s u k := fun h => e (lc_inj hs hk (by omega) h.symm)
      have h2 : nth (if K ≠ a ∧ K ≠ b then (pIn m s u a b o K).set (lcN s u K) (bits .andNot .i64 (nth (pIn m s u a b o K) (lcN s u K)) (nth m (lcN s u a))) else pIn m s u a b o K) (lcN s u k) = nth (pIn m s u a b o K) (lcN s u k) := by
        split
        · rw [nth_set (by rw [pIn_len, hl]; exact hp), if_neg hne]
        · rfl
      rw [h2, ih]
      by_cases hc : k < K ∧ (k ≠ a ∧ k ≠ b)
      · rw [if_pos hc, if_pos ⟨by omega, hc.2⟩]
      · rw [if_neg hc, if_neg (fun h => hc ⟨by omega, h.2⟩)]
theorem pIn_off {m o : List Int} {s u a b : Nat} (hs : s ∈ [2, 3, 4]) (hu : u < 2 * s) (hl : o.length = s * s) {p : Nat} (hp : ∀ k, k < s → lcN s u k ≠ p) (K : Nat) (hK : K ≤ s) : nth (pIn m s u a b o K) p = nth o p := by
  induction K with
  | zero => rfl
  | succ K ih =>
    simp only [pIn]
    split
    · rw [nth_set (by rw [pIn_len, hl]; exact line_at hs hu K (by omega)), if_neg (hp K (by omega)), ih (by omega)]
    · exact ih (by omega)
theorem pB_nth {m o : List Int} {s u a : Nat} (hs : s ∈ [2, 3, 4]) (hm : mvd m s = true) (hu : u < 2 * s) (hl : o.length = s * s) {k X : Nat} (hk : k < s) (hX : X < 32) (ho : nth o (lcN s u k) = (X : Nat)) (b : Nat) :
    nth (pB m s s u a o b) (lcN s u k) = bits .andNot .i64 (X : Nat) ((tB (lv m s u) k a b : Nat) : Int) := by
  induction b with
  | zero => simp only [pB, tB]; rw [ho]; exact (an_zero X hX).symm
  | succ b ih =>
    simp only [pB, tB]
    by_cases hc : lv m s u a = lv m s u b ∧ two (lv m s u a) = true
    · rw [if_pos ((cond_is hm a b).2 hc), pIn_nth hs hu (by rw [pB_len, hl]) hk s (Nat.le_refl _), ih]
      by_cases hk2 : k ≠ a ∧ k ≠ b
      · rw [if_pos ⟨hk, hk2⟩, if_pos ⟨hc, hk2⟩, lv_int hm a]
        exact an_or X hX _ (tB_lt (lv_lt hm a) b) _ (lv_lt hm a)
      · rw [if_neg (fun h => hk2 h.2), if_neg (fun h => hk2 h.2)]
    · rw [if_neg (fun h => hc ((cond_is hm a b).1 h)), if_neg (fun h => hc h.1), ih]
theorem pB_off {m o : List Int} {s u a : Nat} (hs : s ∈ [2, 3, 4]) (hu : u < 2 * s) (hl : o.length = s * s) {p : Nat} (hp : ∀ k, k < s → lcN s u k ≠ p) (b : Nat) : nth (pB m s s u a o b) p = nth o p := by
  induction b with
  | zero => rfl
  | succ b ih =>
    simp only [pB]
    split
    · rw [pIn_off hs hu (by rw [pB_len, hl]) hp s (Nat.le_refl _), ih]
    · exact ih
theorem anN_lt : ∀ x, x < 32 → ∀ y, y < 32 → ∃ z, z < 32 ∧ bits .andNot .i64 (x : Nat) (y : Nat) = (z : Nat) := fun x hx y hy => by
  obtain ⟨q1, q2, _⟩ := an_key x hx y hy
  exact ⟨(bits .andNot .i64 (x : Nat) (y : Nat)).toNat, by omega, by omega⟩
theorem pA_nth {m o : List Int} {s u : Nat} (hs : s ∈ [2, 3, 4]) (hm : mvd m s = true) (hu : u < 2 * s) (hl : o.length = s * s) {k X : Nat} (hk : k < s) (hX : X < 32) (ho : nth o (lcN s u k) = (X : Nat)) (a : Nat) :
    nth (pA m s s u o a) (lcN s u k) = bits .andNot .i64 (X : Nat) ((tA (lv m s u) k a : Nat) : Int) := by
  induction a with
  | zero => simp only [pA, tA]; rw [ho]; exact (an_zero X hX).symm
  | succ a ih =>
    simp only [pA, tA]
    have hA : tA (lv m s u) k a < 32 := tA_lt a fun i _ => lv_lt hm i
    obtain ⟨z, hz, ez⟩ := anN_lt X hX _ hA
    rw [pB_nth hs hm hu (by rw [pA_len, hl]) hk hz (by rw [ih, ez]) a, ← ez]
    exact an_or X hX _ hA _ (tB_lt (lv_lt hm a) a)
theorem pA_off {m o : List Int} {s u : Nat} (hs : s ∈ [2, 3, 4]) (hu : u < 2 * s) (hl : o.length = s * s) {p : Nat} (hp : ∀ k, k < s → lcN s u k ≠ p) (a : Nat) : nth (pA m s s u o a) p = nth o p := by
  induction a with
  | zero => rfl
  | succ a ih => simp only [pA]; rw [pB_off hs hu (by rw [pA_len, hl]) hp a, ih]
/-- the program's way over a line, cell by cell. -/
def gL (m : List Int) (S u : Int) (C : Nat → Nat) (o : List Int) : Nat → List Int
  | 0 => o
  | k + 1 => (gL m S u C o k).set (lcN S u k) (bits .andNot .i64 (nth (gL m S u C o k) (lcN S u k)) ((tkF C (lv m S u k) 32 : Nat) : Int))
theorem gL_len (m : List Int) (S u : Int) (C : Nat → Nat) (o : List Int) (k : Nat) : (gL m S u C o k).length = o.length := by
  induction k with
  | zero => rfl
  | succ k ih => simp only [gL]; rw [List.length_set, ih]
theorem gL_nth {m o : List Int} {s u : Nat} {C : Nat → Nat} (hs : s ∈ [2, 3, 4]) (hu : u < 2 * s) (hl : o.length = s * s) {k : Nat} (hk : k < s) (K : Nat) (hK : K ≤ s) :
    nth (gL m s u C o K) (lcN s u k) = if k < K then bits .andNot .i64 (nth o (lcN s u k)) ((tkF C (lv m s u k) 32 : Nat) : Int) else nth o (lcN s u k) := by
  induction K with
  | zero => simp [gL]
  | succ K ih =>
    have ih := ih (by omega)
    simp only [gL]
    rw [nth_set (by rw [gL_len, hl]; exact line_at hs hu K (by omega))]
    by_cases e : k = K
    · subst e
      rw [if_neg (by omega)] at ih
      rw [if_pos rfl, if_pos (by omega), ih]
    · rw [if_neg (fun h => e (lc_inj hs hk (by omega) h.symm)), ih]
      by_cases h : k < K
      · rw [if_pos h, if_pos (by omega)]
      · rw [if_neg h, if_neg (by omega)]
theorem gL_off {m o : List Int} {s u : Nat} {C : Nat → Nat} (hs : s ∈ [2, 3, 4]) (hu : u < 2 * s) (hl : o.length = s * s) {p : Nat} (hp : ∀ k, k < s → lcN s u k ≠ p) (K : Nat) (hK : K ≤ s) : nth (gL m s u C o K) p = nth o p := by
  induction K with
  | zero => rfl
  | succ K ih => simp only [gL]; rw [nth_set (by rw [gL_len, hl]; exact line_at hs hu K (by omega)), if_neg (hp K (by omega)), ih (by omega)]
theorem gL_is {m o : List Int} {s u : Nat} (hs : s ∈ [2, 3, 4]) (hm : mvd m s = true) (hu : u < 2 * s) (ho : Sub o m) : gL m s u (fun x => cN (lv m s u) x s) o s = pA m s s u o s := by
  have hln := len_of hs hm
  have hl : o.length = s * s := by rw [ho.1, hln]
  apply ext_nth
  · rw [gL_len, pA_len]
  · intro p hp
    rw [gL_len, hl] at hp
    by_cases h : ∃ k, k < s ∧ lcN s u k = p
    · obtain ⟨k, hk, rfl⟩ := h
      obtain ⟨⟨x0, x1, _⟩, _⟩ := ho.at_ hm (k := lcN s u k) (by rw [hln]; exact hp)
      obtain ⟨X, hX⟩ := Int.eq_ofNat_of_zero_le x0
      rw [gL_nth hs hu hl hk s (Nat.le_refl _), if_pos hk, pA_nth hs hm hu hl hk (by omega) hX s, hX, tk_is hk (fun i _ => lv_lt hm i)]
    · have hp' : ∀ k, k < s → lcN s u k ≠ p := fun k hk e => h ⟨k, hk, e⟩
      rw [gL_off hs hu hl hp' s (Nat.le_refl _), pA_off hs hu hl hp' s]
def gU (m : List Int) (N : Nat) : Nat → List Int
  | 0 => m
  | u + 1 => gL m N u (fun x => cN (lv m N u) x N) (gU m N u) N
theorem gU_is {m : List Int} {s : Nat} (hs : s ∈ [2, 3, 4]) (hm : mvd m s = true) : ∀ u, u ≤ 2 * s → gU m s u = pU m s s u := by
  intro u
  induction u with
  | zero => intro _; rfl
  | succ u ih =>
    intro hu
    simp only [gU, pU]
    rw [ih (by omega)]
    exact gL_is hs hm (by omega) (pU_sub hm u)
end Go.Proofs.Ytgejahkdiciplab
