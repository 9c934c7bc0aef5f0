import Derived.Test.YtfpddieoiejofaaDrawL
import Derived.Test.YtfpddieoiejofaaInts
import Derived.Test.YtfpddieoiejofaaC1T
import Derived.Test.YtfpddieoiejofaaC1I
import Derived.Test.YtfpddieoiejofaaC1M
namespace Go.Proofs.Ytfpddieoiejofaa
open Go.ChangeShapes Go.WideShapes Go.ChangeAt Go.RowKit

theorem Rd.take {w : World} {B : Nat} {A : Option Addr} {n : Nat} {xs : List Int} (h : Rd w B A n xs) {m : Nat} (hm : m ≤ n) : Rd w B A m (xs.take m) := by
  refine ⟨by rw [List.length_take, h.1]; omega, fun h0 => ?_⟩
  obtain ⟨b, off, he, hb, hc⟩ := h.2 (by omega)
  refine ⟨b, off, he, hb, fun k hk => ?_⟩
  rw [hc k (by omega)]
  simp [nth, List.getD_eq_getElem?_getD, hk]
theorem gv_n {xs : List Int} {size : Int} {n : Nat} (h : gv xs size = true) (hl : xs.length = n) : 4 ≤ n ∧ n ≤ 16 ∧ (n : Int) = size * size := by
  obtain ⟨h2, h4⟩ := gv_size h
  have := gv_len h
  obtain ⟨q4, q16⟩ := sq_bd h2 h4
  rw [hl] at this
  omega
theorem gv_short {xs : List Int} {size : Int} {n : Nat} (h : gv xs size = true) (hl : xs.length = n) : gv (xs.take (n - 1)) size = false := by
  obtain ⟨h4, _, hn⟩ := gv_n h hl
  have e : ((xs.take (n - 1)).length : Int) = n - 1 := by rw [List.length_take, hl]; omega
  cases hg : gv (xs.take (n - 1)) size
  · rfl
  · have := gv_len hg
    omega
theorem gv_large {xs : List Int} {size : Int} {n : Nat} (h : gv xs size = true) (hl : xs.length = n) : gv (xs.set 0 (size + 1)) size = false := by
  obtain ⟨h4, _, hn⟩ := gv_n h hl
  cases hg : gv (xs.set 0 (size + 1)) size
  · rfl
  · have := gv_nth hg (k := 0) (by rw [List.length_set, hl]; omega)
    rw [nth_set (by omega), if_pos rfl] at this
    omega

def zeroArr (n : Nat) : Array Value := madeCells #[.int .i64 0] n
theorem make_ints {n : Nat} (hn : n ≤ 1099511627776) (w : World) : (Instr.makeSlice 23 (.int .i64 (n : Int)) (.int .i64 (n : Int))).run Try.prog w = .ok (.slice (some ⟨w.heap.size, 0, none⟩) n n) (w.alloc (.cells (zeroArr n) 3)) := by
  obtain ⟨i0, hi, hz0, hz1, hz2⟩ := info_parts int_info
  have hr := run_make (P := Try.prog) w 23 3 i0 (.int .i64 0) Try.underlying23 hi hz0 .i64 .i64 (n : Int) (n : Int) (by omega) (Int.le_refl _) (by rw [hz2]; omega) (by omega)
  rw [hz1, Int.toNat_natCast, Nat.mul_one] at hr
  exact hr
theorem zeroArr_ow {n lo : Nat} (hn : n ≤ 1099511627776) (w : World) (hlo : lo ≤ w.heap.size) : Ow (w.alloc (.cells (zeroArr n) 3)) lo (some ⟨w.heap.size, 0, none⟩) n n (zeros n) := by
  have hs : (zeroArr n).size = n * 1 := by simp [zeroArr, madeCells]
  have h := World.ownsRow_lit (e := 3) (size := 1) w (zeroArr n) n hlo (by simp only [maxLen]; omega) hs
  unfold Ow
  have e : (zeroArr n).toList = vals (zeros n) := by
    rw [zeroArr, toList_madeCells_one]
    simp [vals, zeros]
  rw [← e]
  exact h
theorem copy_below {w w' : World} (hg : (w.alloc (.cells #[] 3)).grownBy w' (Value.slice (some ⟨w.heap.size, 0, none⟩) 0 0).ownBlock) : Below w.heap.size w w' :=
  ((Below.refl _ _).alloc (Nat.le_refl _) _).grown hg (by simp) (fun k hk => (Ow.made0 w w.heap.size (Nat.le_refl _)).own_lo k hk)
theorem fnGridValid_walk (A : Option Addr) (c n : Nat) (bs : List Int) (w : World) (h : Code_ w A n c bs) :
    Calls Try.prog 3 #[.slice A n c] w fun e w' => e = .returned (.bool true) ∧ Below w.heap.size w w' := by
  by_cases hn : n ≤ 1048576
  · go_enter Try.func3, Try.ntmps3
    go_wp2_with fail
    refine (drawGridValid _ _ _ _ _ h).mono ?_
    rintro e w1 ⟨A1, n1, c1, xs, s, rfl, hr1, ⟨h16, hc1, hc2⟩, s0, s1, _, hb1⟩
    have hl := Lib.hid hr1.1
    go_wp2_with fail
    refine (implGridValid _ _ _ _ _ _ _ hr1 (Nat.le_refl _) (by omega)).mono ?_
    rintro e w2 ⟨rfl, hb2⟩
    have hr2 := hr1.below hb2
    have h12 := step hb1 hb2
    cases hg : gv xs s
    · go_wp2_with fail
      refine (specGridValid _ _ _ _ _ _ _ hr2 (by omega)).mono ?_
      rintro e w2' ⟨rfl, rfl⟩
      go_wp2_with fail
      refine (alive_any _).mono ?_
      rintro e w3 ⟨rfl, hb3⟩
      go_wp2
      go_ret
      exact ⟨rfl, step h12 hb3⟩
    · obtain ⟨h4, _, hsq⟩ := gv_n hg hl.out
      have Hsq := Lib.hid hsq
      have hs1 := Lib.hid (gv_short hg hl.out)
      have hs2 := Lib.hid (gv_large hg hl.out)
      have hz : ((n1 : Int) == 0) = false := by simp; omega
      clear hsq
      go_wp2_with fail
      refine (specGridValid _ _ _ _ _ _ _ hr2 (by omega)).mono ?_
      rintro e w2' ⟨rfl, rfl⟩
      obtain ⟨b, off, rfl, _, _⟩ := hr2.at_ (k := 0) (by omega)
      go_wp2_with (at_builtin; refine push_some rfl (.tmp 31) (.tmp 32) rfl w2.heap.size (some ⟨w2.heap.size, 0, none⟩) 0 0 [] b off n1 c1 w1.heap.size xs rfl rfl (Ow.made0 _ _ (Nat.le_refl _)) (hr2.alloc hb2.size _) (by omega) (by omega) (by simp) ?_; intro A3 c3 w3 ho3 hg3; simp only [Nat.zero_add, List.nil_append] at ho3; obtain ⟨g, rfl, hlog, hgw⟩ := ho3.form (by omega); obtain ⟨hcq, hfq⟩ := ho3.cell (k := 0) (by omega))
      have ho4 := ho3.put 0 (s + 1)
      have hb4 : Below w2.heap.size w2 (w3.setCell ⟨g, 0, none⟩ (.int .i64 (s + 1))) := (copy_below hg3).setCell hlog _
      generalize w3.setCell ⟨g, 0, none⟩ (.int .i64 (s + 1)) = W4 at *
      have hr4 := hr2.below (hb4.mono hb2.size)
      have hB4 := Nat.le_trans hb2.size hb4.size
      refine (implGridValid _ _ _ _ _ _ _ (hr4.take (by omega)) hB4 (by omega)).mono ?_
      rintro e w5 ⟨rfl, hb5⟩
      rw [hs1.out]
      go_wp2_with fail
      refine (implGridValid _ _ _ _ _ _ _ (ho4.below hb5).rd (Nat.le_refl _) (by omega)).mono ?_
      rintro e w6 ⟨rfl, hb6⟩
      rw [hs2.out]
      go_wp2
      go_ret
      exact ⟨rfl, step (step (step h12 hb4) hb5) hb6⟩
  · go_enter Try.func3, Try.ntmps3
    go_wp2
    go_ret
    exact ⟨rfl, Below.refl _ _⟩
theorem cnz_lt {xs : List Int} {k : Nat} {v : Int} (hk : k < xs.length) : ∀ m, m ≤ k → cnz (xs.set k v) m = cnz xs m := by
  intro m
  induction m with
  | zero => intro _; rfl
  | succ m ih =>
    intro hm
    simp only [cnz]
    have e : k ≠ m := by omega
    rw [ih (by omega), nth_set hk, if_neg e]
theorem cnz_set {xs : List Int} {k : Nat} (hk : k < xs.length) (h : nth xs k ≠ 0) : ∀ m, k < m → cnz (xs.set k 0) m + 1 = cnz xs m := by
  intro m
  induction m with
  | zero => intro hm; omega
  | succ m ih =>
    intro hm
    simp only [cnz]
    by_cases e : k = m
    · subst e
      rw [cnz_lt hk k (Nat.le_refl _), nth_set hk, if_pos rfl, if_pos rfl, if_neg h]
    · rw [nth_set hk, if_neg e]
      have := ih (by omega)
      omega
theorem gv_set0 {xs : List Int} {size : Int} {n k : Nat} (h : gv xs size = true) (hl : xs.length = n) : gv (xs.set k 0) size = true := by
  obtain ⟨h2, h4⟩ := gv_size h
  refine okAll_gv (n := n) (by simpa using hl) (gv_n h hl).2.2 h2 h4 (okAll_set' (fun j hj => gv_nth h (by omega)) (by omega) (by omega))
theorem gf_set {xs : List Int} {size : Int} {k : Nat} (h : gv xs size = true) (hk : k < xs.length) (h0 : nth xs k ≠ 0) : gf (xs.set k 0) size = gf xs size - 1 := by
  have := cnz_set hk h0 xs.length hk
  unfold gf
  rw [if_pos h, if_pos (gv_set0 h rfl), List.length_set]
  omega
theorem cnz_zeros (n m : Nat) : cnz (zeros n) m = 0 := by
  induction m with
  | zero => rfl
  | succ m ih => rw [cnz, ih, zeros_nth]; rfl
theorem gf_zeros {size : Int} {n : Nat} (h2 : 2 ≤ size) (h4 : size ≤ 4) (hn : (n : Int) = size * size) : gf (zeros n) size = 0 := by
  have hg : gv (zeros n) size = true := okAll_gv (zeros_length n) hn h2 h4 (okAll_zeros (by omega) n)
  unfold gf
  rw [if_pos hg, cnz_zeros]; rfl

theorem fnGridFilled_walk (A : Option Addr) (c n : Nat) (bs : List Int) (w : World) (h : Code_ w A n c bs) :
    Calls Try.prog 4 #[.slice A n c] w fun e w' => e = .returned (.bool true) ∧ Below w.heap.size w w' := by
  obtain ⟨i0, hi, hz0, hz1, hz2⟩ := info_parts int_info
  by_cases hn : n ≤ 1048576
  · go_enter Try.func4, Try.ntmps4
    go_wp2_with fail
    refine (drawGridFilled _ _ _ _ _ h).mono ?_
    rintro e w1 ⟨A1, n1, c1, xs, s, rfl, hr1, ⟨h16, hc1, hc2⟩, s0, s1, _, hb1⟩
    have hl := Lib.hid hr1.1
    go_wp2_with fail
    refine (implGridFilled _ _ _ _ _ _ _ hr1 (Nat.le_refl _) (by omega)).mono ?_
    rintro e w2 ⟨rfl, hb2⟩
    have hr2 := hr1.below hb2
    have h12 := step hb1 hb2
    have hne : (gf xs s != gf xs s) = false := by simp
    cases hg : gv xs s
    · have hgf : gf xs s = -1 := by simp [gf, hg]
      go_wp2_with fail
      refine (specGridFilled _ _ _ _ _ _ _ hr2 (by omega)).mono ?_
      rintro e w2' ⟨rfl, rfl⟩
      rw [hgf]
      go_wp2_with fail
      refine (alive_any _).mono ?_
      rintro e w3 ⟨rfl, hb3⟩
      go_wp2
      go_ret
      exact ⟨rfl, step h12 hb3⟩
    · obtain ⟨h2, h4⟩ := gv_size hg
      obtain ⟨hn4, _, hsq⟩ := gv_n hg hl.out
      have hgf0 : 0 ≤ gf xs s ∧ gf xs s ≤ n1 := by
        have := cnz_le xs xs.length
        have hl' := hl.out
        simp only [gf, hg, if_true]
        omega
      obtain ⟨f0, f1⟩ := hgf0
      have hw : wrap64 (s * s) = (n1 : Int) := by rw [sq_wrap h2 h4, hsq]
      have hset := Lib.hid (fun k (hk : k < xs.length) (h0 : nth xs k ≠ 0) => gf_set hg hk h0)
      have hgz := Lib.hid (gf_zeros h2 h4 hsq)
      clear hsq
      go_wp2_with fail
      refine (specGridFilled _ _ _ _ _ _ _ hr2 (by omega)).mono ?_
      rintro e w2' ⟨rfl, rfl⟩
      go_wp2
      go_loopw [6] (fun i wr => ∃ k : Nat, k ≤ n1 ∧ i = .int .i64 k ∧ Below w2.heap.size w2 wr) (fun i _ => n1 - (intOf i).toNat)
      case atStart => exact ⟨0, by omega, rfl, Below.refl _ _⟩
      case round =>
        obtain ⟨k, hk, rfl, hb⟩ := hrel
        have hr := hr2.below (hb.mono hb2.size)
        by_cases hlt : k < n1
        · obtain ⟨b, off, rfl, _, hck⟩ := hr.at_ hlt
          by_cases h0 : nth xs k = 0
          · have hz : (nth xs k == 0) = true := by simp [h0]
            clear h0
            go_wp2
            go_roundw
            case rel => exact ⟨k + 1, by omega, by go_num, hb⟩
            case measure => simp [intOf]; omega
          · have hz : (nth xs k == 0) = false := by simp [h0]
            have hs := Lib.hid (hset.out k (by have := hl.out; omega) h0)
            clear h0
            have hbs := Nat.le_trans hb2.size hb.size
            go_wp2_with (at_builtin; refine push_some rfl (.tmp 42) (.tmp 43) rfl wr.heap.size (some ⟨wr.heap.size, 0, none⟩) 0 0 [] b off n1 c1 w1.heap.size xs rfl rfl (Ow.made0 _ _ (Nat.le_refl _)) (hr.alloc hbs _) (by omega) (by omega) (by simp) ?_; intro A3 c3 w3 ho3 hg3; simp only [Nat.zero_add, List.nil_append] at ho3; obtain ⟨g, rfl, hlog, hgw⟩ := ho3.form (by omega); obtain ⟨hcq, hfq⟩ := ho3.cell hlt)
            have ho4 := ho3.put k 0
            have hb4 : Below wr.heap.size wr (w3.setCell ⟨g, k, none⟩ (.int .i64 0)) := (copy_below hg3).setCell hlog _
            generalize w3.setCell ⟨g, k, none⟩ (.int .i64 0) = W4 at *
            refine (implGridFilled _ _ _ _ _ _ _ ho4.rd (Nat.le_refl _) (by omega)).mono ?_
            rintro e w5 ⟨rfl, hb5⟩
            rw [hs.out]
            have hne2 : (gf xs s - 1 != gf xs s - 1) = false := by simp
            go_wp2
            go_roundw
            case rel => exact ⟨k + 1, by omega, by go_num, step (step hb hb4) hb5⟩
            case measure => simp [intOf]; omega
        · have hmk := fun W : World => make_ints (n := n1) (by omega) W
          have hbs := Nat.le_trans hb2.size hb.size
          go_wp2_with fail
          refine (implGridFilled _ _ _ _ _ _ _ (zeroArr_ow (by omega) _ (Nat.le_refl _)).rd (Nat.le_refl _) (by omega)).mono ?_
          rintro e w5 ⟨rfl, hb5⟩
          rw [hgz.out]
          go_wp2
          go_ret
          exact ⟨rfl, (step h12 hb).trans ((box_below hb5).mono (step h12 hb).size)⟩
  · go_enter Try.func4, Try.ntmps4
    go_wp2
    go_ret
    exact ⟨rfl, Below.refl _ _⟩
end Go.Proofs.Ytfpddieoiejofaa
