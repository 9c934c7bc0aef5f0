import Derived.Test.YtmnacejmkjhpnaaDrawN
import Derived.Test.YtmnacejmkjhpnaaW2E
namespace Go.Proofs.Ytmnacejmkjhpnaa
open Go.ChangeShapes Go.WideShapes Go.ChangeAt Go.RowKit

theorem below_of_drewN {w w' : World} {k : Nat} (h : Below (w.drewN k).heap.size (w.drewN k) w') : Below w.heap.size w w' := ⟨h.os, h.tape, h.output, h.size, h.block⟩
theorem Rd.drewN_ {w : World} {B n : Nat} {A : Option Addr} {xs : List Int} (h : Rd w B A n xs) (k : Nat) : Rd (w.drewN k) B A n xs := h.below (below_drewN (Below.refl _ _) k)
def sqCnt (s : Int) : Int := if s = 2 then 2 else if s = 3 then 12 else 576
theorem sols_cnt {s : Int} (h2 : 2 ≤ s) (h4 : s ≤ 4) : ((sols s (s * s).toNat (zeros (s * s).toNat) 0).length : Int) = sqCnt s := by
  have : s = 2 ∨ s = 3 ∨ s = 4 := by omega
  rcases this with rfl | rfl | rfl
  · exact congrArg Int.ofNat sols2
  · exact congrArg Int.ofNat sols3
  · exact congrArg Int.ofNat sols4
theorem sqn_none {s n : Int} (h2 : 2 ≤ s) (h4 : s ≤ 4) (h : n < 0 ∨ sqCnt s ≤ n) : sqn s n = [] := by
  unfold sqn
  split
  · next hh =>
    have hc := sols_cnt h2 h4
    rw [List.getElem?_eq_none (by omega)]
    rfl
  · rfl
theorem sqn_bad {s n : Int} (h : ¬ (2 ≤ s ∧ s ≤ 4)) : sqn s n = [] := by
  have : inr s 2 4 = false := by simp only [inr, decide_eq_false_iff_not]; exact h
  simp [sqn, this]
/-- the grid with a number is solved; the next one is a later one. -/
theorem sqn_some {s n : Int} (h2 : 2 ≤ s) (h4 : s ≤ 4) (n0 : 0 ≤ n) (n1 : n < sqCnt s) : (sqn s n).length = (s * s).toNat ∧ sqSolved (sqn s n) s = true ∧ (n + 1 < sqCnt s → (sqn s (n + 1)).length = (s * s).toNat ∧ lexlt (s * s).toNat (sqn s n) (sqn s (n + 1))) := by
  obtain ⟨q4, q16⟩ := sq_bd h2 h4
  have hs : inr s 2 4 = true := by simp [inr, h2, h4]
  have hc := sols_cnt h2 h4
  have hnn : (((s * s).toNat : Nat) : Int) = s * s := Int.toNat_of_nonneg (by omega)
  have get : ∀ m : Int, 0 ≤ m → (hm : m < sqCnt s) → ∃ h : m.toNat < (sols s (s * s).toNat (zeros (s * s).toNat) 0).length, sqn s m = (sols s (s * s).toNat (zeros (s * s).toNat) 0)[m.toNat] := fun m m0 hm => by
    have h : m.toNat < (sols s (s * s).toNat (zeros (s * s).toNat) 0).length := by omega
    refine ⟨h, ?_⟩
    unfold sqn
    rw [if_pos ⟨hs, m0⟩, List.getElem?_eq_getElem h]
    rfl
  obtain ⟨hl, e⟩ := get n n0 n1
  have hmem := List.getElem_mem hl
  obtain ⟨a1, a2⟩ := sols_solved h2 h4 hnn hmem
  rw [e]
  refine ⟨a1, a2, fun n2 => ?_⟩
  obtain ⟨hl2, e2⟩ := get (n + 1) (by omega) n2
  rw [e2]
  refine ⟨(sols_solved h2 h4 hnn (List.getElem_mem hl2)).1, ?_⟩
  have hs := sols_sorted (size := s) (s * s).toNat (s * s).toNat (zeros (s * s).toNat) 0 (Nat.zero_add _) (zeros_length _)
  rw [List.pairwise_iff_getElem] at hs
  exact hs n.toNat (n + 1).toNat hl hl2 (by omega)
/-- the first place where two lists differ. -/
theorem lexlt_first {N : Nat} {xs ys : List Int} (h : lexlt N xs ys) {k : Nat} (hag : ∀ j, j < k → nth ys j = nth xs j) (hne : nth ys k ≠ nth xs k) : nth xs k < nth ys k := by
  obtain ⟨m, hm, he, hlt⟩ := h
  rcases Nat.lt_trichotomy m k with h1 | h1 | h1
  · have := hag m h1; omega
  · subst h1; exact hlt
  · exact absurd (he k h1).symm hne
theorem cnt_tbl {s : Int} (h2 : 2 ≤ s) (h4 : s ≤ 4) : (#[.int .i64 2, .int .i64 12, .int .i64 576] : Array Value)[(s - 2).toNat]? = some (.int .i64 (sqCnt s)) ∧ ([.int .i64 2, .int .i64 12, .int .i64 576] : List Value)[(s - 2).toNat]? = some (.int .i64 (sqCnt s)) := by
  have : s = 2 ∨ s = 3 ∨ s = 4 := by omega
  rcases this with rfl | rfl | rfl <;> exact ⟨rfl, rfl⟩
theorem cnt_bd (s : Int) : 2 ≤ sqCnt s ∧ sqCnt s ≤ 576 := by
  unfold sqCnt
  split
  · omega
  · split <;> omega
theorem lexlt_end {N : Nat} {xs ys : List Int} (h : lexlt N xs ys) (hag : ∀ j, j < N → nth ys j = nth xs j) : False := by
  obtain ⟨m, hm, he, hlt⟩ := h
  have := hag m hm
  omega
theorem sol_of (hsol : ISquareSolved) (A : Option Addr) (c n B : Nat) (xs : List Int) (size : Int) (w : World) (h : Rd w B A n xs) (hB : B ≤ w.heap.size) (hm : n ≤ 1099511627776) :
    Calls Try.prog 28 #[.slice A n c, .int .i64 size] w fun e w' => e = .returned (.bool (sqSolved xs size)) ∧ Below w.heap.size w w' := hsol A c n B xs size w h hB hm
set_option maxHeartbeats 1000000 in
theorem fnSquareNumber_walk (himpl : ISquareNumber) (hsol : ISquareSolved) (A : Option Addr) (c n : Nat) (bs : List Int) (w : World) (h : Code_ w A n c bs) :
    Calls Try.prog 6 #[.slice A n c] w fun e w' => e = .returned (.bool true) ∧ Below w.heap.size w w' := by
  have Himpl := Lib.hid himpl; clear himpl
  have Hsol := Lib.hid hsol; clear hsol
  by_cases hn : n ≤ 1048576
  · go_enter Try.func6, Try.ntmps6
    go_wp2_with fail
    refine (drawSquareNumber _ _ _ _ _ h).mono ?_
    rintro e w1 ⟨s, m, rfl, s0, s1, m0, m1, hb1⟩
    have hlen := (sqn_length (size := s) (number := m))
    have hsame := same_refl (sqn s m)
    go_wp2_with fail
    refine (Himpl.out _ _ _ (by omega) (by omega)).mono ?_
    rintro e w2 ⟨A2, c2, rfl, ho2, hb2⟩
    have hr2 := ho2.rd
    go_wp2_with fail
    refine (specSquareNumber _ _ _ (by omega) (by omega)).mono ?_
    rintro e w3 ⟨A3, c3, rfl, ho3, hb3⟩
    go_wp2_with fail
    refine (sameInts_any _ _ _ _ _ _ _ _ _ _ _ (hr2.below hb3) ho3.rd (by omega)).mono ?_
    rintro e w4 ⟨rfl, hb4⟩
    have h24 := step hb3 hb4
    have hr4 := hr2.below h24
    have h04 := step (step hb1 hb2) h24
    by_cases h2 : 2 ≤ s
    · by_cases h4 : s ≤ 4
      · obtain ⟨t1, t2⟩ := cnt_tbl h2 h4
        obtain ⟨n2, n3⟩ := cnt_bd s
        by_cases hin : 0 ≤ m ∧ m < sqCnt s
        · obtain ⟨i0, i1⟩ := hin
          obtain ⟨q4, q16⟩ := sq_bd h2 h4
          obtain ⟨hl, hsv, hnx⟩ := sqn_some h2 h4 i0 i1
          have hz0 : (((sqn s m).length : Int) == 0) = false := by rw [hl]; simp; omega
          have Hsv := Lib.hid hsv
          have Hl := Lib.hid hl
          clear hsv hl q4 q16
          have hlen1 := (sqn_length (size := s) (number := m + 1))
          by_cases hlast : m + 1 < sqCnt s
          · obtain ⟨hl2, hlex⟩ := hnx hlast
            have Hl2 := Lib.hid hl2
            have Hlex := Lib.hid hlex
            clear hnx hl2 hlex
            go_wp2_with fail
            refine (Himpl.out _ (m + 1) _ (by omega) (by omega)).mono ?_
            rintro e w5 ⟨A5, c5, rfl, ho5, hb5⟩
            have hb45 := box_below hb5
            have hr5 := ho5.rd
            have hrx := hr4.below (hb45.mono h24.size)
            have h05 := step h04 hb45
            clear t1 t2
            go_wp2
            go_loopw [8] (fun i wr => ∃ k : Nat, k ≤ (sqn s (m + 1)).length ∧ i = .int .i64 k ∧ Hid (∀ j, j < k → nth (sqn s (m + 1)) j = nth (sqn s m) j) ∧ Below w5.heap.size w5 wr) (fun i _ => (sqn s (m + 1)).length - (intOf i).toNat)
            case atStart => exact ⟨0, Nat.zero_le _, rfl, Lib.hid (fun j hj => absurd hj (by omega)), Below.refl _ _⟩
            case round =>
              obtain ⟨k, hk, rfl, hag, hb⟩ := hrel
              by_cases hlt : k < (sqn s (m + 1)).length
              · have hkx : k < (sqn s m).length := by rw [Hl.out, ← Hl2.out]; exact hlt
                have hrx2 := hrx.below (hb.mono (Nat.le_trans h24.size hb45.size))
                obtain ⟨b5, o5, rfl, g5, hc5⟩ := (hr5.below hb).at_ hlt
                obtain ⟨bx, ox, rfl, gx, hcx⟩ := hrx2.at_ hkx
                have Hb5 : Hid (b5 < w5.heap.size) := Lib.hid g5
                have hltI : (k : Int) < ((sqn s (m + 1)).length : Int) := by omega
                have hkxI : (k : Int) < ((sqn s m).length : Int) := by omega
                by_cases he : nth (sqn s (m + 1)) k = nth (sqn s m) k
                · have hag2 := Lib.hid (show ∀ j, j < k + 1 → nth (sqn s (m + 1)) j = nth (sqn s m) j from fun j hj => by
                    by_cases e : j = k
                    · rw [e]; exact he
                    · exact hag.out j (by omega))
                  have hne : (nth (sqn s (m + 1)) k != nth (sqn s m) k) = false := by simp [he]
                  clear he
                  go_wp2
                  go_quiet (fail)
                  go_wp2
                  go_roundw
                  case rel => exact ⟨k + 1, by omega, by go_num, hag2, below_drewN hb _⟩
                  case measure => simp [intOf]; omega
                · have hgt := lexlt_first Hlex.out hag.out he
                  have hne : (nth (sqn s (m + 1)) k != nth (sqn s m) k) = true := by simp [he]
                  have hwr : w2.heap.size ≤ wr.heap.size := Nat.le_trans (Nat.le_trans h24.size hb45.size) hb.size
                  clear he
                  go_wp2
                  go_quiet (fail)
                  go_wp2
                  go_region_with (go_at_call 28; go_loud (with_reducible refine (sol_of Hsol.out _ _ _ w2.heap.size (sqn s m) s _ ?hd ?hB ?hm).mono ?_); (case hd => exact hrx2.drewN_ _); (case hB => exact hwr); (case hm => omega); rintro e w6 ⟨rfl, hb6⟩; rw [Hsv.out]; have hb7 := step (step h05 hb) (below_of_drewN hb6); clear hb6)
                  all_goals
                    go_wp2
                    go_ret
                    refine ⟨?_, hb7⟩
                    first | (simp; done) | (go_simp; done) | rfl
              · have hke : k = (sqn s (m + 1)).length := by omega
                exact absurd (lexlt_end Hlex.out (fun j hj => hag.out j (by rw [hke, Hl2.out]; exact hj))) (fun h => h)
          · have hnone := Lib.hid (sqn_none (n := m + 1) h2 h4 (by omega))
            have hlast' : (m == sqCnt s - 1) = true := by simp; omega
            clear hnx
            go_wp2_with fail
            refine (Himpl.out _ (m + 1) _ (by omega) (by omega)).mono ?_
            rw [hnone.out]
            rintro e w5 ⟨A5, c5, rfl, ho5, hb5⟩
            have hb45 := box_below hb5
            have hrx := hr4.below (hb45.mono h24.size)
            have h05 := step h04 hb45
            clear t1 t2
            go_wp2
            go_loop [8] (fun i => i = .int .i64 0) (fun i => 0)
            case atStart => rfl
            case round =>
              obtain rfl := hrel
              go_wp2_with fail
              refine (Hsol.out _ _ _ _ _ _ _ hrx (Nat.le_trans h24.size hb45.size) (by omega)).mono ?_
              rintro e w6 ⟨rfl, hb6⟩
              rw [Hsv.out]
              go_wp2
              go_ret
              exact ⟨rfl, step h05 hb6⟩
        · have hz := Lib.hid (sqn_none (n := m) h2 h4 (by omega))
          have hz0 : (((sqn s m).length : Int) == 0) = true := by rw [hz.out]; rfl
          by_cases hm0 : m < 0
          · go_wp2_with fail
            refine (alive_any _).mono ?_
            rintro e w5 ⟨rfl, hb5⟩
            go_wp2
            go_ret
            exact ⟨rfl, step h04 (box_below hb5)⟩
          · have hm1' : sqCnt s ≤ m := by omega
            go_wp2_with fail
            refine (alive_any _).mono ?_
            rintro e w5 ⟨rfl, hb5⟩
            go_wp2
            go_ret
            exact ⟨rfl, step h04 (box_below hb5)⟩
      · have hz := Lib.hid (sqn_bad (n := m) (show ¬ (2 ≤ s ∧ s ≤ 4) by omega))
        have hz0 : (((sqn s m).length : Int) == 0) = true := by rw [hz.out]; rfl
        rcases Int.lt_or_le m 0 with hm0 | hm0
        · go_wp2_with fail
          refine (alive_any _).mono ?_
          rintro e w5 ⟨rfl, hb5⟩
          go_wp2
          go_ret
          exact ⟨by first | rfl | (simp; done) | (simp; omega), step h04 hb5⟩
        · go_wp2_with fail
          refine (alive_any _).mono ?_
          rintro e w5 ⟨rfl, hb5⟩
          go_wp2
          go_ret
          exact ⟨by first | rfl | (simp; done) | (simp; omega), step h04 hb5⟩
    · have hz := Lib.hid (sqn_bad (n := m) (show ¬ (2 ≤ s ∧ s ≤ 4) by omega))
      have hz0 : (((sqn s m).length : Int) == 0) = true := by rw [hz.out]; rfl
      rcases Int.lt_or_le m 0 with hm0 | hm0
      · go_wp2_with fail
        refine (alive_any _).mono ?_
        rintro e w5 ⟨rfl, hb5⟩
        go_wp2
        go_ret
        exact ⟨by first | rfl | (simp; done) | (simp; omega), step h04 hb5⟩
      · go_wp2_with fail
        refine (alive_any _).mono ?_
        rintro e w5 ⟨rfl, hb5⟩
        go_wp2
        go_ret
        exact ⟨by first | rfl | (simp; done) | (simp; omega), step h04 hb5⟩
  · go_enter Try.func6, Try.ntmps6
    go_wp2
    go_ret
    exact ⟨rfl, Below.refl _ _⟩
end Go.Proofs.Ytmnacejmkjhpnaa
