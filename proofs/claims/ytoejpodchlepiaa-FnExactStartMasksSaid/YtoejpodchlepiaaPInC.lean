import Derived.Test.YtoejpodchlepiaaPInB
set_option maxRecDepth 8000
namespace Go.Proofs.Ytoejpodchlepiaa
open Go.ChangeShapes Go.WideShapes Go.ChangeAt Go.RowKit
set_option maxHeartbeats 1000000 in
theorem szRuleS_any (A : Option Addr) (c n B : Nat) (rs : List RuleM) (l : Int) (w : World) (h : RdRx w B A n rs) (hB : B ≤ w.heap.size) (hm : n ≤ 9223372036854775807) (h0 : 0 ≤ l) (h1 : l ≤ 1099511627776) :
    Calls Try.prog 84 #[.slice A n c, .int .i64 l] w fun e w' => ∃ r : Int, e = .returned (.int .i64 r) ∧ Below w.heap.size w w' ∧ (r = -1 ∨ (0 ≤ r ∧ (n : Int) ≤ l ∧ ∀ i, i < n → ((rat rs i).xs.length : Int) ≤ l)) := by
  have HR := Lib.hid (fun (w' : World) (hb : Below w.heap.size w w') => h.below (hb.mono hB))
  have e1 : wrap64 (l - n) = l - n := IntWalk.wrap64_in _ ⟨by omega, by omega⟩
  by_cases hn : (n : Int) ≤ l
  · have hq4 : ¬ l - (n : Int) < 0 := by omega
    have HQ := Lib.hid (show 0 ≤ l - (n : Int) ∧ l - (n : Int) ≤ l by omega)
    have HN := Lib.hid hn
    clear hn
    go_enter Try.func84, Try.ntmps84
    go_wp2
    go_loopw [1, 5] (fun lv i wr => ∃ (u : Nat) (q : Int), u ≤ n ∧ 0 ≤ q ∧ q ≤ l ∧ lv = .int .i64 q ∧ i = .int .i64 u ∧ Hid (∀ j, j < u → ((rat rs j).xs.length : Int) ≤ l) ∧ Below w.heap.size w wr) (fun _ i _ => n - (intOf i).toNat)
    case atStart => exact ⟨0, _, Nat.zero_le _, HQ.out.1, HQ.out.2, rfl, rfl, Lib.hid (fun j hj => absurd hj (by omega)), Below.refl _ _⟩
    case round =>
      obtain ⟨u, q, hu, hq0', hq1', rfl, rfl, hall, hb⟩ := hrel
      by_cases hlt : u < n
      · obtain ⟨b, off, rfl, hbB, hcc⟩ := (HR.out _ hb).2 (by omega)
        obtain ⟨A', c', r0, r1, r2, r3, r4⟩ := hcc u hlt
        obtain ⟨rx, hrx⟩ : ∃ x, x = (rat rs u).xs := ⟨_, rfl⟩
        rw [← hrx] at r1 r3 r4
        have HC := Lib.hid (szRule_any A' c' rx.length (rat rs u).k (rat rs u).v q wr r4 hq0' (by omega))
        have hin : (u : Int) < (n : Int) := by omega
        by_cases hfit : (rx.length : Int) ≤ q
        · obtain ⟨q2, hq2⟩ : ∃ z, q - (rx.length : Int) = z := ⟨_, rfl⟩
          rw [if_pos hfit, hq2] at HC
          have hq5 : ¬ q2 < 0 := by omega
          have Hall2 := Lib.hid (show ∀ j, j < u + 1 → ((rat rs j).xs.length : Int) ≤ l from fun j hj => by
            by_cases e : j = u
            · subst e; rw [← hrx]; omega
            · exact hall.out j (by omega))
          have HQ := Lib.hid (show 0 ≤ q2 ∧ q2 ≤ l by omega)
          clear hq2 hfit hcc hrx
          go_wp2_with (go_at_call 29; refine HC.out.mono ?_; rintro e w4 ⟨rfl, hb4⟩)
          go_roundw
          case rel => exact ⟨u + 1, q2, by omega, HQ.out.1, HQ.out.2, rfl, by go_num, Hall2, step hb hb4⟩
          case measure => simp [intOf]; omega
        · rw [if_neg hfit] at HC
          clear hcc hrx
          go_wp2_with (go_at_call 29; refine HC.out.mono ?_; rintro e w4 ⟨rfl, hb4⟩)
          go_ret
          exact ⟨-1, rfl, step hb hb4, .inl rfl⟩
      · obtain rfl : u = n := by omega
        go_wp2
        go_ret
        exact ⟨q, rfl, hb, .inr ⟨hq0', HN.out, hall.out⟩⟩
  · have hq4 : l - (n : Int) < 0 := by omega
    go_enter Try.func84, Try.ntmps84
    go_wp2
    go_ret
    exact ⟨-1, rfl, Below.refl _ _, .inl rfl⟩
set_option maxHeartbeats 1000000 in
theorem szPuzzle_any (s : Int) (Ag : Option Addr) (cg ng : Nat) (Ar : Option Addr) (cr nr B : Nat) (rs : List RuleM) (l : Int) (w : World) (hg : ng ≤ 9223372036854775807) (h : RdRx w B Ar nr rs) (hB : B ≤ w.heap.size) (hm : nr ≤ 9223372036854775807) (h0 : 0 ≤ l) (h1 : l ≤ 1099511627776) :
    Calls Try.prog 34 #[.agg #[.int .i64 s, .slice Ag ng cg, .slice Ar nr cr], .int .i64 l] w fun e w' => ∃ r : Int, e = .returned (.int .i64 r) ∧ Below w.heap.size w w' ∧ (r = -1 ∨ (0 ≤ r ∧ (ng : Int) ≤ l ∧ (nr : Int) ≤ l ∧ ∀ i, i < nr → ((rat rs i).xs.length : Int) ≤ l)) := by
  have hx := pbox_new w s Ag ng cg Ar nr cr 43
  have hb0 : Below w.heap.size w (w.alloc (.cells #[.int .i64 s, .slice Ag ng cg, .slice Ar nr cr] 43)) := (Below.refl _ _).alloc (Nat.le_refl _) _
  obtain ⟨a0, a1, a2⟩ := id hx
  have HC := Lib.hid (fun w => szIntS_any Ag cg ng l w hg h0 h1)
  by_cases hn : (ng : Int) ≤ l
  · obtain ⟨q, hq⟩ : ∃ z, l - (ng : Int) = z := ⟨_, rfl⟩
    rw [if_pos hn, hq] at HC
    have hq5 : ¬ q < 0 := by omega
    have HN := Lib.hid hn
    have HQ := Lib.hid (show 0 ≤ q ∧ q ≤ l by omega)
    have HS := Lib.hid (fun w' (hb : Below w.heap.size w w') => szRuleS_any Ar cr nr B rs q w' (h.below (hb.mono hB)) (Nat.le_trans hB hb.size) hm (by omega) (by omega))
    clear hq hn
    go_enter Try.func34, Try.ntmps34
    go_wp2_with (first | (go_at_call 83; go_loud (refine (HC.out _).mono ?_; rintro e w1 ⟨rfl, rfl⟩)) | (go_at_call 84; go_loud (refine (HS.out _ hb0).mono ?_; rintro e w2 ⟨r, rfl, hb2, hr⟩)))
    · go_ret
      rename_i hneg
      exact ⟨-1, rfl, step hb0 hb2, .inl rfl⟩
    · go_ret
      rename_i hneg
      rcases hr with rfl | ⟨r0, r1, r2⟩
      · omega
      · exact ⟨r, rfl, step hb0 hb2, .inr ⟨r0, HN.out, Int.le_trans r1 HQ.out.2, fun i hi => Int.le_trans (r2 i hi) HQ.out.2⟩⟩
  · rw [if_neg hn] at HC
    go_enter Try.func34, Try.ntmps34
    go_wp2_with (go_at_call 83; refine (HC.out _).mono ?_; rintro e w1 ⟨rfl, rfl⟩)
    go_ret
    exact ⟨-1, rfl, hb0, .inl rfl⟩
end Go.Proofs.Ytoejpodchlepiaa
