import Derived.Test.YtmnacejmkjhpnaaMk
import Derived.Test.YtmnacejmkjhpnaaC3
import Derived.Test.YtmnacejmkjhpnaaC2
namespace Go.Proofs.Ytmnacejmkjhpnaa
open Go.ChangeShapes Go.WideShapes Go.ChangeAt Go.RowKit

theorem allValues_any (s : Nat) (hs : s ∈ [2, 3, 4]) (w : World) :
    Calls Try.prog 72 #[.int .i64 s] w fun e w' => e = .returned (.int .i64 ((2 ^ (s + 1) - 2 : Nat) : Int)) ∧ w = w' := by
  simp only [List.mem_cons, List.not_mem_nil, or_false] at hs
  rcases hs with rfl | rfl | rfl
  all_goals
    go_enter Try.func72, Try.ntmps72
    go_wp2
    go_ret
    exact ⟨rfl, rfl⟩
theorem andNot_small : ∀ a : Nat, a < 32 → ∀ b : Nat, b < 32 → bits .andNot .i64 (a : Int) (b : Int) = ((a &&& (31 - b) : Nat) : Int) := by decide +kernel
theorem andNot_test : ∀ a : Nat, a < 32 → ∀ b : Nat, b < 32 → ∀ v : Nat, v < 5 → (a &&& (31 - b)).testBit v = (a.testBit v && !b.testBit v) := by decide +kernel
theorem all_test : ∀ s ∈ [2, 3, 4], ∀ v : Nat, v < 5 → (2 ^ (s + 1) - 2).testBit v = (Nat.blt 0 v && Nat.ble v s) := by decide +kernel

theorem valuesIn_any (M : Nat) (hM : M < 32) (w : World) : Calls Try.prog 71 #[.int .i64 M] w (RetSl w (bitsTo M 4)) := by
  go_enter Try.func71, Try.ntmps71
  go_wp2
  go_loopw [3, 4] (fun v i wr => ∃ u : Nat, u ≤ 4 ∧ i = .int .i64 ((u : Int) + 1) ∧ OwV wr w.heap.size v (bitsTo M u) ∧ Below w.heap.size w wr) (fun _ i _ => (5 - intOf i).toNat)
  case atStart => exact ⟨0, by omega, rfl, ⟨_, _, rfl, Ow.nil_ _ _⟩, Below.refl _ _⟩
  case round =>
    obtain ⟨u, hu, rfl, ⟨A', c', rfl, ho⟩, hb⟩ := hrel
    have hmb := bitsTo_length M u
    have hkb : (bitsTo M u).length ≤ 1099511627776 := by omega
    by_cases hlt : u < 4
    · have hstep : bitsTo M (u + 1) = bitsTo M u ++ (if M.testBit (u + 1) = true then [(u : Int) + 1] else []) := rfl
      have hsh := and_pow M (u + 1) hM (by omega)
      have htn : ((u : Int) + 1).toNat = u + 1 := by omega
      cases hh : M.testBit (u + 1)
      · rw [hh] at hstep hsh
        have Hst := Lib.hid (show bitsTo M (u + 1) = bitsTo M u by rw [hstep]; simp)
        clear hh hstep
        go_wp2
        go_roundw
        case rel => exact ⟨u + 1, by omega, by go_num, ⟨A', c', by rw [Hst.out], by rw [Hst.out]; exact ho⟩, hb⟩
        case measure => simp [intOf]; omega
      · rw [hh] at hstep hsh
        have Hst := Lib.hid (show bitsTo M (u + 1) = bitsTo M u ++ [(u : Int) + 1] by rw [hstep]; simp)
        clear hh hstep
        go_wp2_with (at_builtin; refine push_int rfl (.tmp 14) (.tmp 16) rfl w.heap.size A' _ c' (bitsTo M u) _ rfl rfl ho hkb hb.size ?_; intro A'' c'' w1 ho1 hg1)
        have ho2 : OwV w1 w.heap.size (.slice A'' ((bitsTo M u).length + 1) c'') (bitsTo M (u + 1)) := by
          refine ⟨A'', c'', by rw [Hst.out, List.length_append]; rfl, ?_⟩
          rw [Hst.out, List.length_append]
          exact ho1
        have hb2 := push_below hb ho (Nat.le_refl _) hb.size hg1
        clear ho1 hg1
        go_roundw
        case rel => exact ⟨u + 1, by omega, by go_num, ho2, hb2⟩
        case measure => simp [intOf]; omega
    · obtain rfl : u = 4 := by omega
      go_wp2
      go_ret
      exact retSl_mk ho hb
theorem bitsTo_miss {K s : Nat} {has : Int → Bool} (hs : s ≤ 4) (h : ∀ v, v < 4 → K.testBit (v + 1) = (decide (v < s) && !has ((v : Int) + 1))) : bitsTo K 4 = missTo has s := by
  have h1 : ∀ m, m ≤ s → bitsTo K m = missTo has m := by
    intro m
    induction m with
    | zero => intro _; rfl
    | succ m ih =>
      intro hm
      simp only [bitsTo, missTo]
      rw [ih (by omega), h m (by omega)]
      have : decide (m < s) = true := by simp; omega
      rw [this]
      cases has ((m : Int) + 1) <;> simp
  have h2 : ∀ d, s + d ≤ 4 → bitsTo K (s + d) = missTo has s := by
    intro d
    induction d with
    | zero => intro _; exact h1 s (Nat.le_refl _)
    | succ d ih =>
      intro hd
      show bitsTo K (s + d + 1) = _
      simp only [bitsTo]
      rw [ih (by omega), h (s + d) (by omega)]
      have : decide (s + d < s) = false := by simp
      rw [this]; simp
  have := h2 (4 - s) (by omega)
  rwa [show s + (4 - s) = 4 by omega] at this
end Go.Proofs.Ytmnacejmkjhpnaa
