import Derived.Test.YtmnacejmkjhpnaaDoorC3G
import Derived.Lib.BitFns
namespace Go.Proofs.YtmnacejmkjhpnaaDoor
open Go.ChangeShapes Go.WideShapes Go.ChangeAt Go.RowKit

/-- the table of trailing zeros lies in its variable: what is read of it here. -/
def Tz (w : World) : Prop := w.cell? ⟨1, 1, none⟩ = some (.int .u8 1) ∧ w.cell? ⟨1, 3, none⟩ = some (.int .u8 2) ∧ w.cell? ⟨1, 7, none⟩ = some (.int .u8 3) ∧ w.cell? ⟨1, 15, none⟩ = some (.int .u8 4)
theorem Tz.below {w w' : World} {B : Nat} (h : Tz w) (hB : 1 < B) (hb : Below B w w') : Tz w' :=
  ⟨(hb.cell (p := ⟨1, 1, none⟩) hB).trans h.1, (hb.cell (p := ⟨1, 3, none⟩) hB).trans h.2.1, (hb.cell (p := ⟨1, 7, none⟩) hB).trans h.2.2.1, (hb.cell (p := ⟨1, 15, none⟩) hB).trans h.2.2.2⟩
theorem Tz.lt {w : World} (h : Tz w) : 1 < w.heap.size := cell_lt h.1

theorem ones64_any (M : Nat) (h : M < 32) (he : M % 2 = 0) (w : World) : Calls Tryd.prog 21 #[.int .u64 M] w fun e w' => e = .returned (.int .i64 (Lib.onesCount M : Nat)) ∧ w = w' := by
  have : M = 0 ∨ M = 2 ∨ M = 4 ∨ M = 6 ∨ M = 8 ∨ M = 10 ∨ M = 12 ∨ M = 14 ∨ M = 16 ∨ M = 18 ∨ M = 20 ∨ M = 22 ∨ M = 24 ∨ M = 26 ∨ M = 28 ∨ M = 30 := by omega
  rcases this with rfl | rfl | rfl | rfl | rfl | rfl | rfl | rfl | rfl | rfl | rfl | rfl | rfl | rfl | rfl | rfl
  all_goals
    go_enter Tryd.func21, Tryd.ntmps21
    go_wp2
    go_ret
    exact ⟨by kernel_rfl, rfl⟩
theorem ones_any (M : Nat) (h : M < 32) (he : M % 2 = 0) (w : World) : Calls Tryd.prog 17 #[.int .u64 M] w fun e w' => e = .returned (.int .i64 (Lib.onesCount M : Nat)) ∧ w = w' := by
  go_enter Tryd.func17, Tryd.ntmps17
  go_wp2_with (go_at_call 21; refine (ones64_any M h he _).mono ?_; rintro e w' ⟨rfl, rfl⟩)
  go_ret
  exact ⟨rfl, rfl⟩
theorem tz64_core (x k idx : Nat) (w : World) (hx0 : ((x : Int) == 0) = false)
    (key : IntKind.u64.wrap (bits BinOp.and IntKind.u64 (x : Int) (IntKind.u64.wrap (-(x : Int))) * 285870213051353865) / 288230376151711744 = (idx : Int))
    (hi : idx < 64) (hk : k < 64) (hcell : w.cell? ⟨1, idx, none⟩ = some (.int .u8 k)) :
    Calls Tryd.prog 23 #[.int .u64 x] w fun e w' => e = .returned (.int .i64 k) ∧ w = w' := by
  go_enter Tryd.func23, Tryd.ntmps23
  go_wp2_with (simp only [key])
  go_ret
  exact ⟨rfl, rfl⟩
theorem tz_core (x k idx : Nat) (w : World) (hx0 : ((x : Int) == 0) = false)
    (key : IntKind.u64.wrap (bits BinOp.and IntKind.u64 (x : Int) (IntKind.u64.wrap (-(x : Int))) * 285870213051353865) / 288230376151711744 = (idx : Int))
    (hi : idx < 64) (hk : k < 64) (hcell : w.cell? ⟨1, idx, none⟩ = some (.int .u8 k)) :
    Calls Tryd.prog 18 #[.int .u64 x] w fun e w' => e = .returned (.int .i64 k) ∧ w = w' := by
  have Key := Lib.hid key
  clear key
  go_enter Tryd.func18, Tryd.ntmps18
  go_wp2_with (go_at_call 23; refine (tz64_core x k idx _ hx0 Key.out hi hk hcell).mono ?_; rintro e w' ⟨rfl, rfl⟩)
  go_ret
  exact ⟨rfl, rfl⟩
theorem tz_any (M v : Nat) (w : World) (hT : Tz w) (h : (M = 2 ∧ v = 1) ∨ (M = 4 ∧ v = 2) ∨ (M = 8 ∧ v = 3) ∨ (M = 16 ∧ v = 4)) : Calls Tryd.prog 18 #[.int .u64 M] w fun e w' => e = .returned (.int .i64 v) ∧ w = w' := by
  obtain ⟨t1, t2, t3, t4⟩ := hT
  rcases h with ⟨rfl, rfl⟩ | ⟨rfl, rfl⟩ | ⟨rfl, rfl⟩ | ⟨rfl, rfl⟩
  · exact tz_core 2 1 1 w (by decide) (by decide +kernel) (by decide) (by decide) t1
  · exact tz_core 4 2 3 w (by decide) (by decide +kernel) (by decide) (by decide) t2
  · exact tz_core 8 3 7 w (by decide) (by decide +kernel) (by decide) (by decide) t3
  · exact tz_core 16 4 15 w (by decide) (by decide +kernel) (by decide) (by decide) t4
def oneCase (M : Nat) : Bool := if Lib.onesCount M = 1 then ((M == 2 && oneOf (bitsTo M 4) == 1) || (M == 4 && oneOf (bitsTo M 4) == 2) || (M == 8 && oneOf (bitsTo M 4) == 3) || (M == 16 && oneOf (bitsTo M 4) == 4)) else oneOf (bitsTo M 4) == 0
theorem one_case : ∀ M, M < 32 → M % 2 = 0 → oneCase M = true := by decide +kernel
theorem ones_lt : ∀ M, M < 32 → Lib.onesCount M < 32 := by decide +kernel
theorem onlyValue_any (M : Nat) (h : M < 32) (he : M % 2 = 0) (w : World) (hT : Tz w) : Calls Tryd.prog 13 #[.int .i64 M] w fun e w' => e = .returned (.int .i64 (oneOf (bitsTo M 4))) ∧ w = w' := by
  have hc := one_case M h he
  have hl := ones_lt M h
  unfold oneCase at hc
  obtain ⟨p, hp⟩ : ∃ p, p = Lib.onesCount M := ⟨_, rfl⟩
  have Ho := Lib.hid (fun w => ones_any M h he w)
  rw [← hp] at hc hl Ho
  by_cases h1 : p = 1
  · rw [if_pos h1] at hc
    simp only [Bool.or_eq_true, Bool.and_eq_true, beq_iff_eq] at hc
    subst h1
    have hv : ∃ v, oneOf (bitsTo M 4) = (v : Nat) ∧ ((M = 2 ∧ v = 1) ∨ (M = 4 ∧ v = 2) ∨ (M = 8 ∧ v = 3) ∨ (M = 16 ∧ v = 4)) := by
      rcases hc with ((⟨h1, h2⟩ | ⟨h1, h2⟩) | ⟨h1, h2⟩) | ⟨h1, h2⟩
      · exact ⟨1, h2, .inl ⟨h1, rfl⟩⟩
      · exact ⟨2, h2, .inr (.inl ⟨h1, rfl⟩)⟩
      · exact ⟨3, h2, .inr (.inr (.inl ⟨h1, rfl⟩))⟩
      · exact ⟨4, h2, .inr (.inr (.inr ⟨h1, rfl⟩))⟩
    obtain ⟨v, hv1, hv2⟩ := hv
    rw [hv1]
    have Ht := Lib.hid (fun w hT => tz_any M v w hT hv2)
    clear hv1 hv2 hc hp
    go_enter Tryd.func13, Tryd.ntmps13
    go_wp2_with (first | (go_at_call 17; refine (Ho.out _).mono ?_; rintro e w' ⟨rfl, rfl⟩) | (go_at_call 18; refine (Ht.out _ hT).mono ?_; rintro e w' ⟨rfl, rfl⟩))
    go_ret
    exact ⟨rfl, rfl⟩
  · rw [if_neg h1] at hc
    have hv := beq_iff_eq.1 hc
    rw [hv]
    have hne : ((p : Int) != 1) = true := by simp; omega
    clear hv hc hp h1
    go_enter Tryd.func13, Tryd.ntmps13
    go_wp2_with (go_at_call 17; refine (Ho.out _).mono ?_; rintro e w' ⟨rfl, rfl⟩)
    go_ret
    exact ⟨rfl, rfl⟩
end Go.Proofs.YtmnacejmkjhpnaaDoor
