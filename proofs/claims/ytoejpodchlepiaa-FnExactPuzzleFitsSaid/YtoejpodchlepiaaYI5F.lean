import Derived.Test.YtoejpodchlepiaaYI5V
import Derived.Test.YtoejpodchlepiaaYI4P
import Derived.Test.YtoejpodchlepiaaYIF
import Derived.Deep.RegionHeld3
set_option maxRecDepth 8000
namespace Go.Proofs.Ytoejpodchlepiaa
open Go.ChangeShapes Go.WideShapes Go.ChangeAt Go.RowKit
def agreeB (gi g : List Int) (n : Nat) : Bool := (List.range n).all fun i => giveOk gi g i
theorem agree_no {gi g : List Int} {n i : Nat} (hi : i < n) (h : giveOk gi g i = false) : agreeB gi g n = false := by
  cases e : agreeB gi g n
  · rfl
  · have := List.all_eq_true.1 e i (List.mem_range.2 (by omega))
    rw [h] at this; cases this
theorem agree_yes {gi g : List Int} {n : Nat} (h : ∀ i, i < n → giveOk gi g i = true) : agreeB gi g n = true := List.all_eq_true.2 (fun i hi => h i (by rw [List.mem_range] at hi; omega))
set_option maxHeartbeats 1000000 in
theorem agrees_any (s : Int) (Ag : Option Addr) (n cg Bg : Nat) (gi : List Int) (Ar : Option Addr) (nr cr : Nat) (A : Option Addr) (c B : Nat) (g : List Int) (w : World) (hgi : Rd w Bg Ag n gi) (hBg : Bg ≤ w.heap.size) (hg : Rd w B A n g) (hB : B ≤ w.heap.size) (hm : n ≤ 1099511627776)
    (hgi0 : ∀ i, i < n → 0 ≤ nth gi i) (hg0 : ∀ i, i < n → 0 ≤ nth g i) :
    Calls Try.prog 119 #[.agg #[.int .i64 s, .slice Ag n cg, .slice Ar nr cr], .slice A n c] w fun e w' => e = .returned (.bool (agreeB gi g n)) ∧ Below w.heap.size w w' := by
  have hx0 := pbox_new w s Ag n cg Ar nr cr 48
  have hb0 : Below w.heap.size w (w.alloc (.cells #[.int .i64 s, .slice Ag n cg, .slice Ar nr cr] 48)) := (Below.refl _ _).alloc (Nat.le_refl _) _
  obtain ⟨z0, z1, z2⟩ := id hx0
  have h1 := hgi.below (hb0.mono hBg)
  have h2 := hg.below (hb0.mono hB)
  have HGI := Lib.hid hgi0
  have HG := Lib.hid hg0
  clear hgi hg hgi0 hg0
  go_enter Try.func119, Try.ntmps119
  go_wp2
  go_loop [10] (fun i => ∃ u : Nat, u ≤ n ∧ i = .int .i64 u ∧ Hid (∀ j, j < u → giveOk gi g j = true)) (fun i => n - (intOf i).toNat)
  case atStart => exact ⟨0, Nat.zero_le _, rfl, Lib.hid (fun j hj => absurd hj (by omega))⟩
  case round =>
    obtain ⟨u, hu, rfl, hall⟩ := hrel
    by_cases hlt : u < n
    · obtain ⟨b, off, rfl, hbB, hc1⟩ := h1.at_ hlt
      obtain ⟨b2, off2, rfl, hbB2, hc2⟩ := h2.at_ hlt
      have hin : (u : Int) < (n : Int) := by omega
      obtain ⟨x, hx⟩ := Int.eq_ofNat_of_zero_le (HGI.out u hlt)
      obtain ⟨y, hy⟩ := Int.eq_ofNat_of_zero_le (HG.out u hlt)
      have hok : giveOk gi g u = !(decide (0 < x) && decide (0 < y) && (y != x)) := by
        unfold giveOk
        rw [hx, hy]
        simp only [Int.natCast_pos]
        congr 2
        rw [Bool.eq_iff_iff, bne_iff_ne, bne_iff_ne]
        omega
      rw [hx] at hc1
      rw [hy] at hc2
      clear hx hy
      have hnext : giveOk gi g u = true → Hid (∀ j, j < u + 1 → giveOk gi g j = true) := fun h => Lib.hid (fun j hj => by
        by_cases e : j = u
        · subst e; exact h
        · exact hall.out j (by omega))
      by_cases hx0 : x = 0
      · have HN := hnext (by rw [hok, hx0]; simp)
        have hxz : ((x : Int) != 0) = false := by simp [hx0]
        clear hok hnext hx0
        go_wp2
        go_round
        case rel => exact ⟨u + 1, hlt, by go_num, HN⟩
        case measure => simp [intOf]; omega
      · have hxz : ((x : Int) != 0) = true := by simp; omega
        by_cases hy0 : y = 0
        · have HN := hnext (by rw [hok, hy0]; simp)
          have hyz : ((y : Int) != 0) = false := by simp [hy0]
          clear hok hnext hy0
          go_wp2
          go_round
          case rel => exact ⟨u + 1, hlt, by go_num, HN⟩
          case measure => simp [intOf]; omega
        · have hyz : ((y : Int) != 0) = true := by simp; omega
          by_cases he : y = x
          · have HN := hnext (by rw [hok, he]; simp)
            have hyx : ((y : Int) != (x : Int)) = false := by simp [he]
            clear hok hnext
            go_wp2
            go_round
            case rel => exact ⟨u + 1, hlt, by go_num, HN⟩
            case measure => simp [intOf]; omega
          · have HL := Lib.hid (agree_no hlt (show giveOk gi g u = false by
              rw [hok, decide_eq_true (by omega), decide_eq_true (by omega)]
              simp [he]))
            have hyx : ((y : Int) != (x : Int)) = true := by simp; omega
            clear hok hnext
            go_wp2
            go_ret
            exact ⟨by rw [HL.out]; rfl, hb0⟩
    · obtain rfl : u = n := by omega
      have HL := Lib.hid (agree_yes hall.out)
      go_wp2
      go_ret
      exact ⟨by rw [HL.out]; rfl, hb0⟩
end Go.Proofs.Ytoejpodchlepiaa
