import Derived.Test.YtmnacejmkjhpnaaC1L
import Derived.Test.YtmnacejmkjhpnaaC1I
import Derived.Deep.RegionHeld3
namespace Go.Proofs.Ytmnacejmkjhpnaa
open Go.ChangeShapes Go.WideShapes Go.ChangeAt Go.RowKit

def swapV (a b v : Int) : Int := if v = a then b else if v = b then a else v
def swapG (xs : List Int) (a b : Int) (k : Nat) : Int := swapV a b (nth xs k)
def swapOk (xs : List Int) (size a b : Int) : Bool := gv xs size && inr a 1 size && inr b 1 size
def swapL (xs : List Int) (size a b : Int) : List Int := if swapOk xs size a b = true then mapTo (swapG xs a b) xs.length else []

set_option maxHeartbeats 400000 in
theorem specGridSwap (A : Option Addr) (c n B : Nat) (xs : List Int) (size a b : Int) (w : World) (h : Rd w B A n xs) (hB : B ≤ w.heap.size) (hm : n ≤ 1099511627776) :
    Calls Try.prog 44 #[.slice A n c, .int .i64 size, .int .i64 a, .int .i64 b] w (RetSl w (swapL xs size a b)) := by
  have hlen := Lib.hid h.1
  have h1 := h.alloc hB (.cells #[] 3)
  cases hok : swapOk xs size a b
  · have hL : swapL xs size a b = [] := by simp [swapL, hok]
    have HL := Lib.hid hL; clear hL
    unfold swapOk at hok
    have Hok := Lib.hid hok; clear hok
    cases hg : gv xs size <;> cases ha : inr a 1 size <;> cases hb : inr b 1 size
    any_goals (exfalso; have := Hok.out; simp [hg, ha, hb] at this; done)
    all_goals
      by_cases h0 : 0 < n
      all_goals
        go_enter Try.func44, Try.ntmps44
        go_wp2
        go_loopw [9, 10] (fun v i wr => i = .int .i64 0 ∧ v = .slice (some ⟨w.heap.size, 0, none⟩) 0 0 ∧ wr = w.alloc (.cells #[] 3)) (fun _ _ _ => 0)
        case atStart => exact ⟨rfl, rfl, rfl⟩
        case round =>
          obtain ⟨rfl, rfl, rfl⟩ := hrel
          go_wp2_with (first | (go_at_call 23; refine (specGridValid _ _ _ _ _ _ _ h1 hm).mono ?_; rintro e w' ⟨rfl, rfl⟩) | (go_at_call 62; refine (l1In_any _ _ _ _).mono ?_; rintro e w' ⟨rfl, rfl⟩))
          go_ret
          rw [HL.out]
          exact ⟨_, _, rfl, Ow.made0 _ _ (Nat.le_refl _), (Below.refl _ _).alloc (Nat.le_refl _) _⟩
  · have HL := Lib.hid (show swapL xs size a b = mapTo (swapG xs a b) n by simp [swapL, hok, hlen.out])
    have hok' := hok
    simp only [swapOk, Bool.and_eq_true] at hok'
    obtain ⟨⟨hg, ha⟩, hb⟩ := hok'
    clear hok
    go_enter Try.func44, Try.ntmps44
    go_wp2
    go_loopw [9, 10] (fun v i wr => ∃ k : Nat, k ≤ n ∧ i = .int .i64 k ∧ OwV wr w.heap.size v (mapTo (swapG xs a b) k) ∧ Below w.heap.size w wr) (fun _ i _ => n - (intOf i).toNat)
    case atStart => exact ⟨0, by omega, rfl, ⟨_, _, rfl, Ow.made0 _ _ (Nat.le_refl _)⟩, (Below.refl _ _).alloc (Nat.le_refl _) _⟩
    case round =>
      obtain ⟨k, hk, rfl, ⟨A', c', rfl, ho⟩, hbel⟩ := hrel
      have hr := h.below (hbel.mono hB)
      have hkb : (mapTo (swapG xs a b) k).length ≤ 1099511627776 := by rw [mapTo_length]; omega
      by_cases hlt : k < n
      · obtain ⟨bb, off, rfl, hbB, hck⟩ := hr.at_ hlt
        have fin : ∀ (A'' : Option Addr) (c'' : Nat) (w1 : World) (v : Int), v = swapG xs a b k → Ow w1 w.heap.size A'' ((mapTo (swapG xs a b) k).length + 1) c'' (mapTo (swapG xs a b) k ++ [v]) →
            OwV w1 w.heap.size (.slice A'' ((mapTo (swapG xs a b) k).length + 1) c'') (mapTo (swapG xs a b) (k + 1)) := by
          intro A'' c'' w1 v hv ho1
          subst hv
          refine ⟨A'', c'', by rw [mapTo_succ, List.length_append]; rfl, ?_⟩
          rw [mapTo_succ, List.length_append]
          exact ho1
        have Fin := Lib.hid fin; clear fin
        by_cases e1 : nth xs k = a
        · have b1 : (nth xs k == a) = true := by simp [e1]
          have hv := Lib.hid (show b = swapG xs a b k by simp [swapG, swapV, e1])
          clear e1
          go_wp2_with (first | (go_at_call 23; refine (specGridValid _ _ _ _ _ _ _ hr hm).mono ?_; rintro e w' ⟨rfl, rfl⟩) | (go_at_call 62; refine (l1In_any _ _ _ _).mono ?_; rintro e w' ⟨rfl, rfl⟩) | (at_builtin; refine push_int rfl (.tmp 47) (.tmp 49) rfl w.heap.size A' _ c' (mapTo (swapG xs a b) k) _ rfl rfl ho hkb hbel.size ?_; intro A'' c'' w1 ho1 hg1))
          have ho2 := Fin.out _ _ _ _ hv.out ho1
          have hb2 := push_below hbel ho (Nat.le_refl _) hbel.size hg1
          clear ho1 hg1
          go_roundw
          case rel => exact ⟨k + 1, by omega, by go_num, ho2, hb2⟩
          case measure => simp [intOf]; omega
        · have b1 : (nth xs k == a) = false := by simp [e1]
          by_cases e2 : nth xs k = b
          · have b2 : (nth xs k == b) = true := by simp [e2]
            have hv := Lib.hid (show a = swapG xs a b k by simp only [swapG, swapV]; rw [if_neg e1, if_pos e2])
            clear e1 e2
            go_wp2_with (first | (go_at_call 23; refine (specGridValid _ _ _ _ _ _ _ hr hm).mono ?_; rintro e w' ⟨rfl, rfl⟩) | (go_at_call 62; refine (l1In_any _ _ _ _).mono ?_; rintro e w' ⟨rfl, rfl⟩) | (at_builtin; refine push_int rfl (.tmp 47) (.tmp 49) rfl w.heap.size A' _ c' (mapTo (swapG xs a b) k) _ rfl rfl ho hkb hbel.size ?_; intro A'' c'' w1 ho1 hg1))
            have ho2 := Fin.out _ _ _ _ hv.out ho1
            have hb2 := push_below hbel ho (Nat.le_refl _) hbel.size hg1
            clear ho1 hg1
            go_roundw
            case rel => exact ⟨k + 1, by omega, by go_num, ho2, hb2⟩
            case measure => simp [intOf]; omega
          · have b2 : (nth xs k == b) = false := by simp [e2]
            have hv := Lib.hid (show nth xs k = swapG xs a b k by simp only [swapG, swapV]; rw [if_neg e1, if_neg e2])
            clear e1 e2
            go_wp2_with (first | (go_at_call 23; refine (specGridValid _ _ _ _ _ _ _ hr hm).mono ?_; rintro e w' ⟨rfl, rfl⟩) | (go_at_call 62; refine (l1In_any _ _ _ _).mono ?_; rintro e w' ⟨rfl, rfl⟩) | (at_builtin; refine push_int rfl (.tmp 47) (.tmp 49) rfl w.heap.size A' _ c' (mapTo (swapG xs a b) k) _ rfl rfl ho hkb hbel.size ?_; intro A'' c'' w1 ho1 hg1))
            have ho2 := Fin.out _ _ _ _ hv.out ho1
            have hb2 := push_below hbel ho (Nat.le_refl _) hbel.size hg1
            clear ho1 hg1
            go_roundw
            case rel => exact ⟨k + 1, by omega, by go_num, ho2, hb2⟩
            case measure => simp [intOf]; omega
      · obtain rfl : k = n := by omega
        go_wp2_with (first | (go_at_call 23; refine (specGridValid _ _ _ _ _ _ _ hr hm).mono ?_; rintro e w' ⟨rfl, rfl⟩) | (go_at_call 62; refine (l1In_any _ _ _ _).mono ?_; rintro e w' ⟨rfl, rfl⟩))
        go_ret
        rw [HL.out]
        exact ⟨_, _, rfl, ho, hbel⟩
end Go.Proofs.Ytmnacejmkjhpnaa
