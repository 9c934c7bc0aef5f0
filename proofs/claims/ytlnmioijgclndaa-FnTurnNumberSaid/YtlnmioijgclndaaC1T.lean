import Derived.Test.YtlnmioijgclndaaC1L
import Derived.Deep.RegionHeld3
namespace Go.Proofs.Ytlnmioijgclndaa
open Go.ChangeShapes Go.WideShapes Go.ChangeAt Go.RowKit

def turnIx (size : Int) (k : Nat) : Nat := ((size - 1 - (k : Int) % size) * size + (k : Int) / size).toNat
def turnG (xs : List Int) (size : Int) (k : Nat) : Int := nth xs (turnIx size k)
def turnL (xs : List Int) (size : Int) : List Int := if gv xs size = true then mapTo (turnG xs size) xs.length else []

theorem turn_facts {size : Int} {n k : Nat} (h2 : 2 ≤ size) (h4 : size ≤ 4) (hn : (n : Int) = size * size) (hk : k < n) :
    (0 ≤ (k : Int) % size ∧ (k : Int) % size < size) ∧ (0 ≤ (k : Int) / size ∧ (k : Int) / size < size) ∧ turnIx size k < n ∧ ((turnIx size k : Nat) : Int) = (size - 1 - (k : Int) % size) * size + (k : Int) / size := by
  unfold turnIx
  have : size = 2 ∨ size = 3 ∨ size = 4 := by omega
  rcases this with rfl | rfl | rfl <;> omega

theorem specGridTurn (A : Option Addr) (c n B : Nat) (xs : List Int) (size : Int) (w : World) (h : Rd w B A n xs) (hB : B ≤ w.heap.size) (hm : n ≤ 1099511627776) :
    Calls Try.prog 56 #[.slice A n c, .int .i64 size] w (RetSl w (turnL xs size)) := by
  have hlen := Lib.hid h.1
  cases hg : gv xs size
  · have hL : turnL xs size = [] := by simp [turnL, hg]
    have HL := Lib.hid hL; clear hL
    have h1 := h.alloc hB (.cells #[] 3)
    by_cases h0 : 0 < n
    all_goals
      go_enter Try.func56, Try.ntmps56
      go_wp2
      go_loopw [5, 6] (fun v i wr => i = .int .i64 0 ∧ v = .slice (some ⟨w.heap.size, 0, none⟩) 0 0 ∧ wr = w.alloc (.cells #[] 3)) (fun _ _ _ => 0)
      case atStart => exact ⟨rfl, rfl, rfl⟩
      case round =>
        obtain ⟨rfl, rfl, rfl⟩ := hrel
        go_wp2_with (go_at_call 54; refine (specGridValid _ _ _ _ _ _ _ h1 hm).mono ?_; rintro e w' ⟨rfl, rfl⟩)
        go_ret
        rw [HL.out]
        exact ⟨_, _, rfl, Ow.made0 _ _ (Nat.le_refl _), (Below.refl _ _).alloc (Nat.le_refl _) _⟩
  · obtain ⟨h2, h4⟩ := gv_size hg
    have hL : turnL xs size = mapTo (turnG xs size) n := by simp [turnL, hg, hlen.out]
    have HL := Lib.hid hL; clear hL
    have hn := gv_len hg
    rw [hlen.out] at hn
    have Hn := Lib.hid hn; clear hn
    go_enter Try.func56, Try.ntmps56
    go_wp2
    go_loopw [5, 6] (fun v i wr => ∃ k : Nat, k ≤ n ∧ i = .int .i64 k ∧ OwV wr w.heap.size v (mapTo (turnG xs size) k) ∧ Below w.heap.size w wr) (fun _ i _ => n - (intOf i).toNat)
    case atStart => exact ⟨0, by omega, rfl, ⟨_, _, rfl, Ow.made0 _ _ (Nat.le_refl _)⟩, (Below.refl _ _).alloc (Nat.le_refl _) _⟩
    case round =>
      obtain ⟨k, hk, rfl, ⟨A', c', rfl, ho⟩, hb⟩ := hrel
      have hr := h.below (hb.mono hB)
      have hkb : (mapTo (turnG xs size) k).length ≤ 1099511627776 := by rw [mapTo_length]; omega
      by_cases hlt : k < n
      · obtain ⟨⟨hr0, hr1⟩, ⟨hd0, hd1⟩, hix, hixe⟩ := turn_facts h2 h4 Hn.out hlt
        obtain ⟨b, off, rfl, hbB, hck⟩ := hr.at_ hix
        obtain ⟨b', off', he, hbB', hckw⟩ := h.at_ hix
        cases he
        have Hckw := Lib.hid hckw; clear hckw
        have hbw : b < w.heap.size := by omega
        have Hixe := Lib.hid hixe; clear hixe
        have hmul := small_mul (by omega : 0 ≤ size - 1 - (k : Int) % size) (by omega : size - 1 - (k : Int) % size ≤ 4) (by omega : 0 ≤ size) h4
        have hw := small_wrap (by omega : 0 ≤ size - 1 - (k : Int) % size) (by omega : size - 1 - (k : Int) % size ≤ 4) (by omega : 0 ≤ size) h4
        go_wp2_with (first
          | (go_at_call 54; refine (specGridValid _ _ _ _ _ _ _ hr hm).mono ?_; rintro e w' ⟨rfl, rfl⟩))
        have hz : (size == 0) = false := by simp; omega
        have hz' : size ≠ 0 := by omega
        have b0 : (0 : Int) ≤ (size - 1 - (k : Int) % size) * size + (k : Int) / size := by omega
        have b1 : (size - 1 - (k : Int) % size) * size + (k : Int) / size < (n : Int) := by rw [← Hixe.out]; omega
        have e1 : IntKind.i64.wrap (size - 1) = size - 1 := IntWalk.i64_in _ (by omega)
        have e2 : IntKind.i64.wrap (size - 1 - (k : Int) % size) = size - 1 - (k : Int) % size := IntWalk.i64_in _ (by omega)
        have e3 : IntKind.i64.wrap ((size - 1 - (k : Int) % size) * size) = (size - 1 - (k : Int) % size) * size := IntWalk.i64_in _ (by omega)
        have e4 : IntKind.i64.wrap ((size - 1 - (k : Int) % size) * size + (k : Int) / size) = (size - 1 - (k : Int) % size) * size + (k : Int) / size := IntWalk.i64_in _ (by omega)
        have e5 : (k : Int).tmod size = (k : Int) % size := Int.tmod_eq_emod_of_nonneg (by omega)
        have e6 : (k : Int).tdiv size = (k : Int) / size := Int.tdiv_eq_ediv_of_nonneg (by omega)
        have e7 : IntKind.i64.wrap ((k : Int) / size) = (k : Int) / size := IntWalk.i64_in _ (by omega)
        have e8 : ((size - 1 - (k : Int) % size) * size + (k : Int) / size).toNat = turnIx size k := rfl
        go_region_held3 (fun w' => w'.cell? ⟨b, off + turnIx size k, none⟩ = some (.int .i64 (nth xs (turnIx size k))))
          (first | go_keep | exact ((push_below hb ho (Nat.le_refl _) hb.size hg1).cell (p := ⟨b, off + turnIx size k, none⟩) hbw).trans Hckw.out)
          ((refine step_push_int (by rfl) _ _ (by rfl) w.heap.size A' _ c' (mapTo (turnG xs size) k) _ (by rfl) (by rfl) ho hkb hb.size ?_; intro A'' c'' w1 ho1 hg1))
        have ho2 : OwV w1 w.heap.size (.slice A'' ((mapTo (turnG xs size) k).length + 1) c'') (mapTo (turnG xs size) (k + 1)) := by
          refine ⟨A'', c'', by rw [mapTo_succ, List.length_append]; rfl, ?_⟩
          rw [mapTo_succ, List.length_append]
          exact ho1
        have hb2 := push_below hb ho (Nat.le_refl _) hb.size hg1
        clear ho1 hg1 e1 e2 e3 e4 e5 e6 e7 e8
        go_wp2
        go_roundw
        case rel => exact ⟨k + 1, by omega, by go_num, ho2, hb2⟩
        case measure => simp [intOf]; omega
      · obtain rfl : k = n := by omega
        go_wp2_with (go_at_call 54; refine (specGridValid _ _ _ _ _ _ _ hr hm).mono ?_; rintro e w' ⟨rfl, rfl⟩)
        go_ret
        rw [HL.out]
        exact ⟨_, _, rfl, ho, hb⟩
end Go.Proofs.Ytlnmioijgclndaa
