import Derived.Test.YtlnmioijgclndaaDraw2
import Derived.Test.YtlnmioijgclndaaGrown
import Derived.Deep.RegionWith
set_option maxRecDepth 8000
namespace Go.Proofs.Ytlnmioijgclndaa
open Go.ChangeShapes Go.WideShapes Go.ChangeAt Go.RowKit

theorem tbl17 (v : Nat) (hv : v < 9) : ∃ u : Nat, u ≤ 5 ∧ (#[.int .i64 0, .int .i64 0, .int .i64 0, .int .i64 1, .int .i64 1, .int .i64 2, .int .i64 3, .int .i64 4, .int .i64 5] : Array Value)[v]? = some (.int .i64 (u : Int)) ∧ ([.int .i64 0, .int .i64 0, .int .i64 0, .int .i64 1, .int .i64 1, .int .i64 2, .int .i64 3, .int .i64 4, .int .i64 5] : List Value)[v]? = some (.int .i64 (u : Int)) := by
  have : v = 0 ∨ v = 1 ∨ v = 2 ∨ v = 3 ∨ v = 4 ∨ v = 5 ∨ v = 6 ∨ v = 7 ∨ v = 8 := by omega
  rcases this with rfl | rfl | rfl | rfl | rfl | rfl | rfl | rfl | rfl
  · exact ⟨0, by omega, rfl, rfl⟩
  · exact ⟨0, by omega, rfl, rfl⟩
  · exact ⟨0, by omega, rfl, rfl⟩
  · exact ⟨1, by omega, rfl, rfl⟩
  · exact ⟨1, by omega, rfl, rfl⟩
  · exact ⟨2, by omega, rfl, rfl⟩
  · exact ⟨3, by omega, rfl, rfl⟩
  · exact ⟨4, by omega, rfl, rfl⟩
  · exact ⟨5, by omega, rfl, rfl⟩
theorem tbl16 (a b : Int) (a0 : 0 ≤ a) (a1 : a < 14) (b0 : 0 ≤ b) (b1 : b < 256) (u : Nat) (hu : u ≤ 5) : ∃ z : Int, -1 ≤ z ∧ z ≤ 9223372036854775807 ∧ (#[.int .i64 a, .int .i64 (b * 2), .int .i64 575, .int .i64 576, .int .i64 (-1), .int .i64 9223372036854775807] : Array Value)[u]? = some (.int .i64 z) ∧ ([.int .i64 a, .int .i64 (b * 2), .int .i64 575, .int .i64 576, .int .i64 (-1), .int .i64 9223372036854775807] : List Value)[u]? = some (.int .i64 z) ∧ (#[.int .i64 a, .int .i64 (IntKind.i64.wrap (b * 2)), .int .i64 575, .int .i64 576, .int .i64 (-1), .int .i64 9223372036854775807] : Array Value)[u]? = some (.int .i64 z) ∧ ([.int .i64 a, .int .i64 (IntKind.i64.wrap (b * 2)), .int .i64 575, .int .i64 576, .int .i64 (-1), .int .i64 9223372036854775807] : List Value)[u]? = some (.int .i64 z) := by
  rw [IntWalk.i64_in (b * 2) (by omega)]
  have : u = 0 ∨ u = 1 ∨ u = 2 ∨ u = 3 ∨ u = 4 ∨ u = 5 := by omega
  rcases this with rfl | rfl | rfl | rfl | rfl | rfl
  · exact ⟨a, by omega, by omega, rfl, rfl, rfl, rfl⟩
  · exact ⟨b * 2, by omega, by omega, rfl, rfl, rfl, rfl⟩
  · exact ⟨575, by omega, by omega, rfl, rfl, rfl, rfl⟩
  · exact ⟨576, by omega, by omega, rfl, rfl, rfl, rfl⟩
  · exact ⟨-1, by omega, by omega, rfl, rfl, rfl, rfl⟩
  · exact ⟨9223372036854775807, by omega, by omega, rfl, rfl, rfl, rfl⟩
def DrawnNum (w : World) (e : Ending) (w' : World) : Prop :=
  ∃ s n : Int, e = .returned (.tuple #[.int .i64 s, .int .i64 n]) ∧ -1 ≤ s ∧ s ≤ 5 ∧ -1 ≤ n ∧ n ≤ 9223372036854775807 ∧ Below w.heap.size w w'
set_option maxHeartbeats 4000000 in
theorem drawSquareNumber (A : Option Addr) (n c : Nat) (bs : List Int) (w : World) (h : Code_ w A n c bs) :
    Calls Try.prog 31 #[.slice A n c] w (DrawnNum w) := by
  go_enter Try.func31, Try.ntmps31
  go_wp2_with fail
  refine (specOpen A c n bs w h.1 h.2.1 h.2.2).mono ?_
  rintro e w1 ⟨rfl, hr, hb⟩
  have hG := hr.lt
  go_wp2_with fail
  refine (l20Size_any _ _ _ _ _ hr (Nat.le_refl _) (by omega) (by omega)).mono ?_
  rintro e w2 ⟨s, rfl, ⟨s0, s1, _⟩, hd2, hg2⟩
  have hb2 := hb.trans (grown_below hg2 (Nat.le_refl _) hb.size)
  have hlt2 := hd2.lt
  have hle2 := Nat.le_of_lt hlt2
  clear hg2 hr hb
  go_wp2
  go_region_with (first
    | (go_at_call 63; (with_reducible refine (pick_any w.heap.size w.heap.size 2 14 _ ?hd (Nat.le_refl _) (by decide)).mono ?_); (case hd => exact hd2.alloc1 _); rintro e w3 ⟨v1, rfl, ⟨a0, a1, _⟩, hd3, hg3⟩; have ht3 := a1 (by omega); clear a1; have hk3 := grown_at hg3; have hlt3 := hd3.lt; have hle3 := Nat.le_of_lt hlt3; have hs3 := grown_lt hg3; have hz3 := grown_le hg3; obtain ⟨hp3, hq3⟩ : w2.heap.size < w3.heap.size ∧ w2.heap.size ≤ w3.heap.size := grown_lt1d hg3; have hb3 := bg1d hb2 hg3)
    | (go_at_call 63; (with_reducible refine (pick_any w.heap.size w.heap.size 2 14 _ ?hd (Nat.le_refl _) (by decide)).mono ?_); (case hd => exact hd2); rintro e w3 ⟨v1, rfl, ⟨a0, a1, _⟩, hd3, hg3⟩; have ht3 := a1 (by omega); clear a1; have hk3 := grown_at hg3; have hlt3 := hd3.lt; have hle3 := Nat.le_of_lt hlt3; have hs3 := grown_lt hg3; have hz3 := grown_le hg3; have hb3 := bg0d hb2 hg3)
    | (go_at_call 63; (with_reducible refine (pick_any w.heap.size w.heap.size 3 256 _ ?hd (Nat.le_refl _) (by decide)).mono ?_); (case hd => exact hd3.alloc1 _); rintro e w4 ⟨v2, rfl, ⟨c0, c1, _⟩, hd4, hg4⟩; have ht4 := c1 (by omega); clear c1; have hk4 := grown_at hg4; have hlt4 := hd4.lt; have hle4 := Nat.le_of_lt hlt4; have hs4 := grown_lt hg4; have hz4 := grown_le hg4; obtain ⟨hp4, hq4⟩ := grown_lt1 hg4; have hb4 := bg1 hb3 hg4)
    | (go_at_call 63; (with_reducible refine (pick_any w.heap.size w.heap.size 3 256 _ ?hd (Nat.le_refl _) (by decide)).mono ?_); (case hd => exact hd3); rintro e w4 ⟨v2, rfl, ⟨c0, c1, _⟩, hd4, hg4⟩; have ht4 := c1 (by omega); clear c1; have hk4 := grown_at hg4; have hlt4 := hd4.lt; have hle4 := Nat.le_of_lt hlt4; have hs4 := grown_lt hg4; have hz4 := grown_le hg4; have hb4 := bg0 hb3 hg4; have hp24 := Nat.lt_of_lt_of_le hp3 hg4.size; have hq24 := Nat.le_of_lt hp24)
    | (go_at_call 63; (with_reducible refine (pick_any w.heap.size w.heap.size 3 256 _ ?hd (Nat.le_refl _) (by decide)).mono ?_); (case hd => exact hd3); rintro e w4 ⟨v2, rfl, ⟨c0, c1, _⟩, hd4, hg4⟩; have ht4 := c1 (by omega); clear c1; have hk4 := grown_at hg4; have hlt4 := hd4.lt; have hle4 := Nat.le_of_lt hlt4; have hs4 := grown_lt hg4; have hz4 := grown_le hg4; have hb4 := bg0 hb3 hg4)
    | (go_at_call 63; (with_reducible refine (pick_any w.heap.size w.heap.size 4 9 _ ?hd (Nat.le_refl _) (by decide)).mono ?_); (case hd => exact hd4.alloc2 _ _); rintro e w5 ⟨v3, rfl, ⟨d0, d1, _⟩, hd5, hg5⟩; have ht5 := d1 (by omega); clear d1; have hk5 := grown_at hg5; have hlt5 := hd5.lt; have hle5 := Nat.le_of_lt hlt5; have hs5 := grown_lt hg5; have hz5 := grown_le hg5; obtain ⟨⟨hp5, hq5⟩, hr5⟩ := grown_lt2 hg5; have hb5 := bg2 hb4 hg5; obtain ⟨v, rfl⟩ := Int.eq_ofNat_of_zero_le d0; obtain ⟨u, hu, h17, h17'⟩ := tbl17 v (by omega); obtain ⟨z, z0, z1, h16, h16', h16w, h16x⟩ := tbl16 v1 v2 a0 ht3 c0 ht4 u hu; have huI : (u : Int) < 6 := by omega)
    | (go_at_call 63; (with_reducible refine (pick_any w.heap.size w.heap.size 4 9 _ ?hd (Nat.le_refl _) (by decide)).mono ?_); (case hd => exact hd4.alloc1 _); rintro e w5 ⟨v3, rfl, ⟨d0, d1, _⟩, hd5, hg5⟩; have ht5 := d1 (by omega); clear d1; have hk5 := grown_at hg5; have hlt5 := hd5.lt; have hle5 := Nat.le_of_lt hlt5; have hs5 := grown_lt hg5; have hz5 := grown_le hg5; obtain ⟨hp5, hq5⟩ := grown_lt1 hg5; have hb5 := bg1 hb4 hg5; have hp25 := Nat.lt_trans hp24 hp5; have hq25 := Nat.le_of_lt hp25; obtain ⟨v, rfl⟩ := Int.eq_ofNat_of_zero_le d0; obtain ⟨u, hu, h17, h17'⟩ := tbl17 v (by omega); obtain ⟨z, z0, z1, h16, h16', h16w, h16x⟩ := tbl16 v1 v2 a0 ht3 c0 ht4 u hu; have huI : (u : Int) < 6 := by omega)
    | (go_at_call 63; (with_reducible refine (pick_any w.heap.size w.heap.size 4 9 _ ?hd (Nat.le_refl _) (by decide)).mono ?_); (case hd => exact hd4.alloc1 _); rintro e w5 ⟨v3, rfl, ⟨d0, d1, _⟩, hd5, hg5⟩; have ht5 := d1 (by omega); clear d1; have hk5 := grown_at hg5; have hlt5 := hd5.lt; have hle5 := Nat.le_of_lt hlt5; have hs5 := grown_lt hg5; have hz5 := grown_le hg5; obtain ⟨hp5, hq5⟩ := grown_lt1 hg5; have hb5 := bg1 hb4 hg5; obtain ⟨v, rfl⟩ := Int.eq_ofNat_of_zero_le d0; obtain ⟨u, hu, h17, h17'⟩ := tbl17 v (by omega); obtain ⟨z, z0, z1, h16, h16', h16w, h16x⟩ := tbl16 v1 v2 a0 ht3 c0 ht4 u hu; have huI : (u : Int) < 6 := by omega)
    | (go_at_call 63; (with_reducible refine (pick_any w.heap.size w.heap.size 4 9 _ ?hd (Nat.le_refl _) (by decide)).mono ?_); (case hd => exact hd4); rintro e w5 ⟨v3, rfl, ⟨d0, d1, _⟩, hd5, hg5⟩; have ht5 := d1 (by omega); clear d1; have hk5 := grown_at hg5; have hlt5 := hd5.lt; have hle5 := Nat.le_of_lt hlt5; have hs5 := grown_lt hg5; have hz5 := grown_le hg5; have hb5 := bg0 hb4 hg5; have hp25 := Nat.lt_of_lt_of_le hp24 hg5.size; have hq25 := Nat.le_of_lt hp25; obtain ⟨v, rfl⟩ := Int.eq_ofNat_of_zero_le d0; obtain ⟨u, hu, h17, h17'⟩ := tbl17 v (by omega); obtain ⟨z, z0, z1, h16, h16', h16w, h16x⟩ := tbl16 v1 v2 a0 ht3 c0 ht4 u hu; have huI : (u : Int) < 6 := by omega)
    | (go_at_call 63; (with_reducible refine (pick_any w.heap.size w.heap.size 4 9 _ ?hd (Nat.le_refl _) (by decide)).mono ?_); (case hd => exact hd4); rintro e w5 ⟨v3, rfl, ⟨d0, d1, _⟩, hd5, hg5⟩; have ht5 := d1 (by omega); clear d1; have hk5 := grown_at hg5; have hlt5 := hd5.lt; have hle5 := Nat.le_of_lt hlt5; have hs5 := grown_lt hg5; have hz5 := grown_le hg5; have hb5 := bg0 hb4 hg5; obtain ⟨v, rfl⟩ := Int.eq_ofNat_of_zero_le d0; obtain ⟨u, hu, h17, h17'⟩ := tbl17 v (by omega); obtain ⟨z, z0, z1, h16, h16', h16w, h16x⟩ := tbl16 v1 v2 a0 ht3 c0 ht4 u hu; have huI : (u : Int) < 6 := by omega))
  all_goals
    (go_wp2; go_ret2; exact ⟨s, z, rfl, s0, s1, z0, z1, by first | exact hb5 | exact hb5.alloc hb5.size _ | exact (hb5.alloc hb5.size _).alloc (hb5.alloc hb5.size _).size _⟩)
end Go.Proofs.Ytlnmioijgclndaa
