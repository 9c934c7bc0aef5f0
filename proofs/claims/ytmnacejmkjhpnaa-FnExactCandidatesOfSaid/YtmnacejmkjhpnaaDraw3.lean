import Derived.Test.YtmnacejmkjhpnaaDrawL
import Derived.Test.YtmnacejmkjhpnaaGrown
namespace Go.Proofs.Ytmnacejmkjhpnaa
open Go.ChangeShapes Go.WideShapes Go.ChangeAt Go.RowKit

theorem tblM9 (v : Nat) (hv : v < 9) : ∃ u : Nat, u ≤ 4 ∧ (#[.int .i64 0, .int .i64 0, .int .i64 0, .int .i64 0, .int .i64 0, .int .i64 1, .int .i64 2, .int .i64 3, .int .i64 4] : Array Value)[v]? = some (.int .i64 (u : Int)) ∧ ([.int .i64 0, .int .i64 0, .int .i64 0, .int .i64 0, .int .i64 0, .int .i64 1, .int .i64 2, .int .i64 3, .int .i64 4] : List Value)[v]? = some (.int .i64 (u : Int)) := by
  have : v = 0 ∨ v = 1 ∨ v = 2 ∨ v = 3 ∨ v = 4 ∨ v = 5 ∨ v = 6 ∨ v = 7 ∨ v = 8 := by omega
  rcases this with rfl | rfl | rfl | rfl | rfl | rfl | rfl | rfl | rfl
  · exact ⟨0, by omega, rfl, rfl⟩
  · exact ⟨0, by omega, rfl, rfl⟩
  · exact ⟨0, by omega, rfl, rfl⟩
  · exact ⟨0, by omega, rfl, rfl⟩
  · exact ⟨0, by omega, rfl, rfl⟩
  · exact ⟨1, by omega, rfl, rfl⟩
  · exact ⟨2, by omega, rfl, rfl⟩
  · exact ⟨3, by omega, rfl, rfl⟩
  · exact ⟨4, by omega, rfl, rfl⟩
theorem tblM5 (b : Int) (b0 : 0 ≤ b) (b1 : b < 16) (u : Nat) (hu : u ≤ 4) : ∃ z : Int, -2 ≤ z ∧ z ≤ 32 ∧ (#[.int .i64 (b * 2), .int .i64 1, .int .i64 (-2), .int .i64 32, .int .i64 31] : Array Value)[u]? = some (.int .i64 z) ∧ ([.int .i64 (b * 2), .int .i64 1, .int .i64 (-2), .int .i64 32, .int .i64 31] : List Value)[u]? = some (.int .i64 z) ∧ (#[.int .i64 (IntKind.i64.wrap (b * 2)), .int .i64 1, .int .i64 (-2), .int .i64 32, .int .i64 31] : Array Value)[u]? = some (.int .i64 z) ∧ ([.int .i64 (IntKind.i64.wrap (b * 2)), .int .i64 1, .int .i64 (-2), .int .i64 32, .int .i64 31] : List Value)[u]? = some (.int .i64 z) := by
  rw [IntWalk.i64_in (b * 2) (by omega)]
  have : u = 0 ∨ u = 1 ∨ u = 2 ∨ u = 3 ∨ u = 4 := by omega
  rcases this with rfl | rfl | rfl | rfl | rfl
  · exact ⟨b * 2, by omega, by omega, rfl, rfl, rfl, rfl⟩
  · exact ⟨1, by omega, by omega, rfl, rfl, rfl, rfl⟩
  · exact ⟨-2, by omega, by omega, rfl, rfl, rfl, rfl⟩
  · exact ⟨32, by omega, by omega, rfl, rfl, rfl, rfl⟩
  · exact ⟨31, by omega, by omega, rfl, rfl, rfl, rfl⟩
def DrawnMask (w : World) (e : Ending) (w' : World) : Prop := ∃ m : Int, e = .returned (.int .i64 m) ∧ -2 ≤ m ∧ m ≤ 32 ∧ Below w.heap.size w w'
set_option maxHeartbeats 4000000 in
theorem drawMaskValues (A : Option Addr) (n c : Nat) (bs : List Int) (w : World) (h : Code_ w A n c bs) :
    Calls Try.prog 53 #[.slice A n c] w (DrawnMask w) := by
  go_enter Try.func53, Try.ntmps53
  go_wp2_with fail
  refine (specOpen A c n bs w h.1 h.2.1 h.2.2).mono ?_
  rintro e w2 ⟨rfl, hd2, hb2⟩
  have hlt2 := hd2.lt
  have hle2 := Nat.le_of_lt hlt2
  go_wp2_with (first
    | (go_at_call 65; (with_reducible refine (pick_any w.heap.size w.heap.size 0 16 _ ?hd (Nat.le_refl _) (by decide)).mono ?_); (case hd => exact hd2); rintro e w3 ⟨v1, rfl, ⟨a0, a1, _⟩, hd3, hg3⟩; have ht3 := a1 (by omega); clear a1; have hk3 := grown_at hg3; have hlt3 := hd3.lt; have hle3 := Nat.le_of_lt hlt3; have hs3 := grown_lt hg3; have hz3 := grown_le hg3; have hb3 := bg0 hb2 hg3)
    | (go_at_call 65; (with_reducible refine (pick_any w.heap.size w.heap.size 1 9 _ ?hd (Nat.le_refl _) (by decide)).mono ?_); (case hd => exact hd3.alloc2 _ _); rintro e w5 ⟨v3, rfl, ⟨d0, d1, _⟩, hd5, hg5⟩; have ht5 := d1 (by omega); clear d1; have hk5 := grown_at hg5; have hlt5 := hd5.lt; have hle5 := Nat.le_of_lt hlt5; have hs5 := grown_lt hg5; have hz5 := grown_le hg5; obtain ⟨⟨hp5, hq5⟩, hr5⟩ := grown_lt2 hg5; have hb5 := bg2 hb3 hg5; obtain ⟨v, rfl⟩ := Int.eq_ofNat_of_zero_le d0; obtain ⟨u, hu, h17, h17'⟩ := tblM9 v (by omega); obtain ⟨z, z0, z1, h16, h16', h16w, h16x⟩ := tblM5 v1 a0 ht3 u hu; have huI : (u : Int) < 5 := by omega))
  go_ret
  exact ⟨z, rfl, z0, z1, hb5⟩
end Go.Proofs.Ytmnacejmkjhpnaa
