import Derived.Test.YtkeoflnmbcdmfaaDoorPInA
import Derived.Deep.RegionHeld3
set_option maxRecDepth 8000
namespace Go.Proofs.YtkeoflnmbcdmfaaDoor
open Go.ChangeShapes Go.WideShapes Go.ChangeAt Go.RowKit
/-! Puzzles that come in, and their copies. -/
theorem OwRp.zero_ {w : World} {lo g n : Nat} {rs : List RuleM} {vs : List Value} (h : w.ownsRow lo 63 3 (.slice (some ⟨g, 0, none⟩) n n) n vs) : OwRp w lo g n rs 0 := ⟨vs, h, fun i hi => absurd hi (by omega)⟩
set_option maxHeartbeats 1000000 in
theorem toRuleS_any (A : Option Addr) (c n B : Nat) (rs : List RuleM) (w : World) (h : RdRs w B A n rs) (hB : B ≤ w.heap.size) (hm : n ≤ 1048576) :
    Calls Tryd.prog 59 #[.slice A n c] w fun e w' => ∃ g, e = .returned (.slice (some ⟨g, 0, none⟩) n n) ∧ OwR w' w.heap.size (.slice (some ⟨g, 0, none⟩) n n) rs n ∧ Below w.heap.size w w' := by
  obtain ⟨i0, hi, hz0, hz1, hz2⟩ := info_parts rule_parts
  have HR := Lib.hid (fun (w' : World) (hb : Below w.heap.size w w') => h.below (hb.mono hB))
  have Hi : Hid (∀ k A m c v, (Tryd.prog.info? 63).map (·.size) = some (#[Value.int .i64 k, .slice A m c, .int .i64 v] : Array Value).size) := Lib.hid (fun _ _ _ _ _ => by rw [hi]; simpa using hz1)
  have Hone : Hid (∀ k A m c v, ((#[Value.int .i64 k, .slice A m c, .int .i64 v] : Array Value).all (·.oneCell')) = true) := Lib.hid (fun _ _ _ _ _ => by simp [Value.oneCell'])
  go_enter Tryd.func59, Tryd.ntmps59
  go_wp2_with (refine wpList_make_full _ rfl (.tmp 6) (.tmp 6) 24 rfl w.heap.size 63 i0 (.agg #[.int .i64 0, .slice none 0 0, .int .i64 0]) 3 Tryd.underlying24 hi hz0 hz1 .i64 .i64 n n n rfl rfl rfl rfl (by rw [hz2]; omega) (by simp only [maxLen]; omega) (Nat.le_refl _) ?_; intro w3 hown hgr; have hb3 := made_below hgr (Nat.le_refl _); have ho3 := OwRp.zero_ (rs := rs) hown)
  go_loopw [4] (fun i wr => ∃ u : Nat, u ≤ n ∧ i = .int .i64 u ∧ OwRp wr w.heap.size w.heap.size n rs u ∧ Below w.heap.size w wr) (fun i _ => n - (intOf i).toNat)
  case atStart => exact ⟨0, Nat.zero_le _, rfl, ho3, hb3⟩
  case round =>
    obtain ⟨u, hu, rfl, ho, hb⟩ := hrel
    by_cases hlt : u < n
    · obtain ⟨b, off, rfl, hbB, hcc⟩ := (HR.out _ hb).2 (by omega)
      obtain ⟨A', c', r0, r1, r2, r3, r4⟩ := hcc u hlt
      have hth := ho.there hlt
      have Hput := Lib.hid (fun (w3 : World) (A3 : Option Addr) (c3 : Nat) (hb' : Below wr.heap.size wr w3) (ho3 : Ow w3 wr.heap.size A3 (rat rs u).xs.length c3 (rat rs u).xs) => ho.put (Nat.le_trans (Nat.le_refl _) hb.size) hlt hb' ho3 r4)
      have Hth := Lib.hid (fun (w3 : World) (hb' : Below wr.heap.size wr w3) => (ho.below hb').there hlt)
      obtain ⟨rk, hrk⟩ : ∃ x, x = (rat rs u).k := ⟨_, rfl⟩
      obtain ⟨rx, hrx⟩ : ∃ x, x = (rat rs u).xs := ⟨_, rfl⟩
      obtain ⟨rvv, hrv⟩ : ∃ x, x = (rat rs u).v := ⟨_, rfl⟩
      rw [← hrk] at r0 Hput
      rw [← hrx] at r1 r3 r4 Hput
      rw [← hrv] at r2 Hput
      have HC := Lib.hid (toRule_any rk A' rx.length c' B rx rvv wr r3 (Nat.le_trans hB hb.size) r4)
      clear hrk hrx hrv hcc
      have hin : (u : Int) < (n : Int) := by omega
      go_wp2_with (first | (go_at_call 97; refine HC.out.mono ?_; rintro e w4 ⟨A4, rfl, ho4, hb4⟩) | (refine wpList_store_mid rfl 63 _ _ rfl w.heap.size (u * 3) #[.int .i64 rk, .slice A4 rx.length rx.length, .int .i64 rvv] rfl rfl (Hth.out _ hb4) (Hi.out _ _ _ _ _) (Hone.out _ _ _ _ _) ?_))
      go_roundw
      case rel => exact ⟨u + 1, by omega, by go_num, Hput.out _ _ _ hb4 ho4, below_setCells3 (step hb hb4) (Nat.le_refl _)⟩
      case measure => simp [intOf]; omega
    · obtain rfl : u = n := by omega
      go_wp2
      go_ret
      exact ⟨_, rfl, ho.full, hb⟩
end Go.Proofs.YtkeoflnmbcdmfaaDoor
