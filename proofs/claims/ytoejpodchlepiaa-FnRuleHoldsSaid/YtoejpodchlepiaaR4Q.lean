import Derived.Test.YtoejpodchlepiaaQ4S
set_option maxRecDepth 8000
namespace Go.Proofs.Ytoejpodchlepiaa
open Go.ChangeShapes Go.WideShapes Go.ChangeAt Go.RowKit

set_option maxHeartbeats 2000000 in
theorem specRuleHolds (A : Option Addr) (c n B : Nat) (xs : List Int) (k v size : Int) (Ag : Option Addr) (cg ng Bg : Nat) (g : List Int) (w : World) (h : Rd w B A n xs) (hB : B ≤ w.heap.size) (hm : n ≤ 1099511627776) (hg : Rd w Bg Ag ng g) (hBg : Bg ≤ w.heap.size) (hmg : ng ≤ 1099511627776) (_hs64 : -9223372036854775808 ≤ size ∧ size ≤ 9223372036854775807) :
    Calls Try.prog 21 #[.agg #[.int .i64 k, .slice A n c, .int .i64 v], .slice Ag ng cg, .int .i64 size] w fun e w' => e = .returned (.bool (rhB k xs v g size)) ∧ Below w.heap.size w w' := by
  have hlen := Lib.hid h.1
  have hx0 := rbox_new w k A n c v 25
  have hb0 : Below w.heap.size w (w.alloc (.cells #[.int .i64 k, .slice A n c, .int .i64 v] 25)) := (Below.refl _ _).alloc (Nat.le_refl _) _
  have hs0 : w.heap.size < (w.alloc (.cells #[.int .i64 k, .slice A n c, .int .i64 v] 25)).heap.size := by simp
  obtain ⟨k0, k1, k2⟩ := id hx0
  have HRV := Lib.hid (fun w' (hb : Below w.heap.size w w') => specRuleValid A c n B xs k v size w' (h.below (hb.mono hB)) (Nat.le_trans hB hb.size) hm)
  have HGV := Lib.hid (fun w' (hb : Below w.heap.size w w') => specGridValid Ag cg ng Bg g size w' (hg.below (hb.mono hBg)) hmg)
  cases hv : rv k xs v size
  · have HL := Lib.hid (show rhB k xs v g size = false by simp [rhB, hv])
    go_enter Try.func21, Try.ntmps21
    go_wp2_with (go_at_call 22; refine (HRV.out _ hb0).mono ?_; rintro e w1 ⟨rfl, hb1⟩; rw [hv]; have h01 := step hb0 hb1)
    go_ret
    exact ⟨by rw [HL.out]; rfl, h01⟩
  · cases hgv : gv g size
    · have HL := Lib.hid (show rhB k xs v g size = false by simp [rhB, hgv])
      go_enter Try.func21, Try.ntmps21
      go_wp2_with (first | (go_at_call 22; refine (HRV.out _ hb0).mono ?_; rintro e w1 ⟨rfl, hb1⟩; rw [hv]; have h01 := step hb0 hb1) | (go_at_call 23; refine (HGV.out _ h01).mono ?_; rintro e w2 ⟨rfl, rfl⟩; rw [hgv]))
      go_ret
      exact ⟨by rw [HL.out]; rfl, h01⟩
    · obtain ⟨_, ⟨_, hn4⟩, hk2, _⟩ := rv_facts hlen.out hv
      obtain ⟨hsm, hin⟩ := pks_small hlen.out hv hgv
      have Hsm := Lib.hid hsm
      have hing : ∀ i, i < n → 0 ≤ nth xs i ∧ nth xs i < ng := by rw [← hg.1]; exact hin
      have Hin := Lib.hid hing
      clear hsm hin hing
      have HL := Lib.hid (show rhB k xs v g size = (!(memTo (pks g xs n) 0 n) && holdsB k v (pks g xs n)) by unfold rhB; rw [hlen.out, hv, hgv, Bool.true_and, Bool.true_and])
      have Hk2 := Lib.hid hk2
      clear hk2
      go_enter Try.func21, Try.ntmps21
      go_wp2_with (first | (go_at_call 22; refine (HRV.out _ hb0).mono ?_; rintro e w1 ⟨rfl, hb1⟩; rw [hv]; have h01 := step hb0 hb1; have hx1 := hx0.below hs0 hb1; have hs1 := Nat.lt_of_lt_of_le hs0 hb1.size) | (go_at_call 23; refine (HGV.out _ h01).mono ?_; rintro e w2 ⟨rfl, rfl⟩; rw [hgv]))
      have hb2 : Below w1.heap.size w1 (w1.alloc (.cells #[] 3)) := (Below.refl _ _).alloc (Nat.le_refl _) _
      have hw1 := h01.size
      go_loopw [7, 8] (fun p i wr => ∃ (u : Nat) (A' : Option Addr) (c' : Nat), u ≤ n ∧ i = .int .i64 u ∧ p = .slice A' u c' ∧ Ow wr w1.heap.size A' u c' (pks g xs u) ∧ memTo (pks g xs n) 0 u = false ∧ Below w1.heap.size w1 wr) (fun _ i _ => n - (intOf i).toNat)
      case atStart => exact ⟨0, _, _, Nat.zero_le _, rfl, rfl, Ow.made0 _ _ (Nat.le_refl _), rfl, hb2⟩
      case round =>
        obtain ⟨u, A', c', hu, rfl, rfl, ho, hno, hbb⟩ := hrel
        have hb := h01.trans (hbb.mono hw1)
        have hx := hx1.below hs1 hbb
        obtain ⟨j0, j1, j2⟩ := id hx
        have hsr := hb.size
        have hsx : w.heap.size < wr.heap.size := cell_lt hx.1
        by_cases hlt : u < n
        · obtain ⟨b, off, rfl, hbB, hck⟩ := (h.below (hb.mono hB)).at_ hlt
          obtain ⟨x0, x1⟩ := Hin.out u hlt
          obtain ⟨x, hxv⟩ := Int.eq_ofNat_of_zero_le x0
          rw [hxv] at hck x1
          have hxn : x < ng := by omega
          obtain ⟨bg, og, rfl, hbBg, hcg⟩ := (hg.below (hb.mono hBg)).at_ hxn
          have hp := pks_nth (g := g) (xs := xs) hlt
          rw [hxv, Int.toNat_natCast] at hp
          have Hpush := Lib.hid (show pks g xs (u + 1) = pks g xs u ++ [nth g x] by unfold pks; rw [mapTo_succ, hxv, Int.toNat_natCast])
          have Hst := Lib.hid (show memTo (pks g xs n) 0 (u + 1) = (nth g x == 0) by simp only [memTo, hno, Bool.false_or, hp])
          have Hf : Hid (nth g x = 0 → memTo (pks g xs n) 0 n = true) := Lib.hid (fun e => memTo_hit hlt (by rw [hp]; exact e))
          have hu1 : u ≤ 1099511627776 := by omega
          have hlo := hbb.size
          clear hp hxv hno
          cases hz : (nth g x == 0)
          · go_wp2_with (at_builtin; refine push_int rfl (.tmp 36) (.tmp 45) rfl w1.heap.size A' u c' (pks g xs u) _ rfl rfl ho hu1 hlo ?_; intro A5 c5 w5 ho5 hg5)
            go_roundw
            case rel => exact ⟨u + 1, _, _, by omega, by go_num, rfl, by rw [Hpush.out]; exact ho5, by rw [Hst.out, hz], push_below hbb ho (Nat.le_refl _) hlo hg5⟩
            case measure => simp [intOf]; omega
          · have HF := Lib.hid (Hf.out (by simpa using hz))
            go_wp2
            go_ret
            exact ⟨by rw [HL.out, HF.out]; rfl, hb⟩
        · obtain rfl : u = n := by omega
          have Hno := Lib.hid hno
          clear hno
          go_wp2_with (go_at_call 78; refine (specHolds _ _ _ _ _ _ _ _ _ _ _ ho.rd (Nat.le_refl _) hn4 Hsm Hk2.out).mono ?_; rintro e w7 ⟨rfl, hb7⟩)
          go_ret
          exact ⟨by rw [HL.out, Hno.out]; rfl, step hb hb7⟩
end Go.Proofs.Ytoejpodchlepiaa
