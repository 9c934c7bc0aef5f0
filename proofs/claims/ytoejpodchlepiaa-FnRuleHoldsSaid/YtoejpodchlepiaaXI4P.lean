import Derived.Test.YtoejpodchlepiaaXWz
import Derived.Test.YtoejpodchlepiaaXPw
import Derived.Deep.RegionHeld3
set_option maxRecDepth 8000
namespace Go.Proofs.Ytoejpodchlepiaa
open Go.ChangeShapes Go.WideShapes Go.ChangeAt Go.RowKit
theorem implRulePossible (A : Option Addr) (c n B : Nat) (xs : List Int) (k v size : Int) (Ag : Option Addr) (cg ng Bg : Nat) (g : List Int) (w : World) (h : Rd w B A n xs) (hB : B ≤ w.heap.size) (hm : n ≤ 1099511627776) (hcap : n ≤ c) (hg : Rd w Bg Ag ng g) (hBg : Bg ≤ w.heap.size) (hmg : ng ≤ 1099511627776) (_hs64 : -9223372036854775808 ≤ size ∧ size ≤ 9223372036854775807) :
    Calls Try.prog 25 #[.agg #[.int .i64 k, .slice A n c, .int .i64 v], .slice Ag ng cg, .int .i64 size] w fun e w' => e = .returned (.bool (rpB k xs v g size)) ∧ Below w.heap.size w w' := by
  have hlen := Lib.hid h.1
  have hx0 := rbox_new w k A n c v 25
  have hb0 : Below w.heap.size w (w.alloc (.cells #[.int .i64 k, .slice A n c, .int .i64 v] 25)) := (Below.refl _ _).alloc (Nat.le_refl _) _
  have hs0 : w.heap.size < (w.alloc (.cells #[.int .i64 k, .slice A n c, .int .i64 v] 25)).heap.size := by simp
  obtain ⟨k0, k1, k2⟩ := id hx0
  have HRV := Lib.hid (fun w' (hb : Below w.heap.size w w') => implRuleValid A c n B xs k v size w' (h.below (hb.mono hB)) (Nat.le_trans hB hb.size) hm hcap)
  have HGV := Lib.hid (fun w' (hb : Below w.heap.size w w') => implGridValid Ag cg ng Bg g size w' (hg.below (hb.mono hBg)) (Nat.le_trans hBg hb.size) hmg)
  cases hv : rv k xs v size
  · have HL := Lib.hid (show rpB k xs v g size = false by simp [rpB, hv])
    go_enter Try.func25, Try.ntmps25
    go_wp2_with (go_at_call 73; refine (HRV.out _ hb0).mono ?_; rintro e w1 ⟨rfl, hb1⟩; rw [hv]; have h01 := step hb0 hb1)
    go_ret
    exact ⟨by rw [HL.out]; rfl, h01⟩
  · cases hgv : gv g size
    · have HL := Lib.hid (show rpB k xs v g size = false by simp [rpB, hgv])
      go_enter Try.func25, Try.ntmps25
      go_wp2_with (first | (go_at_call 73; refine (HRV.out _ hb0).mono ?_; rintro e w1 ⟨rfl, hb1⟩; rw [hv]; have h01 := step hb0 hb1) | (go_at_call 74; refine (HGV.out _ h01).mono ?_; rintro e w2 ⟨rfl, hb2⟩; rw [hgv]; have h02 := step h01 hb2))
      go_ret
      exact ⟨by rw [HL.out]; rfl, h02⟩
    · obtain ⟨hs24, ⟨hn1, hn4⟩, hk2, _⟩ := rv_facts hlen.out hv
      obtain ⟨s, rfl⟩ := Int.eq_ofNat_of_zero_le (by omega : 0 ≤ size)
      have hs : s ∈ [2, 3, 4] := by simp; omega
      obtain ⟨hsm, hin⟩ := pks_small hlen.out hv hgv
      have Hsm := Lib.hid hsm
      have Hin := Lib.hid (show ∀ i, i < n → 0 ≤ nth xs i ∧ nth xs i < ng by rw [← hg.1]; exact hin)
      have HPK := Lib.hid (fun w' (hb : Below w.heap.size w w') => implPick Ag cg ng Bg g A c n B xs w' (hg.below (hb.mono hBg)) (h.below (hb.mono hB)) (Nat.le_trans hBg hb.size) (Nat.le_trans hB hb.size) hm Hin.out)
      have HL := Lib.hid (rp_ways hlen.out hv hgv hs)
      have Hk := Lib.hid (rv_kind hv)
      have Hk2 := Lib.hid (show k = 1 ∨ k = 2 ∨ k = 3 ∨ 2 ≤ n by rcases rv_kind hv with h | h | h | h | h <;> omega)
      have Hpl := Lib.hid (pks_length g xs n)
      clear hsm hin hk2
      go_enter Try.func25, Try.ntmps25
      go_wp2_with fail
      refine (HRV.out _ hb0).mono ?_
      rintro e w1 ⟨rfl, hb1⟩
      rw [hv]
      have h01 := step hb0 hb1
      have hx1 := hx0.below hs0 hb1
      have hs1 := Nat.lt_of_lt_of_le hs0 hb1.size
      go_wp2_with fail
      refine (HGV.out _ h01).mono ?_
      rintro e w2 ⟨rfl, hb2⟩
      rw [hgv]
      have h02 := step h01 hb2
      have hx2 := hx1.below hs1 hb2
      have hs2 := Nat.lt_of_lt_of_le hs1 hb2.size
      have HS : Hid (∀ w', Below w2.heap.size w2 w' → w'.cell? ⟨w.heap.size, 0, none⟩ = some (.int .i64 k) ∧ w'.cell? ⟨w.heap.size, 1, none⟩ = some (.slice A n c) ∧ w'.cell? ⟨w.heap.size, 2, none⟩ = some (.int .i64 v)) := Lib.hid (fun w' hb => hx2.below hs2 hb)
      obtain ⟨d0, d1, d2⟩ := id hx2
      go_wp2_with fail
      go_region_held3 (fun w' => w'.cell? ⟨w.heap.size, 0, none⟩ = some (.int .i64 k) ∧ w'.cell? ⟨w.heap.size, 1, none⟩ = some (.slice A n c) ∧ w'.cell? ⟨w.heap.size, 2, none⟩ = some (.int .i64 v))
        (first | go_keep | exact HS.out _ hb3 | exact HS.out _ hb4)
        ((first | (go_simp; go_at_call 75; refine (HPK.out _ (h02.drew)).mono ?_; rintro e w3 ⟨A3, c3, rfl, ho3, hb3'⟩; rw [Hpl.out] at ho3 ⊢; have hb3 : Below w2.heap.size w2 w3 := ((Below.refl _ _).drew).trans hb3') | (go_simp; go_at_call 80; refine (possible_any _ _ _ _ _ _ _ _ _ _ _ _ ho3.rd (Nat.le_refl _) hn1 hn4 hs (fun i hi => Hsm.out i hi) Hk.out Hk2.out).mono ?_; rintro e w4 ⟨rfl, hb4'⟩; have hb4 := step hb3 hb4')))
      go_wp2
      go_ret
      exact ⟨by rw [HL.out]; rfl, step h02 hb4⟩
end Go.Proofs.Ytoejpodchlepiaa
