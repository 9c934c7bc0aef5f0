import Derived.Test.YtbfjkepelfmeeaaWz
import Derived.Test.YtbfjkepelfmeeaaNw
import Derived.Test.YtbfjkepelfmeeaaI3V
import Derived.Deep.RegionHeld3
set_option maxRecDepth 8000
namespace Go.Proofs.Ytbfjkepelfmeeaa
open Go.ChangeShapes Go.WideShapes Go.ChangeAt Go.RowKit
theorem implRuleMasks (A : Option Addr) (c n B : Nat) (xs : List Int) (k v size : Int) (Ag : Option Addr) (cg ng Bg : Nat) (ms : List Int) (w : World) (h : Rd w B A n xs) (hB : B ≤ w.heap.size) (hm : n ≤ 1099511627776) (hcap : n ≤ c) (hg : Rd w Bg Ag ng ms) (hb64 : B64 ms) (hBg : Bg ≤ w.heap.size) (hmg : ng ≤ 1099511627776) (hs64 : -9223372036854775808 ≤ size ∧ size ≤ 9223372036854775807) :
    Calls Try.prog 31 #[.agg #[.int .i64 k, .slice A n c, .int .i64 v], .slice Ag ng cg, .int .i64 size] w (RetSl w (rmL k xs v ms size)) := by
  have hlen := Lib.hid h.1
  have hx0 := rbox_new w k A n c v 30
  have hb0 : Below w.heap.size w (w.alloc (.cells #[.int .i64 k, .slice A n c, .int .i64 v] 30)) := (Below.refl _ _).alloc (Nat.le_refl _) _
  have hs0 : w.heap.size < (w.alloc (.cells #[.int .i64 k, .slice A n c, .int .i64 v] 30)).heap.size := by simp
  obtain ⟨k0, k1, k2⟩ := id hx0
  have HRV := Lib.hid (fun w' (hb : Below w.heap.size w w') => implRuleValid A c n B xs k v size w' (h.below (hb.mono hB)) (Nat.le_trans hB hb.size) hm hcap)
  have HGV := Lib.hid (fun w' (hb : Below w.heap.size w w') => implMasksValid Ag cg ng Bg ms size w' (hg.below (hb.mono hBg)) hb64 (Nat.le_trans hBg hb.size) hmg hs64)
  cases hv : rv k xs v size
  · have HL := Lib.hid (show rmL k xs v ms size = [] by simp [rmL, hv])
    go_enter Try.func31, Try.ntmps31
    go_wp2_with (go_at_call 22; refine (HRV.out _ hb0).mono ?_; rintro e w1 ⟨rfl, hb1⟩; rw [hv]; have h01 := step hb0 hb1)
    go_ret
    rw [HL.out]
    exact ⟨none, 0, rfl, Ow.nil_ _ _, h01⟩
  · cases hgv : mvd ms size
    · have HL := Lib.hid (show rmL k xs v ms size = [] by simp [rmL, hgv])
      go_enter Try.func31, Try.ntmps31
      go_wp2_with (first | (go_at_call 22; refine (HRV.out _ hb0).mono ?_; rintro e w1 ⟨rfl, hb1⟩; rw [hv]; have h01 := step hb0 hb1) | (go_at_call 18; refine (HGV.out _ h01).mono ?_; rintro e w2 ⟨rfl, hb2⟩; rw [hgv]; have h02 := step h01 hb2))
      go_ret
      rw [HL.out]
      exact ⟨none, 0, rfl, Ow.nil_ _ _, h02⟩
    · obtain ⟨hs24, ⟨hn1, hn4⟩, hk2, hcs⟩ := rv_facts hlen.out hv
      obtain ⟨_, hml, _, hmk⟩ := mvd_at hgv
      rw [hg.1] at hml hmk
      have Hin := Lib.hid (show ∀ i, i < n → 0 ≤ nth xs i ∧ nth xs i < ng from fun i hi => by have := hcs i hi; omega)
      have Hsm := Lib.hid (show ∀ i, i < n → 0 ≤ nth (pks ms xs n) i ∧ nth (pks ms xs n) i < 32 from fun i hi => by
        have := hcs i hi
        have := hmk (nth xs i).toNat (by omega)
        rw [pks_nth hi]; omega)
      have HPK := Lib.hid (fun w' (hb : Below w.heap.size w w') => implPick Ag cg ng Bg ms A c n B xs w' (hg.below (hb.mono hBg)) (h.below (hb.mono hB)) (Nat.le_trans hBg hb.size) (Nat.le_trans hB hb.size) hm Hin.out)
      have HL := Lib.hid (rm_ways hlen.out hv hgv)
      have Hk := Lib.hid (rv_kind hv)
      have Hk2 := Lib.hid (show k = 1 ∨ k = 2 ∨ k = 3 ∨ 2 ≤ n by rcases rv_kind hv with h | h | h | h | h <;> omega)
      have Hpl := Lib.hid (pks_length ms xs n)
      clear hk2 hcs hml hmk
      go_enter Try.func31, Try.ntmps31
      go_wp2_with fail
      refine (HRV.out _ hb0).mono ?_
      rintro e w1 ⟨rfl, hb1⟩
      rw [hv]
      have h01 := step hb0 hb1
      have hx1 := hx0.below hs0 hb1
      have hs1 := Nat.lt_of_lt_of_le hs0 hb1.size
      go_wp2_with fail
      refine (HGV.out _ h01).mono ?_
      rintro e w2 ⟨rfl, hb2⟩
      rw [hgv]
      have h02 := step h01 hb2
      have hx2 := hx1.below hs1 hb2
      have hs2 := Nat.lt_of_lt_of_le hs1 hb2.size
      have HS : Hid (∀ w', Below w2.heap.size w2 w' → w'.cell? ⟨w.heap.size, 0, none⟩ = some (.int .i64 k) ∧ w'.cell? ⟨w.heap.size, 1, none⟩ = some (.slice A n c) ∧ w'.cell? ⟨w.heap.size, 2, none⟩ = some (.int .i64 v)) := Lib.hid (fun w' hb => hx2.below hs2 hb)
      obtain ⟨d0, d1, d2⟩ := id hx2
      go_wp2_with fail
      go_region_held3 (fun w' => w'.cell? ⟨w.heap.size, 0, none⟩ = some (.int .i64 k) ∧ w'.cell? ⟨w.heap.size, 1, none⟩ = some (.slice A n c) ∧ w'.cell? ⟨w.heap.size, 2, none⟩ = some (.int .i64 v))
        (first | go_keep | exact HS.out _ hb3 | exact HS.out _ hb4)
        ((first | (go_simp; go_at_call 73; refine (HPK.out _ (h02.drew)).mono ?_; rintro e w3 ⟨A3, c3, rfl, ho3, hb3'⟩; rw [Hpl.out] at ho3 ⊢; have hb3 : Below w2.heap.size w2 w3 := ((Below.refl _ _).drew).trans hb3') | (go_simp; go_at_call 79; refine (narrowed_any _ _ _ _ _ _ _ _ _ _ _ ho3.rd (Nat.le_refl _) hn1 hn4 (fun i hi => Hsm.out i hi) Hk.out Hk2.out).mono ?_; rintro e w4 ⟨A4, c4, rfl, ho4, hb4'⟩; have hb4 := step hb3 hb4')))
      go_wp2
      go_ret
      rw [HL.out]
      exact ⟨A4, c4, rfl, ho4.mono (step h02 hb3).size, step h02 hb4⟩
end Go.Proofs.Ytbfjkepelfmeeaa
