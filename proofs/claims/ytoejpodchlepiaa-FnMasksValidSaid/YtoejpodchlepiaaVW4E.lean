import Derived.Test.YtoejpodchlepiaaQ4S
import Derived.Test.YtoejpodchlepiaaOwn
import Derived.Test.YtoejpodchlepiaaVNa
import Derived.Test.YtoejpodchlepiaaQ4R
set_option maxRecDepth 8000
namespace Go.Proofs.Ytoejpodchlepiaa
open Go.ChangeShapes Go.WideShapes Go.ChangeAt Go.RowKit

set_option maxHeartbeats 2000000 in
theorem specRuleHolds (A : Option Addr) (c n B : Nat) (xs : List Int) (k v size : Int) (Ag : Option Addr) (cg ng Bg : Nat) (g : List Int) (w : World) (h : Rd w B A n xs) (hB : B ≤ w.heap.size) (hm : n ≤ 1099511627776) (hg : Rd w Bg Ag ng g) (hBg : Bg ≤ w.heap.size) (hmg : ng ≤ 1099511627776) (_hs64 : -9223372036854775808 ≤ size ∧ size ≤ 9223372036854775807) :
    Calls Try.prog 21 #[.agg #[.int .i64 k, .slice A n c, .int .i64 v], .slice Ag ng cg, .int .i64 size] w fun e w' => e = .returned (.bool (rhB k xs v g size)) ∧ Below w.heap.size w w' := by
  have hlen := Lib.hid h.1
  have hx0 := rbox_new w k A n c v 25
  have hb0 : Below w.heap.size w (w.alloc (.cells #[.int .i64 k, .slice A n c, .int .i64 v] 25)) := (Below.refl _ _).alloc (Nat.le_refl _) _
  have hs0 : w.heap.size < (w.alloc (.cells #[.int .i64 k, .slice A n c, .int .i64 v] 25)).heap.size := by simp
  obtain ⟨k0, k1, k2⟩ := id hx0
  have HRV := Lib.hid (fun w' (hb : Below w.heap.size w w') => specRuleValid A c n B xs k v size w' (h.below (hb.mono hB)) (Nat.le_trans hB hb.size) hm)
  have HGV := Lib.hid (fun w' (hb : Below w.heap.size w w') => specGridValid Ag cg ng Bg g size w' (hg.below (hb.mono hBg)) hmg)
  cases hv : rv k xs v size
  · have HL := Lib.hid (show rhB k xs v g size = false by simp [rhB, hv])
    go_enter Try.func21, Try.ntmps21
    go_wp2_with (go_at_call 22; refine (HRV.out _ hb0).mono ?_; rintro e w1 ⟨rfl, hb1⟩; rw [hv]; have h01 := step hb0 hb1)
    go_ret
    exact ⟨by rw [HL.out]; rfl, h01⟩
  · cases hgv : gv g size
    · have HL := Lib.hid (show rhB k xs v g size = false by simp [rhB, hgv])
      go_enter Try.func21, Try.ntmps21
      go_wp2_with (first | (go_at_call 22; refine (HRV.out _ hb0).mono ?_; rintro e w1 ⟨rfl, hb1⟩; rw [hv]; have h01 := step hb0 hb1) | (go_at_call 23; refine (HGV.out _ h01).mono ?_; rintro e w2 ⟨rfl, rfl⟩; rw [hgv]))
      go_ret
      exact ⟨by rw [HL.out]; rfl, h01⟩
    · obtain ⟨_, ⟨_, hn4⟩, hk2, _⟩ := rv_facts hlen.out hv
      obtain ⟨hsm, hin⟩ := pks_small hlen.out hv hgv
      have Hsm := Lib.hid hsm
      have hing : ∀ i, i < n → 0 ≤ nth xs i ∧ nth xs i < ng := by rw [← hg.1]; exact hin
      have Hin := Lib.hid hing
      clear hsm hin hing
      have HL := Lib.hid (show rhB k xs v g size = (!(memTo (pks g xs n) 0 n) && holdsB k v (pks g xs n)) by unfold rhB; rw [hlen.out, hv, hgv, Bool.true_and, Bool.true_and])
      have Hk2 := Lib.hid hk2
      clear hk2
      go_enter Try.func21, Try.ntmps21
      go_wp2_with (first | (go_at_call 22; refine (HRV.out _ hb0).mono ?_; rintro e w1 ⟨rfl, hb1⟩; rw [hv]; have h01 := step hb0 hb1; have hx1 := hx0.below hs0 hb1; have hs1 := Nat.lt_of_lt_of_le hs0 hb1.size) | (go_at_call 23; refine (HGV.out _ h01).mono ?_; rintro e w2 ⟨rfl, rfl⟩; rw [hgv]))
      have hb2 : Below w1.heap.size w1 (w1.alloc (.cells #[] 3)) := (Below.refl _ _).alloc (Nat.le_refl _) _
      have hw1 := h01.size
      go_loopw [7, 8] (fun p i wr => ∃ (u : Nat) (A' : Option Addr) (c' : Nat), u ≤ n ∧ i = .int .i64 u ∧ p = .slice A' u c' ∧ Ow wr w1.heap.size A' u c' (pks g xs u) ∧ memTo (pks g xs n) 0 u = false ∧ Below w1.heap.size w1 wr) (fun _ i _ => n - (intOf i).toNat)
      case atStart => exact ⟨0, _, _, Nat.zero_le _, rfl, rfl, Ow.made0 _ _ (Nat.le_refl _), rfl, hb2⟩
      case round =>
        obtain ⟨u, A', c', hu, rfl, rfl, ho, hno, hbb⟩ := hrel
        have hb := h01.trans (hbb.mono hw1)
        have hx := hx1.below hs1 hbb
        obtain ⟨j0, j1, j2⟩ := id hx
        have hsr := hb.size
        have hsx : w.heap.size < wr.heap.size := cell_lt hx.1
        by_cases hlt : u < n
        · obtain ⟨b, off, rfl, hbB, hck⟩ := (h.below (hb.mono hB)).at_ hlt
          obtain ⟨x0, x1⟩ := Hin.out u hlt
          obtain ⟨x, hxv⟩ := Int.eq_ofNat_of_zero_le x0
          rw [hxv] at hck x1
          have hxn : x < ng := by omega
          obtain ⟨bg, og, rfl, hbBg, hcg⟩ := (hg.below (hb.mono hBg)).at_ hxn
          have hp := pks_nth (g := g) (xs := xs) hlt
          rw [hxv, Int.toNat_natCast] at hp
          have Hpush := Lib.hid (show pks g xs (u + 1) = pks g xs u ++ [nth g x] by unfold pks; rw [mapTo_succ, hxv, Int.toNat_natCast])
          have Hst := Lib.hid (show memTo (pks g xs n) 0 (u + 1) = (nth g x == 0) by simp only [memTo, hno, Bool.false_or, hp])
          have Hf : Hid (nth g x = 0 → memTo (pks g xs n) 0 n = true) := Lib.hid (fun e => memTo_hit hlt (by rw [hp]; exact e))
          have hu1 : u ≤ 1099511627776 := by omega
          have hlo := hbb.size
          clear hp hxv hno
          cases hz : (nth g x == 0)
          · go_wp2_with (at_builtin; refine push_int rfl (.tmp 36) (.tmp 45) rfl w1.heap.size A' u c' (pks g xs u) _ rfl rfl ho hu1 hlo ?_; intro A5 c5 w5 ho5 hg5)
            go_roundw
            case rel => exact ⟨u + 1, _, _, by omega, by go_num, rfl, by rw [Hpush.out]; exact ho5, by rw [Hst.out, hz], push_below hbb ho (Nat.le_refl _) hlo hg5⟩
            case measure => simp [intOf]; omega
          · have HF := Lib.hid (Hf.out (by simpa using hz))
            go_wp2
            go_ret
            exact ⟨by rw [HL.out, HF.out]; rfl, hb⟩
        · obtain rfl : u = n := by omega
          have Hno := Lib.hid hno
          clear hno
          go_wp2_with (go_at_call 78; refine (specHolds _ _ _ _ _ _ _ _ _ _ _ ho.rd (Nat.le_refl _) hn4 Hsm Hk2.out).mono ?_; rintro e w7 ⟨rfl, hb7⟩)
          go_ret
          exact ⟨by rw [HL.out, Hno.out]; rfl, step hb hb7⟩
end Go.Proofs.Ytoejpodchlepiaa
set_option maxRecDepth 8000
namespace Go.Proofs.Ytoejpodchlepiaa
open Go.ChangeShapes Go.WideShapes Go.ChangeAt Go.RowKit

set_option maxHeartbeats 1000000 in
theorem toRule_any (k : Int) (A : Option Addr) (n c B : Nat) (xs : List Int) (v : Int) (w : World) (h : Rd w B A n xs) (hB : B ≤ w.heap.size) (hm : n ≤ 1099511627776) :
    Calls Try.prog 30 #[.agg #[.int .i64 k, .slice A n c, .int .i64 v]] w fun e w' => ∃ A', e = .returned (.agg #[.int .i64 k, .slice A' n n, .int .i64 v]) ∧ Ow w' w.heap.size A' n n xs ∧ Below w.heap.size w w' := by
  have Hone := Lib.hid rule_one
  have Hi := Lib.hid rule_info
  have hx0 := rbox_new w k A n c v 34
  have hb0 : Below w.heap.size w (w.alloc (.cells #[.int .i64 k, .slice A n c, .int .i64 v] 34)) := (Below.refl _ _).alloc (Nat.le_refl _) _
  have hs0 : w.heap.size < (w.alloc (.cells #[.int .i64 k, .slice A n c, .int .i64 v] 34)).heap.size := by simp
  obtain ⟨V, hV⟩ : ∃ V, V = ((w.alloc (.cells #[.int .i64 k, .slice A n c, .int .i64 v] 34)).alloc (.cells #[.int .i64 0, .slice none 0 0, .int .i64 0] 25)).alloc (.cells #[.int .i64 k, .slice none 0 0, .int .i64 0] 25) := ⟨_, rfl⟩
  have hb1 : Below w.heap.size w ((w.alloc (.cells #[.int .i64 k, .slice A n c, .int .i64 v] 34)).alloc (.cells #[.int .i64 0, .slice none 0 0, .int .i64 0] 25)) := hb0.alloc hb0.size _
  have hbV : Below w.heap.size w V := by rw [hV]; exact hb1.alloc hb1.size _
  have hsV : V.heap.size = w.heap.size + 1 + 1 + 1 := by rw [hV]; simp
  have hv2 : V.heap[w.heap.size + 1 + 1]? = some (.cells #[.int .i64 k, .slice none 0 0, .int .i64 0] 25) := by
    have := heap_alloc2_new (w.alloc (.cells #[.int .i64 k, .slice A n c, .int .i64 v] 34)) (.cells #[.int .i64 0, .slice none 0 0, .int .i64 0] 25) (.cells #[.int .i64 k, .slice none 0 0, .int .i64 0] 25)
    rw [World.size_alloc] at this
    rw [hV]
    exact this
  have hv1 : V.heap[w.heap.size + 1]? = some (.cells #[.int .i64 0, .slice none 0 0, .int .i64 0] 25) := by
    have := heap_alloc2_old (w.alloc (.cells #[.int .i64 k, .slice A n c, .int .i64 v] 34)) (.cells #[.int .i64 0, .slice none 0 0, .int .i64 0] 25) (.cells #[.int .i64 k, .slice none 0 0, .int .i64 0] 25)
    rw [World.size_alloc] at this
    rw [hV]
    exact this
  have hx1 : RBox V w.heap.size k A n c v := by
    rw [hV]
    refine hx0.below hs0 ?_
    have e : (w.alloc (.cells #[.int .i64 k, .slice A n c, .int .i64 v] 34)).heap.size = w.heap.size + 1 := by simp
    rw [e]
    have b1 : Below (w.heap.size + 1) (w.alloc (.cells #[.int .i64 k, .slice A n c, .int .i64 v] 34)) ((w.alloc (.cells #[.int .i64 k, .slice A n c, .int .i64 v] 34)).alloc (.cells #[.int .i64 0, .slice none 0 0, .int .i64 0] 25)) := (Below.refl _ _).alloc (Nat.le_of_eq e.symm) _
    exact b1.alloc (by simp) _
  obtain ⟨k0, k1, k2⟩ := id hx1
  have hR := h.below (hbV.mono hB)
  have hBV : B ≤ V.heap.size := by omega
  have hwV : w.heap.size ≤ V.heap.size := by omega
  have hwV0 : w.heap.size < V.heap.size := by omega
  have hwV1 : w.heap.size + 1 < V.heap.size := by omega
  have hwV2 : w.heap.size + 1 + 1 < V.heap.size := by omega
  have hne02 : w.heap.size + 1 + 1 ≠ w.heap.size := by omega
  have hne12 : w.heap.size + 1 ≠ w.heap.size + 1 + 1 := by omega
  have HV := Lib.hid hV
  have HsV := Lib.hid hsV
  clear hV hsV
  go_enter Try.func30, Try.ntmps30
  go_wp2_with (first
    | (go_at_call 31; (rw [← HV.out]); refine (toIntS_any _ _ _ _ _ _ hR hBV hm).mono ?_; rintro e w1 ⟨rfl, ho1, hbw1⟩; have f1 := (hbw1.block (w.heap.size + 1) hwV1).trans hv1; have f2 := (hbw1.block (w.heap.size + 1 + 1) hwV2).trans hv2; obtain ⟨j0, j1, j2⟩ := hx1.below hwV0 hbw1; have g1 := (heap_setCell_other w1 ⟨w.heap.size + 1 + 1, 1, none⟩ (w.heap.size + 1) (.slice (some ⟨V.heap.size, 0, none⟩) n n) hne12).trans f1; have g2 := heap_setCell_same w1 (w.heap.size + 1 + 1) 1 _ _ (.slice (some ⟨V.heap.size, 0, none⟩) n n) f2; have fz := frozen_of_row w1 (w.heap.size + 1 + 1) 1 _ _ f2; have m0 : w1.cell? ⟨w.heap.size + 1 + 1, 0, none⟩ = some (.int .i64 k) := cell_of_row _ _ 0 _ _ (0, 0) f2; have m1 : w1.cell? ⟨w.heap.size + 1 + 1, 1, none⟩ = some (.slice none 0 0) := cell_of_row _ _ 1 _ _ (0, 0) f2; have m2 : w1.cell? ⟨w.heap.size + 1 + 1, 2, none⟩ = some (.int .i64 0) := cell_of_row _ _ 2 _ _ (0, 0) f2; have n2 : (w1.setCell ⟨w.heap.size + 1 + 1, 1, none⟩ (.slice (some ⟨V.heap.size, 0, none⟩) n n)).cell? ⟨w.heap.size + 1 + 1, 2, none⟩ = some (.int .i64 0) := cell_of_row _ _ 2 _ _ (0, 0) g2; have fz2 := frozen_of_row (w1.setCell ⟨w.heap.size + 1 + 1, 1, none⟩ (.slice (some ⟨V.heap.size, 0, none⟩) n n)) (w.heap.size + 1 + 1) 2 _ _ g2; have l0 : (w1.setCell ⟨w.heap.size + 1 + 1, 1, none⟩ (.slice (some ⟨V.heap.size, 0, none⟩) n n)).cell? ⟨w.heap.size, 2, none⟩ = some (.int .i64 v) := (World.cell?_setCell_far w1 ⟨w.heap.size + 1 + 1, 1, none⟩ ⟨w.heap.size, 2, none⟩ _ hne02).trans j2; have r1 := (heap_setCell_other (w1.setCell ⟨w.heap.size + 1 + 1, 1, none⟩ (.slice (some ⟨V.heap.size, 0, none⟩) n n)) ⟨w.heap.size + 1 + 1, 2, none⟩ (w.heap.size + 1) (.int .i64 v) hne12).trans g1; have r2 := heap_setCell_same (w1.setCell ⟨w.heap.size + 1 + 1, 1, none⟩ (.slice (some ⟨V.heap.size, 0, none⟩) n n)) (w.heap.size + 1 + 1) 2 _ _ (.int .i64 v) g2)
    | ((refine wpList_load_row rfl 25 _ rfl (w.heap.size + 1 + 1) rfl 25 #[.int .i64 k, .slice (some ⟨V.heap.size, 0, none⟩) n n, .int .i64 v] (0, 0) _ r2 Try.underlying25 rfl (Hi.out _ _ _ _ _) ?_))
    | ((refine wpList_store_row rfl 25 _ _ rfl (w.heap.size + 1) #[.int .i64 k, .slice (some ⟨V.heap.size, 0, none⟩) n n, .int .i64 v] rfl rfl 25 #[.int .i64 0, .slice none 0 0, .int .i64 0] r1 (Hi.out _ _ _ _ _) rfl (Hone.out _ _ _ _ _) ?_)))
  have hbw2 : Below w.heap.size w w1 := hbV.trans (hbw1.mono hwV)
  have hB2 : Below w.heap.size w (((w1.setCell ⟨w.heap.size + 1 + 1, 1, none⟩ (.slice (some ⟨V.heap.size, 0, none⟩) n n)).setCell ⟨w.heap.size + 1 + 1, 2, none⟩ (.int .i64 v)).setRow (w.heap.size + 1) #[.int .i64 k, .slice (some ⟨V.heap.size, 0, none⟩) n n, .int .i64 v]) := setRow_below5 ((hbw2.setCell (show w.heap.size ≤ w.heap.size + 1 + 1 by omega) _).setCell (show w.heap.size ≤ w.heap.size + 1 + 1 by omega) _) (by omega)
  have hlo1 := ho1.own_lo
  have HsV' := HsV.out
  have ho2 : Ow (w1.setCell ⟨w.heap.size + 1 + 1, 1, none⟩ (.slice (some ⟨V.heap.size, 0, none⟩) n n)) V.heap.size (some ⟨V.heap.size, 0, none⟩) n n xs := ho1.far (row := some (w.heap.size + 1 + 1)) grown_set (fun b hb e => by have := hlo1 b hb; injection e with e; omega)
  have ho3 : Ow ((w1.setCell ⟨w.heap.size + 1 + 1, 1, none⟩ (.slice (some ⟨V.heap.size, 0, none⟩) n n)).setCell ⟨w.heap.size + 1 + 1, 2, none⟩ (.int .i64 v)) V.heap.size (some ⟨V.heap.size, 0, none⟩) n n xs := ho2.far (row := some (w.heap.size + 1 + 1)) grown_set (fun b hb e => by have := hlo1 b hb; injection e with e; omega)
  refine bodyPost_ret (v := .agg #[.int .i64 k, .slice (some ⟨V.heap.size, 0, none⟩) n n, .int .i64 v]) (results_cell_row (by rfl) _ _ (w.heap.size + 1) 25 _ (0, 0) _ rfl (setRow_heap _ _ _ _ _ _ r1) Try.underlying25 rfl (Hi.out _ _ _ _ _)) rfl ⟨_, rfl, (ho3.row5 (fun b hb => ?_)).mono (by omega), hB2⟩
  have := hlo1 b hb
  omega
theorem eqRule_any (A A' : Option Addr) (c c' n n' B B' : Nat) (xs ys : List Int) (k v k' v' : Int) (w : World) (h : Rd w B A n xs) (h' : Rd w B' A' n' ys) (hB : B ≤ w.heap.size) (hB' : B' ≤ w.heap.size) (hm : n ≤ 1099511627776) (hk : k = k') (hv : v = v') (he : xs = ys) :
    Calls Try.prog 32 #[.agg #[.int .i64 k, .slice A n c, .int .i64 v], .agg #[.int .i64 k', .slice A' n' c', .int .i64 v']] w fun e w' => e = .returned (.bool true) ∧ Below w.heap.size w w' := by
  subst hk hv he
  have hx := rbox_new w k A n c v 25
  have hb0 : Below w.heap.size w (w.alloc (.cells #[.int .i64 k, .slice A n c, .int .i64 v] 25)) := (Below.refl _ _).alloc (Nat.le_refl _) _
  have hs0 : w.heap.size < (w.alloc (.cells #[.int .i64 k, .slice A n c, .int .i64 v] 25)).heap.size := by simp
  have hx2 := rbox_new (w.alloc (.cells #[.int .i64 k, .slice A n c, .int .i64 v] 25)) k A' n' c' v 25
  have hb1 : Below w.heap.size w ((w.alloc (.cells #[.int .i64 k, .slice A n c, .int .i64 v] 25)).alloc (.cells #[.int .i64 k, .slice A' n' c', .int .i64 v] 25)) := hb0.alloc hb0.size _
  have hx1 := hx.below hs0 ((Below.refl _ _).alloc (Nat.le_refl _) (.cells #[.int .i64 k, .slice A' n' c', .int .i64 v] 25))
  rw [World.size_alloc] at hx2
  have hs1 : w.heap.size < ((w.alloc (.cells #[.int .i64 k, .slice A n c, .int .i64 v] 25)).alloc (.cells #[.int .i64 k, .slice A' n' c', .int .i64 v] 25)).heap.size := by simp; omega
  have hs2 : w.heap.size + 1 < ((w.alloc (.cells #[.int .i64 k, .slice A n c, .int .i64 v] 25)).alloc (.cells #[.int .i64 k, .slice A' n' c', .int .i64 v] 25)).heap.size := by simp
  obtain ⟨a0, a1, a2⟩ := id hx1
  obtain ⟨b0, b1, b2⟩ := id hx2
  have hkk : (k != k) = false := by simp
  have hvv : (v != v) = false := by simp
  have hC : Hid (Calls Try.prog 33 #[.slice A n c, .slice A' n' c'] ((w.alloc (.cells #[.int .i64 k, .slice A n c, .int .i64 v] 25)).alloc (.cells #[.int .i64 k, .slice A' n' c', .int .i64 v] 25)) fun e w' => e = .returned (.bool (same xs xs)) ∧ Below ((w.alloc (.cells #[.int .i64 k, .slice A n c, .int .i64 v] 25)).alloc (.cells #[.int .i64 k, .slice A' n' c', .int .i64 v] 25)).heap.size ((w.alloc (.cells #[.int .i64 k, .slice A n c, .int .i64 v] 25)).alloc (.cells #[.int .i64 k, .slice A' n' c', .int .i64 v] 25)) w') :=
    Lib.hid (eqIntS_any _ _ _ _ _ _ _ _ _ _ _ (h.below (hb1.mono hB)) (h'.below (hb1.mono hB')) hm)
  have hsame := same_refl xs
  go_enter Try.func32, Try.ntmps32
  go_wp2_with (go_at_call 33; refine hC.out.mono ?_; rintro e w2 ⟨rfl, hb2⟩; rw [hsame]; obtain ⟨d0, d1, d2⟩ := hx1.below hs1 hb2; obtain ⟨e0, e1, e2⟩ := hx2.below hs2 hb2)
  go_ret
  exact ⟨rfl, step hb1 hb2⟩
theorem szIntS_any (A : Option Addr) (c n : Nat) (l : Int) (w : World) (hm : n ≤ 9223372036854775807) (h0 : 0 ≤ l) (h1 : l ≤ 1099511627776) :
    Calls Try.prog 83 #[.slice A n c, .int .i64 l] w fun e w' => e = .returned (.int .i64 (if (n : Int) ≤ l then l - n else -1)) ∧ w = w' := by
  have e1 : wrap64 (l - n) = l - n := IntWalk.wrap64_in _ ⟨by omega, by omega⟩
  by_cases hn : (n : Int) ≤ l
  · go_enter Try.func83, Try.ntmps83
    go_wp2
    go_ret
    exact ⟨rfl, rfl⟩
  · go_enter Try.func83, Try.ntmps83
    go_wp2
    go_ret
    exact ⟨rfl, rfl⟩
theorem szRule_any (A : Option Addr) (c n : Nat) (k v l : Int) (w : World) (hm : n ≤ 9223372036854775807) (h0 : 0 ≤ l) (h1 : l ≤ 1099511627776) :
    Calls Try.prog 29 #[.agg #[.int .i64 k, .slice A n c, .int .i64 v], .int .i64 l] w fun e w' => e = .returned (.int .i64 (if (n : Int) ≤ l then l - n else -1)) ∧ Below w.heap.size w w' := by
  have hx := rbox_new w k A n c v 34
  have hb0 : Below w.heap.size w (w.alloc (.cells #[.int .i64 k, .slice A n c, .int .i64 v] 34)) := (Below.refl _ _).alloc (Nat.le_refl _) _
  obtain ⟨a0, a1, a2⟩ := id hx
  obtain ⟨r, hr⟩ : ∃ r, r = (if (n : Int) ≤ l then l - (n : Int) else -1) := ⟨_, rfl⟩
  have HC := Lib.hid (fun w => szIntS_any A c n l w hm h0 h1)
  rw [← hr] at HC ⊢
  by_cases hr0 : r < 0
  · have hr1 : r = -1 := by rw [hr] at hr0 ⊢; split at hr0 <;> omega
    have HR := Lib.hid hr1
    clear hr hr1
    go_enter Try.func29, Try.ntmps29
    go_wp2_with (go_at_call 83; refine (HC.out _).mono ?_; rintro e w2 ⟨rfl, rfl⟩)
    go_ret
    exact ⟨by rw [HR.out]; rfl, hb0⟩
  · clear hr
    go_enter Try.func29, Try.ntmps29
    go_wp2_with (go_at_call 83; refine (HC.out _).mono ?_; rintro e w2 ⟨rfl, rfl⟩)
    go_ret
    exact ⟨rfl, hb0⟩
end Go.Proofs.Ytoejpodchlepiaa
set_option maxRecDepth 8000
namespace Go.Proofs.Ytoejpodchlepiaa
open Go.ChangeShapes Go.WideShapes Go.ChangeAt Go.RowKit

theorem row_max {k : IntKind} {w : World} {a : Option Addr} {len cap : Nat} {zs : List Int} (h : IsRow k w a len cap zs) : len ≤ 9223372036854775807 := by
  rcases h with ⟨rfl, rfl, rfl, rfl⟩ | ⟨x, rfl, hl, hm, _⟩
  · omega
  · simp only [maxLen] at hm; omega
theorem below_undrew {w w2 : World} (h : Below w.drew.heap.size w.drew w2) : Below w.heap.size w w2 := ⟨h.os, h.tape, h.output, h.size, h.block⟩
theorem szRule_big (A : Option Addr) (c n : Nat) (k v : Int) (w : World) (hn : ¬ n ≤ 1048576) (hm : n ≤ 9223372036854775807) :
    Calls Try.prog 29 #[.agg #[.int .i64 k, .slice A n c, .int .i64 v], .int .i64 1048576] w fun e w' => e = .returned (.int .i64 (-1)) ∧ Below w.heap.size w w' := by
  refine (szRule_any A c n k v 1048576 w hm (by omega) (by omega)).mono ?_
  rintro e w' ⟨rfl, hb⟩
  exact ⟨by rw [if_neg (by omega)], hb⟩
end Go.Proofs.Ytoejpodchlepiaa
