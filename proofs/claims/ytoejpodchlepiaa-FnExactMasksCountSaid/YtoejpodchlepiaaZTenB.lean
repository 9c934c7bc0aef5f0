import Derived.Test.YtoejpodchlepiaaZP5A
set_option maxRecDepth 8000
namespace Go.Proofs.Ytoejpodchlepiaa
open Go.ChangeShapes Go.WideShapes Go.ChangeAt Go.RowKit


def oneB (s : Int) (n : Nat) (gi : List Int) (rs : List RuleM) : Bool := (allS s 2 n gi rs).length == 1
set_option maxHeartbeats 1000000 in
theorem specOne (s : Int) (Ag : Option Addr) (n cg Bg : Nat) (gi : List Int) (Ar : Option Addr) (nr cr Br : Nat) (rs : List RuleM) (w : World) (hp : PGs w s Ag n cg Bg gi Ar nr cr Br rs) :
    Calls Try.prog 141 #[.agg #[.int .i64 s, .slice Ag n cg, .slice Ar nr cr]] w fun e w' => e = .returned (.bool (oneB s n gi rs)) ∧ Below w.heap.size w w' := by
  have hx0 := pbox_new w s Ag n cg Ar nr cr 48
  have hb0 : Below w.heap.size w (w.alloc (.cells #[.int .i64 s, .slice Ag n cg, .slice Ar nr cr] 48)) := (Below.refl _ _).alloc (Nat.le_refl _) _
  have HA := Lib.hid (fun w' (hb : Below w.heap.size w w') => (show Calls Try.prog 131 #[.agg #[.int .i64 s, .slice Ag n cg, .slice Ar nr cr], .int .i64 2] w' _ from specAll s 2 Ag n cg Bg gi Ar nr cr Br rs w' (hp.below hb) (by omega) (by omega)))
  have hL := allS_len s 2 n gi rs (by omega)
  have HQ := Lib.hid (show (((allS s 2 n gi rs).length : Int) == 1) = oneB s n gi rs by
    unfold oneB
    rw [Bool.eq_iff_iff]
    simp only [beq_iff_eq]
    omega)
  go_enter Try.func141, Try.ntmps141
  go_wp2_with (go_at_call 131; (refine (HA.out _ hb0).mono ?_); rintro e w1 ⟨P, v, rfl, hrows, hb1⟩; obtain ⟨A1, c1, vs, rfl, _⟩ := hrows)
  go_ret
  exact ⟨by rw [HQ.out]; rfl, step hb0 hb1⟩
set_option maxHeartbeats 1000000 in
theorem specWithout (s : Int) (Ag : Option Addr) (n cg Bg : Nat) (gi : List Int) (Ar : Option Addr) (nr cr : Nat) (k : Nat) (w : World) (hg : Rd w Bg Ag n gi) (hB : Bg ≤ w.heap.size) (hm : n ≤ 1099511627776) (hk : k < n) :
    Calls Try.prog 143 #[.agg #[.int .i64 s, .slice Ag n cg, .slice Ar nr cr], .int .i64 k] w fun e w' => ∃ A' c', e = .returned (.agg #[.int .i64 s, .slice A' n c', .slice Ar nr cr]) ∧ Ow w' w.heap.size A' n c' (gi.set k 0) ∧ Below w.heap.size w w' := by
  have hx0 := pbox_new w s Ag n cg Ar nr cr 48
  have hb0 : Below w.heap.size w (w.alloc (.cells #[.int .i64 s, .slice Ag n cg, .slice Ar nr cr] 48)) := (Below.refl _ _).alloc (Nat.le_refl _) _
  have hs0 : w.heap.size < (w.alloc (.cells #[.int .i64 s, .slice Ag n cg, .slice Ar nr cr] 48)).heap.size := by simp
  obtain ⟨b, off, rfl, hbB, _⟩ := hg.at_ hk
  have hn0 : 0 < n := by omega
  obtain ⟨V, hV⟩ : ∃ V, V = (w.alloc (.cells #[.int .i64 s, .slice (some ⟨b, off, none⟩) n cg, .slice Ar nr cr] 48)).alloc (.cells #[.int .i64 0, .slice none 0 0, .slice none 0 0] 48) := ⟨_, rfl⟩
  have hbV : Below w.heap.size w V := by rw [hV]; exact hb0.alloc hb0.size _
  have hsV : V.heap.size = w.heap.size + 1 + 1 := by rw [hV]; simp
  have hwV : w.heap.size < V.heap.size := by omega
  have hwV1 : w.heap.size + 1 < V.heap.size := by omega
  obtain ⟨c0, c1', c2⟩ : PBox V w.heap.size s (some ⟨b, off, none⟩) n cg Ar nr cr := by
    rw [hV]
    exact hx0.below hs0 ((Below.refl _ _).alloc (Nat.le_refl _) _)
  have hrow : V.heap[w.heap.size + 1]? = some (.cells #[.int .i64 0, .slice none 0 0, .slice none 0 0] 48) := by rw [hV]; exact heap_alloc2_new w _ _
  have HO : Hid (Ow (V.alloc (.cells #[] 3)) (w.heap.size + 1 + 1) (some ⟨w.heap.size + 1 + 1, 0, none⟩) 0 0 []) := Lib.hid (by
    have := Ow.made0 V (w.heap.size + 1 + 1) (by omega)
    rw [hsV] at this
    exact this)
  have hbO : Below V.heap.size V (V.alloc (.cells #[] 3)) := (Below.refl _ _).alloc (Nat.le_refl _) _
  have HR := Lib.hid ((hg.below (hbV.mono hB)).below (hbO.mono (Nat.le_trans hB (Nat.le_of_lt hwV))))
  have hsO : w.heap.size + 1 + 1 ≤ (V.alloc (.cells #[] 3)).heap.size := by simp; omega
  have Hone := Lib.hid puz_one
  have Hi := Lib.hid puz_info
  go_enter Try.func143, Try.ntmps143
  go_wp2_with (first
    | (at_builtin; (rw [← hV]); (refine push_some rfl (.tmp 6) (.tmp 8) rfl (w.heap.size + 1 + 1) (some ⟨w.heap.size + 1 + 1, 0, none⟩) 0 0 [] b off n cg Bg gi rfl rfl HO.out HR.out (by omega) hm hsO ?_); intro A1 c1 w1 ho1 hg1; simp only [Nat.zero_add, List.nil_append] at ho1; (obtain ⟨gb, rfl, hlog, hgw1⟩ := ho1.form hn0); (obtain ⟨hcq, hfq⟩ := ho1.cell hk); have hbw1 : Below V.heap.size V w1 := hbO.grown hg1 hbO.size (fun k hk => Nat.le_trans (Nat.le_of_eq hsV) (HO.out.own_lo k hk)); have hgb0 : w.heap.size ≠ gb := Nat.ne_of_lt (Nat.lt_of_lt_of_le (Nat.lt_of_lt_of_le (Nat.lt_succ_self _) (Nat.le_succ _)) hlog); have hgb1 : w.heap.size + 1 ≠ gb := Nat.ne_of_lt hlog; (have d0 := (cell_other5 (k := k) (v := .int .i64 0) hgb0).trans ((hbw1.cell (p := ⟨w.heap.size, 0, none⟩) hwV).trans c0)); have d2 := (cell_other5 (k := k) (v := .int .i64 0) hgb0).trans ((hbw1.cell (p := ⟨w.heap.size, 2, none⟩) hwV).trans c2); (have hr2 := (heap_setCell_other w1 ⟨gb, k, none⟩ (w.heap.size + 1) (.int .i64 0) hgb1).trans ((hbw1.block (w.heap.size + 1) hwV1).trans hrow)))
    | ((refine wpList_store_row rfl 48 _ _ rfl (w.heap.size + 1) #[.int .i64 s, .slice (some ⟨gb, 0, none⟩) n c1, .slice Ar nr cr] rfl rfl 48 #[.int .i64 0, .slice none 0 0, .slice none 0 0] hr2 (Hi.out _ _ _ _ _ _ _) rfl (Hone.out _ _ _ _ _ _ _) ?_)))
  have ho2 : Ow (w1.setCell ⟨gb, k, none⟩ (.int .i64 0)) (w.heap.size + 1 + 1) (some ⟨gb, 0, none⟩) n c1 (gi.set k 0) := by
    have := (World.ownsRow.stored ho1 k (.int .i64 0)).1
    rw [vals_set] at this
    exact this
  have hBe : Below w.heap.size w ((w1.setCell ⟨gb, k, none⟩ (.int .i64 0)).setRow (w.heap.size + 1) #[.int .i64 s, .slice (some ⟨gb, 0, none⟩) n c1, .slice Ar nr cr]) := setRow_below5 ((hbV.trans (hbw1.mono hbV.size)).setCell (show w.heap.size ≤ gb by omega) _) (by omega)
  refine bodyPost_ret (v := .agg #[.int .i64 s, .slice (some ⟨gb, 0, none⟩) n c1, .slice Ar nr cr]) (results_cell_row (by rfl) _ _ (w.heap.size + 1) 48 _ (0, 0) _ rfl (setRow_heap _ _ _ _ _ _ hr2) Try.underlying48 rfl (Hi.out _ _ _ _ _ _ _)) rfl ⟨_, _, rfl, (ho2.row5 (fun b hb => ?_)).mono (by omega), hBe⟩
  have := ho2.own_lo b hb
  omega
end Go.Proofs.Ytoejpodchlepiaa
set_option maxRecDepth 8000
namespace Go.Proofs.Ytoejpodchlepiaa
open Go.ChangeShapes Go.WideShapes Go.ChangeAt Go.RowKit

/-- the cell is one of the puzzle's, and given. -/
def givenB (n : Nat) (gi : List Int) (i : Int) : Bool := inr i 0 ((n : Int) - 1) && decide (0 < nth gi i.toNat)
def redB (s : Int) (n : Nat) (gi : List Int) (rs : List RuleM) (i : Int) : Bool := pvB s gi rs && givenB n gi i && oneB s n gi rs && oneB s n (gi.set i.toNat 0) rs
set_option maxHeartbeats 2000000 in
theorem specIsRedundant (s : Int) (Ag : Option Addr) (n cg Bg : Nat) (gi : List Int) (Ar : Option Addr) (nr cr Br : Nat) (rs : List RuleM) (i : Int) (w : World) (hp : PGs w s Ag n cg Bg gi Ar nr cr Br rs) :
    Calls Try.prog 142 #[.agg #[.int .i64 s, .slice Ag n cg, .slice Ar nr cr], .int .i64 i] w fun e w' => e = .returned (.bool (redB s n gi rs i)) ∧ Below w.heap.size w w' := by
  have hx0 := pbox_new w s Ag n cg Ar nr cr 48
  have hb0 : Below w.heap.size w (w.alloc (.cells #[.int .i64 s, .slice Ag n cg, .slice Ar nr cr] 48)) := (Below.refl _ _).alloc (Nat.le_refl _) _
  have hs0 : w.heap.size < (w.alloc (.cells #[.int .i64 s, .slice Ag n cg, .slice Ar nr cr] 48)).heap.size := by simp
  have HP := Lib.hid (fun w' (hb : Below w.heap.size w w') => specPuzzleValid s Ag n cg Bg gi Ar nr cr Br rs w' (hp.below hb).g (hp.below hb).gB hp.gm (hp.below hb).r (hp.below hb).rB hp.rm)
  have HO := Lib.hid (fun w' (hb : Below w.heap.size w w') => specOne s Ag n cg Bg gi Ar nr cr Br rs w' (hp.below hb))
  have hlen := Lib.hid hp.g.1
  have hm := hp.gm
  cases hv : pvB s gi rs
  · have HL := Lib.hid (show redB s n gi rs i = false by simp [redB, hv])
    go_enter Try.func142, Try.ntmps142
    go_wp2_with (go_at_call 54; refine (HP.out _ hb0).mono ?_; rintro e w1 ⟨rfl, hb1⟩; rw [hv]; have hB1 := step hb0 hb1; clear hb1)
    go_ret
    exact ⟨by rw [HL.out]; rfl, hB1⟩
  · cases hin : inr i 0 ((n : Int) - 1)
    · have HL := Lib.hid (show redB s n gi rs i = false by simp [redB, givenB, hin])
      have Hin := Lib.hid hin
      clear hin
      go_enter Try.func142, Try.ntmps142
      go_wp2_with (first | (go_at_call 54; refine (HP.out _ hb0).mono ?_; rintro e w1 ⟨rfl, hb1⟩; rw [hv]; have hB1 := step hb0 hb1; obtain ⟨d0, d1, d2⟩ := hx0.below hs0 hb1; clear hb1) | (go_at_call 79; refine (l1In_any _ _ _ _).mono ?_; rintro e w' ⟨rfl, rfl⟩; (rw [Hin.out])))
      go_ret
      exact ⟨by rw [HL.out]; rfl, hB1⟩
    · obtain ⟨k, rfl⟩ := Int.eq_ofNat_of_zero_le (show 0 ≤ i by simp [inr] at hin; omega)
      have hk : k < n := by simp [inr] at hin; omega
      have Hin := Lib.hid hin
      clear hin
      obtain ⟨b, off, rfl, hbB, hck⟩ := hp.g.at_ hk
      have hbw : b < w.heap.size := Nat.lt_of_lt_of_le hbB hp.gB
      have HW := Lib.hid (fun w' (hb : Below w.heap.size w w') => specWithout (Bg := Bg) s (some ⟨b, off, none⟩) n cg gi Ar nr cr k w' (hp.below hb).g (hp.below hb).gB hm hk)
      have HC := Lib.hid (fun w' (hb : Below w.heap.size w w') => ((hb.cell (p := ⟨b, off + k, none⟩) hbw).trans hck : w'.cell? ⟨b, off + k, none⟩ = some (.int .i64 (nth gi k))))
      by_cases hx : 0 < nth gi k
      · cases ho : oneB s n gi rs
        · have HL := Lib.hid (show redB s n gi rs k = false by simp [redB, ho])
          go_enter Try.func142, Try.ntmps142
          go_wp2_with (first | (go_at_call 54; refine (HP.out _ hb0).mono ?_; rintro e w1 ⟨rfl, hb1⟩; rw [hv]; have hB1 := step hb0 hb1; obtain ⟨d0, d1, d2⟩ := hx0.below hs0 hb1; have hck1 := HC.out _ hB1; clear hb1) | (go_at_call 79; refine (l1In_any _ _ _ _).mono ?_; rintro e w' ⟨rfl, rfl⟩; (rw [Hin.out])) | (go_at_call 141; refine (HO.out _ hB1).mono ?_; rintro e w2 ⟨rfl, hb2⟩; rw [ho]))
          go_ret
          exact ⟨by rw [HL.out]; rfl, step hB1 hb2⟩
        · cases ho2 : oneB s n (gi.set k 0) rs
          all_goals
            have HL := Lib.hid (show redB s n gi rs k = oneB s n (gi.set k 0) rs by simp [redB, givenB, hv, Hin.out, hx, ho])
            rw [ho2] at HL
            have HO2 := Lib.hid (fun w' (hb : Below w.heap.size w w') A' c' B' (h : Rd w' B' A' n (gi.set k 0)) (hB : B' ≤ w'.heap.size) => specOne s A' n c' B' (gi.set k 0) Ar nr cr Br rs w' ⟨h, hB, hm, (hp.below hb).r, (hp.below hb).rB, hp.rm⟩)
            go_enter Try.func142, Try.ntmps142
            go_wp2_with (first | (go_at_call 54; refine (HP.out _ hb0).mono ?_; rintro e w1 ⟨rfl, hb1⟩; rw [hv]; have hB1 := step hb0 hb1; obtain ⟨d0, d1, d2⟩ := hx0.below hs0 hb1; have hs1 := Nat.lt_of_lt_of_le hs0 hb1.size; have hck1 := HC.out _ hB1; clear hb1) | (go_at_call 79; refine (l1In_any _ _ _ _).mono ?_; rintro e w' ⟨rfl, rfl⟩; (rw [Hin.out])) | (go_at_call 143; refine (HW.out _ hB2).mono ?_; rintro e w3 ⟨A3, c3, rfl, ho3, hb3⟩; have hB3 := step hB2 hb3; clear hb3) | (go_at_call 141; refine (HO.out _ hB1).mono ?_; rintro e w2 ⟨rfl, hb2⟩; rw [ho]; have hB2 := step hB1 hb2; obtain ⟨e0, e1, e2⟩ := PBox.below ⟨d0, d1, d2⟩ hs1 hb2; clear hb2) | (go_at_call 141; refine (HO2.out _ hB3 _ _ _ ho3.rd (Nat.le_refl _)).mono ?_; rintro e w4 ⟨rfl, hb4⟩; rw [ho2]; have hB4 := step hB3 hb4; clear hb4))
            go_ret
            exact ⟨by rw [HL.out]; rfl, hB4⟩
      · have HL := Lib.hid (show redB s n gi rs k = false by simp [redB, givenB, hx])
        go_enter Try.func142, Try.ntmps142
        go_wp2_with (first | (go_at_call 54; refine (HP.out _ hb0).mono ?_; rintro e w1 ⟨rfl, hb1⟩; rw [hv]; have hB1 := step hb0 hb1; obtain ⟨d0, d1, d2⟩ := hx0.below hs0 hb1; have hck1 := HC.out _ hB1; clear hb1) | (go_at_call 79; refine (l1In_any _ _ _ _).mono ?_; rintro e w' ⟨rfl, rfl⟩; (rw [Hin.out])))
        go_ret
        exact ⟨by rw [HL.out]; rfl, hB1⟩
end Go.Proofs.Ytoejpodchlepiaa
