import Derived.Test.YtjdhfknoldginaaFP5R
import Derived.Test.YtjdhfknoldginaaFresh
import Derived.Deep.RegionHeld3
set_option maxRecDepth 8000
namespace Go.Proofs.Ytjdhfknoldginaa
open Go.ChangeShapes Go.WideShapes Go.ChangeAt Go.RowKit

/-- the first solutions, at most so many. -/
def allS (s : Int) (most n : Nat) (gi : List Int) (rs : List RuleM) : List (List Int) := if fpB s gi rs gi = true then s5 (fitB s gi rs) s.toNat most n gi 0 [] else []
theorem allS_len (s : Int) (most n : Nat) (gi : List Int) (rs : List RuleM) (h : 0 < most) : (allS s most n gi rs).length ≤ most := by
  unfold allS
  split
  · exact s5_len _ _ _ _ _ _ _ (by simpa using h)
  · exact Nat.zero_le _
/-- what a valid puzzle's own grid is. -/
theorem pv_grid {s : Int} {gi : List Int} {rs : List RuleM} {ng : Nat} (h : pvB s gi rs = true) (hl : gi.length = ng) : ∃ t : Nat, s = t ∧ t ∈ [2, 3, 4] ∧ (ng : Int) = (t : Int) * t ∧ ng ≤ 16 ∧ okAll gi t ng := by
  obtain ⟨hgi, _, _⟩ := pv_gv h
  obtain ⟨s2, s4⟩ := gv_size hgi
  obtain ⟨t, rfl⟩ := Int.eq_ofNat_of_zero_le (by omega : 0 ≤ s)
  have hs : t ∈ [2, 3, 4] := by
    have : t = 2 ∨ t = 3 ∨ t = 4 := by omega
    simpa using this
  have e1 := gv_len hgi
  rw [hl] at e1
  refine ⟨t, rfl, hs, e1, by have := (sq_bd s2 s4).2; omega, fun i hi => gv_nth hgi (by rw [hl]; exact hi)⟩
set_option maxHeartbeats 2000000 in
theorem specAll (s : Int) (most : Nat) (Ag : Option Addr) (n cg Bg : Nat) (gi : List Int) (Ar : Option Addr) (nr cr Br : Nat) (rs : List RuleM) (w : World) (hp : PGs w s Ag n cg Bg gi Ar nr cr Br rs) (h0 : 0 < most) (h1 : most ≤ 1000) :
    Calls Try.prog 47 #[.agg #[.int .i64 s, .slice Ag n cg, .slice Ar nr cr], .int .i64 most] w fun e w' => ∃ P v, e = .returned v ∧ Rows_ w' (w.heap.size + 1) P v (allS s most n gi rs) n ∧ Below w.heap.size w w' := by
  have hx0 := pbox_new w s Ag n cg Ar nr cr 26
  have hb0 : Below w.heap.size w (w.alloc (.cells #[.int .i64 s, .slice Ag n cg, .slice Ar nr cr] 26)) := (Below.refl _ _).alloc (Nat.le_refl _) _
  have hs0 : w.heap.size < (w.alloc (.cells #[.int .i64 s, .slice Ag n cg, .slice Ar nr cr] 26)).heap.size := by simp
  have HF := Lib.hid (fun w' (hb : Below w.heap.size w w') => specPuzzleFits s Ag n cg Bg gi Ar nr cr Br rs Ag n cg Bg gi w' (hp.below hb) (hp.below hb).g (hp.below hb).gB hp.gm)
  obtain ⟨U, hU⟩ : ∃ U, U = ((w.alloc (.cells #[.int .i64 s, .slice Ag n cg, .slice Ar nr cr] 26)).alloc (.cells #[] 23)).alloc (.cells #[.slice (some ⟨w.heap.size + 1, 0, none⟩) 0 0] 65) := ⟨_, rfl⟩
  have hbU : Below w.heap.size w U := by rw [hU]; exact (hb0.alloc hb0.size _).alloc (by simp; omega) _
  have hsU : U.heap.size = w.heap.size + 1 + 1 + 1 := by rw [hU]; simp
  have hwU : w.heap.size < U.heap.size := by omega
  obtain ⟨c0, c1, c2⟩ : PBox U w.heap.size s Ag n cg Ar nr cr := by
    rw [hU]
    exact hx0.below hs0 (((Below.refl _ _).alloc (Nat.le_refl _) _).alloc (by simp) _)
  have hout : Out_ U (w.heap.size + 1 + 1) (.slice (some ⟨w.heap.size + 1, 0, none⟩) 0 0) := by
    have := heap_alloc_new ((w.alloc (.cells #[.int .i64 s, .slice Ag n cg, .slice Ar nr cr] 26)).alloc (.cells #[] 23)) (.cells #[.slice (some ⟨w.heap.size + 1, 0, none⟩) 0 0] 65)
    rw [World.size_alloc, World.size_alloc] at this
    unfold Out_
    rw [hU]
    exact this
  have hrows : Rows_ U (w.heap.size + 1) (w.heap.size + 1 + 1) (.slice (some ⟨w.heap.size + 1, 0, none⟩) 0 0) [] n := by
    refine ⟨some ⟨w.heap.size + 1, 0, none⟩, 0, [], rfl, ?_, by simp [Value.ownBlock], fun i hi => absurd hi (by simp)⟩
    have h : ((w.alloc (.cells #[.int .i64 s, .slice Ag n cg, .slice Ar nr cr] 26)).alloc (.cells #[] 23)).ownsRow (w.heap.size + 1) 23 1 (.slice (some ⟨(w.alloc (.cells #[.int .i64 s, .slice Ag n cg, .slice Ar nr cr] 26)).heap.size, 0, none⟩) 0 0) 0 [] := World.ownsRow_made _ #[] 0 (by simp) (by simp [maxLen]) rfl
    rw [World.size_alloc] at h
    rw [hU]
    exact World.ownsRow.alloc h _
  cases hf : fpB s gi rs gi
  · have HL := Lib.hid (show allS s most n gi rs = [] by simp [allS, hf])
    go_enter Try.func47, Try.ntmps47
    go_wp2_with (go_at_call 7; (rw [← hU]; refine (HF.out _ hbU).mono ?_); rintro e w1 ⟨rfl, hb1⟩; rw [hf]; have hout1 : Out_ w1 _ _ := (hb1.block _ hout.lt).trans hout; have hoc := hout1.cell)
    go_ret
    exact ⟨_, _, rfl, by rw [HL.out]; exact hrows.below hb1, step hbU hb1⟩
  · obtain ⟨t, rfl, hs, hn', hn16, hok'⟩ := pv_grid (show pvB s gi rs = true by simp only [fpB, Bool.and_eq_true] at hf; exact hf.1.1) hp.g.1
    have hn := Lib.hid hn'
    have hok := Lib.hid hok'
    clear hn' hok'
    have Hne : Hid (∀ b' off' : Nat, Ag = some ⟨b', off', none⟩ → b' ≠ w.heap.size + 1 + 1 ∧ (Value.slice (some ⟨w.heap.size + 1, 0, none⟩) 0 0).ownBlock ≠ some b') := Lib.hid (fun b' off' e => by
      obtain ⟨b, off, hA, hbB, _⟩ := hp.g.at_ (k := 0) (by have := hn.out; simp at hs; rcases hs with h | h | h <;> subst h <;> omega)
      rw [hA] at e
      cases e
      have := hp.gB
      exact ⟨by omega, by simp only [Value.ownBlock]; intro e; injection e with e; omega⟩)
    have HS := Lib.hid (fun w' (hb : Below U.heap.size U w') => specSearch5 t Ag n cg Bg gi Ar nr cr Br rs hs hn hn16 (w.heap.size + 1 + 1) (w.heap.size + 1) most (Nat.le_trans hp.gB (Nat.le_succ _)) (Nat.le_trans hp.rB (Nat.le_succ _)) (Nat.le_succ _) hp.rm h1 n Ag cg Bg gi 0 (.slice (some ⟨w.heap.size + 1, 0, none⟩) 0 0) [] w' (Nat.sub_zero _) (Nat.zero_le _) ((hp.below hbU).below hb).g ((hp.below hbU).below hb).r ((hp.below hbU).below hb).g ((hp.below hbU).below hb).gB Hne.out hok ((hb.block _ hout.lt).trans hout) (hrows.below hb) (by simpa using h0) (by have := hb.size; omega))
    have HL := Lib.hid (show allS t most n gi rs = s5 (fitB t gi rs) t most n gi 0 [] by simp [allS, hf])
    go_enter Try.func47, Try.ntmps47
    go_wp2_with (first | (go_at_call 7; (rw [← hU]; refine (HF.out _ hbU).mono ?_); (rintro e w1 ⟨rfl, hb1⟩; rw [hf]); obtain ⟨d0, d1, d2⟩ : PBox w1 w.heap.size t Ag n cg Ar nr cr := PBox.below ⟨c0, c1, c2⟩ hwU hb1) | (go_at_call 62; (refine (HS.out _ hb1).mono ?_); (rintro e w2 ⟨rfl, v2, hout2, hrows2, hchg2⟩); have hoc := hout2.cell))
    go_ret
    refine ⟨_, _, rfl, by rw [HL.out]; exact hrows2, (step hbU hb1).trans (hchg2.below (lo := w.heap.size + 1) (fun g hg => ?_) (by omega) (by omega) (by have := hb1.size; omega))⟩
    simp only [Value.ownBlock] at hg
    injection hg with hg
    omega
end Go.Proofs.Ytjdhfknoldginaa
set_option maxRecDepth 8000
namespace Go.Proofs.Ytjdhfknoldginaa
open Go.ChangeShapes Go.WideShapes Go.ChangeAt Go.RowKit


def oneB (s : Int) (n : Nat) (gi : List Int) (rs : List RuleM) : Bool := (allS s 2 n gi rs).length == 1
set_option maxHeartbeats 1000000 in
theorem specOne (s : Int) (Ag : Option Addr) (n cg Bg : Nat) (gi : List Int) (Ar : Option Addr) (nr cr Br : Nat) (rs : List RuleM) (w : World) (hp : PGs w s Ag n cg Bg gi Ar nr cr Br rs) :
    Calls Try.prog 67 #[.agg #[.int .i64 s, .slice Ag n cg, .slice Ar nr cr]] w fun e w' => e = .returned (.bool (oneB s n gi rs)) ∧ Below w.heap.size w w' := by
  have hx0 := pbox_new w s Ag n cg Ar nr cr 26
  have hb0 : Below w.heap.size w (w.alloc (.cells #[.int .i64 s, .slice Ag n cg, .slice Ar nr cr] 26)) := (Below.refl _ _).alloc (Nat.le_refl _) _
  have HA := Lib.hid (fun w' (hb : Below w.heap.size w w') => (show Calls Try.prog 47 #[.agg #[.int .i64 s, .slice Ag n cg, .slice Ar nr cr], .int .i64 2] w' _ from specAll s 2 Ag n cg Bg gi Ar nr cr Br rs w' (hp.below hb) (by omega) (by omega)))
  have hL := allS_len s 2 n gi rs (by omega)
  have HQ := Lib.hid (show (((allS s 2 n gi rs).length : Int) == 1) = oneB s n gi rs by
    unfold oneB
    rw [Bool.eq_iff_iff]
    simp only [beq_iff_eq]
    omega)
  go_enter Try.func67, Try.ntmps67
  go_wp2_with (go_at_call 47; (refine (HA.out _ hb0).mono ?_); rintro e w1 ⟨P, v, rfl, hrows, hb1⟩; obtain ⟨A1, c1, vs, rfl, _⟩ := hrows)
  go_ret
  exact ⟨by rw [HQ.out]; rfl, step hb0 hb1⟩
set_option maxHeartbeats 1000000 in
theorem specWithout (s : Int) (Ag : Option Addr) (n cg Bg : Nat) (gi : List Int) (Ar : Option Addr) (nr cr : Nat) (k : Nat) (w : World) (hg : Rd w Bg Ag n gi) (hB : Bg ≤ w.heap.size) (hm : n ≤ 1099511627776) (hk : k < n) :
    Calls Try.prog 69 #[.agg #[.int .i64 s, .slice Ag n cg, .slice Ar nr cr], .int .i64 k] w fun e w' => ∃ A' c', e = .returned (.agg #[.int .i64 s, .slice A' n c', .slice Ar nr cr]) ∧ Ow w' w.heap.size A' n c' (gi.set k 0) ∧ Below w.heap.size w w' := by
  have hx0 := pbox_new w s Ag n cg Ar nr cr 26
  have hb0 : Below w.heap.size w (w.alloc (.cells #[.int .i64 s, .slice Ag n cg, .slice Ar nr cr] 26)) := (Below.refl _ _).alloc (Nat.le_refl _) _
  have hs0 : w.heap.size < (w.alloc (.cells #[.int .i64 s, .slice Ag n cg, .slice Ar nr cr] 26)).heap.size := by simp
  obtain ⟨b, off, rfl, hbB, _⟩ := hg.at_ hk
  have hn0 : 0 < n := by omega
  obtain ⟨V, hV⟩ : ∃ V, V = (w.alloc (.cells #[.int .i64 s, .slice (some ⟨b, off, none⟩) n cg, .slice Ar nr cr] 26)).alloc (.cells #[.int .i64 0, .slice none 0 0, .slice none 0 0] 26) := ⟨_, rfl⟩
  have hbV : Below w.heap.size w V := by rw [hV]; exact hb0.alloc hb0.size _
  have hsV : V.heap.size = w.heap.size + 1 + 1 := by rw [hV]; simp
  have hwV : w.heap.size < V.heap.size := by omega
  have hwV1 : w.heap.size + 1 < V.heap.size := by omega
  obtain ⟨c0, c1', c2⟩ : PBox V w.heap.size s (some ⟨b, off, none⟩) n cg Ar nr cr := by
    rw [hV]
    exact hx0.below hs0 ((Below.refl _ _).alloc (Nat.le_refl _) _)
  have hrow : V.heap[w.heap.size + 1]? = some (.cells #[.int .i64 0, .slice none 0 0, .slice none 0 0] 26) := by rw [hV]; exact heap_alloc2_new w _ _
  have HO : Hid (Ow (V.alloc (.cells #[] 3)) (w.heap.size + 1 + 1) (some ⟨w.heap.size + 1 + 1, 0, none⟩) 0 0 []) := Lib.hid (by
    have := Ow.made0 V (w.heap.size + 1 + 1) (by omega)
    rw [hsV] at this
    exact this)
  have hbO : Below V.heap.size V (V.alloc (.cells #[] 3)) := (Below.refl _ _).alloc (Nat.le_refl _) _
  have HR := Lib.hid ((hg.below (hbV.mono hB)).below (hbO.mono (Nat.le_trans hB (Nat.le_of_lt hwV))))
  have hsO : w.heap.size + 1 + 1 ≤ (V.alloc (.cells #[] 3)).heap.size := by simp; omega
  have Hone := Lib.hid puz_one
  have Hi := Lib.hid puz_info
  go_enter Try.func69, Try.ntmps69
  go_wp2_with (first
    | (at_builtin; (rw [← hV]); (refine push_some rfl (.tmp 6) (.tmp 8) rfl (w.heap.size + 1 + 1) (some ⟨w.heap.size + 1 + 1, 0, none⟩) 0 0 [] b off n cg Bg gi rfl rfl HO.out HR.out (by omega) hm hsO ?_); intro A1 c1 w1 ho1 hg1; simp only [Nat.zero_add, List.nil_append] at ho1; (obtain ⟨gb, rfl, hlog, hgw1⟩ := ho1.form hn0); (obtain ⟨hcq, hfq⟩ := ho1.cell hk); have hbw1 : Below V.heap.size V w1 := hbO.grown hg1 hbO.size (fun k hk => Nat.le_trans (Nat.le_of_eq hsV) (HO.out.own_lo k hk)); have hgb0 : w.heap.size ≠ gb := Nat.ne_of_lt (Nat.lt_of_lt_of_le (Nat.lt_of_lt_of_le (Nat.lt_succ_self _) (Nat.le_succ _)) hlog); have hgb1 : w.heap.size + 1 ≠ gb := Nat.ne_of_lt hlog; (have d0 := (cell_other5 (k := k) (v := .int .i64 0) hgb0).trans ((hbw1.cell (p := ⟨w.heap.size, 0, none⟩) hwV).trans c0)); have d2 := (cell_other5 (k := k) (v := .int .i64 0) hgb0).trans ((hbw1.cell (p := ⟨w.heap.size, 2, none⟩) hwV).trans c2); (have hr2 := (heap_setCell_other w1 ⟨gb, k, none⟩ (w.heap.size + 1) (.int .i64 0) hgb1).trans ((hbw1.block (w.heap.size + 1) hwV1).trans hrow)))
    | ((refine wpList_store_row rfl 26 _ _ rfl (w.heap.size + 1) #[.int .i64 s, .slice (some ⟨gb, 0, none⟩) n c1, .slice Ar nr cr] rfl rfl 26 #[.int .i64 0, .slice none 0 0, .slice none 0 0] hr2 (Hi.out _ _ _ _ _ _ _) rfl (Hone.out _ _ _ _ _ _ _) ?_)))
  have ho2 : Ow (w1.setCell ⟨gb, k, none⟩ (.int .i64 0)) (w.heap.size + 1 + 1) (some ⟨gb, 0, none⟩) n c1 (gi.set k 0) := by
    have := (World.ownsRow.stored ho1 k (.int .i64 0)).1
    rw [vals_set] at this
    exact this
  have hBe : Below w.heap.size w ((w1.setCell ⟨gb, k, none⟩ (.int .i64 0)).setRow (w.heap.size + 1) #[.int .i64 s, .slice (some ⟨gb, 0, none⟩) n c1, .slice Ar nr cr]) := setRow_below5 ((hbV.trans (hbw1.mono hbV.size)).setCell (show w.heap.size ≤ gb by omega) _) (by omega)
  refine bodyPost_ret (v := .agg #[.int .i64 s, .slice (some ⟨gb, 0, none⟩) n c1, .slice Ar nr cr]) (results_cell_row (by rfl) _ _ (w.heap.size + 1) 26 _ (0, 0) _ rfl (setRow_heap _ _ _ _ _ _ hr2) Try.underlying26 rfl (Hi.out _ _ _ _ _ _ _)) rfl ⟨_, _, rfl, (ho2.row5 (fun b hb => ?_)).mono (by omega), hBe⟩
  have := ho2.own_lo b hb
  omega
end Go.Proofs.Ytjdhfknoldginaa
set_option maxRecDepth 8000
namespace Go.Proofs.Ytjdhfknoldginaa
open Go.ChangeShapes Go.WideShapes Go.ChangeAt Go.RowKit

/-- the cell is one of the puzzle's, and given. -/
def givenB (n : Nat) (gi : List Int) (i : Int) : Bool := inr i 0 ((n : Int) - 1) && decide (0 < nth gi i.toNat)
def redB (s : Int) (n : Nat) (gi : List Int) (rs : List RuleM) (i : Int) : Bool := pvB s gi rs && givenB n gi i && oneB s n gi rs && oneB s n (gi.set i.toNat 0) rs
set_option maxHeartbeats 2000000 in
theorem specIsRedundant (s : Int) (Ag : Option Addr) (n cg Bg : Nat) (gi : List Int) (Ar : Option Addr) (nr cr Br : Nat) (rs : List RuleM) (i : Int) (w : World) (hp : PGs w s Ag n cg Bg gi Ar nr cr Br rs) :
    Calls Try.prog 68 #[.agg #[.int .i64 s, .slice Ag n cg, .slice Ar nr cr], .int .i64 i] w fun e w' => e = .returned (.bool (redB s n gi rs i)) ∧ Below w.heap.size w w' := by
  have hx0 := pbox_new w s Ag n cg Ar nr cr 26
  have hb0 : Below w.heap.size w (w.alloc (.cells #[.int .i64 s, .slice Ag n cg, .slice Ar nr cr] 26)) := (Below.refl _ _).alloc (Nat.le_refl _) _
  have hs0 : w.heap.size < (w.alloc (.cells #[.int .i64 s, .slice Ag n cg, .slice Ar nr cr] 26)).heap.size := by simp
  have HP := Lib.hid (fun w' (hb : Below w.heap.size w w') => specPuzzleValid s Ag n cg Bg gi Ar nr cr Br rs w' (hp.below hb).g (hp.below hb).gB hp.gm (hp.below hb).r (hp.below hb).rB hp.rm)
  have HO := Lib.hid (fun w' (hb : Below w.heap.size w w') => specOne s Ag n cg Bg gi Ar nr cr Br rs w' (hp.below hb))
  have hlen := Lib.hid hp.g.1
  have hm := hp.gm
  cases hv : pvB s gi rs
  · have HL := Lib.hid (show redB s n gi rs i = false by simp [redB, hv])
    go_enter Try.func68, Try.ntmps68
    go_wp2_with (go_at_call 13; refine (HP.out _ hb0).mono ?_; rintro e w1 ⟨rfl, hb1⟩; rw [hv]; have hB1 := step hb0 hb1; clear hb1)
    go_ret
    exact ⟨by rw [HL.out]; rfl, hB1⟩
  · cases hin : inr i 0 ((n : Int) - 1)
    · have HL := Lib.hid (show redB s n gi rs i = false by simp [redB, givenB, hin])
      have Hin := Lib.hid hin
      clear hin
      go_enter Try.func68, Try.ntmps68
      go_wp2_with (first | (go_at_call 13; refine (HP.out _ hb0).mono ?_; rintro e w1 ⟨rfl, hb1⟩; rw [hv]; have hB1 := step hb0 hb1; obtain ⟨d0, d1, d2⟩ := hx0.below hs0 hb1; clear hb1) | (go_at_call 31; refine (l1In_any _ _ _ _).mono ?_; rintro e w' ⟨rfl, rfl⟩; (rw [Hin.out])))
      go_ret
      exact ⟨by rw [HL.out]; rfl, hB1⟩
    · obtain ⟨k, rfl⟩ := Int.eq_ofNat_of_zero_le (show 0 ≤ i by simp [inr] at hin; omega)
      have hk : k < n := by simp [inr] at hin; omega
      have Hin := Lib.hid hin
      clear hin
      obtain ⟨b, off, rfl, hbB, hck⟩ := hp.g.at_ hk
      have hbw : b < w.heap.size := Nat.lt_of_lt_of_le hbB hp.gB
      have HW := Lib.hid (fun w' (hb : Below w.heap.size w w') => specWithout (Bg := Bg) s (some ⟨b, off, none⟩) n cg gi Ar nr cr k w' (hp.below hb).g (hp.below hb).gB hm hk)
      have HC := Lib.hid (fun w' (hb : Below w.heap.size w w') => ((hb.cell (p := ⟨b, off + k, none⟩) hbw).trans hck : w'.cell? ⟨b, off + k, none⟩ = some (.int .i64 (nth gi k))))
      by_cases hx : 0 < nth gi k
      · cases ho : oneB s n gi rs
        · have HL := Lib.hid (show redB s n gi rs k = false by simp [redB, ho])
          go_enter Try.func68, Try.ntmps68
          go_wp2_with (first | (go_at_call 13; refine (HP.out _ hb0).mono ?_; rintro e w1 ⟨rfl, hb1⟩; rw [hv]; have hB1 := step hb0 hb1; obtain ⟨d0, d1, d2⟩ := hx0.below hs0 hb1; have hck1 := HC.out _ hB1; clear hb1) | (go_at_call 31; refine (l1In_any _ _ _ _).mono ?_; rintro e w' ⟨rfl, rfl⟩; (rw [Hin.out])) | (go_at_call 67; refine (HO.out _ hB1).mono ?_; rintro e w2 ⟨rfl, hb2⟩; rw [ho]))
          go_ret
          exact ⟨by rw [HL.out]; rfl, step hB1 hb2⟩
        · cases ho2 : oneB s n (gi.set k 0) rs
          all_goals
            have HL := Lib.hid (show redB s n gi rs k = oneB s n (gi.set k 0) rs by simp [redB, givenB, hv, Hin.out, hx, ho])
            rw [ho2] at HL
            have HO2 := Lib.hid (fun w' (hb : Below w.heap.size w w') A' c' B' (h : Rd w' B' A' n (gi.set k 0)) (hB : B' ≤ w'.heap.size) => specOne s A' n c' B' (gi.set k 0) Ar nr cr Br rs w' ⟨h, hB, hm, (hp.below hb).r, (hp.below hb).rB, hp.rm⟩)
            go_enter Try.func68, Try.ntmps68
            go_wp2_with (first | (go_at_call 13; refine (HP.out _ hb0).mono ?_; rintro e w1 ⟨rfl, hb1⟩; rw [hv]; have hB1 := step hb0 hb1; obtain ⟨d0, d1, d2⟩ := hx0.below hs0 hb1; have hs1 := Nat.lt_of_lt_of_le hs0 hb1.size; have hck1 := HC.out _ hB1; clear hb1) | (go_at_call 31; refine (l1In_any _ _ _ _).mono ?_; rintro e w' ⟨rfl, rfl⟩; (rw [Hin.out])) | (go_at_call 69; refine (HW.out _ hB2).mono ?_; rintro e w3 ⟨A3, c3, rfl, ho3, hb3⟩; have hB3 := step hB2 hb3; clear hb3) | (go_at_call 67; refine (HO.out _ hB1).mono ?_; rintro e w2 ⟨rfl, hb2⟩; rw [ho]; have hB2 := step hB1 hb2; obtain ⟨e0, e1, e2⟩ := PBox.below ⟨d0, d1, d2⟩ hs1 hb2; clear hb2) | (go_at_call 67; refine (HO2.out _ hB3 _ _ _ ho3.rd (Nat.le_refl _)).mono ?_; rintro e w4 ⟨rfl, hb4⟩; rw [ho2]; have hB4 := step hB3 hb4; clear hb4))
            go_ret
            exact ⟨by rw [HL.out]; rfl, hB4⟩
      · have HL := Lib.hid (show redB s n gi rs k = false by simp [redB, givenB, hx])
        go_enter Try.func68, Try.ntmps68
        go_wp2_with (first | (go_at_call 13; refine (HP.out _ hb0).mono ?_; rintro e w1 ⟨rfl, hb1⟩; rw [hv]; have hB1 := step hb0 hb1; obtain ⟨d0, d1, d2⟩ := hx0.below hs0 hb1; have hck1 := HC.out _ hB1; clear hb1) | (go_at_call 31; refine (l1In_any _ _ _ _).mono ?_; rintro e w' ⟨rfl, rfl⟩; (rw [Hin.out])))
        go_ret
        exact ⟨by rw [HL.out]; rfl, hB1⟩
end Go.Proofs.Ytjdhfknoldginaa
set_option maxRecDepth 8000
namespace Go.Proofs.Ytjdhfknoldginaa
open Go.ChangeShapes Go.WideShapes Go.ChangeAt Go.RowKit
/-- what is given, less what is redundant among the first k cells. -/
def minL (s : Int) (n : Nat) (rs : List RuleM) (gi : List Int) : Nat → List Int
  | 0 => gi
  | k + 1 => if redB s n (minL s n rs gi k) rs k = true then (minL s n rs gi k).set k 0 else minL s n rs gi k
theorem minL_length (s : Int) (n : Nat) (rs : List RuleM) (gi : List Int) (k : Nat) : (minL s n rs gi k).length = gi.length := by
  induction k with
  | zero => rfl
  | succ k ih => unfold minL; split <;> simp [ih]
theorem OwR.past {w0 w w' : World} {lo X k : Nat} {v : Value} {rs : List RuleM} (h : OwR w0 lo v rs k) (hb : Below w0.heap.size w0 w) (hg : w.grownBy w' (some X)) (hX : w0.heap.size ≤ X) : OwR w' lo v rs k := by
  obtain ⟨vs, hown, hin⟩ := id h
  obtain ⟨vs', hown', hin'⟩ := h.below hb
  have hv : ∀ b, v.ownBlock = some b → b ≠ X := fun b hbb e => by have := (World.ownsRow.lt hown b hbb).2; omega
  refine ⟨vs, World.ownsRow.kept (World.ownsRow.kept hown (row := none) ⟨hb.os, hb.tape, hb.output, hb.size, fun k hk _ => hb.block k hk⟩ (by cases e : v.ownBlock <;> simp)) hg (by
    cases e : v.ownBlock
    · exact .inl rfl
    · exact .inr (fun e2 => hv _ e (Option.some.inj e2))), fun i hi => ?_⟩
  obtain ⟨A', c', e0, e1, e2, e3, e4, e5⟩ := hin i hi
  exact ⟨A', c', e0, e1, e2, Ow.far (Ow.below e3 hb) hg (fun b hbb e => by have := (World.ownsRow.lt e3 b hbb).2; have := Option.some.inj e; omega), e4, e5⟩
theorem OwR.keptL {w w' : World} {lo G k : Nat} {v : Value} {rs : List RuleM} (h : OwR w lo v rs k) (hg : w.grownBy w' (some G)) (hG : G < lo) : OwR w' lo v rs k := by
  obtain ⟨vs, hown, hin⟩ := h
  refine ⟨vs, World.ownsRow.kept hown hg (by
    cases e : v.ownBlock
    · exact .inl rfl
    · refine .inr (fun e2 => ?_)
      have h1 := (World.ownsRow.lt hown _ e).1
      have h2 := Option.some.inj e2
      omega), fun i hi => ?_⟩
  obtain ⟨A', c', e0, e1, e2, e3, e4, e5⟩ := hin i hi
  exact ⟨A', c', e0, e1, e2, Ow.far e3 hg (fun g hgg e => by have h1 := e3.own_lo g hgg; have h2 := Option.some.inj e; omega), e4, e5⟩
theorem grown_setRow5 {w : World} {g : Nat} {cs : Array Value} : w.grownBy (w.setRow g cs) (some g) :=
  ⟨rfl, rfl, rfl, by simp, fun k hk hne => by unfold World.setRow; simp only [Array.getElem?_modify]; rw [if_neg (fun e => hne (by rw [e]))]⟩
theorem ownsRow_setX {w : World} {lo sz n X : Nat} {e t : TypeId} {v : Value} {xs : List Value} {cs cs' : Array Value} (h : w.ownsRow lo e sz v n xs) (hX : w.heap[X]? = some (.cells cs t)) (hne : t ≠ e) : (w.setRow X cs').ownsRow lo e sz v n xs := by
  refine World.ownsRow.kept h grown_setRow5 ?_
  rcases h.2 with ⟨rfl, _⟩ | ⟨g, cap, cur, rfl, hb, hg, _⟩
  · exact .inl rfl
  · refine .inr (fun e2 => ?_)
    have e3 : g = X := by simpa [Value.ownBlock] using e2
    subst e3
    rw [hX] at hg
    injection hg with hg
    injection hg with _ h2 _
    exact hne h2
theorem Ow.setX {w : World} {lo n c X : Nat} {A : Option Addr} {xs : List Int} {cs cs' : Array Value} (h : Ow w lo A n c xs) (hX : w.heap[X]? = some (.cells cs 26)) : Ow (w.setRow X cs') lo A n c xs := ownsRow_setX h hX (by decide)
theorem OwR.setX {w : World} {lo k X : Nat} {v : Value} {rs : List RuleM} {cs cs' : Array Value} (h : OwR w lo v rs k) (hX : w.heap[X]? = some (.cells cs 26)) : OwR (w.setRow X cs') lo v rs k := by
  obtain ⟨vs, hown, hin⟩ := h
  refine ⟨vs, ownsRow_setX hown hX (by decide), fun i hi => ?_⟩
  obtain ⟨A', c', e0, e1, e2, e3, e4, e5⟩ := hin i hi
  exact ⟨A', c', e0, e1, e2, e3.setX hX, e4, e5⟩
theorem SpQ.setX {w : World} {lo k X : Nat} {v : Value} {Q : Nat → Prop} {cs cs' : Array Value} (h : SpQ w lo v k Q) (hX : w.heap[X]? = some (.cells cs 26)) : SpQ (w.setRow X cs') lo v k Q := h.map fun _ hown => ownsRow_setX hown hX (by decide)
theorem SpQ.mono {w : World} {lo lo' k : Nat} {v : Value} {Q : Nat → Prop} (h : SpQ w lo v k Q) (hl : lo' ≤ lo) : SpQ w lo' v k Q := by
  obtain ⟨vs, h1, h2⟩ := h
  exact ⟨vs, World.ownsRow.mono h1 hl, h2⟩
theorem results_row_tmp {P : Program} {fn : Func} {p q : Tmp} {ty : TypeId} (h : fn.results = #[.cell p ty, .tmp q]) (tmps : Array Value) (w : World) (g : Nat) (t : TypeId) (cs : Array Value) (fr : Nat × Nat) (d : TypeDesc) (b : Value)
    (hp : tmps.getD p undef = .pointer (some ⟨g, 0, none⟩)) (hq : tmps.getD q undef = b) (hg : w.heap[g]? = some (.cells cs t fr))
    (hu : P.underlying ty = some d) (hd : (match d with | .struct _ | .array _ _ => true | _ => false) = true) (hi : (P.info? ty).map (·.size) = some cs.size) :
    (results fn tmps).run P w = .ok (.tuple #[.agg cs, b]) w := by
  have hp' : tmps[p]?.getD undef = .pointer (some ⟨g, 0, none⟩) := by simpa using hp
  have hq' : tmps[q]?.getD undef = b := by simpa using hq
  simp [results, h, hp', hq', asAddr, run_loadVar_row w g t ty cs fr d hg hu hd hi]
def MinPost (s : Int) (n : Nat) (gi : List Int) (nr : Nat) (rs : List RuleM) (w : World) (e : Ending) (w' : World) : Prop :=
  Below w.heap.size w w' ∧ ((e = .returned (.tuple #[.agg #[.int .i64 0, .slice none 0 0, .slice none 0 0], .bool false]) ∧ (pvB s gi rs && oneB s n gi rs) = false) ∨
    ((pvB s gi rs && oneB s n gi rs) = true ∧ ∃ A1 c1 A2 c2 K, e = .returned (.tuple #[.agg #[.int .i64 s, .slice A1 n c1, .slice A2 nr c2], .bool true]) ∧ Ow w' K A1 n c1 (minL s n rs gi n) ∧ w.heap.size ≤ K ∧ OwR w' w.heap.size (.slice A2 nr c2) rs nr ∧ SpQ w' w.heap.size (.slice A2 nr c2) nr (fun g => g < K)))
/-- what the values of 'impl.Puzzle{Size: .., Given: append([]int{}, ..), Rules: append([]impl.Rule{}, ..)}' are, in the order of the text. -/
def MakeG (P lo K n : Nat) (s : Int) (A1 : Option Addr) (c1 : Nat) (A2 : Option Addr) (nr c2 : Nat) (gi : List Int) (rs : List RuleM) : Nat → Value → World → Prop
  | 0, v, _ => v = .pointer (some ⟨P, 0, none⟩)
  | 1, v, _ => v = .int .i64 s
  | 2, v, _ => ∃ b, v = .slice (some ⟨b, 0, none⟩) 0 0
  | 3, v, _ => v = .pointer (some ⟨P, 1, none⟩)
  | 4, v, _ => v = .slice A1 n c1
  | 5, v, w => ∃ A' c', v = .slice A' n c' ∧ Ow w K A' n c' gi
  | 6, v, w => ∃ b, v = .slice (some ⟨b, 0, none⟩) 0 0 ∧ w.heap[b]? = some (.cells #[] 36) ∧ lo ≤ b
  | 7, v, _ => v = .pointer (some ⟨P, 2, none⟩)
  | 8, v, _ => v = .slice A2 nr c2
  | 9, v, w => ∃ A' c', v = .slice A' nr c' ∧ OwR w lo (.slice A' nr c') rs nr ∧ SpQ w lo (.slice A' nr c') nr (fun g => g < K)
  | 10, v, w => ∃ A' c' A'' c'', v = .agg #[.int .i64 s, .slice A' n c', .slice A'' nr c''] ∧ Ow w K A' n c' gi ∧ OwR w lo (.slice A'' nr c'') rs nr ∧ SpQ w lo (.slice A'' nr c'') nr (fun g => g < K)
  | 11, v, w => ∃ X, v = .pointer (some ⟨X, 0, none⟩) ∧ w.heap[X]? = some (.cells #[.int .i64 0, .slice none 0 0, .slice none 0 0] 26) ∧ lo ≤ X
  | _, _, _ => True
theorem makeG_below {P lo K n : Nat} {s : Int} {A1 : Option Addr} {c1 : Nat} {A2 : Option Addr} {nr c2 : Nat} {gi : List Int} {rs : List RuleM} (j : Nat) (v : Value) (w w' : World) (hb : Below w.heap.size w w') (h : MakeG P lo K n s A1 c1 A2 nr c2 gi rs j v w) : MakeG P lo K n s A1 c1 A2 nr c2 gi rs j v w' := by
  match j, h with
  | 0, h => exact h
  | 1, h => exact h
  | 2, h => exact h
  | 3, h => exact h
  | 4, h => exact h
  | 5, ⟨A', c', e, h⟩ => exact ⟨A', c', e, h.below hb⟩
  | 6, ⟨b, e, h, hl⟩ => exact ⟨b, e, (hb.block b (Array.getElem?_eq_some_iff.1 h).1).trans h, hl⟩
  | 7, h => exact h
  | 8, h => exact h
  | 9, ⟨A', c', e, h, h2⟩ => exact ⟨A', c', e, h.below hb, h2.below hb⟩
  | 10, ⟨A', c', A'', c'', e, h, h', h2⟩ => exact ⟨A', c', A'', c'', e, h.below hb, h'.below hb, h2.below hb⟩
  | 11, ⟨X, e, h, hl⟩ => exact ⟨X, e, (hb.block X (Array.getElem?_eq_some_iff.1 h).1).trans h, hl⟩
  | _ + 12, h => exact h
set_option maxHeartbeats 2000000 in
theorem specMakeMinimal (s : Int) (Ag : Option Addr) (n cg Bg : Nat) (gi : List Int) (Ar : Option Addr) (nr cr Br : Nat) (rs : List RuleM) (w : World) (hp : PGs w s Ag n cg Bg gi Ar nr cr Br rs) (hm2 : nr ≤ 1099511627775) :
    Calls Try.prog 56 #[.agg #[.int .i64 s, .slice Ag n cg, .slice Ar nr cr]] w (MinPost s n gi nr rs w) := by
  have Hone := Lib.hid puz_one
  have Hi := Lib.hid puz_info
  have hrl := hp.r.1
  obtain ⟨W0, hW0⟩ : ∃ W0, (w.alloc (.cells #[.int .i64 s, .slice Ag n cg, .slice Ar nr cr] 26)).alloc (.cells #[.int .i64 0, .slice none 0 0, .slice none 0 0] 26) = W0 := ⟨_, rfl⟩
  have hb0 : Below w.heap.size w W0 := by rw [← hW0]; exact ((Below.refl _ _).alloc (Nat.le_refl _) _).alloc (by simp) _
  have hs0 : W0.heap.size = w.heap.size + 1 + 1 := by rw [← hW0]; simp
  have hp0 : W0.heap[w.heap.size]? = some (.cells #[.int .i64 s, .slice Ag n cg, .slice Ar nr cr] 26) := by
    rw [← hW0]; exact (Below.heap_alloc _ _ _ (by simp)).trans (heap_alloc_new w _)
  have hq0 : W0.heap[w.heap.size + 1]? = some (.cells #[.int .i64 0, .slice none 0 0, .slice none 0 0] 26) := by
    rw [← hW0]
    have := heap_alloc_new (w.alloc (.cells #[.int .i64 s, .slice Ag n cg, .slice Ar nr cr] 26)) (.cells #[.int .i64 0, .slice none 0 0, .slice none 0 0] 26)
    rwa [World.size_alloc] at this
  have hP0 := hp.below (hb0.mono (Nat.le_refl _))
  have HOP := Lib.hid (specOwnPuzzle s Ag n cg Bg gi Ar nr cr Br rs W0 hP0.g hP0.gB hp.gm hP0.r hP0.rB hm2)
  obtain ⟨z0, z1, z2⟩ : PBox W0 w.heap.size s Ag n cg Ar nr cr := ⟨cell_of_row _ _ 0 _ _ (0, 0) hp0, cell_of_row _ _ 1 _ _ (0, 0) hp0, cell_of_row _ _ 2 _ _ (0, 0) hp0⟩
  have HW0 := Lib.hid hW0
  clear hW0 hP0
  go_enter Try.func56, Try.ntmps56
  go_wp2_with fail
  rw [HW0.out]
  refine HOP.out.mono ?_
  rintro e w1 ⟨A1, c1, A2, c2, rfl, ho1, hor1, hb1⟩
  have hp1 := (hb1.block w.heap.size (by omega)).trans hp0
  have hq1 := (hb1.block (w.heap.size + 1) (by omega)).trans hq0
  obtain ⟨W2, hW2⟩ : ∃ W2, w1.setRow w.heap.size #[.int .i64 s, .slice A1 n c1, .slice A2 nr c2] = W2 := ⟨_, rfl⟩
  have hb2 : Below w.heap.size w W2 := by rw [← hW2]; exact setRow_below5 (hb0.trans (hb1.mono hb0.size)) (Nat.le_refl _)
  have hp2 : W2.heap[w.heap.size]? = some (.cells #[.int .i64 s, .slice A1 n c1, .slice A2 nr c2] 26) := by rw [← hW2]; exact setRow_heap _ _ _ _ _ _ hp1
  have hq2 : W2.heap[w.heap.size + 1]? = some (.cells #[.int .i64 0, .slice none 0 0, .slice none 0 0] 26) := by
    rw [← hW2]; refine Eq.trans ?_ hq1; unfold World.setRow; simp only [Array.getElem?_modify]; rw [if_neg (by omega)]
  have ho2 : Ow W2 W0.heap.size A1 n c1 gi := by rw [← hW2]; exact ho1.row5 (fun b hb => by have := ho1.own_lo b hb; omega)
  have hor2 : OwR W2 W0.heap.size (.slice A2 nr c2) rs nr := by rw [← hW2]; exact hor1.keptL grown_setRow5 (by omega)
  have hP2 : PGs W2 s A1 n c1 W2.heap.size gi A2 nr c2 W2.heap.size rs := ⟨ho2.rd, Nat.le_refl _, hp.gm, hor2.rd hrl, Nat.le_refl _, hp.rm⟩
  have hs2 : w.heap.size + 1 < W2.heap.size := (Array.getElem?_eq_some_iff.1 hq2).1
  have HV := Lib.hid (fun w' (hb : Below W2.heap.size W2 w') => specPuzzleValid s A1 n c1 W2.heap.size gi A2 nr c2 W2.heap.size rs w' (hP2.below hb).g (hP2.below hb).gB hp.gm (hP2.below hb).r (hP2.below hb).rB hp.rm)
  have HO := Lib.hid (fun w' (hb : Below W2.heap.size W2 w') => specOne s A1 n c1 W2.heap.size gi A2 nr c2 W2.heap.size rs w' (hP2.below hb))
  obtain ⟨y0, y1, y2⟩ : PBox W2 w.heap.size s A1 n c1 A2 nr c2 := ⟨cell_of_row _ _ 0 _ _ (0, 0) hp2, cell_of_row _ _ 1 _ _ (0, 0) hp2, cell_of_row _ _ 2 _ _ (0, 0) hp2⟩
  have HB2 := Lib.hid hb2
  cases hv : pvB s gi rs
  · have hf : (pvB s gi rs && oneB s n gi rs) = false := by rw [hv]; rfl
    go_wp2_with (first | (refine wpList_store_row rfl 26 _ _ rfl w.heap.size #[.int .i64 s, .slice A1 n c1, .slice A2 nr c2] rfl rfl 26 #[.int .i64 s, .slice Ag n cg, .slice Ar nr cr] hp1 (Hi.out _ _ _ _ _ _ _) rfl (Hone.out _ _ _ _ _ _ _) ?_; rw [hW2]) | (go_at_call 13; refine (HV.out _ (Below.refl _ _)).mono ?_; rintro e w3 ⟨rfl, hb3⟩; rw [hv]; have hq3 := (hb3.block (w.heap.size + 1) hs2).trans hq2) | (refine wpList_store_row rfl 26 _ _ rfl (w.heap.size + 1) #[.int .i64 0, .slice none 0 0, .slice none 0 0] rfl rfl 26 #[.int .i64 0, .slice none 0 0, .slice none 0 0] hq3 (Hi.out _ _ _ _ _ _ _) rfl (Hone.out _ _ _ _ _ _ _) ?_))
    have hBe : Below w.heap.size w (w3.setRow (w.heap.size + 1) #[.int .i64 0, .slice none 0 0, .slice none 0 0]) := setRow_below5 (HB2.out.trans (hb3.mono HB2.out.size)) (by omega)
    exact bodyPost_ret (v := .tuple #[.agg #[.int .i64 0, .slice none 0 0, .slice none 0 0], .bool false]) (results_row_tmp (by rfl) _ _ (w.heap.size + 1) 26 _ (0, 0) _ _ rfl rfl (setRow_heap _ _ _ _ _ _ hq3) Try.underlying26 rfl (Hi.out _ _ _ _ _ _ _)) rfl ⟨hBe, .inl ⟨rfl, hf⟩⟩
  · have hx2 : PBox W2 w.heap.size s A1 n c1 A2 nr c2 := ⟨y0, y1, y2⟩
    cases ho : oneB s n gi rs
    · have hf : (pvB s gi rs && oneB s n gi rs) = false := by rw [ho, Bool.and_false]
      go_wp2_with (first | (refine wpList_store_row rfl 26 _ _ rfl w.heap.size #[.int .i64 s, .slice A1 n c1, .slice A2 nr c2] rfl rfl 26 #[.int .i64 s, .slice Ag n cg, .slice Ar nr cr] hp1 (Hi.out _ _ _ _ _ _ _) rfl (Hone.out _ _ _ _ _ _ _) ?_; rw [hW2]) | (go_at_call 13; refine (HV.out _ (Below.refl _ _)).mono ?_; rintro e w3 ⟨rfl, hb3⟩; rw [hv]; obtain ⟨x0, x1, x2⟩ := hx2.below (by omega : w.heap.size < W2.heap.size) hb3) | (go_at_call 67; refine (HO.out _ hb3).mono ?_; rintro e w4 ⟨rfl, hb4'⟩; rw [ho]; have hb4 := step hb3 hb4'; have hq4 := (hb4.block (w.heap.size + 1) hs2).trans hq2) | (refine wpList_store_row rfl 26 _ _ rfl (w.heap.size + 1) #[.int .i64 0, .slice none 0 0, .slice none 0 0] rfl rfl 26 #[.int .i64 0, .slice none 0 0, .slice none 0 0] hq4 (Hi.out _ _ _ _ _ _ _) rfl (Hone.out _ _ _ _ _ _ _) ?_))
      have hBe : Below w.heap.size w (w4.setRow (w.heap.size + 1) #[.int .i64 0, .slice none 0 0, .slice none 0 0]) := setRow_below5 (HB2.out.trans (hb4.mono HB2.out.size)) (by omega)
      exact bodyPost_ret (v := .tuple #[.agg #[.int .i64 0, .slice none 0 0, .slice none 0 0], .bool false]) (results_row_tmp (by rfl) _ _ (w.heap.size + 1) 26 _ (0, 0) _ _ rfl rfl (setRow_heap _ _ _ _ _ _ hq4) Try.underlying26 rfl (Hi.out _ _ _ _ _ _ _)) rfl ⟨hBe, .inl ⟨rfl, hf⟩⟩
    · have ht : (pvB s gi rs && oneB s n gi rs) = true := by rw [hv, ho]; rfl
      go_wp2_with (first | (refine wpList_store_row rfl 26 _ _ rfl w.heap.size #[.int .i64 s, .slice A1 n c1, .slice A2 nr c2] rfl rfl 26 #[.int .i64 s, .slice Ag n cg, .slice Ar nr cr] hp1 (Hi.out _ _ _ _ _ _ _) rfl (Hone.out _ _ _ _ _ _ _) ?_; rw [hW2]) | (go_at_call 13; refine (HV.out _ (Below.refl _ _)).mono ?_; rintro e w3 ⟨rfl, hb3⟩; rw [hv]; obtain ⟨x0, x1, x2⟩ := hx2.below (by omega : w.heap.size < W2.heap.size) hb3) | (go_at_call 67; refine (HO.out _ hb3).mono ?_; rintro e w4 ⟨rfl, hb4'⟩; rw [ho]; have hb4 := step hb3 hb4'; obtain ⟨x0', x1', x2'⟩ := hx2.below (by omega : w.heap.size < W2.heap.size) hb4))
      obtain ⟨hgi, _, _⟩ := pv_gv hv
      have hn4 : 0 < n := by
        obtain ⟨q2, q4⟩ := gv_size hgi
        have := gv_len hgi
        rw [hp.g.1] at this
        have := (sq_bd q2 q4).1
        omega
      obtain ⟨vs2, hown2, hin2⟩ := id hor2
      have HX := Lib.hid (fun w' (hb : Below w4.heap.size w4 w') => (hx2.below (by omega : w.heap.size < W2.heap.size) (hb4.trans (hb.mono hb4.size))))
      have HR1 := Lib.hid (fun w' (hb : Below w4.heap.size w4 w') => (ho2.rd.below (hb4.trans (hb.mono hb4.size))))
      have HOW := Lib.hid (fun w' (hb : Below w4.heap.size w4 w') => (show w'.ownsRow W0.heap.size 36 3 (.slice A2 nr c2) nr vs2 ∧ InR w' W0.heap.size (.slice none 0 0) rs vs2 nr from by
        have hbb := hb4.trans (hb.mono hb4.size)
        refine ⟨World.ownsRow.kept hown2 (row := none) ⟨hbb.os, hbb.tape, hbb.output, hbb.size, fun k hk _ => hbb.block k hk⟩ (by cases e : (Value.slice A2 nr c2).ownBlock <;> simp), fun i hi => ?_⟩
        obtain ⟨A', c', e0, e1, e2, e3, e4, e5⟩ := hin2 i hi
        exact ⟨A', c', e0, e1, e2, Ow.below e3 hbb, e4, fun g hg e => by simp [Value.ownBlock] at e⟩))
      have hlo4 : W0.heap.size ≤ w4.heap.size := by
        have q1 := hb1.size
        have q2 := hb4.size
        have q3 : W2.heap.size = w1.heap.size := by rw [← hW2]; simp
        omega
      have hlo2 : W0.heap.size ≤ W2.heap.size := by
        have q1 := hb1.size
        have q3 : W2.heap.size = w1.heap.size := by rw [← hW2]; simp
        omega
      have hm1 := hp.gm
      have hK4 : W2.heap.size ≤ w4.heap.size := hb4.size
      have hcb : CbV vs2 nr (fun g => g < W2.heap.size) := fun i A' n' c' hi he g hg => by
        obtain ⟨A2', c2', _, e1, _, ho', _⟩ := hin2 i hi
        rw [he] at e1
        injection e1 with e1
        rw [e1] at hg
        exact ho'.own_hi g hg
      refine wp_region_ds [17, 18, 19, 20, 21, 22, 23, 24, 25, 26, 27, 4] (MakeG w.heap.size W0.heap.size W2.heap.size n s A1 c1 A2 nr c2 gi rs) (by kernel_rfl) (by kernel_rfl) (by simp) makeG_below ?step ?last
      case step =>
        intro i o a w' hi hoo hb hfr hpre
        have e1 : a.eval (.tmp 1) = .pointer (some ⟨w.heap.size, 0, none⟩) := hfr 1 (by simp)
        obtain ⟨x0, x1, x2⟩ := HX.out w' hb
        have hi12 : i < 12 := hi
        have : i = 0 ∨ i = 1 ∨ i = 2 ∨ i = 3 ∨ i = 4 ∨ i = 5 ∨ i = 6 ∨ i = 7 ∨ i = 8 ∨ i = 9 ∨ i = 10 ∨ i = 11 := by omega
        rcases this with rfl | rfl | rfl | rfl | rfl | rfl | rfl | rfl | rfl | rfl | rfl | rfl
        all_goals
          simp only [List.getElem?_toArray, List.getElem?_cons_zero, List.getElem?_cons_succ, Option.some.injEq] at hoo
          subst hoo
        · refine ⟨_, w', ?_, Below.refl _ _, rfl⟩
          unfold execOp
          simp only [e1]
          go_simp
        · have p0 := hpre ⟨0, .data⟩ (by simp) rfl
          have p0' : a.eval (.tmp 17) = .pointer (some ⟨w.heap.size, 0, none⟩) := p0
          refine ⟨_, w', ?_, Below.refl _ _, rfl⟩
          unfold execOp
          simp only [p0']
          go_simp
        · refine ⟨_, _, ?_, (Below.refl _ _).alloc (Nat.le_refl _) (.cells #[] 3), ⟨w'.heap.size, rfl⟩⟩
          unfold execOp
          go_simp
        · refine ⟨_, w', ?_, Below.refl _ _, rfl⟩
          unfold execOp
          simp only [e1]
          go_simp
        · have p0' : a.eval (.tmp 20) = .pointer (some ⟨w.heap.size, 1, none⟩) := hpre ⟨3, .data⟩ (by simp) rfl
          refine ⟨_, w', ?_, Below.refl _ _, rfl⟩
          unfold execOp
          simp only [p0']
          go_simp
        · obtain ⟨b, hb19⟩ : ∃ b, a.eval (.tmp 19) = .slice (some ⟨b, 0, none⟩) 0 0 := hpre ⟨2, .data⟩ (by simp) rfl
          have p21 : a.eval (.tmp 21) = .slice A1 n c1 := hpre ⟨4, .data⟩ (by simp) rfl
          obtain ⟨A', c', w2, hrun, q1, q2⟩ := fresh_ints 23 b A1 n c1 _ gi (HR1.out w' hb) hn4 hm1
          refine ⟨.slice A' n c', w2, ?_, q2, A', c', rfl, q1.mono (Nat.le_trans hK4 hb.size)⟩
          unfold execOp
          simp only [resolve, invoke, builtin, Sem.run_bind, Sem.run_pure, Result.andThen_ok, List.map_toArray, List.map_cons, List.map_nil, hb19, p21, hrun]
        · refine ⟨_, _, ?_, (Below.refl _ _).alloc (Nat.le_refl _) (.cells #[] 36), ⟨w'.heap.size, rfl, heap_alloc_new _ _, Nat.le_trans hlo4 hb.size⟩⟩
          unfold execOp
          go_simp
        · refine ⟨_, w', ?_, Below.refl _ _, rfl⟩
          unfold execOp
          simp only [e1]
          go_simp
        · have p0' : a.eval (.tmp 24) = .pointer (some ⟨w.heap.size, 2, none⟩) := hpre ⟨7, .data⟩ (by simp) rfl
          refine ⟨_, w', ?_, Below.refl _ _, rfl⟩
          unfold execOp
          simp only [p0']
          go_simp
        · obtain ⟨b, hb23, hlit, hbl⟩ : ∃ b, a.eval (.tmp 23) = .slice (some ⟨b, 0, none⟩) 0 0 ∧ w'.heap[b]? = some (.cells #[] 36) ∧ W0.heap.size ≤ b := hpre ⟨6, .data⟩ (by simp) rfl
          have p25 : a.eval (.tmp 25) = .slice A2 nr c2 := hpre ⟨8, .data⟩ (by simp) rfl
          obtain ⟨hw1, hw2⟩ := HOW.out w' hb
          obtain ⟨A', c', w2, hrun, ⟨q1, q1'⟩, q2⟩ := fresh_rulesV 24 b A2 nr c2 W0.heap.size W0.heap.size rs vs2 hrl hw1 hw2 hlit hbl hp.rm (Nat.le_trans hlo4 hb.size)
          refine ⟨.slice A' nr c', w2, ?_, q2, A', c', rfl, ⟨vs2, q1, q1'⟩, ⟨vs2, q1, hcb⟩⟩
          unfold execOp
          simp only [resolve, invoke, builtin, Sem.run_bind, Sem.run_pure, Result.andThen_ok, List.map_toArray, List.map_cons, List.map_nil, hb23, p25, hrun]
        · have p18 : a.eval (.tmp 18) = .int .i64 s := hpre ⟨1, .data⟩ (by simp) rfl
          obtain ⟨A', c', p22, q22⟩ : ∃ A' c', a.eval (.tmp 22) = .slice A' n c' ∧ Ow w' W2.heap.size A' n c' gi := hpre ⟨5, .data⟩ (by simp) rfl
          obtain ⟨A'', c'', p26, q26, q26'⟩ : ∃ A' c', a.eval (.tmp 26) = .slice A' nr c' ∧ OwR w' W0.heap.size (.slice A' nr c') rs nr ∧ SpQ w' W0.heap.size (.slice A' nr c') nr (fun g => g < W2.heap.size) := hpre ⟨9, .data⟩ (by simp) rfl
          refine ⟨.agg #[.int .i64 s, .slice A' n c', .slice A'' nr c''], w', ?_, Below.refl _ _, A', c', A'', c'', rfl, q22, q26, q26'⟩
          unfold execOp
          simp only [List.map_toArray, List.map_cons, List.map_nil, p18, p22, p26]
          go_simp
        · refine ⟨_, _, ?_, (Below.refl _ _).alloc (Nat.le_refl _) (.cells #[.int .i64 0, .slice none 0 0, .slice none 0 0] 26), ⟨w'.heap.size, rfl, heap_alloc_new _ _, Nat.le_trans hlo4 hb.size⟩⟩
          unfold execOp
          go_simp
      case last =>
        intro o a w5 hoo hb5 hdef htm hfr hpre
        simp only [List.length_cons, List.length_nil, Nat.reduceAdd, List.getElem?_toArray, List.getElem?_cons_zero, List.getElem?_cons_succ, Option.some.injEq] at hoo
        subst hoo
        have g17 : a.tmps.getD 17 undef = .pointer (some ⟨w.heap.size, 0, none⟩) := hpre 0 (by simp)
        have g18 : a.tmps.getD 18 undef = .int .i64 s := hpre 1 (by simp)
        obtain ⟨b19, g19⟩ : ∃ b, a.tmps.getD 19 undef = .slice (some ⟨b, 0, none⟩) 0 0 := hpre 2 (by simp)
        have g20 : a.tmps.getD 20 undef = .pointer (some ⟨w.heap.size, 1, none⟩) := hpre 3 (by simp)
        have g21 : a.tmps.getD 21 undef = .slice A1 n c1 := hpre 4 (by simp)
        obtain ⟨A22, c22, g22, _⟩ : ∃ A' c', a.tmps.getD 22 undef = .slice A' n c' ∧ _ := hpre 5 (by simp)
        obtain ⟨b23, g23, _⟩ : ∃ b, a.tmps.getD 23 undef = .slice (some ⟨b, 0, none⟩) 0 0 ∧ _ := hpre 6 (by simp)
        have g24 : a.tmps.getD 24 undef = .pointer (some ⟨w.heap.size, 2, none⟩) := hpre 7 (by simp)
        have g25 : a.tmps.getD 25 undef = .slice A2 nr c2 := hpre 8 (by simp)
        obtain ⟨A26, c26, g26, _⟩ : ∃ A' c', a.tmps.getD 26 undef = .slice A' nr c' ∧ _ := hpre 9 (by simp)
        obtain ⟨A3, c3, A4, c4, g27, ho5, hor5, hsp5⟩ : ∃ A' c' A'' c'', a.tmps.getD 27 undef = .agg #[.int .i64 s, .slice A' n c', .slice A'' nr c''] ∧ Ow w5 W2.heap.size A' n c' gi ∧ OwR w5 W0.heap.size (.slice A'' nr c'') rs nr ∧ SpQ w5 W0.heap.size (.slice A'' nr c'') nr (fun g => g < W2.heap.size) := hpre 10 (by simp)
        obtain ⟨X, g4, hrX, hloX⟩ : ∃ X, a.tmps.getD 4 undef = .pointer (some ⟨X, 0, none⟩) ∧ w5.heap[X]? = some (.cells #[.int .i64 0, .slice none 0 0, .slice none 0 0] 26) ∧ W0.heap.size ≤ X := hpre 11 (by simp)
        have h4 : a.eval (.tmp 4) = .pointer (some ⟨X, 0, none⟩) := g4
        have h27 : a.eval (.tmp 27) = .agg #[.int .i64 s, .slice A3 n c3, .slice A4 nr c4] := g27
        refine ⟨w5.setRow X #[.int .i64 s, .slice A3 n c3, .slice A4 nr c4], ?_, ?_⟩
        · have hst := run_storeVar_row (P := Try.prog) w5 X 26 26 _ #[.int .i64 s, .slice A3 n c3, .slice A4 nr c4] hrX (Hi.out _ _ _ _ _ _ _) rfl (Hone.out _ _ _ _ _ _ _)
          unfold execOp
          simp only [h4, h27, Instr.storeAt, Instr.sureAddr, Sem.run_bind, Sem.run_pure, Result.andThen_ok, hst]
        · have key := htm
          simp only [List.foldl_cons, List.foldl_nil, g17, g18, g19, g20, g21, g22, g23, g24, g25, g26, g27, g4, List.setIfInBounds_toArray, List.set_cons_succ, List.set_cons_zero] at key
          clear htm hfr hpre g17 g18 g19 g20 g21 g22 g23 g24 g25 g26 g27 g4 h4 h27
          obtain ⟨tm, df⟩ := a
          dsimp only at key hdef
          subst key hdef
          have hr5 := setRow_heap (w := w5) X _ #[.int .i64 s, .slice A3 n c3, .slice A4 nr c4] 26 _ hrX
          have ho6 := ho5.setX (cs' := #[.int .i64 s, .slice A3 n c3, .slice A4 nr c4]) hrX
          have hor6 := hor5.setX (cs' := #[.int .i64 s, .slice A3 n c3, .slice A4 nr c4]) hrX
          have hsp6 := hsp5.setX (cs' := #[.int .i64 s, .slice A3 n c3, .slice A4 nr c4]) hrX
          have hB6 : Below W0.heap.size W2 (w5.setRow X #[.int .i64 s, .slice A3 n c3, .slice A4 nr c4]) := setRow_below5 ((hb4.mono hlo2).trans (hb5.mono hlo4)) hloX
          obtain ⟨w6, hw6⟩ : ∃ w6, w5.setRow X #[.int .i64 s, .slice A3 n c3, .slice A4 nr c4] = w6 := ⟨_, rfl⟩
          rw [hw6] at hr5 ho6 hor6 hsp6 hB6 ⊢
          clear hw6 ho5 hor5 hsp5 hrX
          have HB6 := Lib.hid hB6
          go_wp2
          go_loopw [5] (fun i wr => ∃ (k : Nat) (A7 A8 : Option Addr) (c7 c8 : Nat), k ≤ n ∧ i = .int .i64 k ∧ wr.heap[X]? = some (.cells #[.int .i64 s, .slice A7 n c7, .slice A8 nr c8] 26) ∧ Ow wr W2.heap.size A7 n c7 (minL s n rs gi k) ∧ (OwR wr W0.heap.size (.slice A8 nr c8) rs nr ∧ SpQ wr W0.heap.size (.slice A8 nr c8) nr (fun g => g < W2.heap.size)) ∧ Below W0.heap.size W2 wr) (fun i _ => n - (intOf i).toNat)
          case atStart => exact ⟨0, A3, A4, c3, c4, Nat.zero_le _, rfl, hr5, ho6, ⟨hor6, hsp6⟩, hB6⟩
          case round =>
            obtain ⟨k, A7, A8, c7, c8, hk, rfl, hr7, ho7, ⟨hor7, hsp7⟩, hb7⟩ := hrel
            obtain ⟨x0, x1, x2⟩ : PBox wr X s A7 n c7 A8 nr c8 := ⟨cell_of_row _ _ 0 _ _ (0, 0) hr7, cell_of_row _ _ 1 _ _ (0, 0) hr7, cell_of_row _ _ 2 _ _ (0, 0) hr7⟩
            by_cases hlt : k < n
            · have hltI : (k : Int) < (n : Int) := by omega
              have hPk : PGs wr s A7 n c7 wr.heap.size (minL s n rs gi k) A8 nr c8 wr.heap.size rs := ⟨ho7.rd, Nat.le_refl _, hm1, hor7.rd hrl, Nat.le_refl _, hp.rm⟩
              have hsX := (Array.getElem?_eq_some_iff.1 hr7).1
              have hsW : W0.heap.size ≤ wr.heap.size := by
                have q1 := hb7.size
                omega
              have HRd := Lib.hid (specIsRedundant s A7 n c7 wr.heap.size (minL s n rs gi k) A8 nr c8 wr.heap.size rs (k : Int) wr hPk)
              have HWo := Lib.hid (fun w' (hb : Below wr.heap.size wr w') => specWithout (Bg := wr.heap.size) s A7 n c7 (minL s n rs gi k) A8 nr c8 k w' (hPk.below hb).g (hPk.below hb).gB hm1 hlt)
              have hb7' := hb7
              cases hred : redB s n (minL s n rs gi k) rs k
              · have hml : minL s n rs gi (k + 1) = minL s n rs gi k := by rw [minL, hred]; rfl
                have Hml := Lib.hid hml
                clear hml
                go_wp2_with (go_at_call 68; refine HRd.out.mono ?_; rintro e w8 ⟨rfl, hb8⟩; rw [hred]; have hr8 := (hb8.block X hsX).trans hr7; have ho8 := ho7.below hb8; have hor8 := hor7.below hb8; have hsp8 := hsp7.below hb8; have hB8 := hb7'.trans (hb8.mono hsW))
                refine ⟨⟨k + 1, A7, A8, c7, c8, hlt, by simp, hr8, by rw [Hml.out]; exact ho8, ⟨hor8, hsp8⟩, hB8⟩, by simp [intOf]; omega⟩
              · have hml : minL s n rs gi (k + 1) = (minL s n rs gi k).set k 0 := by rw [minL, hred]; rfl
                have Hml := Lib.hid hml
                clear hml
                go_wp2_with (first | (go_at_call 68; refine HRd.out.mono ?_; rintro e w8 ⟨rfl, hb8⟩; rw [hred]; have hr8 := (hb8.block X hsX).trans hr7; have ho8 := ho7.below hb8; have hor8 := hor7.below hb8; have hsp8 := hsp7.below hb8; have hB8 := hb7'.trans (hb8.mono hsW); obtain ⟨y0, y1, y2⟩ : PBox w8 X s A7 n c7 A8 nr c8 := ⟨cell_of_row _ _ 0 _ _ (0, 0) hr8, cell_of_row _ _ 1 _ _ (0, 0) hr8, cell_of_row _ _ 2 _ _ (0, 0) hr8⟩) | (go_at_call 69; refine (HWo.out _ hb8).mono ?_; rintro e w9 ⟨A9, c9, rfl, ho9, hb9⟩; have hr9 := (hb9.block X (Nat.lt_of_lt_of_le hsX hb8.size)).trans hr8) | (refine wpList_store_row rfl 26 _ _ rfl X #[.int .i64 s, .slice A9 n c9, .slice A8 nr c8] rfl rfl 26 #[.int .i64 s, .slice A7 n c7, .slice A8 nr c8] hr9 (Hi.out _ _ _ _ _ _ _) rfl (Hone.out _ _ _ _ _ _ _) ?_))
                have ho10 : Ow (w9.setRow X #[.int .i64 s, .slice A9 n c9, .slice A8 nr c8]) W2.heap.size A9 n c9 ((minL s n rs gi k).set k 0) := (ho9.mono (Nat.le_trans hb7.size hb8.size)).setX hr9
                refine ⟨⟨k + 1, A9, A8, c9, c8, hlt, by simp, setRow_heap _ _ _ _ _ _ hr9, by rw [Hml.out]; exact ho10, ⟨(hor8.below hb9).setX hr9, (hsp8.below hb9).setX hr9⟩, setRow_below5 (hB8.trans (hb9.mono (Nat.le_trans hsW hb8.size))) hloX⟩, by simp [intOf]; omega⟩
            · obtain rfl : k = n := by omega
              have hq7 := (hb7.block (w.heap.size + 1) (by omega)).trans hq2
              go_wp2_with (refine wpList_store_row rfl 26 _ _ rfl (w.heap.size + 1) #[.int .i64 s, .slice A7 k c7, .slice A8 nr c8] rfl rfl 26 #[.int .i64 0, .slice none 0 0, .slice none 0 0] hq7 (Hi.out _ _ _ _ _ _ _) rfl (Hone.out _ _ _ _ _ _ _) ?_)
              have hBe : Below w.heap.size w (wr.setRow (w.heap.size + 1) #[.int .i64 s, .slice A7 k c7, .slice A8 nr c8]) := setRow_below5 (HB2.out.trans (hb7.mono (by omega))) (by omega)
              exact bodyPost_ret (v := .tuple #[.agg #[.int .i64 s, .slice A7 k c7, .slice A8 nr c8], .bool true]) (results_row_tmp (by rfl) _ _ (w.heap.size + 1) 26 _ (0, 0) _ _ rfl rfl (setRow_heap _ _ _ _ _ _ hq7) Try.underlying26 rfl (Hi.out _ _ _ _ _ _ _)) rfl ⟨hBe, .inr ⟨ht, A7, c7, A8, c8, W2.heap.size, rfl, ho7.setX hq7, by omega, (hor7.setX hq7).mono (by omega), (hsp7.setX hq7).mono (by omega)⟩⟩
end Go.Proofs.Ytjdhfknoldginaa
