import Derived.Test.YtkeoflnmbcdmfaaDoorP5R
set_option maxRecDepth 8000
namespace Go.Proofs.YtkeoflnmbcdmfaaDoor
open Go.ChangeShapes Go.WideShapes Go.ChangeAt Go.RowKit

/-- the first solutions, at most so many. -/
def allS (s : Int) (most n : Nat) (gi : List Int) (rs : List RuleM) : List (List Int) := if fpB s gi rs gi = true then s5 (fitB s gi rs) s.toNat most n gi 0 [] else []
theorem allS_len (s : Int) (most n : Nat) (gi : List Int) (rs : List RuleM) (h : 0 < most) : (allS s most n gi rs).length ≤ most := by
  unfold allS
  split
  · exact s5_len _ _ _ _ _ _ _ (by simpa using h)
  · exact Nat.zero_le _
/-- what a valid puzzle's own grid is. -/
theorem pv_grid {s : Int} {gi : List Int} {rs : List RuleM} {ng : Nat} (h : pvB s gi rs = true) (hl : gi.length = ng) : ∃ t : Nat, s = t ∧ t ∈ [2, 3, 4] ∧ (ng : Int) = (t : Int) * t ∧ ng ≤ 16 ∧ okAll gi t ng := by
  obtain ⟨hgi, _, _⟩ := pv_gv h
  obtain ⟨s2, s4⟩ := gv_size hgi
  obtain ⟨t, rfl⟩ := Int.eq_ofNat_of_zero_le (by omega : 0 ≤ s)
  have hs : t ∈ [2, 3, 4] := by
    have : t = 2 ∨ t = 3 ∨ t = 4 := by omega
    simpa using this
  have e1 := gv_len hgi
  rw [hl] at e1
  refine ⟨t, rfl, hs, e1, by have := (sq_bd s2 s4).2; omega, fun i hi => gv_nth hgi (by rw [hl]; exact hi)⟩
set_option maxHeartbeats 2000000 in
theorem specAll (s : Int) (most : Nat) (Ag : Option Addr) (n cg Bg : Nat) (gi : List Int) (Ar : Option Addr) (nr cr Br : Nat) (rs : List RuleM) (w : World) (hp : PGs w s Ag n cg Bg gi Ar nr cr Br rs) (h0 : 0 < most) (h1 : most ≤ 1000) :
    Calls Tryd.prog 51 #[.agg #[.int .i64 s, .slice Ag n cg, .slice Ar nr cr], .int .i64 most] w fun e w' => ∃ P v, e = .returned v ∧ Rows_ w' (w.heap.size + 1) P v (allS s most n gi rs) n ∧ Below w.heap.size w w' := by
  have hx0 := pbox_new w s Ag n cg Ar nr cr 26
  have hb0 : Below w.heap.size w (w.alloc (.cells #[.int .i64 s, .slice Ag n cg, .slice Ar nr cr] 26)) := (Below.refl _ _).alloc (Nat.le_refl _) _
  have hs0 : w.heap.size < (w.alloc (.cells #[.int .i64 s, .slice Ag n cg, .slice Ar nr cr] 26)).heap.size := by simp
  have HF := Lib.hid (fun w' (hb : Below w.heap.size w w') => specPuzzleFits s Ag n cg Bg gi Ar nr cr Br rs Ag n cg Bg gi w' (hp.below hb) (hp.below hb).g (hp.below hb).gB hp.gm)
  obtain ⟨U, hU⟩ : ∃ U, U = ((w.alloc (.cells #[.int .i64 s, .slice Ag n cg, .slice Ar nr cr] 26)).alloc (.cells #[] 23)).alloc (.cells #[.slice (some ⟨w.heap.size + 1, 0, none⟩) 0 0] 51) := ⟨_, rfl⟩
  have hbU : Below w.heap.size w U := by rw [hU]; exact (hb0.alloc hb0.size _).alloc (by simp; omega) _
  have hsU : U.heap.size = w.heap.size + 1 + 1 + 1 := by rw [hU]; simp
  have hwU : w.heap.size < U.heap.size := by omega
  obtain ⟨c0, c1, c2⟩ : PBox U w.heap.size s Ag n cg Ar nr cr := by
    rw [hU]
    exact hx0.below hs0 (((Below.refl _ _).alloc (Nat.le_refl _) _).alloc (by simp) _)
  have hout : Out_ U (w.heap.size + 1 + 1) (.slice (some ⟨w.heap.size + 1, 0, none⟩) 0 0) := by
    have := heap_alloc_new ((w.alloc (.cells #[.int .i64 s, .slice Ag n cg, .slice Ar nr cr] 26)).alloc (.cells #[] 23)) (.cells #[.slice (some ⟨w.heap.size + 1, 0, none⟩) 0 0] 51)
    rw [World.size_alloc, World.size_alloc] at this
    unfold Out_
    rw [hU]
    exact this
  have hrows : Rows_ U (w.heap.size + 1) (w.heap.size + 1 + 1) (.slice (some ⟨w.heap.size + 1, 0, none⟩) 0 0) [] n := by
    refine ⟨some ⟨w.heap.size + 1, 0, none⟩, 0, [], rfl, ?_, by simp [Value.ownBlock], fun i hi => absurd hi (by simp)⟩
    have h : ((w.alloc (.cells #[.int .i64 s, .slice Ag n cg, .slice Ar nr cr] 26)).alloc (.cells #[] 23)).ownsRow (w.heap.size + 1) 23 1 (.slice (some ⟨(w.alloc (.cells #[.int .i64 s, .slice Ag n cg, .slice Ar nr cr] 26)).heap.size, 0, none⟩) 0 0) 0 [] := World.ownsRow_made _ #[] 0 (by simp) (by simp [maxLen]) rfl
    rw [World.size_alloc] at h
    rw [hU]
    exact World.ownsRow.alloc h _
  cases hf : fpB s gi rs gi
  · have HL := Lib.hid (show allS s most n gi rs = [] by simp [allS, hf])
    go_enter Tryd.func51, Tryd.ntmps51
    go_wp2_with (go_at_call 93; (rw [← hU]; refine (HF.out _ hbU).mono ?_); rintro e w1 ⟨rfl, hb1⟩; rw [hf]; have hout1 : Out_ w1 _ _ := (hb1.block _ hout.lt).trans hout; have hoc := hout1.cell)
    go_ret
    exact ⟨_, _, rfl, by rw [HL.out]; exact hrows.below hb1, step hbU hb1⟩
  · obtain ⟨t, rfl, hs, hn', hn16, hok'⟩ := pv_grid (show pvB s gi rs = true by simp only [fpB, Bool.and_eq_true] at hf; exact hf.1.1) hp.g.1
    have hn := Lib.hid hn'
    have hok := Lib.hid hok'
    clear hn' hok'
    have Hne : Hid (∀ b' off' : Nat, Ag = some ⟨b', off', none⟩ → b' ≠ w.heap.size + 1 + 1 ∧ (Value.slice (some ⟨w.heap.size + 1, 0, none⟩) 0 0).ownBlock ≠ some b') := Lib.hid (fun b' off' e => by
      obtain ⟨b, off, hA, hbB, _⟩ := hp.g.at_ (k := 0) (by have := hn.out; simp at hs; rcases hs with h | h | h <;> subst h <;> omega)
      rw [hA] at e
      cases e
      have := hp.gB
      exact ⟨by omega, by simp only [Value.ownBlock]; intro e; injection e with e; omega⟩)
    have HS := Lib.hid (fun w' (hb : Below U.heap.size U w') => specSearch5 t Ag n cg Bg gi Ar nr cr Br rs hs hn hn16 (w.heap.size + 1 + 1) (w.heap.size + 1) most (Nat.le_trans hp.gB (Nat.le_succ _)) (Nat.le_trans hp.rB (Nat.le_succ _)) (Nat.le_succ _) hp.rm h1 n Ag cg Bg gi 0 (.slice (some ⟨w.heap.size + 1, 0, none⟩) 0 0) [] w' (Nat.sub_zero _) (Nat.zero_le _) ((hp.below hbU).below hb).g ((hp.below hbU).below hb).r ((hp.below hbU).below hb).g ((hp.below hbU).below hb).gB Hne.out hok ((hb.block _ hout.lt).trans hout) (hrows.below hb) (by simpa using h0) (by have := hb.size; omega))
    have HL := Lib.hid (show allS t most n gi rs = s5 (fitB t gi rs) t most n gi 0 [] by simp [allS, hf])
    go_enter Tryd.func51, Tryd.ntmps51
    go_wp2_with (first | (go_at_call 93; (rw [← hU]; refine (HF.out _ hbU).mono ?_); (rintro e w1 ⟨rfl, hb1⟩; rw [hf]); obtain ⟨d0, d1, d2⟩ : PBox w1 w.heap.size t Ag n cg Ar nr cr := PBox.below ⟨c0, c1, c2⟩ hwU hb1) | (go_at_call 94; (refine (HS.out _ hb1).mono ?_); (rintro e w2 ⟨rfl, v2, hout2, hrows2, hchg2⟩); have hoc := hout2.cell))
    go_ret
    refine ⟨_, _, rfl, by rw [HL.out]; exact hrows2, (step hbU hb1).trans (hchg2.below (lo := w.heap.size + 1) (fun g hg => ?_) (by omega) (by omega) (by have := hb1.size; omega))⟩
    simp only [Value.ownBlock] at hg
    injection hg with hg
    omega
end Go.Proofs.YtkeoflnmbcdmfaaDoor
