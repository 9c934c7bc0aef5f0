import Derived.Test.YtkeoflnmbcdmfaaDoorFTenA
import Derived.Test.YtkeoflnmbcdmfaaDoorC1
import Derived.Test.YtkeoflnmbcdmfaaDoorFM3
import Derived.Test.YtkeoflnmbcdmfaaDoorPushAll
import Derived.Deep.AppendLies
import Derived.Test.YtkeoflnmbcdmfaaDoorInts
import Derived.Test.YtkeoflnmbcdmfaaDoorFCw
set_option maxRecDepth 8000
namespace Go.Proofs.YtkeoflnmbcdmfaaDoor
open Go.ChangeShapes Go.WideShapes Go.ChangeAt Go.RowKit Go.Shelf
attribute [local go_sem] Oper.semAt_some
/-- how many solutions, but at most most. -/
def csI (s : Int) (n : Nat) (gi : List Int) (rs : List RuleM) (most : Int) : Int := if (pvB s gi rs && inr most 1 600) = true then ((allS s most.toNat n gi rs).length : Nat) else -1
set_option maxHeartbeats 1000000 in
theorem specCountSolutions (s : Int) (Ag : Option Addr) (n cg Bg : Nat) (gi : List Int) (Ar : Option Addr) (nr cr Br : Nat) (rs : List RuleM) (most : Int) (w : World) (hp : PGs w s Ag n cg Bg gi Ar nr cr Br rs) :
    Calls Tryd.prog 24 #[.agg #[.int .i64 s, .slice Ag n cg, .slice Ar nr cr], .int .i64 most] w fun e w' => e = .returned (.int .i64 (csI s n gi rs most)) ∧ Below w.heap.size w w' := by
  have hx0 := pbox_new w s Ag n cg Ar nr cr 26
  have hb0 : Below w.heap.size w (w.alloc (.cells #[.int .i64 s, .slice Ag n cg, .slice Ar nr cr] 26)) := (Below.refl _ _).alloc (Nat.le_refl _) _
  have hs0 : w.heap.size < (w.alloc (.cells #[.int .i64 s, .slice Ag n cg, .slice Ar nr cr] 26)).heap.size := by simp
  obtain ⟨z0, z1, z2⟩ := id hx0
  have HP := Lib.hid (fun w' (hb : Below w.heap.size w w') => specPuzzleValid s Ag n cg Bg gi Ar nr cr Br rs w' (hp.below hb).g (hp.below hb).gB hp.gm (hp.below hb).r (hp.below hb).rB hp.rm)
  cases hv : pvB s gi rs
  · have HL := Lib.hid (show csI s n gi rs most = -1 by simp [csI, hv])
    go_enter Tryd.func24, Tryd.ntmps24
    go_wp2_with (go_at_call 20; refine (HP.out _ hb0).mono ?_; rintro e w1 ⟨rfl, hb1⟩; rw [hv]; have h01 := step hb0 hb1)
    go_ret
    exact ⟨by rw [HL.out]; rfl, h01⟩
  · cases hin : inr most 1 600
    · have HL := Lib.hid (show csI s n gi rs most = -1 by simp [csI, hin])
      go_enter Tryd.func24, Tryd.ntmps24
      go_wp2_with (first
        | (go_at_call 20; refine (HP.out _ hb0).mono ?_; rintro e w1 ⟨rfl, hb1⟩; rw [hv]; have h01 := step hb0 hb1; obtain ⟨c0, c1, c2⟩ := hx0.below hs0 hb1)
        | (go_at_call 57; refine (l1In_any _ _ _ _).mono ?_; rintro e wq ⟨rfl, rfl⟩; rw [hin]))
      go_ret
      exact ⟨by rw [HL.out]; rfl, h01⟩
    · obtain ⟨m1, m6⟩ := inr_t hin
      obtain ⟨M, rfl⟩ := Int.eq_ofNat_of_zero_le (show 0 ≤ most by omega)
      have HL := Lib.hid (show csI s n gi rs (M : Nat) = ((allS s M n gi rs).length : Nat) by simp [csI, hv, hin])
      have HA := Lib.hid (fun w' (hb : Below w.heap.size w w') => specAll s M Ag n cg Bg gi Ar nr cr Br rs w' (hp.below hb) (by omega) (by omega))
      go_enter Tryd.func24, Tryd.ntmps24
      go_wp2_with (first
        | (go_at_call 20; refine (HP.out _ hb0).mono ?_; rintro e w1 ⟨rfl, hb1⟩; rw [hv]; have h01 := step hb0 hb1; obtain ⟨c0, c1, c2⟩ := hx0.below hs0 hb1)
        | (go_at_call 57; refine (l1In_any _ _ _ _).mono ?_; rintro e wq ⟨rfl, rfl⟩; rw [hin])
        | (go_at_call 51; refine (HA.out _ h01).mono ?_; rintro e w2 ⟨P, v, rfl, ⟨A, c, vs, rfl, hown, _, hin2⟩, hb2⟩))
      go_ret
      exact ⟨by rw [HL.out]; rfl, step h01 hb2⟩
theorem cs_take {L : List (List Int)} {M : Nat} (h : L.length < M) : (L.take M).length = L.length := by rw [List.length_take]; omega
set_option maxHeartbeats 2000000 in
theorem countP_any (s : Int) (Ag : Option Addr) (n cg Bg : Nat) (gi : List Int) (Ar : Option Addr) (nr cr Br : Nat) (rs : List RuleM) (M : Nat) (w : World) (hp : PGc w s Ag n cg Bg gi Ar nr cr Br rs) (hv : pvB s gi rs = true) (hM1 : 0 < M) (hM6 : M ≤ 600) (hT : Tz w) :
    Calls Tryd.prog 54 #[.agg #[.int .i64 s, .slice Ag n cg, .slice Ar nr cr], .int .i64 (M : Nat)] w fun e w' => e = .returned (.int .i64 ((allS s M n gi rs).length : Nat)) ∧ Below w.heap.size w w' := by
  have hx0 := pbox_new w s Ag n cg Ar nr cr 26
  have hb0 : Below w.heap.size w (w.alloc (.cells #[.int .i64 s, .slice Ag n cg, .slice Ar nr cr] 26)) := (Below.refl _ _).alloc (Nat.le_refl _) _
  obtain ⟨z0, z1, z2⟩ := id hx0
  obtain ⟨t, rfl, hs, hnn, hn16, hok⟩ := pv_grid hv hp.g.1
  have hn : n = t * t := by simp at hs; rcases hs with rfl | rfl | rfl <;> omega
  have hmr : nr ≤ 20 := by have := (pv_gv hv).2.1; have := hp.r.1; omega
  have H1 := Lib.hid (show ((allS t M n gi rs).length : Nat) = ((cv t gi rs (t * t) []).take M).length by rw [allS_cv hp.g.1 hv hM1 hn])
  have hg := hp.g.more hp.gB
  have hr := hp.r.more hp.rB
  have HC := Lib.hid (fun (PB : Nat) (w6 : World) (hPB : w.heap.size ≤ PB) (hpb : PBox w6 PB t Ag n cg Ar nr cr) (h06 : Below w.heap.size w w6) => countUpTo_any M w6 (sols_seq w w.heap.size PB t n Ag cg gi Ar nr cr rs (Nat.le_refl _) hs hn hg hr hmr hv (fun X hX => hT.below hT.lt hX)) (enters_of Tryd.func89 (by kernel_rfl) rfl) (fun X hX => ⟨h06.trans (hX.mono h06.size), hpb.below (cell_lt hpb.1) hX⟩) hM1 hM6)
  have HSL := Lib.hid (fun W => solutions_any t n Ag cg Ar nr cr W)
  clear hok hnn hn hg hr hv hp hT hx0
  go_enter Tryd.func54, Tryd.ntmps54
  go_wp2_with (first
    | (go_at_call 49; refine (HSL.out _).mono ?_; rintro e w6 ⟨PB, rfl, hPl, hpb, hb6⟩; have h06 := step hb0 hb6; have hPl2 := Nat.le_trans hb0.size hPl)
    | (go_at_call 95; refine (HC.out PB w6 hPl2 hpb h06).mono ?_; rintro e w7 ⟨rfl, hb7⟩))
  go_ret
  exact ⟨by rw [H1.out, List.length_take]; rfl, step h06 hb7⟩
set_option maxHeartbeats 2000000 in
theorem implCountSolutions (s : Int) (Ag : Option Addr) (n cg Bg : Nat) (gi : List Int) (Ar : Option Addr) (nr cr Br : Nat) (rs : List RuleM) (most : Int) (w : World) (hp : PGc w s Ag n cg Bg gi Ar nr cr Br rs) (hT : Tz w) :
    Calls Tryd.prog 22 #[.agg #[.int .i64 s, .slice Ag n cg, .slice Ar nr cr], .int .i64 most] w fun e w' => e = .returned (.int .i64 (csI s n gi rs most)) ∧ Below w.heap.size w w' := by
  have hx0 := pbox_new w s Ag n cg Ar nr cr 26
  have hb0 : Below w.heap.size w (w.alloc (.cells #[.int .i64 s, .slice Ag n cg, .slice Ar nr cr] 26)) := (Below.refl _ _).alloc (Nat.le_refl _) _
  have hs0 : w.heap.size < (w.alloc (.cells #[.int .i64 s, .slice Ag n cg, .slice Ar nr cr] 26)).heap.size := by simp
  obtain ⟨z0, z1, z2⟩ := id hx0
  have HV := Lib.hid (valid_any s Ag n cg Bg gi Ar nr cr Br rs _ (hp.below hb0))
  cases hv : pvB s gi rs
  · have H1 := Lib.hid (show csI s n gi rs most = -1 by simp [csI, hv])
    go_enter Tryd.func22, Tryd.ntmps22
    go_wp2_with (go_at_call 48; refine HV.out.mono ?_; rintro e w4 ⟨rfl, hb4⟩; rw [hv])
    go_ret
    exact ⟨by rw [H1.out]; rfl, step hb0 hb4⟩
  · by_cases hlo : most < 1
    · have H1 := Lib.hid (show csI s n gi rs most = -1 by
        have : inr most 1 600 = false := by unfold inr; simp; omega
        simp [csI, this])
      go_enter Tryd.func22, Tryd.ntmps22
      go_wp2_with (go_at_call 48; refine HV.out.mono ?_; rintro e w4 ⟨rfl, hb4⟩; rw [hv])
      go_ret
      exact ⟨by rw [H1.out]; rfl, step hb0 hb4⟩
    · by_cases hhi : 600 < most
      · have H1 := Lib.hid (show csI s n gi rs most = -1 by
          have : inr most 1 600 = false := by unfold inr; simp; omega
          simp [csI, this])
        go_enter Tryd.func22, Tryd.ntmps22
        go_wp2_with (go_at_call 48; refine HV.out.mono ?_; rintro e w4 ⟨rfl, hb4⟩; rw [hv])
        go_ret
        exact ⟨by rw [H1.out]; rfl, step hb0 hb4⟩
      · obtain ⟨M, rfl⟩ := Int.eq_ofNat_of_zero_le (show 0 ≤ most by omega)
        have H1 := Lib.hid (show csI s n gi rs (M : Nat) = ((allS s M n gi rs).length : Nat) by
          have : inr (M : Int) 1 600 = true := by unfold inr; simp; omega
          simp only [csI, hv, this, Bool.true_and, if_true, Int.toNat_natCast])
        have HC := Lib.hid (fun w' (hb : Below w.heap.size w w') => countP_any s Ag n cg Bg gi Ar nr cr Br rs M w' (hp.below hb) hv (by omega) (by omega) (hT.below hT.lt hb))
        go_enter Tryd.func22, Tryd.ntmps22
        go_wp2_with (first
          | (go_at_call 48; refine HV.out.mono ?_; rintro e w4 ⟨rfl, hb4⟩; rw [hv]; have h04 := step hb0 hb4; obtain ⟨y0, y1, y2⟩ := hx0.below hs0 hb4)
          | (go_at_call 54; refine (HC.out _ h04).mono ?_; rintro e w5 ⟨rfl, hb5⟩))
        go_ret
        exact ⟨by rw [H1.out]; rfl, step h04 hb5⟩
end Go.Proofs.YtkeoflnmbcdmfaaDoor
set_option maxRecDepth 8000
namespace Go.Proofs.YtkeoflnmbcdmfaaDoor
open Go.ChangeShapes Go.WideShapes Go.ChangeAt Go.RowKit
/-! the eight forms of a grid, as index functions. -/
/-- the cell from which a cell of the k-th form has its value. -/
def tix (s : Int) : Nat → Nat → Nat
  | 0, j => j
  | k + 1, j => if k = 3 then mirIx s j else tix s k (turnIx s j)
/-- q turns of a list. -/
def trn (s : Int) (n : Nat) (xs : List Int) : Nat → List Int
  | 0 => xs
  | q + 1 => pm (trn s n xs q) (turnIx s) n
/-- the k-th form. -/
def frm (s : Int) (n : Nat) (xs : List Int) (k : Nat) : List Int := if k < 4 then trn s n xs k else trn s n (pm xs (mirIx s) n) (k - 4)
/-- what the reference holds before the k-th form is taken. -/
def spX (s : Int) (n : Nat) (xs : List Int) (k : Nat) : List Int := if k ≤ 4 then trn s n xs k else trn s n (pm xs (mirIx s) n) (k - 4)
theorem trn_len {s : Int} {n : Nat} {xs : List Int} (hl : xs.length = n) : ∀ q, (trn s n xs q).length = n
  | 0 => hl
  | _ + 1 => pm_length _ _ _
theorem frm_len {s : Int} {n : Nat} {xs : List Int} (hl : xs.length = n) (k : Nat) : (frm s n xs k).length = n := by
  unfold frm; split
  · exact trn_len hl _
  · exact trn_len (pm_length _ _ _) _
theorem spX_len {s : Int} {n : Nat} {xs : List Int} (hl : xs.length = n) (k : Nat) : (spX s n xs k).length = n := by
  unfold spX; split
  · exact trn_len hl _
  · exact trn_len (pm_length _ _ _) _
theorem trn_gv {s n : Nat} {xs : List Int} (hs : s ∈ [2, 3, 4]) (hn : n = s * s) (hl : xs.length = n) (hg : gv xs s = true) : ∀ q, gv (trn s n xs q) s = true
  | 0 => hg
  | q + 1 => pm_gv (trn_gv hs hn hl hg q) (trn_len hl q) (fun k hk => by rw [hn] at hk ⊢; exact turn_lt s hs k hk)
theorem mir_gv {s n : Nat} {xs : List Int} (hs : s ∈ [2, 3, 4]) (hn : n = s * s) (hl : xs.length = n) (hg : gv xs s = true) : gv (pm xs (mirIx s) n) s = true :=
  pm_gv hg hl (fun k hk => by rw [hn] at hk ⊢; exact mir_lt s hs k hk)
theorem frm_gv {s n : Nat} {xs : List Int} (hs : s ∈ [2, 3, 4]) (hn : n = s * s) (hl : xs.length = n) (hg : gv xs s = true) (k : Nat) : gv (frm s n xs k) s = true := by
  unfold frm; split
  · exact trn_gv hs hn hl hg _
  · exact trn_gv hs hn (pm_length _ _ _) (mir_gv hs hn hl hg) _
theorem spX_gv {s n : Nat} {xs : List Int} (hs : s ∈ [2, 3, 4]) (hn : n = s * s) (hl : xs.length = n) (hg : gv xs s = true) (k : Nat) : gv (spX s n xs k) s = true := by
  unfold spX; split
  · exact trn_gv hs hn hl hg _
  · exact trn_gv hs hn (pm_length _ _ _) (mir_gv hs hn hl hg) _
theorem spX_frm {s : Int} {n : Nat} {xs : List Int} {k : Nat} (h : k ≠ 4) : spX s n xs k = frm s n xs k := by
  unfold spX frm
  by_cases h4 : k < 4
  · rw [if_pos h4, if_pos (by omega)]
  · rw [if_neg h4, if_neg (by omega)]
theorem frm_four {s : Int} {n : Nat} {xs : List Int} : frm s n xs 4 = pm xs (mirIx s) n := rfl
theorem frm_zero {s : Int} {n : Nat} {xs : List Int} : frm s n xs 0 = xs := rfl
theorem spX_succ {s : Int} {n : Nat} {xs : List Int} {k : Nat} : spX s n xs (k + 1) = pm (frm s n xs k) (turnIx s) n := by
  unfold spX frm
  by_cases h4 : k < 4
  · rw [if_pos h4, if_pos (by omega)]; rfl
  · rw [if_neg h4, if_neg (by omega), show k + 1 - 4 = (k - 4) + 1 by omega]; rfl
theorem tix_lt : ∀ s ∈ [2, 3, 4], ∀ k, k < 8 → ∀ j, j < s * s → tix (s : Nat) k j < s * s := by decide +kernel
theorem trn_pm {s n : Nat} {xs : List Int} (hs : s ∈ [2, 3, 4]) (hn : n = s * s) (hl : xs.length = n) : ∀ q, q < 4 → trn s n xs q = pm xs (tix s q) n
  | 0, _ => (pm_id hl (fun _ _ => rfl)).symm
  | q + 1, h => by
    have ih := trn_pm (xs := xs) hs hn hl q (by omega)
    show pm (trn s n xs q) (turnIx s) n = _
    rw [ih, pm_pm (fun k hk => by rw [hn] at hk ⊢; exact turn_lt s hs k hk)]
    refine pm_eq (fun k hk => ?_)
    show _ = tix s (q + 1) k
    simp only [tix]
    rw [if_neg (by omega)]
theorem tix_mir : ∀ s ∈ [2, 3, 4], ∀ k, k < 4 → ∀ j, j < s * s → mirIx (s : Nat) (tix (s : Nat) k j) = tix (s : Nat) (k + 4) j := by decide +kernel
theorem frm_pm {s n : Nat} {xs : List Int} (hs : s ∈ [2, 3, 4]) (hn : n = s * s) (hl : xs.length = n) {k : Nat} (hk : k < 8) : frm s n xs k = pm xs (tix s k) n := by
  unfold frm
  by_cases h4 : k < 4
  · rw [if_pos h4]; exact trn_pm hs hn hl k h4
  · rw [if_neg h4, trn_pm hs hn (pm_length _ _ _) (k - 4) (by omega), pm_pm (fun j hj => by rw [hn] at hj ⊢; exact tix_lt s hs _ (by omega) j hj)]
    refine pm_eq (fun j hj => ?_)
    rw [hn] at hj
    rw [tix_mir s hs (k - 4) (by omega) j hj, show k - 4 + 4 = k by omega]
/-- two forms one after the other are a form. -/
def gmul (a b : Nat) : Nat := if a < 4 then (if b < 4 then (a + b) % 4 else 4 + (b - a) % 4) else (if b < 4 then 4 + (a + b) % 4 else (b + 4 - a) % 4)
theorem gmul_lt : ∀ a, a < 8 → ∀ b, b < 8 → gmul a b < 8 := by decide +kernel
theorem gmul_tix : ∀ s ∈ [2, 3, 4], ∀ a, a < 8 → ∀ b, b < 8 → ∀ j, j < s * s → tix (s : Nat) a (tix (s : Nat) b j) = tix (s : Nat) (gmul a b) j := by decide +kernel
theorem frm_frm {s n : Nat} {xs : List Int} (hs : s ∈ [2, 3, 4]) (hn : n = s * s) (hl : xs.length = n) {a b : Nat} (ha : a < 8) (hb : b < 8) : frm s n (frm s n xs a) b = frm s n xs (gmul a b) := by
  rw [frm_pm hs hn (frm_len hl a) hb, frm_pm hs hn hl ha, frm_pm hs hn hl (gmul_lt a ha b hb), pm_pm (fun j hj => by rw [hn] at hj ⊢; exact tix_lt s hs b hb j hj)]
  refine pm_eq (fun j hj => ?_)
  rw [hn] at hj
  exact gmul_tix s hs a ha b hb j hj
theorem turnL_frm {s n : Nat} {xs : List Int} (hl : xs.length = n) (hg : gv xs s = true) : turnL xs s = frm s n xs 1 := turnL_pm hg hl
theorem mirL_frm {s n : Nat} {xs : List Int} (hl : xs.length = n) (hg : gv xs s = true) : mirL xs s = frm s n xs 4 := mirL_pm hg hl

/-! names in the order in which they are met. -/
def newAt (xs : List Int) (i : Nat) : Bool := decide (nth xs i ≠ 0) && (List.range i).all fun j => decide (nth xs j ≠ nth xs i)
def cntN (xs : List Int) : Nat → Nat
  | 0 => 0
  | k + 1 => if newAt xs k = true then cntN xs k + 1 else cntN xs k
def nmA (xs : List Int) : Nat → Int → Nat
  | 0, _ => 0
  | k + 1, v => if newAt xs k = true ∧ nth xs k = v then cntN xs k + 1 else nmA xs k v
def rnG (xs : List Int) (k : Nat) : Int := (nmA xs (k + 1) (nth xs k) : Nat)
/-- a list renamed. -/
def rnL (xs : List Int) (n : Nat) : List Int := mapTo (rnG xs) n
theorem rnL_len (xs : List Int) (n : Nat) : (rnL xs n).length = n := mapTo_length _ _
theorem rnL_nth {xs : List Int} {n k : Nat} (h : k < n) : nth (rnL xs n) k = rnG xs k := mapTo_nth h
theorem newAt_iff {xs : List Int} {i : Nat} : newAt xs i = true ↔ nth xs i ≠ 0 ∧ ∀ j, j < i → nth xs j ≠ nth xs i := by
  simp only [newAt, Bool.and_eq_true, decide_eq_true_eq, List.all_eq_true, List.mem_range]
theorem cntN_mono {xs : List Int} {i j : Nat} (h : i ≤ j) : cntN xs i ≤ cntN xs j := by
  induction j with
  | zero => have : i = 0 := by omega
            subst this; exact Nat.le_refl _
  | succ j ih =>
    by_cases e : i = j + 1
    · subst e; exact Nat.le_refl _
    · have := ih (by omega)
      simp only [cntN]; split <;> omega
theorem nmA_zero_iff {xs : List Int} {v : Int} (hv : v ≠ 0) : ∀ k, nmA xs k v = 0 ↔ ∀ i, i < k → nth xs i ≠ v
  | 0 => ⟨fun _ i hi => absurd hi (by omega), fun _ => rfl⟩
  | k + 1 => by
    have ih := nmA_zero_iff (xs := xs) hv k
    simp only [nmA]
    by_cases h : newAt xs k = true ∧ nth xs k = v
    · rw [if_pos h]
      exact ⟨fun e => absurd e (by omega), fun e => absurd h.2 (e k (by omega))⟩
    · rw [if_neg h, ih]
      refine ⟨fun e i hi => ?_, fun e i hi => e i (by omega)⟩
      by_cases hik : i = k
      · subst hik
        intro hiv
        refine h ⟨newAt_iff.2 ⟨by rw [hiv]; exact hv, fun j hj => by rw [hiv]; exact e j hj⟩, hiv⟩
      · exact e i (by omega)
theorem nmA_none {xs : List Int} : ∀ k, nmA xs k 0 = 0
  | 0 => rfl
  | k + 1 => by
    simp only [nmA]
    rw [if_neg (fun h => (newAt_iff.1 h.1).1 h.2)]
    exact nmA_none k
theorem nmA_t {xs : List Int} {k : Nat} {v : Int} (h : newAt xs k = true ∧ nth xs k = v) : nmA xs (k + 1) v = cntN xs k + 1 := by simp only [nmA]; rw [if_pos h]
theorem nmA_f {xs : List Int} {k : Nat} {v : Int} (h : ¬ (newAt xs k = true ∧ nth xs k = v)) : nmA xs (k + 1) v = nmA xs k v := by simp only [nmA]; rw [if_neg h]
theorem newAt_nm {xs : List Int} {k : Nat} : newAt xs k = (decide (nth xs k ≠ 0) && decide (nmA xs k (nth xs k) = 0)) := by
  by_cases h0 : nth xs k = 0
  · simp [newAt, h0]
  · have e := nmA_zero_iff (xs := xs) h0 k
    by_cases h : newAt xs k = true
    · rw [h]
      have := e.2 (newAt_iff.1 h).2
      simp [h0, this]
    · have h' : newAt xs k = false := by simpa using h
      rw [h']
      have : nmA xs k (nth xs k) ≠ 0 := fun z => h (newAt_iff.2 ⟨h0, e.1 z⟩)
      simp [this]
theorem nmA_some {xs : List Int} {v : Int} : ∀ k, nmA xs k v ≠ 0 → ∃ i, i < k ∧ newAt xs i = true ∧ nth xs i = v ∧ nmA xs k v = cntN xs i + 1
  | 0, h => absurd rfl h
  | k + 1, h => by
    simp only [nmA] at h ⊢
    by_cases hc : newAt xs k = true ∧ nth xs k = v
    · rw [if_pos hc]
      exact ⟨k, by omega, hc.1, hc.2, rfl⟩
    · rw [if_neg hc] at h ⊢
      obtain ⟨i, hi, a, b, c⟩ := nmA_some k h
      exact ⟨i, by omega, a, b, c⟩
theorem cntN_new {xs : List Int} {i j : Nat} (hi : newAt xs i = true) (hj : newAt xs j = true) (h : cntN xs i = cntN xs j) : i = j := by
  have key : ∀ a b, a < b → newAt xs a = true → cntN xs a < cntN xs b := fun a b hab ha => by
    have h1 := cntN_mono (xs := xs) (show a + 1 ≤ b by omega)
    simp only [cntN, ha, if_true] at h1
    omega
  rcases Nat.lt_trichotomy i j with h1 | h1 | h1
  · have := key i j h1 hi; omega
  · exact h1
  · have := key j i h1 hj; omega
theorem nmA_inj {xs : List Int} {k : Nat} {u v : Int} (hu : nmA xs k u ≠ 0) (h : nmA xs k u = nmA xs k v) : u = v := by
  obtain ⟨i, _, a, b, c⟩ := nmA_some k hu
  obtain ⟨j, _, a', b', c'⟩ := nmA_some k (by rw [← h]; exact hu)
  have := cntN_new a a' (by omega)
  subst this
  rw [← b, ← b']
/-- a name that is given stays. -/
theorem nmA_stays {xs : List Int} {v : Int} {k m : Nat} (hkm : k ≤ m) (h : nmA xs k v ≠ 0) : nmA xs m v = nmA xs k v := by
  induction m with
  | zero => have : k = 0 := by omega
            subst this; rfl
  | succ m ih =>
    by_cases e : k = m + 1
    · subst e; rfl
    · have ih' := ih (by omega)
      simp only [nmA]
      rw [if_neg, ih']
      rintro ⟨hn, hv⟩
      obtain ⟨i, hi, _, b, _⟩ := nmA_some k h
      exact (newAt_iff.1 hn).2 i (by omega) (by rw [b, hv])
theorem rnG_eq {xs : List Int} {k m : Nat} (h : k < m) : rnG xs k = (nmA xs m (nth xs k) : Nat) := by
  unfold rnG
  by_cases h0 : nth xs k = 0
  · rw [h0, nmA_none, nmA_none]
  · have : nmA xs (k + 1) (nth xs k) ≠ 0 := fun z => ((nmA_zero_iff h0 (k + 1)).1 z) k (by omega) rfl
    rw [nmA_stays (show k + 1 ≤ m by omega) this]
theorem rnG_zero {xs : List Int} {k : Nat} : rnG xs k = 0 ↔ nth xs k = 0 := by
  unfold rnG
  refine ⟨fun h => ?_, fun h => by rw [h, nmA_none]; rfl⟩
  by_cases h0 : nth xs k = 0
  · exact h0
  · have : nmA xs (k + 1) (nth xs k) ≠ 0 := fun z => ((nmA_zero_iff h0 (k + 1)).1 z) k (by omega) rfl
    omega
theorem rnG_same {xs : List Int} {i j : Nat} : rnG xs i = rnG xs j ↔ nth xs i = nth xs j := by
  obtain ⟨m, hm⟩ : ∃ m, m = max (i + 1) (j + 1) := ⟨_, rfl⟩
  rw [rnG_eq (show i < m by omega), rnG_eq (show j < m by omega)]
  refine ⟨fun h => ?_, fun h => by rw [h]⟩
  have h' : nmA xs m (nth xs i) = nmA xs m (nth xs j) := by omega
  by_cases h0 : nmA xs m (nth xs i) = 0
  · have a0 : nth xs i = 0 := by
      by_cases e : nth xs i = 0
      · exact e
      · exact absurd rfl (((nmA_zero_iff e m).1 h0) i (by omega))
    have b0 : nth xs j = 0 := by
      by_cases e : nth xs j = 0
      · exact e
      · exact absurd rfl (((nmA_zero_iff e m).1 (by rw [← h']; exact h0)) j (by omega))
    rw [a0, b0]
  · exact nmA_inj h0 h'
/-- two lists of the same pattern. -/
def SamePat (xs ys : List Int) (n : Nat) : Prop := (∀ i, i < n → (nth xs i = 0 ↔ nth ys i = 0)) ∧ ∀ i j, i < n → j < n → (nth xs i = nth xs j ↔ nth ys i = nth ys j)
theorem SamePat.symm {xs ys : List Int} {n : Nat} (h : SamePat xs ys n) : SamePat ys xs n := ⟨fun i hi => (h.1 i hi).symm, fun i j hi hj => (h.2 i j hi hj).symm⟩
theorem SamePat.pm {xs ys : List Int} {n : Nat} {P : Nat → Nat} (h : SamePat xs ys n) (hP : ∀ k, k < n → P k < n) : SamePat (pm xs P n) (pm ys P n) n :=
  ⟨fun i hi => by rw [pm_nth hi, pm_nth hi]; exact h.1 _ (hP i hi), fun i j hi hj => by rw [pm_nth hi, pm_nth hi, pm_nth hj, pm_nth hj]; exact h.2 _ _ (hP i hi) (hP j hj)⟩
theorem samePat_rn (xs : List Int) (n : Nat) : SamePat xs (rnL xs n) n :=
  ⟨fun i hi => by rw [rnL_nth hi]; exact rnG_zero.symm, fun i j hi hj => by rw [rnL_nth hi, rnL_nth hj]; exact rnG_same.symm⟩
theorem newAt_pat {xs ys : List Int} {n i : Nat} (h : SamePat xs ys n) (hi : i < n) : newAt xs i = newAt ys i := by
  rw [Bool.eq_iff_iff, newAt_iff, newAt_iff]
  refine ⟨fun ⟨a, b⟩ => ⟨fun e => a ((h.1 i hi).2 e), fun j hj e => b j hj ((h.2 j i (by omega) hi).2 e)⟩, fun ⟨a, b⟩ => ⟨fun e => a ((h.1 i hi).1 e), fun j hj e => b j hj ((h.2 j i (by omega) hi).1 e)⟩⟩
theorem cntN_pat {xs ys : List Int} {n : Nat} (h : SamePat xs ys n) : ∀ k, k ≤ n → cntN xs k = cntN ys k
  | 0, _ => rfl
  | k + 1, hk => by simp only [cntN]; rw [cntN_pat h k (by omega), newAt_pat h (by omega)]
theorem nmA_pat {xs ys : List Int} {n j : Nat} (h : SamePat xs ys n) (hj : j < n) : ∀ k, k ≤ n → nmA xs k (nth xs j) = nmA ys k (nth ys j)
  | 0, _ => rfl
  | k + 1, hk => by
    simp only [nmA]
    rw [cntN_pat h k (by omega), newAt_pat h (by omega), nmA_pat h hj k (by omega)]
    by_cases e : newAt ys k = true ∧ nth ys k = nth ys j
    · rw [if_pos e, if_pos ⟨e.1, (h.2 k j (by omega) hj).2 e.2⟩]
    · rw [if_neg e, if_neg (fun q => e ⟨q.1, (h.2 k j (by omega) hj).1 q.2⟩)]
theorem rnL_pat {xs ys : List Int} {n : Nat} (h : SamePat xs ys n) : rnL xs n = rnL ys n := by
  apply ext_nth (by rw [rnL_len, rnL_len])
  intro k hk
  rw [rnL_len] at hk
  rw [rnL_nth hk, rnL_nth hk]
  unfold rnG
  rw [nmA_pat h hk (k + 1) (by omega)]
theorem rnL_rnL (xs : List Int) (n : Nat) : rnL (rnL xs n) n = rnL xs n := (rnL_pat (samePat_rn xs n)).symm
def one4 (xs : List Int) (k : Nat) (v : Int) : Nat := if nmA xs k v = 0 then 0 else 1
theorem cntN_four {xs : List Int} : ∀ k, (∀ i, i < k → 0 ≤ nth xs i ∧ nth xs i ≤ 4) → cntN xs k = one4 xs k 1 + one4 xs k 2 + one4 xs k 3 + one4 xs k 4
  | 0, _ => rfl
  | k + 1, hv => by
    have ih := cntN_four k (fun i hi => hv i (by omega))
    obtain ⟨v0, v4⟩ := hv k (by omega)
    have hnm := newAt_nm (xs := xs) (k := k)
    simp only [cntN]
    by_cases hn : newAt xs k = true
    · rw [if_pos hn, ih]
      rw [hn] at hnm
      have hz : nth xs k ≠ 0 ∧ nmA xs k (nth xs k) = 0 := by simpa using hnm.symm
      have hv4 : nth xs k = 1 ∨ nth xs k = 2 ∨ nth xs k = 3 ∨ nth xs k = 4 := by omega
      have hone : ∀ v, one4 xs (k + 1) v = if nth xs k = v then 1 else one4 xs k v := fun v => by
        unfold one4
        by_cases e : nth xs k = v
        · rw [nmA_t ⟨hn, e⟩, if_pos e, if_neg (by omega)]
        · rw [nmA_f (fun q => e q.2), if_neg e]
      have hz2 : one4 xs k (nth xs k) = 0 := by unfold one4; rw [if_pos hz.2]
      rw [hone, hone, hone, hone]
      rcases hv4 with e | e | e | e <;> rw [e] at hz2 <;> simp [e] <;> omega
    · rw [if_neg hn, ih]
      have hone : ∀ v, one4 xs (k + 1) v = one4 xs k v := fun v => by
        unfold one4
        rw [nmA_f (fun q => hn q.1)]
      rw [hone, hone, hone, hone]
theorem cntN_le {xs : List Int} {s : Int} {k : Nat} (h2 : 2 ≤ s) (h4 : s ≤ 4) (hv : ∀ i, i < k → 0 ≤ nth xs i ∧ nth xs i ≤ s) : (cntN xs k : Int) ≤ s := by
  have e := cntN_four k (fun i hi => ⟨(hv i hi).1, Int.le_trans (hv i hi).2 h4⟩)
  have big : ∀ v : Int, s < v → one4 xs k v = 0 := fun v h => by
    unfold one4
    rw [if_pos]
    exact (nmA_zero_iff (by omega) k).2 (fun i hi e => by have := (hv i hi).2; omega)
  have le1 : ∀ v, one4 xs k v ≤ 1 := fun v => by unfold one4; split <;> omega
  have a1 := le1 1; have a2 := le1 2; have a3 := le1 3; have a4 := le1 4
  have : s = 2 ∨ s = 3 ∨ s = 4 := by omega
  rcases this with rfl | rfl | rfl
  · have b3 := big 3 (by omega); have b4 := big 4 (by omega); omega
  · have b4 := big 4 (by omega); omega
  · omega
theorem nmA_le {xs : List Int} {v : Int} {k : Nat} : nmA xs k v ≤ cntN xs k := by
  by_cases h : nmA xs k v = 0
  · omega
  · obtain ⟨i, hi, a, _, c⟩ := nmA_some k h
    have h1 := cntN_mono (xs := xs) (show i + 1 ≤ k by omega)
    simp only [cntN, a, if_true] at h1
    omega
theorem rnL_gv {xs : List Int} {s : Int} {n : Nat} (hg : gv xs s = true) (hl : xs.length = n) : gv (rnL xs n) s = true := by
  obtain ⟨h2, h4⟩ := gv_size hg
  refine okAll_gv (rnL_len _ _) (gv_n hg hl).2.2 h2 h4 (fun k hk => ?_)
  rw [rnL_nth hk]
  have hc := cntN_le (xs := xs) (k := k + 1) h2 h4 (fun i hi => gv_nth hg (by omega))
  have := nmA_le (xs := xs) (v := nth xs k) (k := k + 1)
  unfold rnG
  omega
end Go.Proofs.YtkeoflnmbcdmfaaDoor
set_option maxRecDepth 8000
namespace Go.Proofs.YtkeoflnmbcdmfaaDoor
open Go.ChangeShapes Go.WideShapes Go.ChangeAt Go.RowKit
/-! a slice of slices of ints of the call's own. -/
theorem sl_info : (Tryd.prog.info? 23).map (fun i => (i.zero, i.size, i.bytes)) = some (some (.slice none 0 0), 1, 24) := by kernel_rfl
abbrev GV := Value × List Int
theorem Ow.off {w w' : World} {lo : Nat} {A : Option Addr} {n c : Nat} {xs : List Int} {row : Option Nat} (h : Ow w lo A n c xs) (hg : w.grownBy w' row) (hne : ∀ g, (Value.slice A n c).ownBlock = some g → row ≠ some g) : Ow w' lo A n c xs := by
  refine World.ownsRow.kept h hg ?_
  cases e : (Value.slice A n c).ownBlock with
  | none => exact .inl rfl
  | some g => exact .inr (fun he => hne g e he.symm)
/-- the cells of each element lie in a block of its own. -/
def Gs (w : World) (lo : Nat) (v : Value) (d : List GV) : Prop :=
  w.ownsRow lo 23 1 v d.length (d.map Prod.fst) ∧ (∀ x ∈ d, (∃ A c, x.1 = .slice A x.2.length c ∧ Ow w lo A x.2.length c x.2) ∧ ∀ g, x.1.ownBlock = some g → v.ownBlock ≠ some g) ∧ d.Pairwise fun x y => ∀ g, x.1.ownBlock = some g → y.1.ownBlock ≠ some g
def gsC (d : List GV) : List (List Int) := d.map Prod.snd
def gat (Ls : List (List Int)) (k : Nat) : List Int := Ls.getD k []
theorem cnt_len (d : List GV) : (gsC d).length = d.length := by simp [gsC]
theorem gat_cnt {d : List GV} {k : Nat} (hk : k < d.length) : gat (gsC d) k = d[k].2 := by
  simp [gat, gsC, List.getD_eq_getElem?_getD, hk]
theorem Gs.below {w w' : World} {lo : Nat} {v : Value} {d : List GV} (h : Gs w lo v d) (hb : Below w.heap.size w w') : Gs w' lo v d := by
  refine ⟨World.ownsRow.kept h.1 (row := none) ⟨hb.os, hb.tape, hb.output, hb.size, fun k hk _ => hb.block k hk⟩ (by
    cases e : v.ownBlock
    · exact .inl rfl
    · exact .inr (by simp)), fun x hx => ?_, h.2.2⟩
  obtain ⟨⟨A, c, e, ho⟩, hs⟩ := h.2.1 x hx
  exact ⟨⟨A, c, e, ho.below hb⟩, hs⟩
theorem Gs.hi {w : World} {lo : Nat} {v : Value} {d : List GV} (h : Gs w lo v d) {x : GV} (hx : x ∈ d) : ∀ g, x.1.ownBlock = some g → g < w.heap.size := fun g hg => by
  obtain ⟨⟨A, c, e, ho⟩, _⟩ := h.2.1 x hx
  rw [e] at hg
  exact ho.own_hi g hg
theorem Gs.vhi {w : World} {lo : Nat} {v : Value} {d : List GV} (h : Gs w lo v d) : ∀ g, v.ownBlock = some g → g < w.heap.size := fun g hg => (World.ownsRow.lt h.1 g hg).2
theorem Gs.vlo {w : World} {lo : Nat} {v : Value} {d : List GV} (h : Gs w lo v d) : ∀ g, v.ownBlock = some g → lo ≤ g := fun g hg => (World.ownsRow.lt h.1 g hg).1
theorem Gs.mono {w : World} {lo lo' : Nat} {v : Value} {d : List GV} (h : Gs w lo v d) (hl : lo' ≤ lo) : Gs w lo' v d :=
  ⟨World.ownsRow.mono h.1 hl, fun x hx => by obtain ⟨⟨A, c, e, ho⟩, hs⟩ := h.2.1 x hx; exact ⟨⟨A, c, e, ho.mono hl⟩, hs⟩, h.2.2⟩
theorem Gs.at_ {w : World} {lo m cap : Nat} {A : Option Addr} {d : List GV} (h : Gs w lo (.slice A m cap) d) {k : Nat} (hk : k < d.length) :
    ∃ g A' c', A = some ⟨g, 0, none⟩ ∧ m = d.length ∧ lo ≤ g ∧ g < w.heap.size ∧ w.cell? ⟨g, k, none⟩ = some (.slice A' (gat (gsC d) k).length c') ∧ w.frozen? ⟨g, k, none⟩ = false ∧ Ow w lo A' (gat (gsC d) k).length c' (gat (gsC d) k) ∧ (∀ b, (Value.slice A' (gat (gsC d) k).length c').ownBlock = some b → b ≠ g) ∧ d[k].1 = .slice A' (gat (gsC d) k).length c' := by
  obtain ⟨g, cap', hv, h1, h2⟩ := World.ownsRow.form h.1 (by omega)
  injection hv with e1 e2 e3
  subst e1 e2 e3
  obtain ⟨⟨A', c', e, ho⟩, hs⟩ := h.2.1 d[k] (List.getElem_mem hk)
  rw [gat_cnt hk]
  refine ⟨g, A', c', rfl, rfl, h1, h2, ?_, World.ownsRow.frozenAt h.1 k, ho, fun b hb => ?_, e⟩
  · rw [World.ownsRow.cellAt h.1 k (by omega), List.getElem?_map, List.getElem?_eq_getElem hk]
    simp only [Option.map_some, e]
  · rw [← e] at hb
    have := hs b hb
    simp [Value.ownBlock] at this
    exact fun q => this q.symm
theorem Gs.nil_ {w : World} {lo : Nat} : Gs w lo (.slice none 0 0) [] := ⟨World.ownsRow_nil w lo _ _, fun x hx => by simp at hx, List.Pairwise.nil⟩
theorem Gs.made0 {w : World} {lo : Nat} (h : lo ≤ w.heap.size) : Gs (w.alloc (.cells #[] 23)) lo (.slice (some ⟨w.heap.size, 0, none⟩) 0 0) [] := ⟨World.ownsRow_made w #[] 0 h (by simp [maxLen]) rfl, fun x hx => by simp at hx, List.Pairwise.nil⟩
/-- one slice more, in a block of its own. -/
theorem Gs.push {w3 w5 : World} {lo lo3 : Nat} {v : Value} {d : List GV} {A3 : Option Addr} {c3 g' cap : Nat} {xs : List Int} (h : Gs w3 lo v d) (ho3 : Ow w3 lo3 A3 xs.length c3 xs) (hlo : lo ≤ lo3)
    (hsep : ∀ x ∈ d, ∀ g, x.1.ownBlock = some g → (Value.slice A3 xs.length c3).ownBlock ≠ some g) (hv : ∀ g, (Value.slice A3 xs.length c3).ownBlock = some g → v.ownBlock ≠ some g) {o : Obj}
    (h5 : w5.ownsRow lo 23 1 (.slice (some ⟨g', 0, none⟩) (d.length + 1) cap) (d.length + 1) (d.map Prod.fst ++ [.slice A3 xs.length c3])) (hg5 : (w3.alloc o).grownBy w5 v.ownBlock) (hl5 : v.ownBlock = some g' ∨ g' = (w3.alloc o).heap.size) :
    Gs w5 lo (.slice (some ⟨g', 0, none⟩) (d.length + 1) cap) (d ++ [(.slice A3 xs.length c3, xs)]) := by
  have hno : ∀ {lo2 : Nat} {A : Option Addr} {n c : Nat} {ys : List Int}, Ow w3 lo2 A n c ys → (∀ g, (Value.slice A n c).ownBlock = some g → v.ownBlock ≠ some g) → Ow w5 lo2 A n c ys := fun ho hne => Ow.off (World.ownsRow.alloc ho o) hg5 hne
  have hg' : (Value.slice (some ⟨g', 0, none⟩) (d.length + 1) cap).ownBlock = some g' := by simp [Value.ownBlock]
  have hfar : ∀ b, b < w3.heap.size → v.ownBlock ≠ some b → b ≠ g' := fun b hb hne e => by
    subst e
    rcases hl5 with q | q
    · exact hne q
    · rw [World.size_alloc] at q; omega
  refine ⟨by simpa using h5, fun x hx => ?_, ?_⟩
  · rw [List.mem_append] at hx
    rcases hx with hx | hx
    · obtain ⟨⟨A, c, e, ho⟩, hs⟩ := h.2.1 x hx
      refine ⟨⟨A, c, e, hno ho (fun g hg => hs g (by rw [e]; exact hg))⟩, fun g hg => ?_⟩
      rw [hg']
      intro q
      injection q with q
      exact hfar g (h.hi hx g hg) (hs g hg) q.symm
    · simp only [List.mem_singleton] at hx
      subst hx
      refine ⟨⟨A3, c3, rfl, (hno ho3 hv).mono hlo⟩, fun g hg => ?_⟩
      rw [hg']
      intro q
      injection q with q
      exact hfar g (ho3.own_hi g hg) (hv g hg) q.symm
  · rw [List.pairwise_append]
    exact ⟨h.2.2, List.pairwise_singleton _ _, fun x hx y hy g hg => by simp only [List.mem_singleton] at hy; subst hy; exact hsep x hx g hg⟩
/-- an element put into its place. -/
theorem Gs.put {w : World} {lo lo3 g m cap k : Nat} {d : List GV} {A3 : Option Addr} {c3 : Nat} {xs : List Int} (h : Gs w lo (.slice (some ⟨g, 0, none⟩) m cap) d) (hk : k < d.length) (ho3 : Ow w lo3 A3 xs.length c3 xs) (hlo : lo ≤ lo3)
    (hsep : ∀ x ∈ d, ∀ b, x.1.ownBlock = some b → (Value.slice A3 xs.length c3).ownBlock ≠ some b) (hv : ∀ b, (Value.slice A3 xs.length c3).ownBlock = some b → b ≠ g) :
    Gs (w.setCell ⟨g, k, none⟩ (.slice A3 xs.length c3)) lo (.slice (some ⟨g, 0, none⟩) m cap) (d.set k (.slice A3 xs.length c3, xs)) := by
  obtain ⟨g0, cap', hv0, _, _⟩ := World.ownsRow.form h.1 (by omega)
  injection hv0 with e1 e2 e3
  injection e1 with e1
  injection e1 with e1 _ _
  subst e1 e2 e3
  obtain ⟨h1, h2⟩ := World.ownsRow.stored h.1 k (.slice A3 xs.length c3)
  have hno : ∀ {lo2 : Nat} {A : Option Addr} {n c : Nat} {ys : List Int}, Ow w lo2 A n c ys → (∀ b, (Value.slice A n c).ownBlock = some b → b ≠ g) → Ow (w.setCell ⟨g, k, none⟩ (.slice A3 xs.length c3)) lo2 A n c ys := fun ho hne => Ow.off ho h2 (fun b hb e => hne b hb (by injection e with e; exact e.symm))
  have hg' : (Value.slice (some ⟨g, 0, none⟩) d.length cap).ownBlock = some g := by simp [Value.ownBlock]
  refine ⟨by rw [List.length_set, List.map_set]; exact h1, fun x hx => ?_, ?_⟩
  · rcases List.mem_or_eq_of_mem_set hx with hx | hx
    · obtain ⟨⟨A, c, e, ho⟩, hs⟩ := h.2.1 x hx
      refine ⟨⟨A, c, e, hno ho (fun b hb q => hs b (by rw [e]; exact hb) (by rw [hg', q]))⟩, hs⟩
    · subst hx
      exact ⟨⟨A3, c3, rfl, (hno ho3 hv).mono hlo⟩, fun b hb => by rw [hg']; intro q; injection q with q; exact hv b hb q.symm⟩
  · rw [List.pairwise_iff_getElem]
    have hp := List.pairwise_iff_getElem.1 h.2.2
    intro i j hi hj hij b hb
    rw [List.length_set] at hi hj
    rw [List.getElem_set] at hb ⊢
    by_cases e : k = i
    · rw [if_pos e] at hb
      rw [if_neg (by omega)]
      intro q
      exact hsep d[j] (List.getElem_mem hj) b q hb
    · rw [if_neg e] at hb
      by_cases e2 : k = j
      · rw [if_pos e2]
        exact hsep d[i] (List.getElem_mem hi) b hb
      · rw [if_neg e2]
        exact hp i j hi hj hij b hb
theorem cnt_set {d : List GV} {k : Nat} {x : GV} : gsC (d.set k x) = (gsC d).set k x.2 := by simp [gsC, List.map_set]
theorem gat_set {Ls : List (List Int)} {k j : Nat} {xs : List Int} (hk : k < Ls.length) : gat (Ls.set k xs) j = if j = k then xs else gat Ls j := by
  simp only [gat, List.getD_eq_getElem?_getD, List.getElem?_set]
  by_cases e : k = j
  · subst e; simp [hk]
  · rw [if_neg e, if_neg (fun q => e q.symm)]
/-- 'append(out, x)', x a slice that has been laid just ahead. -/
theorem push_sl {w : World} {ops : Array Oper} {rest : List Oper} {o : Oper} {a : Act} {Q : Exit → Act → World → Prop} (hgd : o.guard = none) (s x : Operand)
    (ho : o.op = .call { callee := .builtin .append, args := #[s, x], argTypes := #[51, 51] })
    (lo : Nat) (v : Value) (n : Nat) (vs : List Value) (g : Nat) (A : Option Addr) (m c : Nat) (hs : a.eval s = v) (hx : a.eval x = .slice (some ⟨g, 0, none⟩) 1 1)
    (hown : w.ownsRow lo 23 1 v n vs) (hrow : w.heap[g]? = some (.cells #[.slice A m c] 23)) (hn : n ≤ 1099511627776) (hlo : lo ≤ w.heap.size)
    (h : ∀ g' cap w', w'.ownsRow lo 23 1 (.slice (some ⟨g', 0, none⟩) (n + 1) cap) (n + 1) (vs ++ [.slice A m c]) → w.grownBy w' v.ownBlock → (v.ownBlock = some g' ∨ g' = w.heap.size) → wpList Tryd.prog ops Q rest (a.put o.dst (.slice (some ⟨g', 0, none⟩) (n + 1) cap)) w') :
    wpList Tryd.prog ops Q (o :: rest) a w := by
  refine wpList_plain hgd fun K hK => ?_
  obtain ⟨i0, hi, hz0, hz1, hz2⟩ := info_parts sl_info
  obtain ⟨g', cap, w', hrun, h1, h2, h3, h4⟩ := run_append_lies (P := Tryd.prog) w 51 o.type lo 23 i0 (.slice none 0 0) 1 24 Tryd.underlying51 hi hz0 hz1 hz2 rfl (by decide) v n vs hown ⟨g, 0, none⟩ 1 1 [.slice A m c] rfl (World.news_of_block (cs := #[.slice A m c]) hrow) (by simp [Value.oneCell']) (by decide) (by simp only [maxLen]; omega) (by omega) hlo _ rfl
  unfold Oper.wp
  simp [execOp, ho, resolve, invoke, builtin, hs, hx, hrun, Result.andThen]
  exact hK _ _ (h g' cap w' h1 h2 h3)
/-- 'append([]int{}, t...)', t whatever reads. -/
theorem push_copy {w : World} {ops : Array Oper} {rest : List Oper} {o : Oper} {a : Act} {Q : Exit → Act → World → Prop} (hgd : o.guard = none) (s x : Operand)
    (ho : o.op = .call { callee := .builtin .append, args := #[s, x], argTypes := #[23, 23] })
    (lo : Nat) (A : Option Addr) (A2 : Option Addr) (m c2 B : Nat) (ys : List Int) (hs : a.eval s = .slice A 0 0) (hx : a.eval x = .slice A2 m c2) (hown : Ow w lo A 0 0 []) (hr : Rd w B A2 m ys)
    (hm : m ≤ 1099511627776) (hlo : lo ≤ w.heap.size)
    (h : ∀ A' c' w', Ow w' lo A' m c' ys → w.grownBy w' (Value.slice A 0 0).ownBlock → wpList Tryd.prog ops Q rest (a.put o.dst (.slice A' m c')) w') :
    wpList Tryd.prog ops Q (o :: rest) a w := by
  refine wpList_plain hgd fun K hK => ?_
  obtain ⟨A', c', w', hrun, h1, h2, h3⟩ := run_push_all o.type lo A 0 0 [] A2 m c2 B ys hown hr (.inr rfl) (by omega) hm hlo
  rw [Nat.zero_add] at hrun h1
  rw [List.nil_append] at h1
  unfold Oper.wp
  simp [execOp, ho, resolve, invoke, builtin, hs, hx, hrun, Result.andThen]
  exact hK _ _ (h A' c' w' h1 h2)
/-- a slice of n ints of the call's own is handed back. -/
def RetN (w : World) (n : Nat) (xs : List Int) (e : Ending) (w' : World) : Prop := ∃ A c, e = .returned (.slice A n c) ∧ Ow w' w.heap.size A n c xs ∧ Below w.heap.size w w'
theorem retN_of {w w' : World} {n : Nat} {xs : List Int} {e : Ending} (h : RetSl w xs e w') (hl : xs.length = n) : RetN w n xs e w' := by
  obtain ⟨A, c, rfl, ho, hb⟩ := h
  rw [hl] at ho ⊢
  exact ⟨A, c, rfl, ho, hb⟩
def RetGs (w : World) (Ls : List (List Int)) (e : Ending) (w' : World) : Prop := ∃ A c d, e = .returned (.slice A Ls.length c) ∧ gsC d = Ls ∧ Gs w' w.heap.size (.slice A Ls.length c) d ∧ Below w.heap.size w w'
theorem retGs_mk {w w' : World} {A : Option Addr} {m c : Nat} {d : List GV} {Ls : List (List Int)} (hd : d.length = m) (hc : gsC d = Ls) (hG : Gs w' w.heap.size (.slice A m c) d) (hb : Below w.heap.size w w') : RetGs w Ls (.returned (.slice A m c)) w' := by
  have : Ls.length = m := by rw [← hc, cnt_len, hd]
  subst this
  exact ⟨A, c, d, rfl, hc, hG, hb⟩
/-- the forms of a grid. -/
def gfL (xs : List Int) (s : Int) (n : Nat) : List (List Int) := if gv xs s = true then (List.range 8).map (frm s n xs) else []
theorem gfL_f {xs : List Int} {s : Int} {n : Nat} (h : gv xs s = false) : gfL xs s n = [] := by simp [gfL, h]
theorem gfL_t {xs : List Int} {s : Int} {n : Nat} (h : gv xs s = true) : gfL xs s n = (List.range 8).map (frm s n xs) := by simp [gfL, h]
theorem gat_map {f : Nat → List Int} {m k : Nat} (h : k < m) : gat ((List.range m).map f) k = f k := by simp [gat, List.getD_eq_getElem?_getD, h]
set_option maxHeartbeats 2000000 in
theorem specGridForms (A : Option Addr) (c n B : Nat) (xs : List Int) (size : Int) (w : World) (h : Rd w B A n xs) (hB : B ≤ w.heap.size) (hm : n ≤ 1099511627776) :
    Calls Tryd.prog 45 #[.slice A n c, .int .i64 size] w (RetGs w (gfL xs size n)) := by
  have hlen := Lib.hid h.1
  have hb0 : Below w.heap.size w (w.alloc (.cells #[] 23)) := (Below.refl _ _).alloc (Nat.le_refl _) _
  have h1 := h.alloc hB (.cells #[] 23)
  have G0 : Gs (w.alloc (.cells #[] 23)) w.heap.size (.slice (some ⟨w.heap.size, 0, none⟩) 0 0) [] := Gs.made0 (Nat.le_refl _)
  cases hg : gv xs size
  · have HL := Lib.hid (gfL_f (n := n) hg)
    go_enter Tryd.func45, Tryd.ntmps45
    go_wp2_with (go_at_call 53; refine (specGridValid _ _ _ _ _ _ _ h1 hm).mono ?_; rintro e w' ⟨rfl, rfl⟩; rw [hg])
    go_ret
    rw [HL.out]
    exact ⟨_, _, [], rfl, rfl, G0, hb0⟩
  · obtain ⟨s, rfl, hs, hls⟩ := size_nat hg
    have hn : n = s * s := by have := hlen.out; omega
    have HL := Lib.hid (gfL_t (n := n) hg)
    have hs0 : (w.alloc (.cells #[] 23)).heap.size = w.heap.size + 1 := by simp
    have O1 : Ow ((w.alloc (.cells #[] 23)).alloc (.cells #[] 3)) (w.heap.size + 1) (some ⟨w.heap.size + 1, 0, none⟩) 0 0 [] := by
      have := Ow.made0 (w.alloc (.cells #[] 23)) (w.heap.size + 1) (by simp)
      rwa [hs0] at this
    have hb1 : Below w.heap.size w ((w.alloc (.cells #[] 23)).alloc (.cells #[] 3)) := hb0.alloc hb0.size _
    have h2 := h.below (hb1.mono hB)
    have Hlt : Hid (∀ k, (frm s n xs k).length = n ∧ gv (frm s n xs k) s = true) := Lib.hid fun k => ⟨frm_len hlen.out k, frm_gv hs hn hlen.out hg k⟩
    have HX : Hid (∀ k, (spX s n xs k).length = n) := Lib.hid fun k => spX_len hlen.out k
    have HM : Hid (∀ W, Below w.heap.size w W → Calls Tryd.prog 78 #[.slice A n c, .int .i64 s] W fun e w' => ∃ A' c', e = .returned (.slice A' n c') ∧ Ow w' W.heap.size A' n c' (frm s n xs 4) ∧ Below W.heap.size W w') := Lib.hid fun W hW => by
      have hl4 : (mirL xs s).length = n := by rw [mirL_frm hlen.out hg]; exact frm_len hlen.out 4
      refine (specGridMirror A c n B xs s W (h.below (hW.mono hB)) (Nat.le_trans hB hW.size) hm).mono ?_
      rintro e w' ⟨A', c', rfl, ho, hb⟩
      rw [hl4] at ho ⊢
      rw [mirL_frm hlen.out hg] at ho
      exact ⟨A', c', rfl, ho, hb⟩
    have HT : Hid (∀ k W A' c', Rd W W.heap.size A' n (frm s n xs k) → Calls Tryd.prog 79 #[.slice A' n c', .int .i64 s] W fun e w' => ∃ A'' c'', e = .returned (.slice A'' n c'') ∧ Ow w' W.heap.size A'' n c'' (spX s n xs (k + 1)) ∧ Below W.heap.size W w') := Lib.hid fun k W A' c' hr => by
      obtain ⟨l1, l2⟩ := Hlt.out k
      have e1 : turnL (frm s n xs k) s = spX s n xs (k + 1) := by rw [spX_succ]; exact turnL_pm l2 l1
      refine (specGridTurn A' c' n _ _ s W hr (Nat.le_refl _) hm).mono ?_
      rintro e w' ⟨A'', c'', rfl, ho, hb⟩
      rw [e1, HX.out] at ho ⊢
      exact ⟨A'', c'', rfl, ho, hb⟩
    have Hlen := hlen
    clear hn
    go_enter Tryd.func45, Tryd.ntmps45
    go_wp2_with (first
      | (go_at_call 53; refine (specGridValid _ _ _ _ _ _ _ h1 hm).mono ?_; rintro e w' ⟨rfl, rfl⟩; rw [hg])
      | (at_builtin; (refine push_copy rfl (.tmp 14) (.tmp 15) rfl (w.heap.size + 1) (some ⟨w.heap.size + 1, 0, none⟩) A n c B xs rfl rfl O1 h2 hm (by simp <;> omega) ?_); intro A1 c1 w1 ho1 hg1))
    have hbw1 : Below (w.heap.size + 1) (w.alloc (.cells #[] 23)) w1 := ((Below.refl _ _).alloc (by simp) _).grown hg1 (by simp) (fun g hg => by simp [Value.ownBlock] at hg; omega)
    have hb2 : Below w.heap.size w w1 := hb0.trans (hbw1.mono (by omega))
    have G1 : Gs w1 w.heap.size (.slice (some ⟨w.heap.size, 0, none⟩) 0 0) [] := G0.below (by rw [hs0]; exact hbw1)
    have Hlo := Lib.hid ho1.own_lo
    go_loopw [5, 6, 7] (fun v x i wr => ∃ (k : Nat) (d : List GV) (Av : Option Addr) (cv : Nat) (A' : Option Addr) (c' : Nat), k ≤ 8 ∧ i = .int .i64 k ∧ v = .slice Av k cv ∧ x = .slice A' n c' ∧ d.length = k ∧ Hid (gsC d = (List.range k).map (frm s n xs)) ∧ Gs wr w.heap.size (.slice Av k cv) d ∧ Ow wr w.heap.size A' n c' (spX s n xs k) ∧ Hid ((∀ y ∈ d, ∀ g, y.1.ownBlock = some g → (Value.slice A' n c').ownBlock ≠ some g) ∧ ∀ g, (Value.slice A' n c').ownBlock = some g → (Value.slice Av k cv).ownBlock ≠ some g) ∧ Below w.heap.size w wr) (fun _ _ i _ => 8 - (intOf i).toNat)
    case atStart =>
      refine ⟨0, [], _, _, A1, c1, Nat.zero_le _, rfl, rfl, rfl, rfl, Lib.hid rfl, G1, ho1.mono (by omega), Lib.hid ⟨fun y hy => by simp at hy, fun g hg e => ?_⟩, hb2⟩
      have := Hlo.out g hg
      simp [Value.ownBlock] at e
      omega
    case round =>
      obtain ⟨k, d, Av, cv, A', c', hk, rfl, rfl, rfl, hdl, HC, hG, ho, HS, hb⟩ := hrel
      by_cases hlt : k < 8
      · have hlt' : (k : Int) < 8 := by omega
        have hpush : ∀ (W w5 : World) (A3 : Option Addr) (c3 g5 cap5 : Nat), Below wr.heap.size wr W → Ow W w.heap.size A3 n c3 (frm s n xs k) → ((∀ y ∈ d, ∀ g, y.1.ownBlock = some g → (Value.slice A3 n c3).ownBlock ≠ some g) ∧ ∀ g, (Value.slice A3 n c3).ownBlock = some g → (Value.slice Av k cv).ownBlock ≠ some g) →
            w5.ownsRow w.heap.size 23 1 (.slice (some ⟨g5, 0, none⟩) (k + 1) cap5) (k + 1) (d.map Prod.fst ++ [.slice A3 n c3]) → (W.alloc (.cells #[.slice A3 n c3] 23)).grownBy w5 (Value.slice Av k cv).ownBlock → ((Value.slice Av k cv).ownBlock = some g5 ∨ g5 = (W.alloc (.cells #[.slice A3 n c3] 23)).heap.size) →
            Gs w5 w.heap.size (.slice (some ⟨g5, 0, none⟩) (k + 1) cap5) (d ++ [(.slice A3 n c3, frm s n xs k)]) ∧ Below w.heap.size w w5 ∧ Rd w5 w5.heap.size A3 n (frm s n xs k) ∧ gsC (d ++ [(.slice A3 n c3, frm s n xs k)]) = (List.range (k + 1)).map (frm s n xs) := by
          intro W w5 A3 c3 g5 cap5 hW ho3 hsep h5 hg5 hl5
          have hl := (Hlt.out k).1
          have hGW := hG.below hW
          have hP := Gs.push (xs := frm s n xs k) (A3 := A3) (c3 := c3) (o := .cells #[.slice A3 n c3] 23) (g' := g5) (cap := cap5) (w5 := w5) hGW (by rw [hl]; exact ho3) (Nat.le_refl _) (by rw [hl]; exact hsep.1) (by rw [hl]; exact hsep.2) (by rw [hl, hdl]; exact h5) hg5 hl5
          rw [hl, hdl] at hP
          have hbW : Below w.heap.size w W := hb.trans (hW.mono hb.size)
          refine ⟨hP, (hbW.alloc hbW.size _).grown hg5 (Nat.le_trans hbW.size (by simp)) (fun g hg => hG.vlo g hg), ?_, ?_⟩
          · exact (Ow.off (World.ownsRow.alloc ho3 _) hg5 hsep.2).rd
          · rw [List.range_succ, List.map_append, ← HC.out]
            simp [gsC]
        have HP := Lib.hid hpush
        clear hpush
        have HO : Hid (∀ W, Below wr.heap.size wr W → W.ownsRow w.heap.size 23 1 (.slice Av k cv) k (d.map Prod.fst)) := Lib.hid fun W hW => by
          have := (hG.below hW).1
          rwa [hdl] at this
        have hnew : ∀ (W W' : World) (A3 : Option Addr) (c3 g5 cap5 : Nat) (zs : List Int) (d' : List GV), Gs W w.heap.size (.slice (some ⟨g5, 0, none⟩) (k + 1) cap5) d' → Ow W' W.heap.size A3 n c3 zs → Hid ((∀ y ∈ d', ∀ g, y.1.ownBlock = some g → (Value.slice A3 n c3).ownBlock ≠ some g) ∧ ∀ g, (Value.slice A3 n c3).ownBlock = some g → (Value.slice (some ⟨g5, 0, none⟩) (k + 1) cap5).ownBlock ≠ some g) := fun W W' A3 c3 g5 cap5 zs d' hGW ho3 => Lib.hid ⟨fun y hy g hg q => by
            have := hGW.hi hy g hg
            have := ho3.own_lo g q
            omega, fun g hg q => by
            have := hGW.vhi g q
            have := ho3.own_lo g hg
            omega⟩
        have HN := Lib.hid hnew
        clear hnew
        have hk40 : k ≤ 1099511627776 := by omega
        by_cases h4 : k = 4
        · subst h4
          have h44 : ((4 : Nat) : Int) = 4 := rfl
          go_wp2_with (first
            | (go_at_call 78; refine (HM.out _ hb).mono ?_; rintro e w3 ⟨A3, c3, rfl, ho3, hb3⟩; have hs3 := Nat.le_trans hb.size hb3.size)
            | (at_builtin; (refine push_sl rfl (.tmp 26) (.tmp 28) rfl w.heap.size (.slice Av 4 cv) 4 (d.map Prod.fst) w3.heap.size A3 n c3 rfl rfl (World.ownsRow.alloc (HO.out _ hb3) _) (heap_alloc_new w3 _) hk40 (by simp <;> omega) ?_); intro g5 cap5 w5 ho5 hg5 hl5;
                obtain ⟨p1, p2, p3, p4⟩ := HP.out w3 w5 A3 c3 g5 cap5 hb3 (ho3.mono hb.size) ⟨fun y hy g hg q => by (have := hG.hi hy g hg); (have := ho3.own_lo g q); omega, fun g hg q => by (have := hG.vhi g q); (have := ho3.own_lo g hg); omega⟩ ho5 hg5 hl5)
            | (go_at_call 79; refine (HT.out 4 _ _ _ p3).mono ?_; rintro e w6 ⟨A6, c6, rfl, ho6, hb6⟩))
          have P4 := Lib.hid p4
          clear p4
          go_roundw
          case rel => exact ⟨5, _, _, _, A6, c6, by omega, by go_num, rfl, rfl, by simp [hdl], P4, p1.below hb6, ho6.mono p2.size, HN.out _ _ _ _ _ _ _ _ p1 ho6, step p2 hb6⟩
          case measure => simp [intOf]
        · have h4' : ¬ ((k : Int) = 4) := by omega
          have e0 := spX_frm (s := s) (n := n) (xs := xs) h4
          rw [e0] at ho
          have hO := Lib.hid ho
          clear ho e0
          have hwsz := hb.size
          go_wp2_with (first
            | (at_builtin; (refine push_sl rfl (.tmp 26) (.tmp 28) rfl w.heap.size (.slice Av k cv) k (d.map Prod.fst) wr.heap.size A' n c' rfl rfl (World.ownsRow.alloc (HO.out _ (Below.refl _ _)) _) (heap_alloc_new wr _) hk40 (by simp <;> omega) ?_); intro g5 cap5 w5 ho5 hg5 hl5;
                obtain ⟨p1, p2, p3, p4⟩ := HP.out wr w5 A' c' g5 cap5 (Below.refl _ _) hO.out HS.out ho5 hg5 hl5)
            | (go_at_call 79; refine (HT.out k _ _ _ p3).mono ?_; rintro e w6 ⟨A6, c6, rfl, ho6, hb6⟩))
          have P4 := Lib.hid p4
          clear p4
          go_roundw
          case rel => exact ⟨k + 1, _, _, _, A6, c6, by omega, by go_num, rfl, rfl, by simp [hdl], P4, p1.below hb6, ho6.mono p2.size, HN.out _ _ _ _ _ _ _ _ p1 ho6, step p2 hb6⟩
          case measure => simp [intOf]; omega
      · obtain rfl : k = 8 := by omega
        go_wp2
        go_ret
        rw [HL.out]
        exact ⟨_, _, d, rfl, HC.out, hG, hb⟩
end Go.Proofs.YtkeoflnmbcdmfaaDoor
set_option maxRecDepth 8000
namespace Go.Proofs.YtkeoflnmbcdmfaaDoor
open Go.ChangeShapes Go.WideShapes Go.ChangeAt Go.RowKit
/-! renaming, and the order of grids. -/
/-- the names that are given after k cells. -/
def nmL (xs : List Int) (k m : Nat) : List Int := mapTo (fun v => ((nmA xs k ((v : Nat) : Int) : Nat) : Int)) m
theorem nmL_length (xs : List Int) (k m : Nat) : (nmL xs k m).length = m := mapTo_length _ _
theorem nmL_nth {xs : List Int} {k m v : Nat} (h : v < m) : nth (nmL xs k m) v = (nmA xs k (v : Int) : Nat) := mapTo_nth h
theorem nmL_zero (xs : List Int) (m : Nat) : vals (nmL xs 0 m) = List.replicate m (.int .i64 0) := by
  apply List.ext_getElem <;> simp [vals, nmL, mapTo, nmA]
theorem nmL_set {xs : List Int} {k m x : Nat} (hn : newAt xs k = true) (hx : nth xs k = (x : Int)) : (vals (nmL xs k m)).set x (.int .i64 ((cntN xs k : Int) + 1)) = vals (nmL xs (k + 1) m) := by
  apply List.ext_getElem
  · simp [vals, nmL, mapTo]
  · intro i h1 h2
    simp only [vals, nmL, mapTo, List.map_map, List.getElem_set, List.getElem_map, List.getElem_range, Function.comp, nmA]
    by_cases e : x = i
    · subst e
      rw [if_pos rfl, if_pos ⟨hn, hx⟩]
      simp
    · rw [if_neg e, if_neg (fun q => e (by have := q.2; rw [hx] at this; omega))]
theorem nmL_same {xs : List Int} {k m : Nat} (hn : newAt xs k = false) : nmL xs (k + 1) m = nmL xs k m := by
  unfold nmL
  congr 1
  funext v
  simp only [nmA]
  rw [if_neg (fun q => by rw [hn] at q; exact absurd q.1 (by simp))]
theorem cntN_t {xs : List Int} {k : Nat} (h : newAt xs k = true) : cntN xs (k + 1) = cntN xs k + 1 := by simp [cntN, h]
theorem cntN_f {xs : List Int} {k : Nat} (h : newAt xs k = false) : cntN xs (k + 1) = cntN xs k := by simp [cntN, h]
theorem rnG_t {xs : List Int} {k : Nat} (h : newAt xs k = true) : rnG xs k = (cntN xs k : Int) + 1 := by
  unfold rnG
  simp only [nmA]
  rw [if_pos ⟨h, trivial⟩]; simp
theorem rnG_f {xs : List Int} {k : Nat} (h : newAt xs k = false) : rnG xs k = (nmA xs k (nth xs k) : Nat) := by
  unfold rnG
  simp only [nmA]
  rw [if_neg (fun q => by rw [h] at q; exact absurd q.1 (by simp))]
/-- 'append(out, v)', v in a block that was laid for it. -/
theorem push_num {w : World} {ops : Array Oper} {rest : List Oper} {o : Oper} {a : Act} {Q : Exit → Act → World → Prop} (hgd : o.guard = none) (s x : Operand)
    (ho : o.op = .call { callee := .builtin .append, args := #[s, x], argTypes := #[23, 23] })
    (lo : Nat) (A : Option Addr) (n c : Nat) (xs : List Int) (v : Int) (g : Nat) (hs : a.eval s = .slice A n c) (hx : a.eval x = .slice (some ⟨g, 0, none⟩) 1 1) (hown : Ow w lo A n c xs) (hrow : w.heap[g]? = some (.cells #[.int .i64 v] 3)) (hn : n ≤ 1099511627776) (hlo : lo ≤ w.heap.size)
    (h : ∀ A' c' w', Ow w' lo A' (n + 1) c' (xs ++ [v]) → w.grownBy w' (Value.slice A n c).ownBlock → wpList Tryd.prog ops Q rest (a.put o.dst (.slice A' (n + 1) c')) w') :
    wpList Tryd.prog ops Q (o :: rest) a w := by
  refine wpList_plain hgd fun K hK => ?_
  obtain ⟨i0, hi, hz0, hz1, hz2⟩ := info_parts int_info
  obtain ⟨g', cap, w', hrun, h1, h2, h3, h4⟩ := run_append_lies (P := Tryd.prog) w 23 o.type lo 3 i0 (.int .i64 0) 1 8 Tryd.underlying23 hi hz0 hz1 hz2 rfl (by decide) (.slice A n c) n (vals xs) hown ⟨g, 0, none⟩ 1 1 [.int .i64 v] rfl (World.news_of_block (cs := #[.int .i64 v]) hrow) (by simp [Value.oneCell']) (by decide) (by simp only [maxLen]; omega) (by omega) hlo _ rfl
  unfold Oper.wp
  simp [execOp, ho, resolve, invoke, builtin, hs, hx, hrun, Result.andThen]
  exact hK _ _ (h _ cap w' (by unfold Ow; rw [vals_append]; exact h1) h2)
theorem Ow.setOther {w : World} {lo n c g k : Nat} {A : Option Addr} {xs : List Int} {v : Value} (h : Ow w lo A n c xs) (hne : ∀ b, (Value.slice A n c).ownBlock = some b → b ≠ g) : Ow (w.setCell ⟨g, k, none⟩ v) lo A n c xs :=
  h.off (row := some g) ⟨rfl, rfl, rfl, by simp [World.setCell], fun j _ hj => heap_setCell_other w ⟨g, k, none⟩ j v (fun e => hj (by rw [e]))⟩ (fun b hb e => hne b hb (by injection e with e; exact e.symm))
/-- a list as a number: the order of grids. -/
def keyT (xs : List Int) : Nat → Int
  | 0 => 0
  | k + 1 => 5 * keyT xs k + nth xs k
def dig (xs : List Int) (n : Nat) : Prop := ∀ k, k < n → 0 ≤ nth xs k ∧ nth xs k ≤ 4
theorem keyT_to {xs ys : List Int} : ∀ {k : Nat}, eqTo xs ys k → keyT xs k = keyT ys k
  | 0, _ => rfl
  | k + 1, h => by simp only [keyT]; rw [keyT_to (fun j hj => h j (by omega)), h k (by omega)]
theorem keyT_lt {xs ys : List Int} {n k : Nat} (hx : dig xs n) (hy : dig ys n) (he : eqTo xs ys k) (hk : k < n) (hlt : nth xs k < nth ys k) : keyT xs n < keyT ys n := by
  have : ∀ m, k + 1 + m ≤ n → keyT xs (k + 1 + m) < keyT ys (k + 1 + m) := fun m => by
    induction m with
    | zero => intro _; simp only [keyT]; rw [keyT_to he]; omega
    | succ m ih =>
      intro hm
      have := ih (by omega)
      have a := hx (k + 1 + m) (by omega)
      have b := hy (k + 1 + m) (by omega)
      show 5 * keyT xs (k + 1 + m) + nth xs (k + 1 + m) < 5 * keyT ys (k + 1 + m) + nth ys (k + 1 + m)
      omega
  have := this (n - (k + 1)) (by omega)
  rwa [show k + 1 + (n - (k + 1)) = n by omega] at this
theorem keyT_inj {xs ys : List Int} : ∀ {n : Nat}, dig xs n → dig ys n → keyT xs n = keyT ys n → eqTo xs ys n
  | 0, _, _, _ => eqTo_zero
  | n + 1, hx, hy, h => by
    simp only [keyT] at h
    have a := hx n (by omega)
    have b := hy n (by omega)
    have h1 : keyT xs n = keyT ys n := by omega
    exact eqTo_succ (keyT_inj (fun k hk => hx k (by omega)) (fun k hk => hy k (by omega)) h1) (by omega)
theorem keyT_eq {xs ys : List Int} {n : Nat} (hx : dig xs n) (hy : dig ys n) (lx : xs.length = n) (ly : ys.length = n) (h : keyT xs n = keyT ys n) : xs = ys :=
  ext_nth (by rw [lx, ly]) (fun k hk => keyT_inj hx hy h k (by omega))
end Go.Proofs.YtkeoflnmbcdmfaaDoor
set_option maxRecDepth 8000
namespace Go.Proofs.YtkeoflnmbcdmfaaDoor
open Go.ChangeShapes Go.WideShapes Go.ChangeAt Go.RowKit

end Go.Proofs.YtkeoflnmbcdmfaaDoor
set_option maxRecDepth 8000
namespace Go.Proofs.YtkeoflnmbcdmfaaDoor
open Go.ChangeShapes Go.WideShapes Go.ChangeAt Go.RowKit
/-! the reference's canonical grid, and its number of forms. -/
theorem Gs.off {w w' : World} {lo H : Nat} {v : Value} {d : List GV} {row : Option Nat} (h : Gs w lo v d) (hg : w.grownBy w' row) (hr : ∀ g, row = some g → g < lo ∨ H ≤ g) (hv : ∀ g, v.ownBlock = some g → g < H) (hd : ∀ x ∈ d, ∀ g, x.1.ownBlock = some g → g < H) : Gs w' lo v d := by
  refine ⟨World.ownsRow.kept h.1 hg ?_, fun x hx => ?_, h.2.2⟩
  · cases e : v.ownBlock with
    | none => exact .inl rfl
    | some g =>
      refine .inr fun q => ?_
      have h1 := h.vlo g e
      have h2 := hv g e
      rcases hr g q.symm with q | q <;> omega
  · obtain ⟨⟨A, c, e, ho⟩, hs⟩ := h.2.1 x hx
    refine ⟨⟨A, c, e, Ow.off ho hg (fun g hgb q => ?_)⟩, hs⟩
    have h1 := ho.own_lo g hgb
    have h2 := hd x hx g (by rw [e]; exact hgb)
    rcases hr g q with q | q <;> omega
/-- the renamed forms. -/
def rf (xs : List Int) (s : Int) (n k : Nat) : List Int := rnL (frm s n xs k) n
theorem rf_len (xs : List Int) (s : Int) (n k : Nat) : (rf xs s n k).length = n := rnL_len _ _
theorem gv_dig {xs : List Int} {s : Int} {n : Nat} (hg : gv xs s = true) (hl : xs.length = n) : dig xs n := fun k hk => by
  have := gv_nth hg (show k < xs.length by omega)
  have := (gv_size hg).2
  omega
theorem rf_gv {xs : List Int} {s n : Nat} (hs : s ∈ [2, 3, 4]) (hn : n = s * s) (hl : xs.length = n) (hg : gv xs s = true) (k : Nat) : gv (rf xs s n k) s = true := rnL_gv (frm_gv hs hn hl hg k) (frm_len hl k)
theorem rf_dig {xs : List Int} {s n : Nat} (hs : s ∈ [2, 3, 4]) (hn : n = s * s) (hl : xs.length = n) (hg : gv xs s = true) (k : Nat) : dig (rf xs s n k) n := gv_dig (rf_gv hs hn hl hg k) (rf_len _ _ _ _)
def bestT (F : Nat → List Int) (n : Nat) : Nat → List Int
  | 0 => []
  | k + 1 => if k = 0 ∨ keyT (F k) n < keyT (bestT F n k) n then F k else bestT F n k
def cnL (xs : List Int) (s : Int) (n : Nat) : List Int := if gv xs s = true then bestT (rf xs s n) n 8 else []
theorem bestT_mem {F : Nat → List Int} {n : Nat} : ∀ k, 0 < k → ∃ j, j < k ∧ bestT F n k = F j
  | 0, h => absurd h (by omega)
  | k + 1, _ => by
    simp only [bestT]
    split
    · exact ⟨k, by omega, rfl⟩
    · next h =>
      obtain ⟨j, hj, e⟩ := bestT_mem (F := F) (n := n) k (by omega)
      exact ⟨j, by omega, e⟩
theorem bestT_le {F : Nat → List Int} {n : Nat} : ∀ k j, j < k → keyT (bestT F n k) n ≤ keyT (F j) n
  | 0, _, h => absurd h (by omega)
  | k + 1, j, h => by
    simp only [bestT]
    by_cases hc : k = 0 ∨ keyT (F k) n < keyT (bestT F n k) n
    · rw [if_pos hc]
      by_cases e : j = k
      · subst e; omega
      · rcases hc with q | q
        · omega
        · have := bestT_le (F := F) (n := n) k j (by omega); omega
    · rw [if_neg hc]
      by_cases e : j = k
      · subst e; omega
      · exact bestT_le k j (by omega)
theorem cnL_t {xs : List Int} {s : Int} {n : Nat} (h : gv xs s = true) : cnL xs s n = bestT (rf xs s n) n 8 := by simp [cnL, h]
theorem cnL_f {xs : List Int} {s : Int} {n : Nat} (h : gv xs s = false) : cnL xs s n = [] := by simp [cnL, h]
theorem bestT_len {xs : List Int} {s : Int} {n k : Nat} (hk : 0 < k) : (bestT (rf xs s n) n k).length = n := by
  obtain ⟨j, _, e⟩ := bestT_mem (F := rf xs s n) (n := n) k hk
  rw [e]; exact rf_len _ _ _ _
/-- what is renamed of a valid grid. -/
def rgL (xs : List Int) (s : Int) (n : Nat) : List Int := if gv xs s = true then rnL xs n else []
/-- the different ones among the first k. -/
def fnd (F : Nat → List Int) : Nat → List (List Int)
  | 0 => []
  | k + 1 => if F k ∈ fnd F k then fnd F k else fnd F k ++ [F k]
def fcI (xs : List Int) (s : Int) (n : Nat) : Int := if gv xs s = true then ((fnd (rf xs s n) 8).length : Nat) else -1
theorem fnd_le (F : Nat → List Int) : ∀ k, (fnd F k).length ≤ k
  | 0 => Nat.le_refl _
  | k + 1 => by
    have := fnd_le F k
    simp only [fnd]; split
    · omega
    · simp; omega
theorem fnd_mem {F : Nat → List Int} {x : List Int} : ∀ k, x ∈ fnd F k ↔ ∃ j, j < k ∧ F j = x
  | 0 => by simp [fnd]
  | k + 1 => by
    have ih := fnd_mem (F := F) (x := x) k
    have hx : (∃ j, j < k + 1 ∧ F j = x) ↔ (∃ j, j < k ∧ F j = x) ∨ F k = x :=
      ⟨fun ⟨j, hj, e⟩ => by
        by_cases q : j = k
        · subst q; exact .inr e
        · exact .inl ⟨j, by omega, e⟩, fun h => by
        rcases h with ⟨j, hj, e⟩ | e
        · exact ⟨j, by omega, e⟩
        · exact ⟨k, by omega, e⟩⟩
    rw [hx, ← ih]
    simp only [fnd]
    split
    · next h => exact ⟨fun q => .inl q, fun q => by rcases q with q | q; exact q; rw [← q]; exact h⟩
    · simp [eq_comm]
theorem fnd_nodup {F : Nat → List Int} : ∀ k, (fnd F k).Nodup
  | 0 => List.nodup_nil
  | k + 1 => by
    simp only [fnd]
    split
    · exact fnd_nodup k
    · next h =>
      rw [List.nodup_append]
      exact ⟨fnd_nodup k, by simp, fun a ha b hb e => by simp at hb; subst hb; subst e; exact h ha⟩
def noneOf (Ls : List (List Int)) (x : List Int) (j : Nat) : Bool := (List.range j).all fun i => !same (gat Ls i) x
theorem noneOf_succ (Ls : List (List Int)) (x : List Int) (j : Nat) : noneOf Ls x (j + 1) = (noneOf Ls x j && !same (gat Ls j) x) := by simp [noneOf, List.range_succ, List.all_append]
theorem noneOf_all {Ls : List (List Int)} {x : List Int} : noneOf Ls x Ls.length = decide (x ∉ Ls) := by
  rw [Bool.eq_iff_iff]
  simp only [noneOf, List.all_eq_true, List.mem_range, Bool.not_eq_true', decide_eq_true_eq, same, decide_eq_false_iff_not]
  refine ⟨fun h hx => ?_, fun h i hi e => h ?_⟩
  · obtain ⟨i, hi, e⟩ := List.getElem_of_mem hx
    exact h i hi (by simp [gat, List.getD_eq_getElem?_getD, hi, e])
  · rw [← e]
    simp only [gat, List.getD_eq_getElem?_getD, List.getElem?_eq_getElem hi, Option.getD_some]
    exact List.getElem_mem hi
end Go.Proofs.YtkeoflnmbcdmfaaDoor
set_option maxRecDepth 8000
namespace Go.Proofs.YtkeoflnmbcdmfaaDoor
open Go.ChangeShapes Go.WideShapes Go.ChangeAt Go.RowKit
/-! what renaming and the forms keep. -/
theorem clash_pat {xs ys : List Int} {s n : Nat} (hs : s ∈ [2, 3, 4]) (hn : n = s * s) (h : SamePat xs ys n) (gx : gv xs s = true) (gy : gv ys s = true) (lx : xs.length = n) (ly : ys.length = n) : clash xs s = clash ys s := by
  have key : ∀ {us vs : List Int}, SamePat us vs n → gv vs s = true → vs.length = n → clash us s = true → clash vs s = true := fun {us vs} hp hgv hlv hc => by
    obtain ⟨i, j, hi, hj, ha, he, hp0⟩ := (clash_iff hs).1 hc
    rw [← hn] at hi hj
    have h1 := (hp.2 i j hi hj).1 he
    have h2 : nth vs j ≠ 0 := fun q => by have := (hp.1 j hj).2 q; omega
    have h3 := (gv_nth hgv (show j < vs.length by omega)).1
    exact (clash_iff hs).2 ⟨i, j, by omega, by omega, ha, h1, by omega⟩
  rw [Bool.eq_iff_iff]
  exact ⟨key h gy ly, key h.symm gx lx⟩
theorem sqFits_rn {xs : List Int} {s n : Nat} (hs : s ∈ [2, 3, 4]) (hn : n = s * s) (hl : xs.length = n) (hg : gv xs s = true) : sqFits (rnL xs n) s = sqFits xs s := by
  have g2 := rnL_gv hg hl
  simp [sqFits, hg, g2, clash_pat hs hn (samePat_rn xs n) hg g2 hl (rnL_len _ _)]
theorem pm_turn {xs : List Int} {s : Int} {n : Nat} (hg : gv xs s = true) (hl : xs.length = n) : pm xs (turnIx s) n = turnL xs s := (turnL_pm hg hl).symm
theorem sqFits_trn {xs : List Int} {s n : Nat} (hs : s ∈ [2, 3, 4]) (hn : n = s * s) (hl : xs.length = n) (hg : gv xs s = true) : ∀ q, sqFits (trn s n xs q) s = sqFits xs s
  | 0 => rfl
  | q + 1 => by
    have g := trn_gv hs hn hl hg q
    have l : (trn s n xs q).length = n := trn_len hl q
    show sqFits (pm (trn s n xs q) (turnIx s) n) s = _
    rw [pm_turn g l]
    simp only [sqFits, (turn_all g l).valid, clash_turn g l, Bool.true_and]
    have := sqFits_trn hs hn hl hg q
    simp only [sqFits, g, Bool.true_and] at this
    exact this
theorem sqFits_frm {xs : List Int} {s n : Nat} (hs : s ∈ [2, 3, 4]) (hn : n = s * s) (hl : xs.length = n) (hg : gv xs s = true) (k : Nat) : sqFits (frm s n xs k) s = sqFits xs s := by
  unfold frm
  split
  · exact sqFits_trn hs hn hl hg _
  · rw [sqFits_trn hs hn (pm_length _ _ _) (mir_gv hs hn hl hg)]
    have e : pm xs (mirIx s) n = mirL xs s := (mirL_pm hg hl).symm
    rw [e]
    simp [sqFits, hg, (mir_all hg hl).valid, clash_mir hg hl]
theorem solved_pat {xs ys : List Int} {s n : Nat} (hs : s ∈ [2, 3, 4]) (hn : n = s * s) (h : SamePat xs ys n) (lx : xs.length = n) (ly : ys.length = n) (gy : gv ys s = true) (hx : sqSolved xs s = true) : sqSolved ys s = true := by
  obtain ⟨a, b, c⟩ := (solved_iff lx).1 hx
  exact (solved_iff ly).2 ⟨gy, by rw [← clash_pat hs hn h a gy lx ly]; exact b, fun k hk q => c k hk ((h.1 k hk).2 q)⟩
theorem solved_frm {xs : List Int} {s n : Nat} (hs : s ∈ [2, 3, 4]) (hn : n = s * s) (hl : xs.length = n) (hx : sqSolved xs s = true) {k : Nat} (hk : k < 8) : sqSolved (frm s n xs k) s = true := by
  obtain ⟨a, b, c⟩ := (solved_iff hl).1 hx
  have hg := frm_gv hs hn hl a k
  refine (solved_iff (frm_len hl k)).2 ⟨hg, ?_, fun j hj => ?_⟩
  · have := sqFits_frm hs hn hl a k
    simp only [sqFits, hg, a, b, Bool.true_and] at this
    simpa using this
  · rw [frm_pm hs hn hl hk, pm_nth hj]
    exact c _ (by rw [hn] at hj ⊢; exact tix_lt s hs k hk j hj)
/-! the group of forms. -/
theorem frm_pat {xs ys : List Int} {s n : Nat} (hs : s ∈ [2, 3, 4]) (hn : n = s * s) (lx : xs.length = n) (ly : ys.length = n) (h : SamePat xs ys n) {k : Nat} (hk : k < 8) : SamePat (frm s n xs k) (frm s n ys k) n := by
  rw [frm_pm hs hn lx hk, frm_pm hs hn ly hk]
  exact h.pm (fun j hj => by rw [hn] at hj ⊢; exact tix_lt s hs k hk j hj)
theorem rf_pat {xs ys : List Int} {s n : Nat} (hs : s ∈ [2, 3, 4]) (hn : n = s * s) (lx : xs.length = n) (ly : ys.length = n) (h : SamePat xs ys n) {k : Nat} (hk : k < 8) : rf xs s n k = rf ys s n k := rnL_pat (frm_pat hs hn lx ly h hk)
theorem rf_frm {xs : List Int} {s n : Nat} (hs : s ∈ [2, 3, 4]) (hn : n = s * s) (hl : xs.length = n) {a b : Nat} (ha : a < 8) (hb : b < 8) : rf (frm s n xs a) s n b = rf xs s n (gmul a b) := by
  unfold rf
  rw [frm_frm hs hn hl ha hb]
theorem rf_rf {xs : List Int} {s n : Nat} (hs : s ∈ [2, 3, 4]) (hn : n = s * s) (hl : xs.length = n) {a b : Nat} (ha : a < 8) (hb : b < 8) : rf (rf xs s n a) s n b = rf xs s n (gmul a b) := by
  rw [← rf_frm hs hn hl ha hb]
  exact (rf_pat hs hn (frm_len hl a) (rnL_len _ _) (samePat_rn _ _) hb).symm
theorem rf_eq {xs : List Int} {s n : Nat} (hs : s ∈ [2, 3, 4]) (hn : n = s * s) (hl : xs.length = n) {i j b : Nat} (hi : i < 8) (hj : j < 8) (hb : b < 8) (h : rf xs s n i = rf xs s n j) : rf xs s n (gmul i b) = rf xs s n (gmul j b) := by
  rw [← rf_rf hs hn hl hi hb, ← rf_rf hs hn hl hj hb, h]
def ginv (a : Nat) : Nat := if a < 4 then (4 - a) % 4 else a
theorem ginv_lt : ∀ a, a < 8 → ginv a < 8 := by decide +kernel
theorem gmul_inv : ∀ a, a < 8 → gmul a (ginv a) = 0 := by decide +kernel
theorem gmul_all : ∀ a, a < 8 → ∀ j, j < 8 → gmul a (gmul (ginv a) j) = j := by decide +kernel
theorem gmul_zero : ∀ a, a < 8 → gmul 0 a = a := by decide +kernel
theorem gmul_undo : ∀ i, i < 8 → ∀ j, j < 8 → gmul (gmul i (ginv j)) j = i := by decide +kernel
/-- the same renamed forms. -/
def SameForms (F G : Nat → List Int) : Prop := (∀ k, k < 8 → ∃ j, j < 8 ∧ F k = G j) ∧ ∀ k, k < 8 → ∃ j, j < 8 ∧ G k = F j
theorem forms_frm {xs : List Int} {s n : Nat} (hs : s ∈ [2, 3, 4]) (hn : n = s * s) (hl : xs.length = n) {a : Nat} (ha : a < 8) : SameForms (rf (frm s n xs a) s n) (rf xs s n) :=
  ⟨fun k hk => ⟨gmul a k, gmul_lt a ha k hk, rf_frm hs hn hl ha hk⟩, fun k hk => ⟨gmul (ginv a) k, gmul_lt _ (ginv_lt a ha) k hk, by rw [rf_frm hs hn hl ha (gmul_lt _ (ginv_lt a ha) k hk), gmul_all a ha k hk]⟩⟩
theorem forms_rf {xs : List Int} {s n : Nat} (hs : s ∈ [2, 3, 4]) (hn : n = s * s) (hl : xs.length = n) {a : Nat} (ha : a < 8) : SameForms (rf (rf xs s n a) s n) (rf xs s n) :=
  ⟨fun k hk => ⟨gmul a k, gmul_lt a ha k hk, rf_rf hs hn hl ha hk⟩, fun k hk => ⟨gmul (ginv a) k, gmul_lt _ (ginv_lt a ha) k hk, by rw [rf_rf hs hn hl ha (gmul_lt _ (ginv_lt a ha) k hk), gmul_all a ha k hk]⟩⟩
theorem forms_pat {xs ys : List Int} {s n : Nat} (hs : s ∈ [2, 3, 4]) (hn : n = s * s) (lx : xs.length = n) (ly : ys.length = n) (h : SamePat xs ys n) : SameForms (rf xs s n) (rf ys s n) :=
  ⟨fun k hk => ⟨k, hk, rf_pat hs hn lx ly h hk⟩, fun k hk => ⟨k, hk, (rf_pat hs hn lx ly h hk).symm⟩⟩
theorem best_same {F G : Nat → List Int} {n : Nat} (h : SameForms F G) (dF : ∀ k, dig (F k) n) (dG : ∀ k, dig (G k) n) (lF : ∀ k, (F k).length = n) (lG : ∀ k, (G k).length = n) : bestT F n 8 = bestT G n 8 := by
  obtain ⟨i, hi, ei⟩ := bestT_mem (F := F) (n := n) 8 (by omega)
  obtain ⟨j, hj, ej⟩ := bestT_mem (F := G) (n := n) 8 (by omega)
  obtain ⟨i', hi', ei'⟩ := h.1 i hi
  obtain ⟨j', hj', ej'⟩ := h.2 j hj
  have h1 := bestT_le (F := G) (n := n) 8 i' hi'
  have h2 := bestT_le (F := F) (n := n) 8 j' hj'
  rw [← ei', ← ei] at h1
  rw [← ej', ← ej] at h2
  exact keyT_eq (by rw [ei]; exact dF i) (by rw [ej]; exact dG j) (by rw [ei]; exact lF i) (by rw [ej]; exact lG j) (by omega)
theorem nodup_len : ∀ {l m : List (List Int)}, l.Nodup → (∀ x ∈ l, x ∈ m) → l.length ≤ m.length
  | [], _, _, _ => Nat.zero_le _
  | a :: t, m, hl, h => by
    rw [List.nodup_cons] at hl
    have ha := h a (by simp)
    have := nodup_len (l := t) (m := m.erase a) hl.2 (fun x hx => (List.mem_erase_of_ne (fun e => hl.1 (by rw [← e]; exact hx))).2 (h x (by simp [hx])))
    rw [List.length_erase_of_mem ha] at this
    have : 0 < m.length := List.length_pos_of_mem ha
    simp; omega
theorem fnd_same {F G : Nat → List Int} (h : SameForms F G) : (fnd F 8).length = (fnd G 8).length := by
  refine Nat.le_antisymm (nodup_len (fnd_nodup 8) fun x hx => ?_) (nodup_len (fnd_nodup 8) fun x hx => ?_)
  · obtain ⟨k, hk, e⟩ := (fnd_mem 8).1 hx
    obtain ⟨j, hj, e2⟩ := h.1 k hk
    exact (fnd_mem 8).2 ⟨j, hj, by rw [← e2, e]⟩
  · obtain ⟨k, hk, e⟩ := (fnd_mem 8).1 hx
    obtain ⟨j, hj, e2⟩ := h.2 k hk
    exact (fnd_mem 8).2 ⟨j, hj, by rw [← e2, e]⟩
theorem cn_same {xs ys : List Int} {s n : Nat} (hs : s ∈ [2, 3, 4]) (hn : n = s * s) (lx : xs.length = n) (ly : ys.length = n) (gx : gv xs s = true) (gy : gv ys s = true) (h : SameForms (rf xs s n) (rf ys s n)) : cnL xs s n = cnL ys s n := by
  rw [cnL_t gx, cnL_t gy]
  exact best_same h (rf_dig hs hn lx gx) (rf_dig hs hn ly gy) (fun k => rf_len _ _ _ k) (fun k => rf_len _ _ _ k)
theorem fc_same {xs ys : List Int} {s n : Nat} (gx : gv xs s = true) (gy : gv ys s = true) (h : SameForms (rf xs s n) (rf ys s n)) : fcI xs s n = fcI ys s n := by
  simp only [fcI, gx, gy, if_true, fnd_same h]
theorem cn_mem {xs : List Int} {s n : Nat} (hg : gv xs s = true) : ∃ a, a < 8 ∧ cnL xs s n = rf xs s n a := by
  obtain ⟨a, ha, e⟩ := bestT_mem (F := rf xs s n) (n := n) 8 (by omega)
  exact ⟨a, ha, by rw [cnL_t hg, e]⟩
/-! how many forms there are. -/
/-- how many of the first k are none of those before, by a set of forms (a number's bits). -/
def cosN (m : Nat) : Nat → Nat
  | 0 => 0
  | k + 1 => if (List.range k).any (fun j => m.testBit (gmul k (ginv j))) = true then cosN m k else cosN m k + 1
def closedM (m : Nat) : Bool := m.testBit 0 && (List.range 8).all fun a => (List.range 8).all fun b => !(m.testBit a && m.testBit b) || (m.testBit (gmul a b) && m.testBit (gmul a (ginv b)))
theorem cosN_all : ∀ m, m < 256 → closedM m = true → cosN m 8 = 1 ∨ cosN m 8 = 2 ∨ cosN m 8 = 4 ∨ cosN m 8 = 8 := by decide +kernel
/-- the bits of a set. -/
def bitsN (f : Nat → Bool) : Nat → Nat
  | 0 => 0
  | k + 1 => bitsN f k + if f k = true then 2 ^ k else 0
theorem bitsN_lt (f : Nat → Bool) : ∀ k, bitsN f k < 2 ^ k
  | 0 => by simp [bitsN]
  | k + 1 => by
    have := bitsN_lt f k
    simp only [bitsN, Nat.pow_succ]
    split <;> omega
theorem bitsN_bit (f : Nat → Bool) : ∀ k i, i < k → (bitsN f k).testBit i = f i
  | 0, _, h => absurd h (by omega)
  | k + 1, i, h => by
    have hlt := bitsN_lt f k
    simp only [bitsN]
    by_cases e : i = k
    · subst e
      by_cases hf : f i = true
      · rw [if_pos hf, Nat.add_comm, Nat.testBit_two_pow_add_eq, Nat.testBit_lt_two_pow hlt, hf]; rfl
      · rw [if_neg hf, Nat.add_zero, Nat.testBit_lt_two_pow hlt]; simpa using hf
    · by_cases hf : f k = true
      · rw [if_pos hf, Nat.add_comm, Nat.testBit_two_pow_add_gt (by omega)]; exact bitsN_bit f k i (by omega)
      · rw [if_neg hf, Nat.add_zero]; exact bitsN_bit f k i (by omega)
theorem fc_one {xs : List Int} {s n : Nat} (hs : s ∈ [2, 3, 4]) (hn : n = s * s) (hl : xs.length = n) (hg : gv xs s = true) : fcI xs s n = 1 ∨ fcI xs s n = 2 ∨ fcI xs s n = 4 ∨ fcI xs s n = 8 := by
  obtain ⟨m, hm⟩ : ∃ m, m = bitsN (fun k => decide (rf xs s n k = rf xs s n 0)) 8 := ⟨_, rfl⟩
  have hbit : ∀ k, k < 8 → (m.testBit k = true ↔ rf xs s n k = rf xs s n 0) := fun k hk => by rw [hm, bitsN_bit _ 8 k hk]; simp
  have hm256 : m < 256 := by rw [hm]; exact bitsN_lt _ 8
  have heq : ∀ i j, i < 8 → j < 8 → (rf xs s n i = rf xs s n j ↔ m.testBit (gmul i (ginv j)) = true) := fun i j hi hj => by
    have hb := ginv_lt j hj
    have hib := gmul_lt i hi _ hb
    rw [hbit _ hib]
    refine ⟨fun h => by rw [rf_eq hs hn hl hi hj hb h, gmul_inv j hj], fun h => ?_⟩
    have := rf_eq hs hn hl hib (show 0 < 8 by omega) hj h
    rwa [gmul_undo i hi j hj, gmul_zero j hj] at this
  have hcl : closedM m = true := by
    simp only [closedM, Bool.and_eq_true, List.all_eq_true, List.mem_range]
    refine ⟨(hbit 0 (by omega)).2 rfl, fun a ha b hb => ?_⟩
    cases e : (m.testBit a && m.testBit b)
    · rfl
    · simp only [Bool.and_eq_true] at e
      have ea := (hbit a ha).1 e.1
      have eb := (hbit b hb).1 e.2
      have h1 : m.testBit (gmul a b) = true := (hbit _ (gmul_lt a ha b hb)).2 (by
        rw [rf_eq hs hn hl ha (show 0 < 8 by omega) hb ea, gmul_zero b hb]; exact eb)
      have h2 : m.testBit (gmul a (ginv b)) = true := (heq a b ha hb).1 (by rw [ea, eb])
      rw [h1, h2]; rfl
  have hlen : ∀ k, k ≤ 8 → (fnd (rf xs s n) k).length = cosN m k := fun k => by
    induction k with
    | zero => intro _; rfl
    | succ k ih =>
      intro hk
      have ih' := ih (by omega)
      have hiff : rf xs s n k ∈ fnd (rf xs s n) k ↔ (List.range k).any (fun j => m.testBit (gmul k (ginv j))) = true := by
        rw [fnd_mem, List.any_eq_true]
        refine ⟨fun ⟨j, hj, e⟩ => ⟨j, by simpa using hj, (heq k j (by omega) (by omega)).1 e.symm⟩, fun ⟨j, hj, e⟩ => ?_⟩
        have hj' : j < k := by simpa using hj
        exact ⟨j, hj', ((heq k j (by omega) (by omega)).2 e).symm⟩
      simp only [fnd, cosN]
      by_cases h : rf xs s n k ∈ fnd (rf xs s n) k
      · rw [if_pos h, if_pos (hiff.1 h), ih']
      · rw [if_neg h, if_neg (fun q => h (hiff.2 q)), List.length_append, ih']; rfl
  have := cosN_all m hm256 hcl
  simp only [fcI, hg, if_true, hlen 8 (Nat.le_refl _)]
  omega
/-! what is sorted. -/
/-- how many of the first k of a list are not the one before. -/
def cpt (L : List (List Int)) : Nat → Nat
  | 0 => 0
  | k + 1 => if 0 < k ∧ gat L k = gat L (k - 1) then cpt L k else cpt L k + 1
theorem cpt_fnd {L : List (List Int)} {n m : Nat} (hl : ∀ k, k < m → (gat L k).length = n) (hd : ∀ k, k < m → dig (gat L k) n) (hsort : ∀ i j, i < j → j < m → keyT (gat L i) n ≤ keyT (gat L j) n) : ∀ k, k ≤ m → (fnd (gat L) k).length = cpt L k
  | 0, _ => rfl
  | k + 1, hk => by
    have ih := cpt_fnd hl hd hsort k (by omega)
    have hiff : gat L k ∈ fnd (gat L) k ↔ 0 < k ∧ gat L k = gat L (k - 1) := by
      rw [fnd_mem]
      refine ⟨fun ⟨j, hj, e⟩ => ⟨by omega, ?_⟩, fun ⟨h0, e⟩ => ⟨k - 1, by omega, e.symm⟩⟩
      have h1 : keyT (gat L j) n ≤ keyT (gat L (k - 1)) n := by
        by_cases q : j = k - 1
        · rw [q]; omega
        · exact hsort j (k - 1) (by omega) (by omega)
      have h2 := hsort (k - 1) k (by omega) (by omega)
      rw [e] at h1
      exact keyT_eq (hd k (by omega)) (hd (k - 1) (by omega)) (hl k (by omega)) (hl (k - 1) (by omega)) (by omega)
    simp only [fnd, cpt]
    by_cases h : gat L k ∈ fnd (gat L) k
    · rw [if_pos h, if_pos (hiff.1 h), ih]
    · rw [if_neg h, if_neg (fun q => h (hiff.2 q)), List.length_append, ih]; rfl
end Go.Proofs.YtkeoflnmbcdmfaaDoor
set_option maxRecDepth 8000
namespace Go.Proofs.YtkeoflnmbcdmfaaDoor
open Go.ChangeShapes Go.WideShapes Go.ChangeAt Go.RowKit
/-! all solved squares. -/
theorem sq_bounds {s : Nat} (hs : s ∈ [2, 3, 4]) : (2 : Int) ≤ s ∧ (s : Int) ≤ 4 := by simp at hs; omega
theorem sqL_know {s : Nat} (hs : s ∈ [2, 3, 4]) {y : List Int} (h : y ∈ sqL s) : y.length = s * s ∧ sqSolved y s = true := by
  obtain ⟨h2, h4⟩ := sq_bounds hs
  exact sols_solved h2 h4 (by simp) h
theorem sqL_nodup {s : Nat} : (sqL s).Nodup := by
  have := sols_sorted (size := (s : Int)) (s * s) (s * s) (zeros (s * s)) 0 (by omega) (zeros_length _)
  exact this.imp fun {a b} ⟨k, _, _, hlt⟩ e => by subst e; omega
theorem in_enS {s : Nat} : ∀ (f : Nat) (g : List Int) (p : Nat) (y : List Int), p + f = g.length → y.length = g.length → (∀ i, i < p → nth y i = nth g i) → (∀ i, p ≤ i → i < g.length → nth g i = 0 ∧ nth y i ∈ rep s) → y ∈ enS s f g p := by
  intro f
  induction f with
  | zero =>
    intro g p y hp hl h1 _
    simp only [enS, List.mem_singleton]
    exact ext_nth hl (fun i hi => h1 i (by omega))
  | succ f ih =>
    intro g p y hp hl h1 h2
    obtain ⟨hz, hy⟩ := h2 p (Nat.le_refl _) (by omega)
    simp only [enS]
    rw [if_neg (by omega)]
    refine List.mem_flatMap.2 ⟨nth y p, hy, ih _ _ _ (by rw [List.length_set]; omega) (by rw [List.length_set]; exact hl) (fun i hi => ?_) (fun i h3 h4 => ?_)⟩
    · by_cases e : i = p
      · subst e
        simp [nth, List.getD_eq_getElem?_getD, List.getElem?_set_self (by omega : i < g.length)]
      · have := h1 i (by omega)
        simp only [nth, List.getD_eq_getElem?_getD] at this ⊢
        rw [List.getElem?_set_ne (by omega)]; exact this
    · rw [List.length_set] at h4
      obtain ⟨a, b⟩ := h2 i (by omega) h4
      refine ⟨?_, b⟩
      simp only [nth, List.getD_eq_getElem?_getD] at a ⊢
      rw [List.getElem?_set_ne (by omega)]; exact a
theorem sqL_all {s : Nat} (hs : s ∈ [2, 3, 4]) (y : List Int) (hl : y.length = s * s) (h : sqSolved y s = true) : y ∈ sqL s := by
  obtain ⟨hg, hc, hz⟩ := (solved_iff hl).1 h
  rw [sqL_is hs]
  refine List.mem_filter.2 ⟨in_enS _ _ _ _ (by rw [zeros_length]; omega) (by rw [zeros_length]; exact hl) (fun i hi => by omega) (fun i _ h4 => ⟨zeros_nth _ _, ?_⟩), by simp [hc]⟩
  rw [zeros_length] at h4
  obtain ⟨a, b⟩ := gv_nth hg (show i < y.length by omega)
  have c := hz i h4
  exact rep_mem.2 ⟨(nth y i).toNat, by omega, by omega, by omega⟩
end Go.Proofs.YtkeoflnmbcdmfaaDoor
set_option maxRecDepth 8000
namespace Go.Proofs.YtkeoflnmbcdmfaaDoor
open Go.ChangeShapes Go.WideShapes Go.ChangeAt Go.RowKit
/-! as many solutions for a form of what is given. -/
theorem cv_sqG {s : Nat} {gi : List Int} {rs : List RuleM} {n : Nat} (hl : gi.length = n) (hv : pvB s gi rs = true) (hn : n = s * s) : cv s gi rs (s * s) [] = (sqL s).filter (psB s gi rs) := by
  rw [← solL_is hv, ← hn, ← hl]; exact cv_is hv
theorem cs_lenG {s : Nat} {gi : List Int} {rs : List RuleM} {n : Nat} (hl : gi.length = n) (hv : pvB s gi rs = true) (hn : n = s * s) : csI s n gi rs 600 = ((min 600 ((sqL s).filter (psB s gi rs)).length : Nat) : Int) := by
  have : inr (600 : Int) 1 600 = true := by decide
  simp only [csI, hv, this, Bool.true_and, if_true]
  rw [show (600 : Int).toNat = 600 from rfl, allS_cv hl hv (by omega) hn, List.length_take, cv_sqG hl hv hn]
theorem pv_nilG {s : Int} {gi : List Int} (h : gv gi s = true) : pvB s gi [] = true := by simp [pvB, h]
theorem ps_nilG {s : Nat} {gi y : List Int} (hgi : gv gi s = true) (hy : gv y s = true) : psB s gi [] y = true ↔ sqSolved y s = true ∧ ∀ i, i < y.length → nth gi i = 0 ∨ nth gi i = nth y i := by
  rw [ps_is (pv_nilG hgi) hy]
  simp only [List.length_nil, List.range_zero, List.all_nil, Bool.and_true, Bool.and_eq_true, List.all_eq_true, List.mem_range, Bool.or_eq_true, beq_iff_eq]
theorem form_le {s n : Nat} {gi : List Int} (hs : s ∈ [2, 3, 4]) (hn : n = s * s) (hl : gi.length = n) (hg : gv gi s = true) {a : Nat} (ha : a < 8) : ((sqL s).filter (psB s gi [])).length ≤ ((sqL s).filter (psB s (frm s n gi a) [])).length := by
  have hn1 : ((sqL s).filter (psB s gi [])).Nodup := sqL_nodup.filter _
  have hlen : ∀ y ∈ (sqL s).filter (psB s gi []), y.length = n ∧ sqSolved y s = true := fun y hy => by
    have := sqL_know hs (List.mem_filter.1 hy).1
    rw [hn]; exact this
  have hback : ∀ y : List Int, y.length = n → frm s n (frm s n y a) (ginv a) = y := fun y hy => by
    rw [frm_frm hs hn hy ha (ginv_lt a ha), gmul_inv a ha]; rfl
  have hmap : (((sqL s).filter (psB s gi [])).map fun y => frm s n y a).Nodup := by
    rw [List.Nodup, List.pairwise_map]
    refine List.Pairwise.imp_of_mem ?_ hn1
    intro x y hx hy hne e
    exact hne (by rw [← hback x (hlen x hx).1, ← hback y (hlen y hy).1, e])
  have := nodup_len hmap (m := (sqL s).filter (psB s (frm s n gi a) [])) fun x hx => by
    obtain ⟨y, hy, rfl⟩ := List.mem_map.1 hx
    obtain ⟨yl, ys⟩ := hlen y hy
    have gy := ((solved_iff yl).1 ys).1
    have ps := (List.mem_filter.1 hy).2
    obtain ⟨_, hag⟩ := (ps_nilG hg gy).1 ps
    have fs := solved_frm hs hn yl ys ha
    refine List.mem_filter.2 ⟨sqL_all hs _ (by rw [← hn]; exact frm_len yl a) fs, (ps_nilG (frm_gv hs hn hl hg a) (frm_gv hs hn yl gy a)).2 ⟨fs, fun i hi => ?_⟩⟩
    rw [frm_len yl a] at hi
    rw [frm_pm hs hn hl ha, frm_pm hs hn yl ha, pm_nth hi, pm_nth hi]
    exact hag _ (by rw [yl]; rw [hn] at hi ⊢; exact tix_lt s hs a ha i hi)
  simpa using this
theorem form_count {s n : Nat} {gi : List Int} (hs : s ∈ [2, 3, 4]) (hn : n = s * s) (hl : gi.length = n) (hg : gv gi s = true) {a : Nat} (ha : a < 8) : csI s n (frm s n gi a) [] 600 = csI s n gi [] 600 := by
  have hgf := frm_gv hs hn hl hg a
  rw [cs_lenG (frm_len hl a) (pv_nilG hgf) hn, cs_lenG hl (pv_nilG hg) hn]
  have h1 := form_le hs hn hl hg ha
  have h2 := form_le hs hn (frm_len hl a) hgf (ginv_lt a ha)
  rw [frm_frm hs hn hl ha (ginv_lt a ha), gmul_inv a ha, show frm s n gi 0 = gi from rfl] at h2
  omega
end Go.Proofs.YtkeoflnmbcdmfaaDoor
