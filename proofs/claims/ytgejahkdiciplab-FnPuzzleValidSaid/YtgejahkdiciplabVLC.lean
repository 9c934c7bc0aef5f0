import Derived.Test.YtgejahkdiciplabC1
import Derived.Test.YtgejahkdiciplabVFresh
import Derived.Test.YtgejahkdiciplabLR
import Derived.Deep.DeepCutAuto
set_option maxRecDepth 8000
namespace Go.Proofs.Ytgejahkdiciplab
open Go.ChangeShapes Go.WideShapes Go.ChangeAt Go.RowKit

/-- the box of a cell. -/
def boxC (k : Nat) : Int := ((k / 8 * 2 + k % 4 / 2 : Nat) : Int)
set_option maxHeartbeats 1000000 in
theorem specBoxRegions (w : World) : Calls Try.prog 76 #[] w (RetSl w (mapTo boxC 16)) := by
  have hb0 : Below w.heap.size w (w.alloc (.cells #[] 3)) := (Below.refl _ _).alloc (Nat.le_refl _) _
  go_enter Try.func76, Try.ntmps76
  go_wp2
  go_loopw [1, 2] (fun v i wr => ∃ (u : Nat) (A' : Option Addr) (c' : Nat), u ≤ 16 ∧ i = .int .i64 u ∧ v = .slice A' u c' ∧ Ow wr w.heap.size A' u c' (mapTo boxC u) ∧ Below w.heap.size w wr) (fun _ i _ => 16 - (intOf i).toNat)
  case atStart => exact ⟨0, _, _, Nat.zero_le _, rfl, rfl, Ow.made0 _ _ (Nat.le_refl _), hb0⟩
  case round =>
    obtain ⟨u, A', c', hu, rfl, rfl, ho, hb⟩ := hrel
    have hs := hb.size
    by_cases hlt : u < 16
    · have hlt' : (u : Int) < 16 := by omega
      have hu1 : u ≤ 1099511627776 := by omega
      go_wp2_with (at_builtin; refine push_int rfl (.tmp 8) (.tmp 16) rfl w.heap.size A' u c' (mapTo boxC u) _ rfl rfl ho hu1 hs ?_; intro A5 c5 w5 ho5 hg5)
      go_roundw
      case rel => exact ⟨u + 1, _, _, by omega, by go_num, rfl, by rw [mapTo_succ]; exact ho5, push_below hb ho (Nat.le_refl _) hs hg5⟩
      case measure => simp [intOf]; omega
    · obtain rfl : u = 16 := by omega
      go_wp2
      go_ret
      exact retSl_mk ho hb
theorem all_f5 {xs : List Int} {p : Int → Bool} {k n : Nat} (hl : xs.length = n) (hk : k < n) (h : p (nth xs k) = false) : xs.all p = false := by
  refine List.all_eq_false.2 ⟨nth xs k, ?_, by simp [h]⟩
  have hk' : k < xs.length := by omega
  have e : nth xs k = xs[k] := by simp [nth, List.getD_eq_getElem?_getD, hk']
  rw [e]
  exact List.getElem_mem _
/-- the numbers of the regions are valid. -/
def regB (rg : List Int) (s : Int) : Bool := (rg.all fun x => inr x 0 (s - 1)) && inr s 2 4 && ((rg.length : Int) == s * s)
set_option maxHeartbeats 1000000 in
theorem specRegionsValid (A : Option Addr) (c n B : Nat) (rg : List Int) (s : Int) (w : World) (h : Rd w B A n rg) (hm : n ≤ 1099511627776) :
    Calls Try.prog 97 #[.slice A n c, .int .i64 s] w fun e w' => e = .returned (.bool (regB rg s)) ∧ w = w' := by
  obtain ⟨q, hq⟩ : ∃ q, wrap64 (s - 1) = q := ⟨_, rfl⟩
  have hreg : regB rg s = ((rg.all fun x => inr x 0 q) && inr s 2 4 && ((rg.length : Int) == s * s)) := by
    cases hs : inr s 2 4
    · simp [regB, hs]
    · obtain ⟨h2, h4⟩ := inr_t hs
      rw [IntWalk.wrap64_in _ ⟨by omega, by omega⟩] at hq
      subst hq
      simp only [regB, hs]
  have Hreg := Lib.hid hreg
  clear hreg
  go_enter Try.func97, Try.ntmps97
  go_wp2
  go_loop [5] (fun i => ∃ k : Nat, k ≤ n ∧ i = .int .i64 k ∧ okTo rg q k) (fun i => n - (intOf i).toNat)
  case atStart => exact ⟨0, Nat.zero_le _, rfl, okTo_zero⟩
  case round =>
    obtain ⟨k, hk, rfl, hok⟩ := hrel
    by_cases hlt : k < n
    · have hlen := Lib.hid h.1
      obtain ⟨b, off, rfl, hb, hck⟩ := h.at_ hlt
      cases hv : inr (nth rg k) 0 q
      · go_wp2_with (go_at_call 53; (try simp only [hq]); refine (l1In_any _ _ _ _).mono ?_; rintro e w' ⟨rfl, rfl⟩)
        go_ret
        exact ⟨by rw [Hreg.out, all_f5 hlen.out hlt (p := fun x => inr x 0 q) hv]; rfl, rfl⟩
      · go_wp2_with (go_at_call 53; (try simp only [hq]); refine (l1In_any _ _ _ _).mono ?_; rintro e w' ⟨rfl, rfl⟩)
        go_round
        case rel => exact ⟨k + 1, by omega, by go_num, okTo_succ hok hv⟩
        case measure => simp [intOf]; omega
    · obtain rfl : k = n := by omega
      have hall := Lib.hid (okTo_all hok h.1)
      have hlen := Lib.hid h.1
      cases hs : inr s 2 4
      · clear hq
        go_wp2_with (go_at_call 53; refine (l1In_any _ _ _ _).mono ?_; rintro e w' ⟨rfl, rfl⟩)
        go_ret
        exact ⟨by rw [Hreg.out, hs]; simp, rfl⟩
      · obtain ⟨h2, h4⟩ := inr_t hs
        clear hq
        have hsq : s = 2 ∨ s = 3 ∨ s = 4 := by omega
        rcases hsq with rfl | rfl | rfl
        all_goals
          go_wp2_with (go_at_call 53; refine (l1In_any _ _ _ _).mono ?_; rintro e w' ⟨rfl, rfl⟩)
          go_ret
          exact ⟨by rw [Hreg.out, hs, hall.out, hlen.out]; simp, rfl⟩
end Go.Proofs.Ytgejahkdiciplab
set_option maxRecDepth 8000
namespace Go.Proofs.Ytgejahkdiciplab
open Go.ChangeShapes Go.WideShapes Go.ChangeAt Go.RowKit

/-- the cells before the u-th that lie in a region. -/
def pickTo (rg : List Int) (r : Int) : Nat → List Int
  | 0 => []
  | u + 1 => if nth rg u = r then pickTo rg r u ++ [(u : Int)] else pickTo rg r u
theorem pickTo_len (rg : List Int) (r : Int) (u : Nat) : (pickTo rg r u).length ≤ u := by
  induction u with
  | zero => exact Nat.le_refl _
  | succ u ih =>
    simp only [pickTo]
    split
    · simp; omega
    · omega
def cellsL (rg : List Int) (s r : Int) (n : Nat) : List Int := if regB rg s = true then pickTo rg r n else []
set_option maxHeartbeats 1000000 in
theorem specRegionCells (A : Option Addr) (c n B : Nat) (rg : List Int) (s r : Int) (w : World) (h : Rd w B A n rg) (hB : B ≤ w.heap.size) (hm : n ≤ 1099511627776) :
    Calls Try.prog 98 #[.slice A n c, .int .i64 s, .int .i64 r] w (RetSl w (cellsL rg s r n)) := by
  have hb0 : Below w.heap.size w (w.alloc (.cells #[] 3)) := (Below.refl _ _).alloc (Nat.le_refl _) _
  have HV := Lib.hid (fun w' (hb : Below w.heap.size w w') => specRegionsValid A c n B rg s w' (h.below (hb.mono hB)) hm)
  cases hv : regB rg s
  · have HL := Lib.hid (show cellsL rg s r n = [] by simp [cellsL, hv])
    go_enter Try.func98, Try.ntmps98
    go_wp2
    go_loopw [7, 8] (fun v i wr => v = .slice (some ⟨w.heap.size, 0, none⟩) 0 0 ∧ i = .int .i64 0 ∧ wr = w.alloc (.cells #[] 3)) (fun _ _ _ => 0)
    case atStart => exact ⟨rfl, rfl, rfl⟩
    case round =>
      obtain ⟨rfl, rfl, rfl⟩ := hrel
      by_cases hlt : 0 < n
      · have hlt' : (0 : Int) < (n : Int) := by omega
        go_wp2_with (go_at_call 97; refine (HV.out _ hb0).mono ?_; rintro e w1 ⟨rfl, rfl⟩; rw [hv])
        go_ret
        rw [HL.out]
        exact ⟨_, _, rfl, Ow.made0 _ _ (Nat.le_refl _), hb0⟩
      · obtain rfl : n = 0 := by omega
        go_wp2
        go_ret
        rw [HL.out]
        exact ⟨_, _, rfl, Ow.made0 _ _ (Nat.le_refl _), hb0⟩
  · have HL := Lib.hid (show cellsL rg s r n = pickTo rg r n by simp [cellsL, hv])
    go_enter Try.func98, Try.ntmps98
    go_wp2
    go_loopw [7, 8] (fun v i wr => ∃ (u m : Nat) (A' : Option Addr) (c' : Nat), u ≤ n ∧ i = .int .i64 u ∧ v = .slice A' m c' ∧ Hid ((pickTo rg r u).length = m) ∧ Ow wr w.heap.size A' m c' (pickTo rg r u) ∧ Below w.heap.size w wr) (fun _ i _ => n - (intOf i).toNat)
    case atStart => exact ⟨0, 0, _, _, Nat.zero_le _, rfl, rfl, Lib.hid rfl, Ow.made0 _ _ (Nat.le_refl _), hb0⟩
    case round =>
      obtain ⟨u, m, A', c', hu, rfl, rfl, hlen, ho, hb⟩ := hrel
      have hs := hb.size
      by_cases hlt : u < n
      · obtain ⟨b, off, hA, hbB, hck⟩ := (h.below (hb.mono hB)).at_ hlt
        subst hA
        have hm1 : m ≤ 1099511627776 := by have := hlen.out; have := pickTo_len rg r u; omega
        by_cases e : nth rg u = r
        · have hq : (nth rg u == r) = true := by simp [e]
          have Hp := Lib.hid (show pickTo rg r (u + 1) = pickTo rg r u ++ [(u : Int)] by simp only [pickTo]; rw [if_pos e])
          have Hl := Lib.hid (show (pickTo rg r (u + 1)).length = m + 1 by rw [Hp.out, List.length_append, hlen.out]; rfl)
          clear e
          go_wp2_with (first
            | (go_at_call 97; refine (HV.out _ hb).mono ?_; rintro e w1 ⟨rfl, rfl⟩; rw [hv])
            | (at_builtin; refine push_int rfl (.tmp 27) (.tmp 29) rfl w.heap.size A' m c' (pickTo rg r u) _ rfl rfl ho hm1 hs ?_; intro A5 c5 w5 ho5 hg5))
          go_roundw
          case rel => exact ⟨u + 1, _, _, _, by omega, by go_num, rfl, Hl, by rw [Hp.out]; exact ho5, push_below hb ho (Nat.le_refl _) hs hg5⟩
          case measure => simp [intOf]; omega
        · have hq : (nth rg u == r) = false := by simp [e]
          have Hp := Lib.hid (show pickTo rg r (u + 1) = pickTo rg r u by simp only [pickTo]; rw [if_neg e])
          clear e
          go_wp2_with (go_at_call 97; refine (HV.out _ hb).mono ?_; rintro e w1 ⟨rfl, rfl⟩; rw [hv])
          go_roundw
          case rel => exact ⟨u + 1, _, _, _, by omega, by go_num, rfl, Lib.hid (by rw [Hp.out]; exact hlen.out), by rw [Hp.out]; exact ho, hb⟩
          case measure => simp [intOf]; omega
      · obtain rfl : u = n := by omega
        go_wp2
        go_ret
        rw [HL.out]
        exact retSl_mk ho hb
end Go.Proofs.Ytgejahkdiciplab
set_option maxRecDepth 8000
namespace Go.Proofs.Ytgejahkdiciplab
open Go.ChangeShapes Go.WideShapes Go.ChangeAt Go.RowKit

theorem rat_app {rs : List RuleM} {r : RuleM} {i : Nat} (h : i < rs.length) : rat (rs ++ [r]) i = rat rs i := by
  simp [rat, List.getD_eq_getElem?_getD, List.getElem?_append_left h]
theorem rat_last {rs : List RuleM} {r : RuleM} {m : Nat} (h : rs.length = m) : rat (rs ++ [r]) m = r := by
  subst h
  simp [rat, List.getD_eq_getElem?_getD]
/-- the rules of the regions before the u-th. -/
def rrTo (rg : List Int) (s : Int) (n : Nat) : Nat → List RuleM
  | 0 => []
  | u + 1 => if 2 ≤ (cellsL rg s u n).length then rrTo rg s n u ++ [⟨1, cellsL rg s u n, 0⟩] else rrTo rg s n u
theorem rrTo_len (rg : List Int) (s : Int) (n u : Nat) : (rrTo rg s n u).length ≤ u := by
  induction u with
  | zero => exact Nat.le_refl _
  | succ u ih =>
    simp only [rrTo]
    split
    · simp; omega
    · omega
def rrFit (rg : List Int) (s : Int) (n : Nat) : Bool := (List.range s.toNat).all fun u => decide ((cellsL rg s u n).length ≤ 4)
def rrB (rg : List Int) (s : Int) (n : Nat) : Bool := regB rg s && rrFit rg s n
def rrL (rg : List Int) (s : Int) (n : Nat) : List RuleM := if rrB rg s n = true then rrTo rg s n s.toNat else []
set_option maxHeartbeats 2000000 in
theorem specRegionRules (A : Option Addr) (c n B : Nat) (rg : List Int) (s : Int) (w : World) (h : Rd w B A n rg) (hB : B ≤ w.heap.size) (hm : n ≤ 1099511627776) :
    Calls Try.prog 75 #[.slice A n c, .int .i64 s] w fun e w' => ∃ A' c', e = .returned (.tuple #[.slice A' (rrL rg s n).length c', .bool (rrB rg s n)]) ∧ OwR w' w.heap.size (.slice A' (rrL rg s n).length c') (rrL rg s n) (rrL rg s n).length ∧ Below w.heap.size w w' := by
  have hb0 : Below w.heap.size w (w.alloc (.cells #[] 30)) := (Below.refl _ _).alloc (Nat.le_refl _) _
  have hr0 : ∀ rs, OwR (w.alloc (.cells #[] 30)) w.heap.size (.slice (some ⟨w.heap.size, 0, none⟩) 0 0) rs 0 := fun rs => ⟨[], World.ownsRow_made _ #[] 0 (Nat.le_refl _) (by simp [maxLen]) rfl, fun i hi => absurd hi (by omega)⟩
  have HV := Lib.hid (fun w' (hb : Below w.heap.size w w') => specRegionsValid A c n B rg s w' (h.below (hb.mono hB)) hm)
  cases hv : regB rg s
  · have HL := Lib.hid (show rrL rg s n = [] by simp [rrL, rrB, hv])
    have HL2 := Lib.hid (show rrB rg s n = false by simp [rrB, hv])
    go_enter Try.func75, Try.ntmps75
    go_wp2_with (go_at_call 97; refine (HV.out _ hb0).mono ?_; rintro e w1 ⟨rfl, rfl⟩; rw [hv])
    go_ret2
    rw [HL.out, HL2.out]
    exact ⟨_, _, rfl, hr0 _, hb0⟩
  · have hs24 : inr s 2 4 = true := by
      simp only [regB, Bool.and_eq_true] at hv
      exact hv.1.2
    obtain ⟨h2, h4⟩ := inr_t hs24
    obtain ⟨t, rfl⟩ := Int.eq_ofNat_of_zero_le (show 0 ≤ s by omega)
    have HC := Lib.hid (fun (u : Nat) w' (hb : Below w.heap.size w w') => specRegionCells A c n B rg t u w' (h.below (hb.mono hB)) (Nat.le_trans hB hb.size) hm)
    have hHV := Lib.hid hv
    clear hv hs24
    go_enter Try.func75, Try.ntmps75
    go_wp2_with (go_at_call 97; refine (HV.out _ hb0).mono ?_; rintro e w1 ⟨rfl, rfl⟩; rw [hHV.out])
    go_loopw [6, 7] (fun v i wr => ∃ (u m : Nat) (A' : Option Addr) (c' : Nat), u ≤ t ∧ i = .int .i64 u ∧ v = .slice A' m c' ∧ Hid ((rrTo rg t n u).length = m) ∧ Hid (∀ j, j < u → (cellsL rg t j n).length ≤ 4) ∧ OwR wr w.heap.size (.slice A' m c') (rrTo rg t n u) m ∧ Below w.heap.size w wr) (fun _ i _ => t - (intOf i).toNat)
    case atStart => exact ⟨0, 0, _, _, Nat.zero_le _, rfl, rfl, Lib.hid rfl, Lib.hid (fun j hj => absurd hj (by omega)), hr0 _, hb0⟩
    case round =>
      obtain ⟨u, m, A', c', hu, rfl, rfl, hlen, hfit, hown, hb⟩ := hrel
      have hsw := hb.size
      by_cases hlt : u < t
      · have hlt' : (u : Int) < (t : Int) := by omega
        obtain ⟨q, hq⟩ : ∃ q, q = (cellsL rg t u n).length := ⟨_, rfl⟩
        have Hq := Lib.hid hq
        have HCu : Hid (∀ w', Below w.heap.size w w' → Calls Try.prog 98 #[.slice A n c, .int .i64 t, .int .i64 u] w' fun e w'' => ∃ A3 c3, e = .returned (.slice A3 q c3) ∧ Ow w'' w'.heap.size A3 q c3 (cellsL rg t u n) ∧ Below w'.heap.size w' w'') := Lib.hid (fun w' hb => by
          rw [hq]
          exact HC.out u w' hb)
        clear hq
        by_cases h5 : 4 < q
        · have h5' : (4 : Int) < (q : Int) := by omega
          have HL2 := Lib.hid (show rrB rg t n = false by
            have : rrFit rg t n = false := by
              cases e : rrFit rg t n
              · rfl
              · simp only [rrFit, List.all_eq_true, List.mem_range, decide_eq_true_eq] at e
                have := e u (by simpa using hlt)
                have := Hq.out
                omega
            simp [rrB, this])
          have HL := Lib.hid (show rrL rg t n = [] by simp [rrL, HL2.out])
          have HM := Lib.hid (fun w3 (hb3 : Below wr.heap.size wr w3) => (⟨⟨[], World.ownsRow_made w3 #[] 0 (Nat.le_trans hsw hb3.size) (by simp [maxLen]) rfl, fun i hi => absurd hi (by omega)⟩, ((hb.trans (hb3.mono hsw)).alloc (Nat.le_trans hsw hb3.size) _)⟩ : OwR (w3.alloc (.cells #[] 30)) w.heap.size (.slice (some ⟨w3.heap.size, 0, none⟩) 0 0) [] 0 ∧ Below w.heap.size w (w3.alloc (.cells #[] 30))))
          go_wp2_with (go_at_call 98; refine (HCu.out _ hb).mono ?_; rintro e w3 ⟨A3, c3, rfl, ho3, hb3⟩)
          go_ret2
          rw [HL.out, HL2.out]
          exact ⟨_, _, rfl, (HM.out _ hb3).1, (HM.out _ hb3).2⟩
        · have h5' : ¬ (4 : Int) < (q : Int) := by omega
          have Hfit := Lib.hid (show ∀ j, j < u + 1 → (cellsL rg t j n).length ≤ 4 by
            intro j hj
            by_cases e : j = u
            · subst e; have := Hq.out; omega
            · exact hfit.out j (by omega))
          by_cases h6 : 2 ≤ q
          · have h6' : (2 : Int) ≤ (q : Int) := by omega
            have Hp := Lib.hid (show rrTo rg t n (u + 1) = rrTo rg t n u ++ [⟨1, cellsL rg t u n, 0⟩] by simp only [rrTo]; rw [if_pos (by have := Hq.out; omega)])
            have Hl := Lib.hid (show (rrTo rg t n (u + 1)).length = m + 1 by rw [Hp.out, List.length_append, hlen.out]; rfl)
            obtain ⟨vs, hown, hin⟩ := hown
            have HK : Hid (∀ w', Below wr.heap.size wr w' → w'.ownsRow w.heap.size 30 3 (.slice A' m c') m vs) := Lib.hid (fun w' hb => World.ownsRow.kept hown (row := none) ⟨hb.os, hb.tape, hb.output, hb.size, fun k hk _ => hb.block k hk⟩ (by
              cases e : (Value.slice A' m c').ownBlock
              · exact .inl rfl
              · exact .inr (by simp)))
            have Hin := Lib.hid hin
            clear hin
            have hm1 : m ≤ 1099511627776 := by have := hlen.out; have := rrTo_len rg t n u; omega
            go_wp2_with (first
              | (go_at_call 98; refine (HCu.out _ hb).mono ?_; rintro e w3 ⟨A3, c3, rfl, ho3, hb3⟩; have hlo3 := Nat.le_trans hsw hb3.size; have hown3 := World.ownsRow.alloc (HK.out _ hb3) (.cells #[.int .i64 1, .slice A3 q c3, .int .i64 0] 30))
              | (at_builtin; (refine push_rule rfl (.tmp 31) (.tmp 34) rfl w.heap.size (.slice A' m c') m vs w3.heap.size 1 A3 q c3 0 rfl rfl hown3 (heap_alloc_new w3 _) hm1 (le_alloc5 hlo3) ?_); intro g5 cap5 w5 ho5 hg5 hl5))
            have hR := rat_last (r := ⟨1, cellsL rg t u n, 0⟩) hlen.out
            have Hpush : OwR w5 w.heap.size (.slice (some ⟨g5, 0, none⟩) (m + 1) cap5) (rrTo rg t n u ++ [⟨1, cellsL rg t u n, 0⟩]) (m + 1) := by
              have hx : (rat (rrTo rg t n u ++ [⟨1, cellsL rg t u n, 0⟩]) m).xs = cellsL rg t u n := by rw [hR]
              refine OwR.push (c3 := c3) (A3 := A3) hown (fun i hi => ?_) hsw hb3 (by rw [hx, ← Hq.out]; exact ho3) (by rw [hx, ← Hq.out]; omega) (by rw [hx, ← Hq.out, hR]; exact ho5) hg5 hl5
              rw [rat_app (by rw [hlen.out]; exact hi)]
              exact Hin.out i hi
            have hBe : Below w.heap.size w w5 := ((hb.trans (hb3.mono hsw)).alloc hlo3 _).grown hg5 (le_alloc5 hlo3) (fun k hk => (World.ownsRow.lt hown k hk).1)
            clear hR
            go_roundw
            case rel => exact ⟨u + 1, _, _, _, by omega, by go_num, rfl, Hl, Hfit, by rw [Hp.out]; exact Hpush, hBe⟩
            case measure => simp [intOf]; omega
          · have h6' : ¬ (2 : Int) ≤ (q : Int) := by omega
            have Hp := Lib.hid (show rrTo rg t n (u + 1) = rrTo rg t n u by simp only [rrTo]; rw [if_neg (by have := Hq.out; omega)])
            go_wp2_with (go_at_call 98; refine (HCu.out _ hb).mono ?_; rintro e w3 ⟨A3, c3, rfl, ho3, hb3⟩)
            go_roundw
            case rel => exact ⟨u + 1, _, _, _, by omega, by go_num, rfl, Lib.hid (by rw [Hp.out]; exact hlen.out), Hfit, by rw [Hp.out]; exact hown.below hb3, hb.trans (hb3.mono hsw)⟩
            case measure => simp [intOf]; omega
      · obtain rfl : u = t := by omega
        have HL2 := Lib.hid (show rrB rg u n = true by
          have : rrFit rg u n = true := by
            simp only [rrFit, List.all_eq_true, List.mem_range, decide_eq_true_eq]
            intro j hj
            exact hfit.out j (by simpa using hj)
          simp [rrB, this, hHV.out])
        have HL := Lib.hid (show rrL rg u n = rrTo rg u n u by simp [rrL, HL2.out])
        go_wp2
        go_ret2
        rw [HL.out, HL2.out, hlen.out]
        exact ⟨_, _, rfl, hown, hb⟩
end Go.Proofs.Ytgejahkdiciplab
set_option maxRecDepth 8000
namespace Go.Proofs.Ytgejahkdiciplab
open Go.ChangeShapes Go.WideShapes Go.ChangeAt Go.RowKit

theorem results_c2 {P : Program} {fn : Func} {p q r : Tmp} {ty : TypeId} (h : fn.results = #[.cell p ty, .tmp q, .tmp r]) (tmps : Array Value) (w : World) (g : Nat) (t : TypeId) (cs : Array Value) (fr : Nat × Nat) (d : TypeDesc) (b c : Value)
    (hp : tmps.getD p undef = .pointer (some ⟨g, 0, none⟩)) (hq : tmps.getD q undef = b) (hr : tmps.getD r undef = c) (hg : w.heap[g]? = some (.cells cs t fr))
    (hu : P.underlying ty = some d) (hd : (match d with | .struct _ | .array _ _ => true | _ => false) = true) (hi : (P.info? ty).map (·.size) = some cs.size) :
    (results fn tmps).run P w = .ok (.tuple #[.agg cs, b, c]) w := by
  have hp' : tmps[p]?.getD undef = .pointer (some ⟨g, 0, none⟩) := by simpa using hp
  have hq' : tmps[q]?.getD undef = b := by simpa using hq
  have hr' : tmps[r]?.getD undef = c := by simpa using hr
  simp [results, h, hp', hq', hr', asAddr, run_loadVar_row w g t ty cs fr d hg hu hd hi]
theorem solved_gv {s : Int} {n : Nat} {g : List Int} (h2 : 2 ≤ s) (h4 : s ≤ 4) (hn : (n : Int) = s * s) (hm : g ∈ sols s n (zeros n) 0) : gv g s = true :=
  okAll_gv (by have := sols_length s _ _ _ _ hm; rw [zeros_length] at this; exact this) hn h2 h4 (sols_ok (by omega : 0 ≤ s) n _ _ _ (okAll_zeros (by omega) n) _ hm)
/-- a drawn rule in block X, and a drawn grid: each in memory of its own. -/
def CaseRel (w0 : World) (B G P X : Nat) (k : Int) (A : Option Addr) (n c : Nat) (v : Int) (xs : List Int) (gv : Value) (wx : World) : Prop :=
  wx.heap[X]? = some (.cells #[.int .i64 k, .slice A n c, .int .i64 v] 30) ∧ Ow wx w0.heap.size A n c xs ∧ (∀ b, (Value.slice A n c).ownBlock = some b → b ≠ X) ∧
    (∃ (gb ng cg : Nat) (g : List Int), gv = .slice (some ⟨gb, 0, none⟩) ng cg ∧ Ow wx w0.heap.size (some ⟨gb, 0, none⟩) ng cg g ∧ 4 ≤ ng ∧ ng ≤ 16 ∧ gb ≠ X ∧ ∀ b, (Value.slice A n c).ownBlock = some b → b ≠ gb) ∧ Rdr wx B G P ∧ w0.grownBy wx (some G)
theorem case_set {w0 wx : World} {B G P X : Nat} {k : Int} {A : Option Addr} {n c : Nat} {v : Int} {xs g : List Int} {gb ng cg : Nat} (hG : G < w0.heap.size) (hB : B ≤ w0.heap.size) (hrow : wx.heap[X]? = some (.cells #[.int .i64 k, .slice A n c, .int .i64 v] 30)) (ho : Ow wx w0.heap.size A n c xs) (hne : ∀ b, (Value.slice A n c).ownBlock = some b → b ≠ X)
    (hog : Ow wx w0.heap.size (some ⟨gb, 0, none⟩) ng cg g) (h4 : 4 ≤ ng) (h16 : ng ≤ 16) (hgX : gb ≠ X) (hgA : ∀ b, (Value.slice A n c).ownBlock = some b → b ≠ gb) (hr : Rdr wx B G P) (hg : w0.grownBy wx (some G)) (j : Nat) (z : Int) :
    CaseRel w0 B G P X k A n c v xs (.slice (some ⟨gb, 0, none⟩) ng cg) (wx.setCell ⟨gb, j, none⟩ (.int .i64 z)) := by
  have hlo := hog.own_lo gb rfl
  have hb : Below w0.heap.size wx (wx.setCell ⟨gb, j, none⟩ (.int .i64 z)) := (Below.refl _ _).setCell hlo _
  exact ⟨(heap_setCell_other wx ⟨gb, j, none⟩ X _ (fun e => hgX e.symm)).trans hrow, ho.far (row := some gb) grown_set (fun b hb' e => hgA b hb' (by injection e with e; omega)), hne,
    ⟨gb, ng, cg, _, rfl, hog.put j z, h4, h16, hgX, hgA⟩, hr.belowN hb hG hB, grown_low hg hb⟩
theorem CaseRel.keep {w0 wx wy : World} {B G P P' X : Nat} {k : Int} {A : Option Addr} {n c : Nat} {v : Int} {xs : List Int} {gv : Value} (h : CaseRel w0 B G P X k A n c v xs gv wx) (hG : G < w0.heap.size) (hX : w0.heap.size ≤ X) (hg : wx.grownBy wy (some G)) (hr : Rdr wy B G P') : CaseRel w0 B G P' X k A n c v xs gv wy := by
  obtain ⟨h1, h2, h3, ⟨gb, ng, cg, g, h4, h5, h6, h7, h8, h9⟩, h10, h11⟩ := h
  have hXl : X < wx.heap.size := (Array.getElem?_eq_some_iff.1 h1).1
  exact ⟨(hg.block X hXl (fun e => by injection e with e; omega)).trans h1, h2.keptG hg hG, h3, ⟨gb, ng, cg, g, h4, h5.keptG hg hG, h6, h7, h8, h9⟩, hr, h11.trans hg⟩
theorem CaseRel.alloc {w0 wx : World} {B G P X : Nat} {k : Int} {A : Option Addr} {n c : Nat} {v : Int} {xs : List Int} {gv : Value} (h : CaseRel w0 B G P X k A n c v xs gv wx) (hG : G < w0.heap.size) (hB : B ≤ w0.heap.size) (hX : w0.heap.size ≤ X) (o : Obj) : CaseRel w0 B G P X k A n c v xs gv (wx.alloc o) :=
  h.keep hG hX (only_alloc (World.grownBy.refl _ _) o) (h.2.2.2.2.1.alloc (Nat.le_trans hB h.2.2.2.2.2.size) o)
end Go.Proofs.Ytgejahkdiciplab
