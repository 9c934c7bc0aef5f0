import Derived.Test.YtoejpodchlepiaaC1
import Derived.Test.YtoejpodchlepiaaVFresh
import Derived.Test.YtoejpodchlepiaaLR
import Derived.Deep.DeepCutAuto
set_option maxRecDepth 8000
namespace Go.Proofs.Ytoejpodchlepiaa
open Go.ChangeShapes Go.WideShapes Go.ChangeAt Go.RowKit

/-- the box of a cell. -/
def boxC (k : Nat) : Int := ((k / 8 * 2 + k % 4 / 2 : Nat) : Int)
set_option maxHeartbeats 1000000 in
theorem specBoxRegions (w : World) : Calls Try.prog 127 #[] w (RetSl w (mapTo boxC 16)) := by
  have hb0 : Below w.heap.size w (w.alloc (.cells #[] 3)) := (Below.refl _ _).alloc (Nat.le_refl _) _
  go_enter Try.func127, Try.ntmps127
  go_wp2
  go_loopw [1, 2] (fun v i wr => ∃ (u : Nat) (A' : Option Addr) (c' : Nat), u ≤ 16 ∧ i = .int .i64 u ∧ v = .slice A' u c' ∧ Ow wr w.heap.size A' u c' (mapTo boxC u) ∧ Below w.heap.size w wr) (fun _ i _ => 16 - (intOf i).toNat)
  case atStart => exact ⟨0, _, _, Nat.zero_le _, rfl, rfl, Ow.made0 _ _ (Nat.le_refl _), hb0⟩
  case round =>
    obtain ⟨u, A', c', hu, rfl, rfl, ho, hb⟩ := hrel
    have hs := hb.size
    by_cases hlt : u < 16
    · have hlt' : (u : Int) < 16 := by omega
      have hu1 : u ≤ 1099511627776 := by omega
      go_wp2_with (at_builtin; refine push_int rfl (.tmp 8) (.tmp 16) rfl w.heap.size A' u c' (mapTo boxC u) _ rfl rfl ho hu1 hs ?_; intro A5 c5 w5 ho5 hg5)
      go_roundw
      case rel => exact ⟨u + 1, _, _, by omega, by go_num, rfl, by rw [mapTo_succ]; exact ho5, push_below hb ho (Nat.le_refl _) hs hg5⟩
      case measure => simp [intOf]; omega
    · obtain rfl : u = 16 := by omega
      go_wp2
      go_ret
      exact retSl_mk ho hb
theorem all_f5 {xs : List Int} {p : Int → Bool} {k n : Nat} (hl : xs.length = n) (hk : k < n) (h : p (nth xs k) = false) : xs.all p = false := by
  refine List.all_eq_false.2 ⟨nth xs k, ?_, by simp [h]⟩
  have hk' : k < xs.length := by omega
  have e : nth xs k = xs[k] := by simp [nth, List.getD_eq_getElem?_getD, hk']
  rw [e]
  exact List.getElem_mem _
/-- the numbers of the regions are valid. -/
def regB (rg : List Int) (s : Int) : Bool := (rg.all fun x => inr x 0 (s - 1)) && inr s 2 4 && ((rg.length : Int) == s * s)
set_option maxHeartbeats 1000000 in
theorem specRegionsValid (A : Option Addr) (c n B : Nat) (rg : List Int) (s : Int) (w : World) (h : Rd w B A n rg) (hm : n ≤ 1099511627776) :
    Calls Try.prog 138 #[.slice A n c, .int .i64 s] w fun e w' => e = .returned (.bool (regB rg s)) ∧ w = w' := by
  obtain ⟨q, hq⟩ : ∃ q, wrap64 (s - 1) = q := ⟨_, rfl⟩
  have hreg : regB rg s = ((rg.all fun x => inr x 0 q) && inr s 2 4 && ((rg.length : Int) == s * s)) := by
    cases hs : inr s 2 4
    · simp [regB, hs]
    · obtain ⟨h2, h4⟩ := inr_t hs
      rw [IntWalk.wrap64_in _ ⟨by omega, by omega⟩] at hq
      subst hq
      simp only [regB, hs]
  have Hreg := Lib.hid hreg
  clear hreg
  go_enter Try.func138, Try.ntmps138
  go_wp2
  go_loop [5] (fun i => ∃ k : Nat, k ≤ n ∧ i = .int .i64 k ∧ okTo rg q k) (fun i => n - (intOf i).toNat)
  case atStart => exact ⟨0, Nat.zero_le _, rfl, okTo_zero⟩
  case round =>
    obtain ⟨k, hk, rfl, hok⟩ := hrel
    by_cases hlt : k < n
    · have hlen := Lib.hid h.1
      obtain ⟨b, off, rfl, hb, hck⟩ := h.at_ hlt
      cases hv : inr (nth rg k) 0 q
      · go_wp2_with (go_at_call 79; (try simp only [hq]); refine (l1In_any _ _ _ _).mono ?_; rintro e w' ⟨rfl, rfl⟩)
        go_ret
        exact ⟨by rw [Hreg.out, all_f5 hlen.out hlt (p := fun x => inr x 0 q) hv]; rfl, rfl⟩
      · go_wp2_with (go_at_call 79; (try simp only [hq]); refine (l1In_any _ _ _ _).mono ?_; rintro e w' ⟨rfl, rfl⟩)
        go_round
        case rel => exact ⟨k + 1, by omega, by go_num, okTo_succ hok hv⟩
        case measure => simp [intOf]; omega
    · obtain rfl : k = n := by omega
      have hall := Lib.hid (okTo_all hok h.1)
      have hlen := Lib.hid h.1
      cases hs : inr s 2 4
      · clear hq
        go_wp2_with (go_at_call 79; refine (l1In_any _ _ _ _).mono ?_; rintro e w' ⟨rfl, rfl⟩)
        go_ret
        exact ⟨by rw [Hreg.out, hs]; simp, rfl⟩
      · obtain ⟨h2, h4⟩ := inr_t hs
        clear hq
        have hsq : s = 2 ∨ s = 3 ∨ s = 4 := by omega
        rcases hsq with rfl | rfl | rfl
        all_goals
          go_wp2_with (go_at_call 79; refine (l1In_any _ _ _ _).mono ?_; rintro e w' ⟨rfl, rfl⟩)
          go_ret
          exact ⟨by rw [Hreg.out, hs, hall.out, hlen.out]; simp, rfl⟩
end Go.Proofs.Ytoejpodchlepiaa
set_option maxRecDepth 8000
namespace Go.Proofs.Ytoejpodchlepiaa
open Go.ChangeShapes Go.WideShapes Go.ChangeAt Go.RowKit

/-- the cells before the u-th that lie in a region. -/
def pickTo (rg : List Int) (r : Int) : Nat → List Int
  | 0 => []
  | u + 1 => if nth rg u = r then pickTo rg r u ++ [(u : Int)] else pickTo rg r u
theorem pickTo_len (rg : List Int) (r : Int) (u : Nat) : (pickTo rg r u).length ≤ u := by
  induction u with
  | zero => exact Nat.le_refl _
  | succ u ih =>
    simp only [pickTo]
    split
    · simp; omega
    · omega
def cellsL (rg : List Int) (s r : Int) (n : Nat) : List Int := if regB rg s = true then pickTo rg r n else []
set_option maxHeartbeats 1000000 in
theorem specRegionCells (A : Option Addr) (c n B : Nat) (rg : List Int) (s r : Int) (w : World) (h : Rd w B A n rg) (hB : B ≤ w.heap.size) (hm : n ≤ 1099511627776) :
    Calls Try.prog 139 #[.slice A n c, .int .i64 s, .int .i64 r] w (RetSl w (cellsL rg s r n)) := by
  have hb0 : Below w.heap.size w (w.alloc (.cells #[] 3)) := (Below.refl _ _).alloc (Nat.le_refl _) _
  have HV := Lib.hid (fun w' (hb : Below w.heap.size w w') => specRegionsValid A c n B rg s w' (h.below (hb.mono hB)) hm)
  cases hv : regB rg s
  · have HL := Lib.hid (show cellsL rg s r n = [] by simp [cellsL, hv])
    go_enter Try.func139, Try.ntmps139
    go_wp2
    go_loopw [7, 8] (fun v i wr => v = .slice (some ⟨w.heap.size, 0, none⟩) 0 0 ∧ i = .int .i64 0 ∧ wr = w.alloc (.cells #[] 3)) (fun _ _ _ => 0)
    case atStart => exact ⟨rfl, rfl, rfl⟩
    case round =>
      obtain ⟨rfl, rfl, rfl⟩ := hrel
      by_cases hlt : 0 < n
      · have hlt' : (0 : Int) < (n : Int) := by omega
        go_wp2_with (go_at_call 138; refine (HV.out _ hb0).mono ?_; rintro e w1 ⟨rfl, rfl⟩; rw [hv])
        go_ret
        rw [HL.out]
        exact ⟨_, _, rfl, Ow.made0 _ _ (Nat.le_refl _), hb0⟩
      · obtain rfl : n = 0 := by omega
        go_wp2
        go_ret
        rw [HL.out]
        exact ⟨_, _, rfl, Ow.made0 _ _ (Nat.le_refl _), hb0⟩
  · have HL := Lib.hid (show cellsL rg s r n = pickTo rg r n by simp [cellsL, hv])
    go_enter Try.func139, Try.ntmps139
    go_wp2
    go_loopw [7, 8] (fun v i wr => ∃ (u m : Nat) (A' : Option Addr) (c' : Nat), u ≤ n ∧ i = .int .i64 u ∧ v = .slice A' m c' ∧ Hid ((pickTo rg r u).length = m) ∧ Ow wr w.heap.size A' m c' (pickTo rg r u) ∧ Below w.heap.size w wr) (fun _ i _ => n - (intOf i).toNat)
    case atStart => exact ⟨0, 0, _, _, Nat.zero_le _, rfl, rfl, Lib.hid rfl, Ow.made0 _ _ (Nat.le_refl _), hb0⟩
    case round =>
      obtain ⟨u, m, A', c', hu, rfl, rfl, hlen, ho, hb⟩ := hrel
      have hs := hb.size
      by_cases hlt : u < n
      · obtain ⟨b, off, hA, hbB, hck⟩ := (h.below (hb.mono hB)).at_ hlt
        subst hA
        have hm1 : m ≤ 1099511627776 := by have := hlen.out; have := pickTo_len rg r u; omega
        by_cases e : nth rg u = r
        · have hq : (nth rg u == r) = true := by simp [e]
          have Hp := Lib.hid (show pickTo rg r (u + 1) = pickTo rg r u ++ [(u : Int)] by simp only [pickTo]; rw [if_pos e])
          have Hl := Lib.hid (show (pickTo rg r (u + 1)).length = m + 1 by rw [Hp.out, List.length_append, hlen.out]; rfl)
          clear e
          go_wp2_with (first
            | (go_at_call 138; refine (HV.out _ hb).mono ?_; rintro e w1 ⟨rfl, rfl⟩; rw [hv])
            | (at_builtin; refine push_int rfl (.tmp 27) (.tmp 29) rfl w.heap.size A' m c' (pickTo rg r u) _ rfl rfl ho hm1 hs ?_; intro A5 c5 w5 ho5 hg5))
          go_roundw
          case rel => exact ⟨u + 1, _, _, _, by omega, by go_num, rfl, Hl, by rw [Hp.out]; exact ho5, push_below hb ho (Nat.le_refl _) hs hg5⟩
          case measure => simp [intOf]; omega
        · have hq : (nth rg u == r) = false := by simp [e]
          have Hp := Lib.hid (show pickTo rg r (u + 1) = pickTo rg r u by simp only [pickTo]; rw [if_neg e])
          clear e
          go_wp2_with (go_at_call 138; refine (HV.out _ hb).mono ?_; rintro e w1 ⟨rfl, rfl⟩; rw [hv])
          go_roundw
          case rel => exact ⟨u + 1, _, _, _, by omega, by go_num, rfl, Lib.hid (by rw [Hp.out]; exact hlen.out), by rw [Hp.out]; exact ho, hb⟩
          case measure => simp [intOf]; omega
      · obtain rfl : u = n := by omega
        go_wp2
        go_ret
        rw [HL.out]
        exact retSl_mk ho hb
end Go.Proofs.Ytoejpodchlepiaa
set_option maxRecDepth 8000
namespace Go.Proofs.Ytoejpodchlepiaa
open Go.ChangeShapes Go.WideShapes Go.ChangeAt Go.RowKit

theorem rat_app {rs : List RuleM} {r : RuleM} {i : Nat} (h : i < rs.length) : rat (rs ++ [r]) i = rat rs i := by
  simp [rat, List.getD_eq_getElem?_getD, List.getElem?_append_left h]
theorem rat_last {rs : List RuleM} {r : RuleM} {m : Nat} (h : rs.length = m) : rat (rs ++ [r]) m = r := by
  subst h
  simp [rat, List.getD_eq_getElem?_getD]
/-- the rules of the regions before the u-th. -/
def rrTo (rg : List Int) (s : Int) (n : Nat) : Nat → List RuleM
  | 0 => []
  | u + 1 => if 2 ≤ (cellsL rg s u n).length then rrTo rg s n u ++ [⟨1, cellsL rg s u n, 0⟩] else rrTo rg s n u
theorem rrTo_len (rg : List Int) (s : Int) (n u : Nat) : (rrTo rg s n u).length ≤ u := by
  induction u with
  | zero => exact Nat.le_refl _
  | succ u ih =>
    simp only [rrTo]
    split
    · simp; omega
    · omega
def rrFit (rg : List Int) (s : Int) (n : Nat) : Bool := (List.range s.toNat).all fun u => decide ((cellsL rg s u n).length ≤ 4)
def rrB (rg : List Int) (s : Int) (n : Nat) : Bool := regB rg s && rrFit rg s n
def rrL (rg : List Int) (s : Int) (n : Nat) : List RuleM := if rrB rg s n = true then rrTo rg s n s.toNat else []
set_option maxHeartbeats 2000000 in
theorem specRegionRules (A : Option Addr) (c n B : Nat) (rg : List Int) (s : Int) (w : World) (h : Rd w B A n rg) (hB : B ≤ w.heap.size) (hm : n ≤ 1099511627776) :
    Calls Try.prog 126 #[.slice A n c, .int .i64 s] w fun e w' => ∃ A' c', e = .returned (.tuple #[.slice A' (rrL rg s n).length c', .bool (rrB rg s n)]) ∧ OwR w' w.heap.size (.slice A' (rrL rg s n).length c') (rrL rg s n) (rrL rg s n).length ∧ Below w.heap.size w w' := by
  have hb0 : Below w.heap.size w (w.alloc (.cells #[] 25)) := (Below.refl _ _).alloc (Nat.le_refl _) _
  have hr0 : ∀ rs, OwR (w.alloc (.cells #[] 25)) w.heap.size (.slice (some ⟨w.heap.size, 0, none⟩) 0 0) rs 0 := fun rs => ⟨[], World.ownsRow_made _ #[] 0 (Nat.le_refl _) (by simp [maxLen]) rfl, fun i hi => absurd hi (by omega)⟩
  have HV := Lib.hid (fun w' (hb : Below w.heap.size w w') => specRegionsValid A c n B rg s w' (h.below (hb.mono hB)) hm)
  cases hv : regB rg s
  · have HL := Lib.hid (show rrL rg s n = [] by simp [rrL, rrB, hv])
    have HL2 := Lib.hid (show rrB rg s n = false by simp [rrB, hv])
    go_enter Try.func126, Try.ntmps126
    go_wp2_with (go_at_call 138; refine (HV.out _ hb0).mono ?_; rintro e w1 ⟨rfl, rfl⟩; rw [hv])
    go_ret2
    rw [HL.out, HL2.out]
    exact ⟨_, _, rfl, hr0 _, hb0⟩
  · have hs24 : inr s 2 4 = true := by
      simp only [regB, Bool.and_eq_true] at hv
      exact hv.1.2
    obtain ⟨h2, h4⟩ := inr_t hs24
    obtain ⟨t, rfl⟩ := Int.eq_ofNat_of_zero_le (show 0 ≤ s by omega)
    have HC := Lib.hid (fun (u : Nat) w' (hb : Below w.heap.size w w') => specRegionCells A c n B rg t u w' (h.below (hb.mono hB)) (Nat.le_trans hB hb.size) hm)
    have hHV := Lib.hid hv
    clear hv hs24
    go_enter Try.func126, Try.ntmps126
    go_wp2_with (go_at_call 138; refine (HV.out _ hb0).mono ?_; rintro e w1 ⟨rfl, rfl⟩; rw [hHV.out])
    go_loopw [6, 7] (fun v i wr => ∃ (u m : Nat) (A' : Option Addr) (c' : Nat), u ≤ t ∧ i = .int .i64 u ∧ v = .slice A' m c' ∧ Hid ((rrTo rg t n u).length = m) ∧ Hid (∀ j, j < u → (cellsL rg t j n).length ≤ 4) ∧ OwR wr w.heap.size (.slice A' m c') (rrTo rg t n u) m ∧ Below w.heap.size w wr) (fun _ i _ => t - (intOf i).toNat)
    case atStart => exact ⟨0, 0, _, _, Nat.zero_le _, rfl, rfl, Lib.hid rfl, Lib.hid (fun j hj => absurd hj (by omega)), hr0 _, hb0⟩
    case round =>
      obtain ⟨u, m, A', c', hu, rfl, rfl, hlen, hfit, hown, hb⟩ := hrel
      have hsw := hb.size
      by_cases hlt : u < t
      · have hlt' : (u : Int) < (t : Int) := by omega
        obtain ⟨q, hq⟩ : ∃ q, q = (cellsL rg t u n).length := ⟨_, rfl⟩
        have Hq := Lib.hid hq
        have HCu : Hid (∀ w', Below w.heap.size w w' → Calls Try.prog 139 #[.slice A n c, .int .i64 t, .int .i64 u] w' fun e w'' => ∃ A3 c3, e = .returned (.slice A3 q c3) ∧ Ow w'' w'.heap.size A3 q c3 (cellsL rg t u n) ∧ Below w'.heap.size w' w'') := Lib.hid (fun w' hb => by
          rw [hq]
          exact HC.out u w' hb)
        clear hq
        by_cases h5 : 4 < q
        · have h5' : (4 : Int) < (q : Int) := by omega
          have HL2 := Lib.hid (show rrB rg t n = false by
            have : rrFit rg t n = false := by
              cases e : rrFit rg t n
              · rfl
              · simp only [rrFit, List.all_eq_true, List.mem_range, decide_eq_true_eq] at e
                have := e u (by simpa using hlt)
                have := Hq.out
                omega
            simp [rrB, this])
          have HL := Lib.hid (show rrL rg t n = [] by simp [rrL, HL2.out])
          have HM := Lib.hid (fun w3 (hb3 : Below wr.heap.size wr w3) => (⟨⟨[], World.ownsRow_made w3 #[] 0 (Nat.le_trans hsw hb3.size) (by simp [maxLen]) rfl, fun i hi => absurd hi (by omega)⟩, ((hb.trans (hb3.mono hsw)).alloc (Nat.le_trans hsw hb3.size) _)⟩ : OwR (w3.alloc (.cells #[] 25)) w.heap.size (.slice (some ⟨w3.heap.size, 0, none⟩) 0 0) [] 0 ∧ Below w.heap.size w (w3.alloc (.cells #[] 25))))
          go_wp2_with (go_at_call 139; refine (HCu.out _ hb).mono ?_; rintro e w3 ⟨A3, c3, rfl, ho3, hb3⟩)
          go_ret2
          rw [HL.out, HL2.out]
          exact ⟨_, _, rfl, (HM.out _ hb3).1, (HM.out _ hb3).2⟩
        · have h5' : ¬ (4 : Int) < (q : Int) := by omega
          have Hfit := Lib.hid (show ∀ j, j < u + 1 → (cellsL rg t j n).length ≤ 4 by
            intro j hj
            by_cases e : j = u
            · subst e; have := Hq.out; omega
            · exact hfit.out j (by omega))
          by_cases h6 : 2 ≤ q
          · have h6' : (2 : Int) ≤ (q : Int) := by omega
            have Hp := Lib.hid (show rrTo rg t n (u + 1) = rrTo rg t n u ++ [⟨1, cellsL rg t u n, 0⟩] by simp only [rrTo]; rw [if_pos (by have := Hq.out; omega)])
            have Hl := Lib.hid (show (rrTo rg t n (u + 1)).length = m + 1 by rw [Hp.out, List.length_append, hlen.out]; rfl)
            obtain ⟨vs, hown, hin⟩ := hown
            have HK : Hid (∀ w', Below wr.heap.size wr w' → w'.ownsRow w.heap.size 25 3 (.slice A' m c') m vs) := Lib.hid (fun w' hb => World.ownsRow.kept hown (row := none) ⟨hb.os, hb.tape, hb.output, hb.size, fun k hk _ => hb.block k hk⟩ (by
              cases e : (Value.slice A' m c').ownBlock
              · exact .inl rfl
              · exact .inr (by simp)))
            have Hin := Lib.hid hin
            clear hin
            have hm1 : m ≤ 1099511627776 := by have := hlen.out; have := rrTo_len rg t n u; omega
            go_wp2_with (first
              | (go_at_call 139; refine (HCu.out _ hb).mono ?_; rintro e w3 ⟨A3, c3, rfl, ho3, hb3⟩; have hlo3 := Nat.le_trans hsw hb3.size; have hown3 := World.ownsRow.alloc (HK.out _ hb3) (.cells #[.int .i64 1, .slice A3 q c3, .int .i64 0] 25))
              | (at_builtin; (refine push_rule rfl (.tmp 31) (.tmp 34) rfl w.heap.size (.slice A' m c') m vs w3.heap.size 1 A3 q c3 0 rfl rfl hown3 (heap_alloc_new w3 _) hm1 (le_alloc5 hlo3) ?_); intro g5 cap5 w5 ho5 hg5 hl5))
            have hR := rat_last (r := ⟨1, cellsL rg t u n, 0⟩) hlen.out
            have Hpush : OwR w5 w.heap.size (.slice (some ⟨g5, 0, none⟩) (m + 1) cap5) (rrTo rg t n u ++ [⟨1, cellsL rg t u n, 0⟩]) (m + 1) := by
              have hx : (rat (rrTo rg t n u ++ [⟨1, cellsL rg t u n, 0⟩]) m).xs = cellsL rg t u n := by rw [hR]
              refine OwR.push (c3 := c3) (A3 := A3) hown (fun i hi => ?_) hsw hb3 (by rw [hx, ← Hq.out]; exact ho3) (by rw [hx, ← Hq.out]; omega) (by rw [hx, ← Hq.out, hR]; exact ho5) hg5 hl5
              rw [rat_app (by rw [hlen.out]; exact hi)]
              exact Hin.out i hi
            have hBe : Below w.heap.size w w5 := ((hb.trans (hb3.mono hsw)).alloc hlo3 _).grown hg5 (le_alloc5 hlo3) (fun k hk => (World.ownsRow.lt hown k hk).1)
            clear hR
            go_roundw
            case rel => exact ⟨u + 1, _, _, _, by omega, by go_num, rfl, Hl, Hfit, by rw [Hp.out]; exact Hpush, hBe⟩
            case measure => simp [intOf]; omega
          · have h6' : ¬ (2 : Int) ≤ (q : Int) := by omega
            have Hp := Lib.hid (show rrTo rg t n (u + 1) = rrTo rg t n u by simp only [rrTo]; rw [if_neg (by have := Hq.out; omega)])
            go_wp2_with (go_at_call 139; refine (HCu.out _ hb).mono ?_; rintro e w3 ⟨A3, c3, rfl, ho3, hb3⟩)
            go_roundw
            case rel => exact ⟨u + 1, _, _, _, by omega, by go_num, rfl, Lib.hid (by rw [Hp.out]; exact hlen.out), Hfit, by rw [Hp.out]; exact hown.below hb3, hb.trans (hb3.mono hsw)⟩
            case measure => simp [intOf]; omega
      · obtain rfl : u = t := by omega
        have HL2 := Lib.hid (show rrB rg u n = true by
          have : rrFit rg u n = true := by
            simp only [rrFit, List.all_eq_true, List.mem_range, decide_eq_true_eq]
            intro j hj
            exact hfit.out j (by simpa using hj)
          simp [rrB, this, hHV.out])
        have HL := Lib.hid (show rrL rg u n = rrTo rg u n u by simp [rrL, HL2.out])
        go_wp2
        go_ret2
        rw [HL.out, HL2.out, hlen.out]
        exact ⟨_, _, rfl, hown, hb⟩
end Go.Proofs.Ytoejpodchlepiaa
set_option maxRecDepth 8000
namespace Go.Proofs.Ytoejpodchlepiaa
open Go.ChangeShapes Go.WideShapes Go.ChangeAt Go.RowKit

theorem results_c2 {P : Program} {fn : Func} {p q r : Tmp} {ty : TypeId} (h : fn.results = #[.cell p ty, .tmp q, .tmp r]) (tmps : Array Value) (w : World) (g : Nat) (t : TypeId) (cs : Array Value) (fr : Nat × Nat) (d : TypeDesc) (b c : Value)
    (hp : tmps.getD p undef = .pointer (some ⟨g, 0, none⟩)) (hq : tmps.getD q undef = b) (hr : tmps.getD r undef = c) (hg : w.heap[g]? = some (.cells cs t fr))
    (hu : P.underlying ty = some d) (hd : (match d with | .struct _ | .array _ _ => true | _ => false) = true) (hi : (P.info? ty).map (·.size) = some cs.size) :
    (results fn tmps).run P w = .ok (.tuple #[.agg cs, b, c]) w := by
  have hp' : tmps[p]?.getD undef = .pointer (some ⟨g, 0, none⟩) := by simpa using hp
  have hq' : tmps[q]?.getD undef = b := by simpa using hq
  have hr' : tmps[r]?.getD undef = c := by simpa using hr
  simp [results, h, hp', hq', hr', asAddr, run_loadVar_row w g t ty cs fr d hg hu hd hi]
theorem solved_gv {s : Int} {n : Nat} {g : List Int} (h2 : 2 ≤ s) (h4 : s ≤ 4) (hn : (n : Int) = s * s) (hm : g ∈ sols s n (zeros n) 0) : gv g s = true :=
  okAll_gv (by have := sols_length s _ _ _ _ hm; rw [zeros_length] at this; exact this) hn h2 h4 (sols_ok (by omega : 0 ≤ s) n _ _ _ (okAll_zeros (by omega) n) _ hm)
/-- a drawn rule in block X, and a drawn grid: each in memory of its own. -/
def CaseRel (w0 : World) (B G P X : Nat) (k : Int) (A : Option Addr) (n c : Nat) (v : Int) (xs : List Int) (gv : Value) (wx : World) : Prop :=
  wx.heap[X]? = some (.cells #[.int .i64 k, .slice A n c, .int .i64 v] 25) ∧ Ow wx w0.heap.size A n c xs ∧ (∀ b, (Value.slice A n c).ownBlock = some b → b ≠ X) ∧
    (∃ (gb ng cg : Nat) (g : List Int), gv = .slice (some ⟨gb, 0, none⟩) ng cg ∧ Ow wx w0.heap.size (some ⟨gb, 0, none⟩) ng cg g ∧ 4 ≤ ng ∧ ng ≤ 16 ∧ gb ≠ X ∧ ∀ b, (Value.slice A n c).ownBlock = some b → b ≠ gb) ∧ Rdr wx B G P ∧ w0.grownBy wx (some G)
theorem case_set {w0 wx : World} {B G P X : Nat} {k : Int} {A : Option Addr} {n c : Nat} {v : Int} {xs g : List Int} {gb ng cg : Nat} (hG : G < w0.heap.size) (hB : B ≤ w0.heap.size) (hrow : wx.heap[X]? = some (.cells #[.int .i64 k, .slice A n c, .int .i64 v] 25)) (ho : Ow wx w0.heap.size A n c xs) (hne : ∀ b, (Value.slice A n c).ownBlock = some b → b ≠ X)
    (hog : Ow wx w0.heap.size (some ⟨gb, 0, none⟩) ng cg g) (h4 : 4 ≤ ng) (h16 : ng ≤ 16) (hgX : gb ≠ X) (hgA : ∀ b, (Value.slice A n c).ownBlock = some b → b ≠ gb) (hr : Rdr wx B G P) (hg : w0.grownBy wx (some G)) (j : Nat) (z : Int) :
    CaseRel w0 B G P X k A n c v xs (.slice (some ⟨gb, 0, none⟩) ng cg) (wx.setCell ⟨gb, j, none⟩ (.int .i64 z)) := by
  have hlo := hog.own_lo gb rfl
  have hb : Below w0.heap.size wx (wx.setCell ⟨gb, j, none⟩ (.int .i64 z)) := (Below.refl _ _).setCell hlo _
  exact ⟨(heap_setCell_other wx ⟨gb, j, none⟩ X _ (fun e => hgX e.symm)).trans hrow, ho.far (row := some gb) grown_set (fun b hb' e => hgA b hb' (by injection e with e; omega)), hne,
    ⟨gb, ng, cg, _, rfl, hog.put j z, h4, h16, hgX, hgA⟩, hr.belowN hb hG hB, grown_low hg hb⟩
theorem CaseRel.keep {w0 wx wy : World} {B G P P' X : Nat} {k : Int} {A : Option Addr} {n c : Nat} {v : Int} {xs : List Int} {gv : Value} (h : CaseRel w0 B G P X k A n c v xs gv wx) (hG : G < w0.heap.size) (hX : w0.heap.size ≤ X) (hg : wx.grownBy wy (some G)) (hr : Rdr wy B G P') : CaseRel w0 B G P' X k A n c v xs gv wy := by
  obtain ⟨h1, h2, h3, ⟨gb, ng, cg, g, h4, h5, h6, h7, h8, h9⟩, h10, h11⟩ := h
  have hXl : X < wx.heap.size := (Array.getElem?_eq_some_iff.1 h1).1
  exact ⟨(hg.block X hXl (fun e => by injection e with e; omega)).trans h1, h2.keptG hg hG, h3, ⟨gb, ng, cg, g, h4, h5.keptG hg hG, h6, h7, h8, h9⟩, hr, h11.trans hg⟩
theorem CaseRel.alloc {w0 wx : World} {B G P X : Nat} {k : Int} {A : Option Addr} {n c : Nat} {v : Int} {xs : List Int} {gv : Value} (h : CaseRel w0 B G P X k A n c v xs gv wx) (hG : G < w0.heap.size) (hB : B ≤ w0.heap.size) (hX : w0.heap.size ≤ X) (o : Obj) : CaseRel w0 B G P X k A n c v xs gv (wx.alloc o) :=
  h.keep hG hX (only_alloc (World.grownBy.refl _ _) o) (h.2.2.2.2.1.alloc (Nat.le_trans hB h.2.2.2.2.2.size) o)
def DrewCase (w : World) (B G P : Nat) (e : Ending) (w' : World) : Prop :=
  ∃ (k : Int) (A : Option Addr) (n c : Nat) (v : Int) (xs : List Int) (Ag : Option Addr) (ng cg : Nat) (g : List Int) (s : Int), e = .returned (.tuple #[.agg #[.int .i64 k, .slice A n c, .int .i64 v], .slice Ag ng cg, .int .i64 s]) ∧ Ow w' w.heap.size A n c xs ∧ n ≤ 5 ∧ Ow w' w.heap.size Ag ng cg g ∧ ng ≤ 16 ∧ 2 ≤ s ∧ s ≤ 4 ∧ Rdr w' B G P ∧ w.grownBy w' (some G)
set_option maxHeartbeats 8000000 in
theorem l20Case_any (B G P : Nat) (full : Bool) (w : World) (h : Rdr w B G P) (hBG : B ≤ G) (hP : P ≤ 100) :
    Calls Try.prog 71 #[.pointer (some ⟨G, 0, none⟩), .bool full] w (DrewCase w B G (P + 200)) := by
  have hG0 := h.lt
  have hBw : B ≤ w.heap.size := by omega
  have hr0 := h.alloc hBw (.cells #[.int .i64 0, .slice none 0 0, .int .i64 0] 25)
  have hg0 : w.grownBy (w.alloc (.cells #[.int .i64 0, .slice none 0 0, .int .i64 0] 25)) (some G) := only_alloc (World.grownBy.refl w _) _
  have Hone := Lib.hid rule_one
  have Hi := Lib.hid rule_info
  go_enter Try.func71, Try.ntmps71
  go_wp2_with fail
  obtain ⟨w0, hW⟩ : ∃ w0, w0 = w.alloc (.cells #[.int .i64 0, .slice none 0 0, .int .i64 0] 25) := ⟨_, rfl⟩
  rw [← hW] at hr0 hg0 ⊢
  have hb00 : Below w.heap.size w w0 := by rw [hW]; exact (Below.refl _ _).alloc (Nat.le_refl _) _
  have hR0 : w0.heap[w.heap.size]? = some (.cells #[.int .i64 0, .slice none 0 0, .int .i64 0] 25) := by rw [hW]; exact heap_alloc_new w _
  have hRw : w.heap.size < w0.heap.size := by rw [hW]; simp
  have hRG : w.heap.size ≠ G := by omega
  have hGw := hG0
  have hBw' := hBw
  have hBw := Nat.le_trans hBw hb00.size
  have hG0 := Nat.lt_trans hG0 hRw
  clear hW
  obtain ⟨R0, hR⟩ : ∃ R0, R0 = w.heap.size := ⟨_, rfl⟩
  rw [← hR] at hR0 hRw hRG hGw hBw' ⊢
  have HR := Lib.hid hR
  clear hR
  refine (l20Size_any B G P _ _ hr0 hBG (by omega) (by omega)).mono ?_
  rintro e w1 ⟨s, rfl, ⟨_, _, hs⟩, hr1, hg1⟩
  obtain ⟨h2s, h4s⟩ := hs (Int.le_refl _)
  clear hs
  go_wp2_with fail
  refine (l20Solved_any B G (P + 2) _ _ hr1 hBG (by omega) h2s h4s).mono ?_
  rintro e w2 ⟨Ag, ng, cg, g, rfl, hog, hnn, hmem, hr2, hg2⟩
  obtain ⟨q4, q16⟩ := sq_bd h2s h4s
  have hg4 : 4 ≤ ng := by omega
  have hg16 : ng ≤ 16 := by omega
  have hgv : gv g s = true := solved_gv h2s h4s hnn hmem
  obtain ⟨gb, hAg, hgb, hgbw⟩ := hog.form (by omega)
  subst hAg
  have hg02 := hg1.trans hg2
  have hlo1 := hg1.size
  go_wp2_with fail
  refine (l20Rule_any B G (P + 4) _ _ _ _ _ _ 12 _ hr2 hBG (by omega) hog.rd (Nat.le_refl _) (fun b off e => by cases e; omega) hgv (by omega)).mono ?_
  rintro e w3 ⟨k, A, n, c, v, xs, rfl, ho3, hn5, _, hr3, hg3⟩
  have hog3 := (hog.mono hlo1).keptG hg3 hG0
  have hg03 := hg02.trans hg3
  have hlo2 := hg02.size
  have hneX : ∀ b, (Value.slice A n c).ownBlock = some b → b ≠ w3.heap.size := fun b hb => Nat.ne_of_lt (ho3.own_hi b hb)
  have hneg : ∀ b, (Value.slice A n c).ownBlock = some b → b ≠ gb := fun b hb => by have := ho3.own_lo b hb; omega
  have hX0 : w0.heap.size ≤ w3.heap.size := hg03.size
  have hgbX : gb ≠ w3.heap.size := by have := hg3.size; omega
  have hbA : Below w3.heap.size w3 (w3.alloc (.cells #[.int .i64 k, .slice A n c, .int .i64 v] 25)) := (Below.refl _ _).alloc (Nat.le_refl _) _
  have hC3 : CaseRel w0 B G (P + 4 + 100) w3.heap.size k A n c v xs (.slice (some ⟨gb, 0, none⟩) ng cg) (w3.alloc (.cells #[.int .i64 k, .slice A n c, .int .i64 v] 25)) :=
    ⟨heap_alloc_new w3 _, (ho3.below hbA).mono hlo2, hneX, ⟨gb, ng, cg, g, rfl, hog3.below hbA, hg4, hg16, hgbX, hneg⟩, hr3.alloc (by omega) _, only_alloc hg03 _⟩
  obtain ⟨X, hX⟩ : ∃ X, X = w3.heap.size := ⟨_, rfl⟩
  rw [← hX] at hC3 hX0
  go_wp2_with fail
  rw [← hX]
  refine (pick_any B G (P + 4 + 100) 2 _ hC3.2.2.2.2.1 hBG (by omega)).mono ?_
  rintro e w4 ⟨v4, rfl, ⟨_, _, _⟩, hr4, hg4'⟩
  have hC4 := hC3.keep hG0 hX0 hg4' hr4
  clear hC3 hX hneX hneg hbA ho3 hog3 hg03 hgbX
  go_upto_if 22 with fail
  go_cut [8] from 11 (fun gv wx => CaseRel w0 B G (P + 107) X k A n c v xs gv wx)
  case first =>
    have hk5 : Rdr w4 B G (P + 107) := hC4.2.2.2.2.1.more (by omega)
    cases hv4 : (v4 == 0)
    · go_wp2
      go_meet
      case rel => exact hC4.keep hG0 hX0 (World.grownBy.refl _ _) hk5
    · go_wp2_with fail
      refine (l20Solved_any B G (P + 4 + 100 + 1) _ _ hr4 hBG (by omega) h2s h4s).mono ?_
      rintro e w5 ⟨Ag5, ng5, cg5, g5, rfl, hog5, hnn5, _, hr5, hg5⟩
      obtain ⟨gb5, hAg5, hgb5, hgbw5⟩ := hog5.form (by omega)
      subst hAg5
      have hC5 := hC4.keep hG0 hX0 hg5 (hr5.more (show P + 4 + 100 + 1 + 2 ≤ P + 107 by omega))
      have hXl : X < w4.heap.size := (Array.getElem?_eq_some_iff.1 hC4.1).1
      have hhi := hC4.2.1.own_hi
      go_wp2
      go_meet
      case rel => exact ⟨hC5.1, hC5.2.1, hC5.2.2.1, ⟨gb5, ng5, cg5, g5, rfl, hog5.mono hC4.2.2.2.2.2.size, by omega, by omega, by omega, fun b hb => by have := hhi b hb; omega⟩, hC5.2.2.2.2⟩
  case rest =>
    obtain ⟨gb6, ng6, cg6, g6, hge, _, _, hng6, _⟩ := hcut.2.2.2.1
    subst hge
    have hC6 := hcut
    clear hcut
    go_wp2
    go_loopg [10] ng6 (fun gk iv wx => ∃ q : Nat, q ≤ ng6 ∧ gk = ng6 - q ∧ iv = .int .i64 q ∧ CaseRel w0 B G (P + 107 + q) X k A n c v xs (.slice (some ⟨gb6, 0, none⟩) ng6 cg6) wx)
    case atStart => exact ⟨0, Nat.zero_le _, rfl, rfl, hC6⟩
    case round =>
      obtain ⟨q, hq, hgk, rfl, hC⟩ := hrel
      go_upto_region 7 with fail
      go_cut [33] from 26 to 41 (fun bv wx => ∃ bb : Bool, bv = .bool bb ∧ (bb = true → q < ng6) ∧ wr = wx)
      case first =>
        by_cases hlt : q < ng6
        · have hltI : (q : Int) < (ng6 : Int) := by omega
          go_wp2
          go_meet
          case rel => exact ⟨_, rfl, fun _ => hlt, rfl⟩
        · go_wp2
          go_meet
          case rel => exact ⟨false, rfl, fun h => (by cases h), rfl⟩
      case rest =>
        obtain ⟨bb, rfl, hbb, rfl⟩ := hcut
        cases bb
        · clear hbb
          go_wp2_with fail
          refine (odd_any B G (P + 107 + q) 12 _ hC.2.2.2.2.1 hBG (by omega) (by omega)).mono ?_
          rintro e w8 ⟨ob, rfl, _, hr8, hg8⟩
          have hC8 := hC.keep hG0 hX0 hg8 hr8
          go_upto_if 43 with fail
          go_cut [] from 11 (fun wx => CaseRel w0 B G (P + 140) X k A n c v xs (.slice (some ⟨gb6, 0, none⟩) ng6 cg6) wx)
          case first =>
            cases ob
            · go_wp2
              go_meet
              case rel => exact hC8.keep hG0 hX0 (World.grownBy.refl _ _) (hr8.more (by omega))
            · have es : wrap64 (s + 1) = s + 1 := IntWalk.wrap64_in _ ⟨by omega, by omega⟩
              have hB8 : B ≤ w8.heap.size := Nat.le_trans hBw hC8.2.2.2.2.2.size
              have hG8 := hr8.lt
              go_wp2_with fail
              refine (pick_any B G (P + 107 + q + 1) 3 _ (hr8.alloc hB8 _) hBG (by omega)).mono ?_
              rintro e w9 ⟨v9, rfl, ⟨f0, f1, _⟩, hr9, hg9⟩
              have hC9 := (hC8.keep hG0 hX0 (grown_of_alloc hg9) (hr9.more (show P + 107 + q + 1 + 1 ≤ P + 140 by omega)))
              have Hcl := Lib.hid (fun i => lit_cell hg9 hG8 i)
              have hv9 : v9 = 0 ∨ v9 = 1 ∨ v9 = 2 := by have := f1 (by omega); omega
              clear f1
              obtain ⟨k1, k2, k3, ⟨gb7, ng7, cg7, g7, hge, k5, k6, k7, k8, k9⟩, k10, k11⟩ := hC9
              cases hge
              have hgc := ow_cell k5 (show 0 < ng6 by omega)
              have hgf := World.ownsRow.frozenAt k5 0
              have hl0 : 0 < ng6 := by omega
              have hl0I : (0 : Int) < (ng6 : Int) := by omega
              rcases hv9 with rfl | rfl | rfl
              · have hc := Hcl.out 0
                simp at hc
                go_wp2
                go_meet
                case rel => exact case_set hG0 hBw k1 k2 k3 k5 k6 k7 k8 k9 k10 k11 0 _
              · have hc := Hcl.out 1
                simp at hc
                go_wp2
                go_meet
                case rel => exact case_set hG0 hBw k1 k2 k3 k5 k6 k7 k8 k9 k10 k11 0 _
              · have hc := Hcl.out 2
                simp at hc
                go_wp2
                go_meet
                case rel => exact case_set hG0 hBw k1 k2 k3 k5 k6 k7 k8 k9 k10 k11 0 _
          case rest =>
            obtain ⟨k1, k2, k3, ⟨gb7, ng7, cg7, g7, hge, k5, k6, k7, k8, k9⟩, k10, k11⟩ := hcut
            cases hge
            have hR9 := (k11.block R0 hRw (fun e => hRG (Option.some.inj e))).trans hR0
            go_wp2_with (first | (refine wpList_load_row rfl 25 _ rfl X rfl 25 #[.int .i64 k, .slice A n c, .int .i64 v] (0, 0) _ k1 Try.underlying25 rfl (Hi.out _ _ _ _ _) ?_) | (refine wpList_store_row rfl 25 _ _ rfl R0 #[.int .i64 k, .slice A n c, .int .i64 v] rfl rfl 25 #[.int .i64 0, .slice none 0 0, .int .i64 0] hR9 (Hi.out _ _ _ _ _) rfl (Hone.out _ _ _ _ _) ?_))
            refine bodyPost_ret (v := .tuple #[.agg #[.int .i64 k, .slice A n c, .int .i64 v], .slice (some ⟨gb6, 0, none⟩) ng6 cg6, .int .i64 s]) (results_c2 (by rfl) _ _ R0 25 _ (0, 0) _ _ _ rfl rfl rfl (setRow_heap _ _ _ _ _ _ hR9) Try.underlying25 rfl (Hi.out _ _ _ _ _)) rfl ⟨k, A, n, c, v, xs, _, ng6, cg6, g7, s, rfl, (k2.row5 (fun b hb => ?_)).mono hb00.size, hn5, (k5.row5 (fun b hb => ?_)).mono hb00.size, k7, h2s, h4s, (k10.belowN (setRow_below5 (Below.refl R0 _) (Nat.le_refl _)) hGw hBw').more (by omega), grown_low (hg0.trans k11) (setRow_below5 (Below.refl _ _) (Nat.le_of_eq HR.out.symm))⟩
            · have := k2.own_lo b hb
              omega
            · have := k5.own_lo b hb
              omega
        · have hlt := hbb rfl
          have hltI : (q : Int) < (ng6 : Int) := by omega
          go_wp2_with fail
          refine (pick_any B G (P + 107 + q) 3 _ hC.2.2.2.2.1 hBG (by omega)).mono ?_
          rintro e w8 ⟨v8, rfl, _, hr8, hg8⟩
          have hC8 := hC.keep hG0 hX0 hg8 hr8
          cases hv8 : (v8 == 0)
          · go_wp2
            go_roundg (ng6 - (q + 1))
            case measure => omega
            case rel => exact ⟨q + 1, by omega, rfl, by go_num, hC8⟩
          · obtain ⟨k1, k2, k3, ⟨gb7, ng7, cg7, g7, hge, k5, k6, k7, k8, k9⟩, k10, k11⟩ := hC8
            cases hge
            have hgc := ow_cell k5 hlt
            have hgf := World.ownsRow.frozenAt k5 q
            go_wp2
            go_roundg (ng6 - (q + 1))
            case measure => omega
            case rel => exact ⟨q + 1, by omega, rfl, by go_num, case_set hG0 hBw k1 k2 k3 k5 k6 k7 k8 k9 k10 k11 q 0⟩
end Go.Proofs.Ytoejpodchlepiaa
