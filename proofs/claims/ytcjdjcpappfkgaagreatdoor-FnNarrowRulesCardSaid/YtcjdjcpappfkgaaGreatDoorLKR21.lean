import Derived.Test.YtcjdjcpappfkgaaGreatDoorLR
import Derived.Deep.DeepCutAuto
import Derived.Test.YtcjdjcpappfkgaaGreatDoorLKPuzA
set_option maxRecDepth 8000
namespace Go.Proofs.YtcjdjcpappfkgaaGreatDoor
open Go.ChangeShapes Go.WideShapes Go.ChangeAt Go.RowKit
def boxC (k : Nat) : Int := ((k / 8 * 2 + k % 4 / 2 : Nat) : Int)
set_option maxHeartbeats 1000000 in
theorem specBoxRegions (w : World) : Calls Tryz.prog 94 #[] w (RetSl w (mapTo boxC 16)) := by
  have hb0 : Below w.heap.size w (w.alloc (.cells #[] 3)) := (Below.refl _ _).alloc (Nat.le_refl _) _
  go_enter Tryz.func94, Tryz.ntmps94
  go_wp2
  go_loopw [1, 2] (fun v i wr => ∃ (u : Nat) (A' : Option Addr) (c' : Nat), u ≤ 16 ∧ i = .int .i64 u ∧ v = .slice A' u c' ∧ Ow wr w.heap.size A' u c' (mapTo boxC u) ∧ Below w.heap.size w wr) (fun _ i _ => 16 - (intOf i).toNat)
  case atStart => exact ⟨0, _, _, Nat.zero_le _, rfl, rfl, Ow.made0 _ _ (Nat.le_refl _), hb0⟩
  case round =>
    obtain ⟨u, A', c', hu, rfl, rfl, ho, hb⟩ := hrel; have hs := hb.size
    by_cases hlt : u < 16
    · have hlt' : (u : Int) < 16 := by omega
      have hu1 : u ≤ 1099511627776 := (by omega)
      go_wp2_with (at_builtin; refine push_int rfl (.tmp 8) (.tmp 16) rfl w.heap.size A' u c' (mapTo boxC u) _ rfl rfl ho hu1 hs ?_; intro A5 c5 w5 ho5 hg5)
      go_roundw
      case rel => exact ⟨u + 1, _, _, by omega, by go_num, rfl, by rw [mapTo_succ]; exact ho5, push_below hb ho (Nat.le_refl _) hs hg5⟩
      case measure => simp [intOf]; omega
    · obtain rfl : u = 16 := by omega
      go_wp2
      go_ret
      exact retSl_mk ho hb
theorem all_f5 {xs : List Int} {p : Int → Bool} {k n : Nat} (hl : xs.length = n) (hk : k < n) (h : p (nth xs k) = false) : xs.all p = false := by
  refine List.all_eq_false.2 ⟨nth xs k, ?_, by simp [h]⟩
  have hk' : k < xs.length := by omega
  have e : nth xs k = xs[k] := by simp [nth, List.getD_eq_getElem?_getD, hk']
  rw [e]; exact List.getElem_mem _
def regB (rg : List Int) (s : Int) : Bool := (rg.all fun x => inr x 0 (s - 1)) && inr s 2 4 && ((rg.length : Int) == s * s)
set_option maxHeartbeats 1000000 in
theorem specRegionsValid (A : Option Addr) (c n B : Nat) (rg : List Int) (s : Int) (w : World) (h : Rd w B A n rg) (hm : n ≤ 1099511627776) :
    Calls Tryz.prog 134 #[.slice A n c, .int .i64 s] w fun e w' => e = .returned (.bool (regB rg s)) ∧ w = w' := by
  obtain ⟨q, hq⟩ : ∃ q, wrap64 (s - 1) = q := ⟨_, rfl⟩
  have hreg : regB rg s = ((rg.all fun x => inr x 0 q) && inr s 2 4 && ((rg.length : Int) == s * s)) := by
    cases hs : inr s 2 4
    · simp [regB, hs]
    · obtain ⟨h2, h4⟩ := inr_t hs; rw [IntWalk.wrap64_in _ ⟨by omega, by omega⟩] at hq; subst hq; simp only [regB, hs]
  have Hreg := Lib.hid hreg; clear hreg
  go_enter Tryz.func134, Tryz.ntmps134
  go_wp2
  go_loop [5] (fun i => ∃ k : Nat, k ≤ n ∧ i = .int .i64 k ∧ okTo rg q k) (fun i => n - (intOf i).toNat)
  case atStart => exact ⟨0, Nat.zero_le _, rfl, okTo_zero⟩
  case round =>
    obtain ⟨k, hk, rfl, hok⟩ := hrel
    by_cases hlt : k < n
    · have hlen := Lib.hid h.1; obtain ⟨b, off, rfl, hb, hck⟩ := h.at_ hlt; cases hv : inr (nth rg k) 0 q
      · go_wp2_with (go_at_call 50; (try simp only [hq]); refine (l1In_any _ _ _ _).mono ?_; rintro e w' ⟨rfl, rfl⟩)
        go_ret
        exact ⟨by rw [Hreg.out, all_f5 hlen.out hlt (p := fun x => inr x 0 q) hv]; rfl, rfl⟩
      · go_wp2_with (go_at_call 50; (try simp only [hq]); refine (l1In_any _ _ _ _).mono ?_; rintro e w' ⟨rfl, rfl⟩)
        go_round
        case rel => exact ⟨k + 1, by omega, by go_num, okTo_succ hok hv⟩
        case measure => simp [intOf]; omega
    · obtain rfl : k = n := by omega
      have hall := Lib.hid (okTo_all hok h.1); have hlen := Lib.hid h.1; cases hs : inr s 2 4
      · clear hq
        go_wp2_with (go_at_call 50; refine (l1In_any _ _ _ _).mono ?_; rintro e w' ⟨rfl, rfl⟩)
        go_ret
        exact ⟨by rw [Hreg.out, hs]; simp, rfl⟩
      · obtain ⟨h2, h4⟩ := inr_t hs; clear hq; have hsq : s = 2 ∨ s = 3 ∨ s = 4 := (by omega)
        rcases hsq with rfl | rfl | rfl
        all_goals
          go_wp2_with (go_at_call 50; refine (l1In_any _ _ _ _).mono ?_; rintro e w' ⟨rfl, rfl⟩)
          go_ret
          exact ⟨by rw [Hreg.out, hs, hall.out, hlen.out]; simp, rfl⟩
def pickTo (rg : List Int) (r : Int) : Nat → List Int
  | 0 => []
  | u + 1 => if nth rg u = r then pickTo rg r u ++ [(u : Int)] else pickTo rg r u
theorem pickTo_len (rg : List Int) (r : Int) (u : Nat) : (pickTo rg r u).length ≤ u := by
  induction u with
  | zero => exact Nat.le_refl _
  | succ u ih =>
    simp only [pickTo]
    split
    · simp; omega
    · omega
def cellsL (rg : List Int) (s r : Int) (n : Nat) : List Int := if regB rg s = true then pickTo rg r n else []
set_option maxHeartbeats 1000000 in
theorem specRegionCells (A : Option Addr) (c n B : Nat) (rg : List Int) (s r : Int) (w : World) (h : Rd w B A n rg) (hB : B ≤ w.heap.size) (hm : n ≤ 1099511627776) :
    Calls Tryz.prog 135 #[.slice A n c, .int .i64 s, .int .i64 r] w (RetSl w (cellsL rg s r n)) := by
  have hb0 : Below w.heap.size w (w.alloc (.cells #[] 3)) := (Below.refl _ _).alloc (Nat.le_refl _) _; have HV := Lib.hid (fun w' (hb : Below w.heap.size w w') => specRegionsValid A c n B rg s w' (h.below (hb.mono hB)) hm); cases hv : regB rg s
  · have HL := Lib.hid (show cellsL rg s r n = [] by simp [cellsL, hv])
    go_enter Tryz.func135, Tryz.ntmps135
    go_wp2
    go_loopw [7, 8] (fun v i wr => v = .slice (some ⟨w.heap.size, 0, none⟩) 0 0 ∧ i = .int .i64 0 ∧ wr = w.alloc (.cells #[] 3)) (fun _ _ _ => 0)
    case atStart => exact ⟨rfl, rfl, rfl⟩
    case round =>
      obtain ⟨rfl, rfl, rfl⟩ := hrel
      by_cases hlt : 0 < n
      · have hlt' : (0 : Int) < (n : Int) := (by omega)
        go_wp2_with (go_at_call 134; refine (HV.out _ hb0).mono ?_; rintro e w1 ⟨rfl, rfl⟩; rw [hv])
        go_ret
        rw [HL.out]; exact ⟨_, _, rfl, Ow.made0 _ _ (Nat.le_refl _), hb0⟩
      · obtain rfl : n = 0 := by omega
        go_wp2
        go_ret
        rw [HL.out]; exact ⟨_, _, rfl, Ow.made0 _ _ (Nat.le_refl _), hb0⟩
  · have HL := Lib.hid (show cellsL rg s r n = pickTo rg r n by simp [cellsL, hv])
    go_enter Tryz.func135, Tryz.ntmps135
    go_wp2
    go_loopw [7, 8] (fun v i wr => ∃ (u m : Nat) (A' : Option Addr) (c' : Nat), u ≤ n ∧ i = .int .i64 u ∧ v = .slice A' m c' ∧ Hid ((pickTo rg r u).length = m) ∧ Ow wr w.heap.size A' m c' (pickTo rg r u) ∧ Below w.heap.size w wr) (fun _ i _ => n - (intOf i).toNat)
    case atStart => exact ⟨0, 0, _, _, Nat.zero_le _, rfl, rfl, Lib.hid rfl, Ow.made0 _ _ (Nat.le_refl _), hb0⟩
    case round =>
      obtain ⟨u, m, A', c', hu, rfl, rfl, hlen, ho, hb⟩ := hrel; have hs := hb.size
      by_cases hlt : u < n
      · obtain ⟨b, off, hA, hbB, hck⟩ := (h.below (hb.mono hB)).at_ hlt; subst hA; have hm1 : m ≤ 1099511627776 := (by have := hlen.out; have := pickTo_len rg r u; omega)
        by_cases e : nth rg u = r
        · have hq : (nth rg u == r) = true := (by simp [e]); have Hp := Lib.hid (show pickTo rg r (u + 1) = pickTo rg r u ++ [(u : Int)] by simp only [pickTo]; rw [if_pos e]); have Hl := Lib.hid (show (pickTo rg r (u + 1)).length = m + 1 by rw [Hp.out, List.length_append, hlen.out]; rfl); clear e
          go_wp2_with (first
            | (go_at_call 134; refine (HV.out _ hb).mono ?_; rintro e w1 ⟨rfl, rfl⟩; rw [hv])
            | (at_builtin; refine push_int rfl (.tmp 27) (.tmp 29) rfl w.heap.size A' m c' (pickTo rg r u) _ rfl rfl ho hm1 hs ?_; intro A5 c5 w5 ho5 hg5))
          go_roundw
          case rel => exact ⟨u + 1, _, _, _, by omega, by go_num, rfl, Hl, by rw [Hp.out]; exact ho5, push_below hb ho (Nat.le_refl _) hs hg5⟩
          case measure => simp [intOf]; omega
        · have hq : (nth rg u == r) = false := (by simp [e]); have Hp := Lib.hid (show pickTo rg r (u + 1) = pickTo rg r u by simp only [pickTo]; rw [if_neg e]); clear e
          go_wp2_with (go_at_call 134; refine (HV.out _ hb).mono ?_; rintro e w1 ⟨rfl, rfl⟩; rw [hv])
          go_roundw
          case rel => exact ⟨u + 1, _, _, _, by omega, by go_num, rfl, Lib.hid (by rw [Hp.out]; exact hlen.out), by rw [Hp.out]; exact ho, hb⟩
          case measure => simp [intOf]; omega
      · obtain rfl : u = n := by omega
        go_wp2
        go_ret
        rw [HL.out]; exact retSl_mk ho hb
theorem rat_app {rs : List RuleM} {r : RuleM} {i : Nat} (h : i < rs.length) : rat (rs ++ [r]) i = rat rs i := by
  simp [rat, List.getD_eq_getElem?_getD, List.getElem?_append_left h]
theorem rat_last {rs : List RuleM} {r : RuleM} {m : Nat} (h : rs.length = m) : rat (rs ++ [r]) m = r := by
  subst h
  simp [rat, List.getD_eq_getElem?_getD]
def rrTo (rg : List Int) (s : Int) (n : Nat) : Nat → List RuleM
  | 0 => []
  | u + 1 => if 2 ≤ (cellsL rg s u n).length then rrTo rg s n u ++ [⟨1, cellsL rg s u n, 0⟩] else rrTo rg s n u
theorem rrTo_len (rg : List Int) (s : Int) (n u : Nat) : (rrTo rg s n u).length ≤ u := by
  induction u with
  | zero => exact Nat.le_refl _
  | succ u ih =>
    simp only [rrTo]
    split
    · simp; omega
    · omega
def rrFit (rg : List Int) (s : Int) (n : Nat) : Bool := (List.range s.toNat).all fun u => decide ((cellsL rg s u n).length ≤ 4)
def rrB (rg : List Int) (s : Int) (n : Nat) : Bool := regB rg s && rrFit rg s n
def rrL (rg : List Int) (s : Int) (n : Nat) : List RuleM := if rrB rg s n = true then rrTo rg s n s.toNat else []
set_option maxHeartbeats 2000000 in
theorem specRegionRules (A : Option Addr) (c n B : Nat) (rg : List Int) (s : Int) (w : World) (h : Rd w B A n rg) (hB : B ≤ w.heap.size) (hm : n ≤ 1099511627776) :
    Calls Tryz.prog 93 #[.slice A n c, .int .i64 s] w fun e w' => ∃ A' c', e = .returned (.tuple #[.slice A' (rrL rg s n).length c', .bool (rrB rg s n)]) ∧ OwR w' w.heap.size (.slice A' (rrL rg s n).length c') (rrL rg s n) (rrL rg s n).length ∧ Below w.heap.size w w' := by
  have hb0 : Below w.heap.size w (w.alloc (.cells #[] 87)) := (Below.refl _ _).alloc (Nat.le_refl _) _
  have hr0 : ∀ rs, OwR (w.alloc (.cells #[] 87)) w.heap.size (.slice (some ⟨w.heap.size, 0, none⟩) 0 0) rs 0 := fun rs => ⟨[], World.ownsRow_made _ #[] 0 (Nat.le_refl _) (by simp [maxLen]) rfl, fun i hi => absurd hi (by omega)⟩
  have HV := Lib.hid (fun w' (hb : Below w.heap.size w w') => specRegionsValid A c n B rg s w' (h.below (hb.mono hB)) hm); cases hv : regB rg s
  · have HL := Lib.hid (show rrL rg s n = [] by simp [rrL, rrB, hv]); have HL2 := Lib.hid (show rrB rg s n = false by simp [rrB, hv])
    go_enter Tryz.func93, Tryz.ntmps93
    go_wp2_with (go_at_call 134; refine (HV.out _ hb0).mono ?_; rintro e w1 ⟨rfl, rfl⟩; rw [hv])
    go_ret2
    rw [HL.out, HL2.out]; exact ⟨_, _, rfl, hr0 _, hb0⟩
  · have hs24 : inr s 2 4 = true := by
      simp only [regB, Bool.and_eq_true] at hv; exact hv.1.2
    obtain ⟨h2, h4⟩ := inr_t hs24; obtain ⟨t, rfl⟩ := Int.eq_ofNat_of_zero_le (show 0 ≤ s by omega); have HC := Lib.hid (fun (u : Nat) w' (hb : Below w.heap.size w w') => specRegionCells A c n B rg t u w' (h.below (hb.mono hB)) (Nat.le_trans hB hb.size) hm); have hHV := Lib.hid hv; clear hv hs24
    go_enter Tryz.func93, Tryz.ntmps93
    go_wp2_with (go_at_call 134; refine (HV.out _ hb0).mono ?_; rintro e w1 ⟨rfl, rfl⟩; rw [hHV.out])
    go_loopw [6, 7] (fun v i wr => ∃ (u m : Nat) (A' : Option Addr) (c' : Nat), u ≤ t ∧ i = .int .i64 u ∧ v = .slice A' m c' ∧ Hid ((rrTo rg t n u).length = m) ∧ Hid (∀ j, j < u → (cellsL rg t j n).length ≤ 4) ∧ OwR wr w.heap.size (.slice A' m c') (rrTo rg t n u) m ∧ Below w.heap.size w wr) (fun _ i _ => t - (intOf i).toNat)
    case atStart => exact ⟨0, 0, _, _, Nat.zero_le _, rfl, rfl, Lib.hid rfl, Lib.hid (fun j hj => absurd hj (by omega)), hr0 _, hb0⟩
    case round =>
      obtain ⟨u, m, A', c', hu, rfl, rfl, hlen, hfit, hown, hb⟩ := hrel; have hsw := hb.size
      by_cases hlt : u < t
      · have hlt' : (u : Int) < (t : Int) := (by omega); obtain ⟨q, hq⟩ : ∃ q, q = (cellsL rg t u n).length := ⟨_, rfl⟩; have Hq := Lib.hid hq
        have HCu : Hid (∀ w', Below w.heap.size w w' → Calls Tryz.prog 135 #[.slice A n c, .int .i64 t, .int .i64 u] w' fun e w'' => ∃ A3 c3, e = .returned (.slice A3 q c3) ∧ Ow w'' w'.heap.size A3 q c3 (cellsL rg t u n) ∧ Below w'.heap.size w' w'') := Lib.hid (fun w' hb => by
          rw [hq]
          exact HC.out u w' hb)
        clear hq
        by_cases h5 : 4 < q
        · have h5' : (4 : Int) < (q : Int) := (by omega)
          have HL2 := Lib.hid (show rrB rg t n = false by
            have : rrFit rg t n = false := by
              cases e : rrFit rg t n
              · rfl
              · simp only [rrFit, List.all_eq_true, List.mem_range, decide_eq_true_eq] at e; have := e u (by simpa using hlt); have := Hq.out; omega
            simp [rrB, this])
          have HL := Lib.hid (show rrL rg t n = [] by simp [rrL, HL2.out]); have HM := Lib.hid (fun w3 (hb3 : Below wr.heap.size wr w3) => (⟨⟨[], World.ownsRow_made w3 #[] 0 (Nat.le_trans hsw hb3.size) (by simp [maxLen]) rfl, fun i hi => absurd hi (by omega)⟩, ((hb.trans (hb3.mono hsw)).alloc (Nat.le_trans hsw hb3.size) _)⟩ : OwR (w3.alloc (.cells #[] 87)) w.heap.size (.slice (some ⟨w3.heap.size, 0, none⟩) 0 0) [] 0 ∧ Below w.heap.size w (w3.alloc (.cells #[] 87))))
          go_wp2_with (go_at_call 135; refine (HCu.out _ hb).mono ?_; rintro e w3 ⟨A3, c3, rfl, ho3, hb3⟩)
          go_ret2
          rw [HL.out, HL2.out]; exact ⟨_, _, rfl, (HM.out _ hb3).1, (HM.out _ hb3).2⟩
        · have h5' : ¬ (4 : Int) < (q : Int) := (by omega)
          have Hfit := Lib.hid (show ∀ j, j < u + 1 → (cellsL rg t j n).length ≤ 4 by
            intro j hj
            by_cases e : j = u
            · subst e; have := Hq.out; omega
            · exact hfit.out j (by omega))
          by_cases h6 : 2 ≤ q
          · have h6' : (2 : Int) ≤ (q : Int) := (by omega); have Hp := Lib.hid (show rrTo rg t n (u + 1) = rrTo rg t n u ++ [⟨1, cellsL rg t u n, 0⟩] by simp only [rrTo]; rw [if_pos (by have := Hq.out; omega)]); have Hl := Lib.hid (show (rrTo rg t n (u + 1)).length = m + 1 by rw [Hp.out, List.length_append, hlen.out]; rfl); obtain ⟨vs, hown, hin⟩ := hown
            have HK : Hid (∀ w', Below wr.heap.size wr w' → w'.ownsRow w.heap.size 87 3 (.slice A' m c') m vs) := Lib.hid (fun w' hb => World.ownsRow.kept hown (row := none) ⟨hb.os, hb.tape, hb.output, hb.size, fun k hk _ => hb.block k hk⟩ (by
              cases e : (Value.slice A' m c').ownBlock
              · exact .inl rfl
              · exact .inr (by simp)))
            have Hin := Lib.hid hin; clear hin; have hm1 : m ≤ 1099511627776 := (by have := hlen.out; have := rrTo_len rg t n u; omega)
            go_wp2_with (first
              | (go_at_call 135; refine (HCu.out _ hb).mono ?_; rintro e w3 ⟨A3, c3, rfl, ho3, hb3⟩; have hlo3 := Nat.le_trans hsw hb3.size; have hown3 := World.ownsRow.alloc (HK.out _ hb3) (.cells #[.int .i64 1, .slice A3 q c3, .int .i64 0] 87))
              | (at_builtin; (refine push_rule rfl (.tmp 31) (.tmp 34) rfl w.heap.size (.slice A' m c') m vs w3.heap.size 1 A3 q c3 0 rfl rfl hown3 (heap_alloc_new w3 _) hm1 (le_alloc5 hlo3) ?_); intro g5 cap5 w5 ho5 hg5 hl5))
            have hR := rat_last (r := ⟨1, cellsL rg t u n, 0⟩) hlen.out
            have Hpush : OwR w5 w.heap.size (.slice (some ⟨g5, 0, none⟩) (m + 1) cap5) (rrTo rg t n u ++ [⟨1, cellsL rg t u n, 0⟩]) (m + 1) := by
              have hx : (rat (rrTo rg t n u ++ [⟨1, cellsL rg t u n, 0⟩]) m).xs = cellsL rg t u n := (by rw [hR]); refine OwR.push (c3 := c3) (A3 := A3) hown (fun i hi => ?_) hsw hb3 (by rw [hx, ← Hq.out]; exact ho3) (by rw [hx, ← Hq.out]; omega) (by rw [hx, ← Hq.out, hR]; exact ho5) hg5 hl5; rw [rat_app (by rw [hlen.out]; exact hi)]; exact Hin.out i hi
            have hBe : Below w.heap.size w w5 := ((hb.trans (hb3.mono hsw)).alloc hlo3 _).grown hg5 (le_alloc5 hlo3) (fun k hk => (World.ownsRow.lt hown k hk).1); clear hR
            go_roundw
            case rel => exact ⟨u + 1, _, _, _, by omega, by go_num, rfl, Hl, Hfit, by rw [Hp.out]; exact Hpush, hBe⟩
            case measure => simp [intOf]; omega
          · have h6' : ¬ (2 : Int) ≤ (q : Int) := (by omega); have Hp := Lib.hid (show rrTo rg t n (u + 1) = rrTo rg t n u by simp only [rrTo]; rw [if_neg (by have := Hq.out; omega)])
            go_wp2_with (go_at_call 135; refine (HCu.out _ hb).mono ?_; rintro e w3 ⟨A3, c3, rfl, ho3, hb3⟩)
            go_roundw
            case rel => exact ⟨u + 1, _, _, _, by omega, by go_num, rfl, Lib.hid (by rw [Hp.out]; exact hlen.out), Hfit, by rw [Hp.out]; exact hown.below hb3, hb.trans (hb3.mono hsw)⟩
            case measure => simp [intOf]; omega
      · obtain rfl : u = t := by omega
        have HL2 := Lib.hid (show rrB rg u n = true by
          have : rrFit rg u n = true := by
            simp only [rrFit, List.all_eq_true, List.mem_range, decide_eq_true_eq]; intro j hj; exact hfit.out j (by simpa using hj)
          simp [rrB, this, hHV.out])
        have HL := Lib.hid (show rrL rg u n = rrTo rg u n u by simp [rrL, HL2.out])
        go_wp2
        go_ret2
        rw [HL.out, HL2.out, hlen.out]; exact ⟨_, _, rfl, hown, hb⟩
theorem solved_gv {s : Int} {n : Nat} {g : List Int} (h2 : 2 ≤ s) (h4 : s ≤ 4) (hn : (n : Int) = s * s) (hm : g ∈ sols s n (zeros n) 0) : gv g s = true :=
  okAll_gv (by have := sols_length s _ _ _ _ hm; rw [zeros_length] at this; exact this) hn h2 h4 (sols_ok (by omega : 0 ≤ s) n _ _ _ (okAll_zeros (by omega) n) _ hm)
def CaseRel (w0 : World) (B G P X : Nat) (k : Int) (A : Option Addr) (n c : Nat) (v : Int) (xs : List Int) (gv : Value) (wx : World) : Prop :=
  wx.heap[X]? = some (.cells #[.int .i64 k, .slice A n c, .int .i64 v] 87) ∧ Ow wx w0.heap.size A n c xs ∧ (∀ b, (Value.slice A n c).ownBlock = some b → b ≠ X) ∧
    (∃ (gb ng cg : Nat) (g : List Int), gv = .slice (some ⟨gb, 0, none⟩) ng cg ∧ Ow wx w0.heap.size (some ⟨gb, 0, none⟩) ng cg g ∧ 4 ≤ ng ∧ ng ≤ 16 ∧ gb ≠ X ∧ ∀ b, (Value.slice A n c).ownBlock = some b → b ≠ gb) ∧ Rdr wx B G P ∧ w0.grownBy wx (some G)
theorem CaseRel.keep {w0 wx wy : World} {B G P P' X : Nat} {k : Int} {A : Option Addr} {n c : Nat} {v : Int} {xs : List Int} {gv : Value} (h : CaseRel w0 B G P X k A n c v xs gv wx) (hG : G < w0.heap.size) (hX : w0.heap.size ≤ X) (hg : wx.grownBy wy (some G)) (hr : Rdr wy B G P') : CaseRel w0 B G P' X k A n c v xs gv wy := by
  obtain ⟨h1, h2, h3, ⟨gb, ng, cg, g, h4, h5, h6, h7, h8, h9⟩, h10, h11⟩ := h; have hXl : X < wx.heap.size := (Array.getElem?_eq_some_iff.1 h1).1; exact ⟨(hg.block X hXl (fun e => by injection e with e; omega)).trans h1, h2.keptG hg hG, h3, ⟨gb, ng, cg, g, h4, h5.keptG hg hG, h6, h7, h8, h9⟩, hr, h11.trans hg⟩
theorem CaseRel.alloc {w0 wx : World} {B G P X : Nat} {k : Int} {A : Option Addr} {n c : Nat} {v : Int} {xs : List Int} {gv : Value} (h : CaseRel w0 B G P X k A n c v xs gv wx) (hG : G < w0.heap.size) (hB : B ≤ w0.heap.size) (hX : w0.heap.size ≤ X) (o : Obj) : CaseRel w0 B G P X k A n c v xs gv (wx.alloc o) :=
  h.keep hG hX (only_alloc (World.grownBy.refl _ _) o) (h.2.2.2.2.1.alloc (Nat.le_trans hB h.2.2.2.2.2.size) o)
theorem oper_val {P : Program} {o : Oper} {a : Act} {w w' : World} {K : Act → World → Prop} {Q : Exit → Act → World → Prop} {v : Value} (hrun : (execOp a.eval o).run P w = .ok (.value v) w') (h : K (a.put o.dst v) w') : o.wp P a w K Q := by
  unfold Oper.wp; rw [hrun]; exact h
theorem oper_call {P : Program} {o : Oper} {a : Act} {w : World} {K : Act → World → Prop} {Q : Exit → Act → World → Prop} {f : FuncId} {args : Array Value} {R : Ending → World → Prop} (hrun : (execOp a.eval o).run P w = .ok (.enter f args) w) (hc : Calls P f args w R) (h : ∀ e w', R e w' → ∃ v, e = .returned v ∧ K (a.put o.dst v) w') : o.wp P a w K Q := by
  unfold Oper.wp; rw [hrun]; refine hc.mono (fun e w' hr => ?_); obtain ⟨v, rfl, hk⟩ := h e w' hr; exact hk
theorem wp_region_madeR {P : Program} {ops : Array Oper} {Q : Exit → Act → World → Prop} {id : Nat} {a0 : Act} {W : World} (m : Nat) (d : Nat → Nat) (G : Nat → Value → World → Prop) (Rel : World → World → Prop) (Eff : Nat → World → World → Prop) (C : Nat → World → Prop) (hC0 : ∀ j, C j W.drew) (hrefl : Rel W W.drew) (htrans : ∀ w w', Rel W w → Rel w w' → Rel W w')
    (hm : P.follows .mixedOrders = true) (hlen : ops.size = m + 1) (hback : ∀ (i : Nat) (o : Oper), ops[i]? = some o → ∀ e ∈ o.after, e.on < i)
    (hd : ∀ i o, i < m → ops[i]? = some o → o.dst = some (d i) ∧ o.guard = none) (hinj : ∀ i j, i < m → j < m → d i = d j → i = j) (hlt : ∀ i, i < m → d i < a0.tmps.size)
    (hl : ∀ o, ops[m]? = some o → o.dst = none ∧ o.guard = none ∧ ∀ j, j < m → ∃ e ∈ o.after, e.on = j ∧ Region.binds .any e = true)
    (hG : ∀ j i v w w', j ≠ i → Rel W w → Eff i w w' → G j v w → G j v w')
    (hstep : ∀ i o a w (K : Act → World → Prop), i < m → ops[i]? = some o → Rel W w → Off d m a a0 → (∀ e ∈ o.after, Region.binds .any e = true → G e.on (a.eval (.tmp (d e.on))) w) → C i w → (∀ v w', Rel w w' → Eff i w w' → (∀ j, j ≠ i → C j w → C j w') → G i v w' → K (a.put o.dst v) w') → o.wp P a w K Q)
    (hlast : ∀ o a w, ops[m]? = some o → Rel W w → Off d m a a0 → (∀ j, j < m → G j (a.eval (.tmp (d j))) w) → ∃ w', (execOp a.eval o).run P w = .ok .skip w' ∧ Q .normal a w') :
    (Code.region id ops true).wp P Q a0 W := by
  refine wp_region_inv (Inv := fun l a w => l.size = ops.size ∧ ((l.getD m false = false ∧ Rel W w ∧ Off d m a a0 ∧ (∀ j, l.getD j false = false → C j w) ∧ ∀ j, j < m → l.getD j false = true → G j (a.eval (.tmp (d j))) w) ∨ ((∀ j, j < ops.size → l.getD j false = true) ∧ Q .normal a w))) hm hback (fun l a w h => h.1) ?step ?done ?h0
  case done =>
    rintro l a w ⟨hs, h⟩ hall
    rcases h with ⟨h1, _⟩ | ⟨_, h⟩
    · rw [hall m (by omega)] at h1; cases h1
    · exact h
  case h0 =>
    refine ⟨by simp, .inl ⟨by rw [Array.getD_eq_getD_getElem?, Array.getElem?_replicate]; split <;> rfl, hrefl, ⟨rfl, rfl, fun _ _ => rfl⟩, fun j _ => hC0 j, fun j hj hlj => ?_⟩⟩
    simp at hlj
    have : j < ops.size := by omega
    simp [this] at hlj
  case step =>
    rintro l a w i o ⟨hs, h⟩ ho hli hall; have hi : i < ops.size := (Array.getElem?_eq_some_iff.1 ho).1
    have hil : i < l.size := by omega
    rcases h with ⟨h1, hb, hoff, hcj, hg⟩ | ⟨h, _⟩
    · refine wpOp_step ho (fun K hK => ?_); have hsz : (l.setIfInBounds i true).size = ops.size := (by simpa using hs)
      by_cases him : i = m
      · subst him; obtain ⟨q1, q2, q3⟩ := hl o ho
        have hallj : ∀ j, j < i → l.getD j false = true := fun j hj => by
          obtain ⟨e, he, rfl, hbd⟩ := q3 j hj; exact hall e he hbd
        obtain ⟨w', hrun, hq⟩ := hlast o a w ho hb hoff (fun j hj => hg j hj (hallj j hj)); rw [if_pos (by simp [Region.wanted, q2])]; unfold Oper.wp; rw [hrun]; have hput : a.put o.dst undef = a := (by rw [q1]; rfl); refine hK _ _ ⟨hsz, .inr ⟨fun j hj => ?_, ?_⟩⟩
        · by_cases e : j = i
          · subst e; simp [hil]
          · have := hallj j (by omega); have hjl : j < l.size := (by omega); have hset : (l.setIfInBounds i true).getD j false = l.getD j false := (by simp [Array.getElem?_setIfInBounds_ne (fun e' => e (Eq.symm e'))]); rw [hset]; exact this
        · first | exact hq | (rw [hput]; exact hq)
      · have him' : i < m := (by omega); obtain ⟨q1, q2⟩ := hd i o him' ho
        have hpre : ∀ e ∈ o.after, Region.binds .any e = true → G e.on (a.eval (.tmp (d e.on))) w := fun e he hbd => hg e.on (Nat.lt_trans (hback i o ho e he) him') (hall e he hbd)
        rw [if_pos (by simp [Region.wanted, q2])]; refine hstep i o a w K him' ho hb hoff hpre (hcj i (by simp [hil] at hli ⊢; exact hli)) (fun v w' hb' hef hcs hgi => ?_); have hdlt : d i < a.tmps.size := (by rw [hoff.1]; exact hlt i him')
        have hset : ∀ j, (l.setIfInBounds i true).getD j false = if j = i then true else l.getD j false := fun j => by
          by_cases e : j = i
          · subst e; simp [hil]
          · rw [if_neg e]; simp [Array.getElem?_setIfInBounds_ne (fun e' => e (Eq.symm e'))]
        refine hK _ _ ⟨hsz, .inl ⟨by rw [hset, if_neg (fun e => him e.symm)]; exact h1, htrans _ _ hb hb', ?_, fun j hlj => (by rw [hset] at hlj; split at hlj; (cases hlj); (rename_i hji; exact hcs j hji (hcj j hlj))), fun j hj hlj => ?_⟩⟩
        · rw [q1]; refine ⟨by rw [size_put]; exact hoff.1, hoff.2.1, fun t ht => ?_⟩; rw [← hoff.2.2 t ht]
          simp [Act.put, Array.getElem?_setIfInBounds_ne (ht i him')]
        · rw [q1]
          by_cases e : j = i
          · subst e; rw [eval_put_same hdlt]; exact hgi
          · rw [eval_put_ne (fun e' => e (hinj _ _ hj him' e'.symm))]; rw [hset, if_neg e] at hlj; exact hG _ _ _ _ _ e hb hef (hg j hj hlj)
    · have := h i hi
      simp [hil] at hli this
      rw [this] at hli; cases hli
theorem wp_region_dsR {P : Program} {ops : Array Oper} {Q : Exit → Act → World → Prop} {id : Nat} {a0 : Act} {W : World} (ds : List Nat) (G : Nat → Value → World → Prop) (Rel : World → World → Prop) (Eff : Nat → World → World → Prop) (C : Nat → World → Prop) (hC0 : ∀ j, C j W.drew) (hrefl : Rel W W.drew) (htrans : ∀ w w', Rel W w → Rel w w' → Rel W w')
    (hm : P.follows .mixedOrders = true) (hc : chkOps ops ds = true) (hlt : ∀ t ∈ ds, t < a0.tmps.size)
    (hG : ∀ j i v w w', j ≠ i → Rel W w → Eff i w w' → G j v w → G j v w')
    (hstep : ∀ (i : Nat) (o : Oper) (a : Act) (w : World) (K : Act → World → Prop), i < ds.length → ops[i]? = some o → Rel W w → (∀ t, t ∉ ds → a.eval (.tmp t) = a0.eval (.tmp t)) → (∀ e ∈ o.after, Region.binds .any e = true → G e.on (a.eval (.tmp (ds.getD e.on 0))) w) → C i w → (∀ v w', Rel w w' → Eff i w w' → (∀ j, j ≠ i → C j w → C j w') → G i v w' → K (a.put o.dst v) w') → o.wp P a w K Q)
    (hlast : ∀ (o : Oper) (a : Act) (w : World), ops[ds.length]? = some o → Rel W w → a.defers = a0.defers → a.tmps = ds.foldl (fun tm t => tm.setIfInBounds t (a.tmps.getD t undef)) a0.tmps → (∀ t, t ∉ ds → a.eval (.tmp t) = a0.eval (.tmp t)) → (∀ j, j < ds.length → G j (a.eval (.tmp (ds.getD j 0))) w) → ∃ w', (execOp a.eval o).run P w = .ok .skip w' ∧ Q .normal a w') :
    (Code.region id ops true).wp P Q a0 W := by
  simp only [chkOps, Bool.and_eq_true, beq_iff_eq, List.all_eq_true, List.mem_range, decide_eq_true_eq] at hc; obtain ⟨⟨⟨⟨c1, c2⟩, c3⟩, c4⟩, c5⟩ := hc
  have hout : ∀ t, t ∉ ds → ∀ j, j < ds.length → ds.getD j 0 ≠ t := fun t ht j hj e => ht (by
    rw [← e, List.getD_eq_getElem?_getD, List.getElem?_eq_getElem hj]; exact List.getElem_mem _)
  have hmem : ∀ j, j < ds.length → ds.getD j 0 ∈ ds := fun j hj => by
    rw [List.getD_eq_getElem?_getD, List.getElem?_eq_getElem hj]; exact List.getElem_mem _
  refine wp_region_madeR ds.length (fun j => ds.getD j 0) G Rel Eff C hC0 hrefl htrans hm c1 ?back ?hd ?inj (fun i hi => hlt _ (hmem i hi)) ?hl hG ?step ?last
  case back =>
    intro i o ho e he; have hi : i < ops.size := (Array.getElem?_eq_some_iff.1 ho).1; have := c2 i hi; rw [ho] at this; simp only [Array.all_eq_true_iff_forall_mem, decide_eq_true_eq] at this; exact this e he
  case hd =>
    intro i o hi ho; have := c3 i hi; rw [ho] at this; simp only [Bool.and_eq_true, decide_eq_true_eq, Option.isNone_iff_eq_none] at this; exact this
  case inj =>
    intro i j hi hj e; simp only [List.getD_eq_getElem?_getD, List.getElem?_eq_getElem hi, List.getElem?_eq_getElem hj, Option.getD_some] at e; exact (List.getElem_inj c5).1 e
  case hl =>
    intro o ho; rw [ho] at c4; simp only [Bool.and_eq_true, Option.isNone_iff_eq_none, List.all_eq_true, List.mem_range] at c4; refine ⟨c4.1.1, c4.1.2, fun j hj => ?_⟩; obtain ⟨e, he, h⟩ := Array.any_eq_true'.1 (c4.2 j hj); rw [Bool.and_eq_true, beq_iff_eq] at h; exact ⟨e, he, h.1, h.2⟩
  case step =>
    intro i o a w K hi ho hb hoff hpre hc hK; exact hstep i o a w K hi ho hb (fun t ht => hoff.eval (hout t ht)) hpre hc hK
  case last =>
    intro o a w ho hb hoff hpre; refine hlast o a w ho hb hoff.2.1 (frame_of ds hoff.1 (fun t ht => hoff.2.2 t (hout t ht))) (fun t ht => hoff.eval (hout t ht)) hpre
theorem own_ne_row {w : World} {lo X : Nat} {v : Value} {e t : TypeId} {sz n : Nat} {xs : List Value} {cs : Array Value} (hX : w.heap[X]? = some (.cells cs t)) (hown : w.ownsRow lo e sz v n xs) (hne : t ≠ e) : v.ownBlock ≠ some X := fun e2 => by
  rcases hown.2 with ⟨rfl, _⟩ | ⟨g, cap, cur, rfl, hb, hg', _⟩
  · simp [Value.ownBlock] at e2
  · have e3 : X = g := by have := e2; simp [Value.ownBlock] at this; omega
    subst e3; rw [hX] at hg'
    injection hg' with hg'
    injection hg' with _ h2 _
    exact hne h2
theorem rd_drop_ {w : World} {B g n : Nat} {xs : List Int} (h : Rd w B (some ⟨g, 0, none⟩) n xs) (hn : 1 ≤ n) : Rd w B (some ⟨g, 1, none⟩) (n - 1) (xs.drop 1) := by
  refine ⟨by rw [List.length_drop, h.1], fun hn1 => ?_⟩; obtain ⟨b, off, e, hlt, hc⟩ := h.2 (by omega)
  injection e with e
  injection e with e1 e2 _
  subst e1 e2; refine ⟨_, 1, rfl, hlt, fun k hk => ?_⟩; have := hc (k + 1) (by omega); rw [show nth (xs.drop 1) k = nth xs (k + 1) by simp [nth, List.getD_eq_getElem?_getD]]; rw [← this]
  congr 2
  omega
theorem make_rules21 (w : World) : (Instr.makeSlice 24 (.int .i64 21) (.int .i64 21)).run Tryz.prog w = .ok (.slice (some ⟨w.heap.size, 0, none⟩) 21 21) (w.alloc (.cells (madeCells #[.int .i64 0, .slice none 0 0, .int .i64 0] 63) 87)) := by
  obtain ⟨i0, hi, hz0, hz1, hz2⟩ := info_parts rule_parts; have hr := run_make (P := Tryz.prog) w 24 87 i0 (.agg #[.int .i64 0, .slice none 0 0, .int .i64 0]) Tryz.underlying24 hi hz0 .i64 .i64 21 21 (by omega) (Int.le_refl _) (by rw [hz2]; decide) (by omega); rw [hz1] at hr; exact hr
theorem made_get (z : Array Value) {n j : Nat} (h : j < n) : (madeCells z n).toList[j]? = some (z[j % z.size]!) := by simp [madeCells, h]
theorem rules21_own (w : World) {lo : Nat} (hlo : lo ≤ w.heap.size) : (w.alloc (.cells (madeCells #[.int .i64 0, .slice none 0 0, .int .i64 0] 63) 87)).ownsRow lo 87 3 (.slice (some ⟨w.heap.size, 0, none⟩) 21 21) 21 (madeCells #[.int .i64 0, .slice none 0 0, .int .i64 0] 63).toList ∧
    InR (w.alloc (.cells (madeCells #[.int .i64 0, .slice none 0 0, .int .i64 0] 63) 87)) lo (.slice (some ⟨w.heap.size, 0, none⟩) 21 21) (List.replicate 21 ⟨0, [], 0⟩) (madeCells #[.int .i64 0, .slice none 0 0, .int .i64 0] 63).toList 21 := by
  refine ⟨World.ownsRow_lit (e := 87) (size := 3) w _ 21 hlo (by simp only [maxLen]; omega) (by simp [size_madeCells]), fun i hi => ?_⟩
  have hr : rat (List.replicate 21 ⟨0, [], 0⟩) i = ⟨0, [], 0⟩ := by
    simp only [rat, List.getD_eq_getElem?_getD]; rw [List.getElem?_replicate, if_pos hi]; rfl
  rw [hr]; refine ⟨none, 0, ?_, ?_, ?_, Ow.nil_ _ _, by simp, fun g hg => by simp [Value.ownBlock] at hg⟩
  · rw [made_get _ (by omega)]
    show some (#[Value.int .i64 0, .slice none 0 0, .int .i64 0][i * 3 % 3]!) = _
    rw [Nat.mul_mod_left]; rfl
  · rw [made_get _ (by omega)]
    show some (#[Value.int .i64 0, .slice none 0 0, .int .i64 0][(i * 3 + 1) % 3]!) = _
    rw [show (i * 3 + 1) % 3 = 1 by omega]; rfl
  · rw [made_get _ (by omega)]
    show some (#[Value.int .i64 0, .slice none 0 0, .int .i64 0][(i * 3 + 2) % 3]!) = _
    rw [show (i * 3 + 2) % 3 = 2 by omega]; rfl
end Go.Proofs.YtcjdjcpappfkgaaGreatDoor
