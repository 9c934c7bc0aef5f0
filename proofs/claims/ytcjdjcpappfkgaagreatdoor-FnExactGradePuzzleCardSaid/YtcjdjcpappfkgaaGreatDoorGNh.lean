import Derived.Test.YtcjdjcpappfkgaaGreatDoorGNs
import Derived.Test.YtcjdjcpappfkgaaGreatDoorGC3G
import Derived.Test.YtcjdjcpappfkgaaGreatDoorGC1L
set_option maxRecDepth 8000
namespace Go.Proofs.YtcjdjcpappfkgaaGreatDoor
open Go.ChangeShapes Go.WideShapes Go.ChangeAt Go.RowKit
def hB (m : List Int) (S u : Int) (v k : Nat) : Bool := (nth m (lineAt S u k).toNat).toNat.testBit v
def hC (m : List Int) (S u : Int) (v : Nat) : Nat → Nat
  | 0 => 0
  | k + 1 => if hB m S u v k = true then hC m S u v k + 1 else hC m S u v k
def hL (m : List Int) (S u : Int) (v : Nat) : Nat → Nat
  | 0 => 0
  | k + 1 => if hB m S u v k = true then (lineAt S u k).toNat else hL m S u v k
def hVs (m : List Int) (S : Int) (N : Nat) (u : Int) (o : List Int) : Nat → List Int
  | 0 => o
  | r + 1 => if hC m S u (r + 1) N = 1 then (hVs m S N u o r).set (hL m S u (r + 1) N) (bits .and .i64 (nth (hVs m S N u o r) (hL m S u (r + 1) N)) (2 ^ (r + 1))) else hVs m S N u o r
def hU (m : List Int) (S : Int) (N : Nat) : Nat → List Int
  | 0 => m
  | u + 1 => hVs m S N u (hU m S N u) N
def nhL (m : List Int) (S : Int) : List Int := if mvd m S = true then hU m S S.toNat (2 * S.toNat) else []
theorem hC_le (m : List Int) (S u : Int) (v k : Nat) : hC m S u v k ≤ k := by
  induction k with
  | zero => exact Nat.le_refl _
  | succ k ih => simp only [hC]; split <;> omega
theorem hL_lt {m : List Int} {S u : Int} {v n k : Nat} (h : ∀ j, j < k → (lineAt S u j).toNat < n) (h0 : 0 < n) : hL m S u v k < n := by
  induction k with
  | zero => exact h0
  | succ k ih =>
    simp only [hL]
    split
    · exact h k (by omega)
    · exact ih (fun j hj => h j (by omega))
theorem hVs_len (m : List Int) (S : Int) (N : Nat) (u : Int) (o : List Int) (r : Nat) : (hVs m S N u o r).length = o.length := by
  induction r with
  | zero => rfl
  | succ r ih =>
    simp only [hVs]
    split
    · rw [List.length_set, ih]
    · exact ih
theorem hU_len (m : List Int) (S : Int) (N u : Nat) : (hU m S N u).length = m.length := by
  induction u with
  | zero => rfl
  | succ u ih => simp only [hU]; rw [hVs_len, ih]
theorem pow_wrap5 {r : Nat} (h : r < 4) : wrap64 ((2 : Int) ^ (r + 1)) = 2 ^ (r + 1) := by
  have : r = 0 ∨ r = 1 ∨ r = 2 ∨ r = 3 := by omega
  rcases this with rfl | rfl | rfl | rfl <;> exact IntWalk.wrap64_in _ ⟨by decide, by decide⟩
set_option maxHeartbeats 8000000 in
theorem specNarrowHidden (A : Option Addr) (c n B : Nat) (m : List Int) (s : Int) (w : World) (h : Rd w B A n m) (hB' : B ≤ w.heap.size) (hm : n ≤ 1099511627776) (hsb : -9223372036854775808 ≤ s ∧ s ≤ 9223372036854775807) :
    Calls Tryz.prog 119 #[.slice A n c, .int .i64 s] w (RetSl w (nhL m s)) := by
  have hlen := Lib.hid h.1; have HV := Lib.hid (specMasksValid A c n B m s w h hB' hm hsb); cases hv : mvd m s
  · have HL := Lib.hid (show nhL m s = [] by simp [nhL, hv])
    go_enter Tryz.func119, Tryz.ntmps119
    go_wp2_with (go_at_call 30; refine HV.out.mono ?_; rintro e w1 ⟨rfl, hb1⟩; rw [hv])
    go_ret
    rw [HL.out]; exact ⟨_, _, rfl, Ow.made0 _ _ hb1.size, hb1.alloc hb1.size _⟩
  · obtain ⟨⟨h2, h4⟩, hsq, hn16, hrng⟩ := mvd_at hv; rw [hlen.out] at hsq hn16 hrng
    have hs3 : s = 2 ∨ s = 3 ∨ s = 4 := by omega
    clear h2 h4; have HCp := Lib.hid (fun w' (hb : Below w.heap.size w w') => specL6Copy A n c B m w' (h.below (hb.mono hB')) (Nat.le_trans hB' hb.size) hm); have Hrng := Lib.hid (fun k (hk : k < n) => (hrng k hk).1); clear hrng
    rcases hs3 with rfl | rfl | rfl
    · obtain rfl : n = 4 := by omega
      have HL := Lib.hid (show nhL m 2 = hU m 2 2 (2 * 2) by simp [nhL, hv]); have Hv := Lib.hid hv; clear hv
      go_enter Tryz.func119, Tryz.ntmps119
      go_wp2_with (first
        | (go_at_call 30; refine HV.out.mono ?_; rintro e w1 ⟨rfl, hb1⟩; rw [Hv.out])
        | (go_at_call 68; refine (HCp.out _ hb1).mono ?_; rintro e w2 ⟨Ac, cc, rfl, ho2, hb2⟩))
      have hb12 := step hb1 hb2; have ho2' := ho2.mono hb1.size; obtain ⟨g, rfl, hgl, hgw⟩ := ho2'.form (by omega)
      go_loopw [6] (fun i wr => ∃ u : Nat, u ≤ 2 * 2 ∧ i = .int .i64 u ∧ Ow wr w.heap.size (some ⟨g, 0, none⟩) 4 cc (hU m 2 2 u) ∧ Below w.heap.size w wr) (fun i _ => 2 * 2 - (intOf i).toNat)
      case atStart => exact ⟨0, Nat.zero_le _, rfl, ho2', hb12⟩
      case round =>
        obtain ⟨u, hu, rfl, ho, hb⟩ := hrel
        by_cases hlt : u < 2 * 2
        · have hltI : (u : Int) < 2 * 2 := (by omega); have hgr := ho.own_hi g rfl
          have hat : Hid (∀ j, j < 2 → ∃ q : Nat, lineAt 2 u j = (q : Int) ∧ q < 4) := Lib.hid (fun j hj => by
            by_cases hx : (u : Int) < 2
            · rw [lineAt_row hx]; exact ⟨u * 2 + j, by omega, by omega⟩
            · rw [lineAt_col hx]
              exact ⟨j * 2 + u - 2, by omega, by omega⟩)
          have hsw := hb.size
          have HLc : Hid (Calls Tryz.prog 156 #[.int .i64 2, .int .i64 u] wr fun e w'' => ∃ g3 c3, e = .returned (.slice (some ⟨g3, 0, none⟩) 2 c3) ∧ Ow w'' wr.heap.size (some ⟨g3, 0, none⟩) 2 c3 (lineTo 2 u 2) ∧ Below wr.heap.size wr w'') := Lib.hid ((specLineCells 2 u wr ⟨by omega, by omega⟩).mono (by
            rintro e w'' ⟨A3, c3, rfl, ho3, hb3⟩
            have e1 : lineL 2 u = lineTo 2 u 2 := by
              have : lineOk 2 u = true := (by simp [lineOk, inr]; omega)
              simp [lineL, this]
            rw [e1, lineTo_length] at ho3; rw [e1, lineTo_length]; obtain ⟨g3, rfl, _, _⟩ := ho3.form (by omega)
            exact ⟨g3, c3, rfl, ho3, hb3⟩))
          go_wp2_with (go_at_call 156; refine HLc.out.mono ?_; rintro e w3 ⟨g3, c3, rfl, ho3, hb3⟩)
          have hg3 := ho3.own_lo g3 rfl; have hoA := ho.below hb3; have hbA := hb.trans (hb3.mono hsw)
          go_loopw [8] (fun i wr => ∃ r : Nat, r ≤ 2 ∧ i = .int .i64 ((r : Int) + 1) ∧ Ow wr w.heap.size (some ⟨g, 0, none⟩) 4 cc (hVs m 2 2 u (hU m 2 2 u) r) ∧ Ow wr (g + 1) (some ⟨g3, 0, none⟩) 2 c3 (lineTo 2 u 2) ∧ Below w.heap.size w wr) (fun i _ => 2 + 1 - (intOf i).toNat)
          case atStart => exact ⟨0, Nat.zero_le _, by simp, hoA, ho3.mono (by omega), hbA⟩
          case round =>
            clear ho3 hoA hbA hb3 ho hb hsw HLc; obtain ⟨r, hr, rfl, ho, ho3, hb⟩ := hrel
            by_cases hrT : r < 2
            · have hrI : (r : Int) + 1 ≤ 2 := (by omega); have hmr := (h.below (hb.mono hB'))
              go_wp2
              obtain ⟨WR, hWR⟩ : ∃ WR, WR = wr := ⟨_, rfl⟩; rw [← hWR]; rw [← hWR] at ho ho3 hb hmr; clear hWR
              go_loopw [9, 10, 11] (fun cn la i wr => wr = WR ∧ ∃ k : Nat, k ≤ 2 ∧ i = .int .i64 k ∧ cn = .int .i64 (hC m 2 u (r + 1) k : Nat) ∧ la = .int .i64 (hL m 2 u (r + 1) k : Nat)) (fun _ _ i _ => 2 - (intOf i).toNat)
              case atStart => exact ⟨rfl, 0, Nat.zero_le _, rfl, rfl, rfl⟩
              case round =>
                obtain ⟨rfl, k, hk, rfl, rfl, rfl⟩ := hrel
                by_cases hkT : k < 2
                · have hkI : (k : Int) < 2 := (by omega); obtain ⟨q, hq, hqn⟩ := hat.out k hkT; obtain ⟨hc3, _⟩ := ho3.cell hkT; rw [show nth (lineTo 2 u 2) k = (q : Int) by rw [← hq]; simp [lineTo, nth, List.getD_eq_getElem?_getD, hkT]] at hc3; obtain ⟨b, off, hA, hbB, hck⟩ := hmr.at_ hqn; subst hA; obtain ⟨M, hM⟩ := Int.eq_ofNat_of_zero_le (Hrng.out q hqn); rw [hM] at hck; have hsh := shr_bit M (r + 1); have hcl := hC_le m 2 u (r + 1) k; have hbit : hB m 2 u (r + 1) k = M.testBit (r + 1) := (by simp only [hB, hq, Int.toNat_natCast]; rw [hM]; simp); cases hh : M.testBit (r + 1)
                  · rw [hh] at hsh hbit; have H1 := Lib.hid (show hC m 2 u (r + 1) (k + 1) = hC m 2 u (r + 1) k by simp [hC, hbit]); have H2 := Lib.hid (show hL m 2 u (r + 1) (k + 1) = hL m 2 u (r + 1) k by simp [hL, hbit]); clear hh hbit hM hq
                    go_wp2
                    go_roundw
                    case rel => exact ⟨by trivial, k + 1, by omega, by go_num, by rw [H1.out], by rw [H2.out]⟩
                    case measure => simp [intOf]; omega
                  · rw [hh] at hsh hbit; have H1 := Lib.hid (show hC m 2 u (r + 1) (k + 1) = hC m 2 u (r + 1) k + 1 by simp [hC, hbit]); have H2 := Lib.hid (show hL m 2 u (r + 1) (k + 1) = q by simp [hL, hbit, hq]); clear hh hbit hM hq
                    go_wp2
                    go_roundw
                    case rel => exact ⟨by trivial, k + 1, by omega, by go_num, by rw [H1.out]; simp, by rw [H2.out]⟩
                    case measure => simp [intOf]; omega
                · obtain rfl : k = 2 := by omega
                  obtain ⟨q, hq⟩ : ∃ q, hC m 2 u (r + 1) 2 = q := ⟨_, rfl⟩; obtain ⟨l, hl⟩ : ∃ l, hL m 2 u (r + 1) 2 = l := ⟨_, rfl⟩
                  have hln : l < 4 := by
                    rw [← hl]; exact hL_lt (fun j hj => by obtain ⟨q, hq, hqn⟩ := hat.out j hj; rw [hq]; simpa using hqn) (by omega)
                  have Hq := Lib.hid hq; have Hl := Lib.hid hl; rw [hq, hl]; clear hq hl
                  by_cases h1 : q = 1
                  · have H3 := Lib.hid (show hVs m 2 2 u (hU m 2 2 u) (r + 1) = (hVs m 2 2 u (hU m 2 2 u) r).set l (bits .and .i64 (nth (hVs m 2 2 u (hU m 2 2 u) r) l) (2 ^ (r + 1))) by simp only [hVs]; rw [Hq.out, Hl.out, if_pos h1]); have h1I : ((q : Int) == 1) = true := (by simp [h1]); clear h1; obtain ⟨hcell, hfr⟩ := ho.cell hln; have hput := Lib.hid (ho.putN l (bits .and .i64 (nth (hVs m 2 2 u (hU m 2 2 u) r) l) (2 ^ (r + 1)))); have ho3p := Lib.hid (ho3.far (row := some g) (grown_set (w := wr) (G := g) (i := l) (v := .int .i64 (bits .and .i64 (nth (hVs m 2 2 u (hU m 2 2 u) r) l) (2 ^ (r + 1))))) (fun b hb e => by have := ho3.own_lo b hb; injection e with e; omega))
                    have hw2 : wrap64 ((2 : Int) ^ (r + 1)) = 2 ^ (r + 1) := pow_wrap5 (by omega)
                    go_wp2
                    go_region
                    go_wp2
                    go_roundw
                    case rel => exact ⟨r + 1, by omega, by go_num, by rw [H3.out]; exact hput.out, ho3p.out, below_drewN (Below.setCell (p := (⟨g, l, none⟩ : Addr)) hb hgl _) 1⟩
                    case measure => simp [intOf]; omega
                  · have H3 := Lib.hid (show hVs m 2 2 u (hU m 2 2 u) (r + 1) = hVs m 2 2 u (hU m 2 2 u) r by simp only [hVs]; rw [Hq.out, if_neg h1]); have h1I : ((q : Int) == 1) = false := (by simp; omega); clear h1
                    go_wp2
                    go_roundw
                    case rel => exact ⟨r + 1, by omega, by go_num, by rw [H3.out]; exact ho, ho3, hb⟩
                    case measure => simp [intOf]; omega
            · obtain rfl : r = 2 := by omega
              go_wp2
              go_roundw
              case rel => exact ⟨u + 1, by omega, by go_num, ho, hb⟩
              case measure => simp [intOf]; omega
        · obtain rfl : u = 2 * 2 := by omega
          go_wp2
          go_ret
          rw [HL.out]; have hnl := Lib.hid (hU_len m 2 2 (2 * 2)); exact ⟨_, _, by rw [hnl.out, hlen.out]; rfl, by rw [hnl.out, hlen.out]; exact ho, hb⟩
    · obtain rfl : n = 9 := by omega
      have HL := Lib.hid (show nhL m 3 = hU m 3 3 (2 * 3) by simp [nhL, hv]); have Hv := Lib.hid hv; clear hv
      go_enter Tryz.func119, Tryz.ntmps119
      go_wp2_with (first
        | (go_at_call 30; refine HV.out.mono ?_; rintro e w1 ⟨rfl, hb1⟩; rw [Hv.out])
        | (go_at_call 68; refine (HCp.out _ hb1).mono ?_; rintro e w2 ⟨Ac, cc, rfl, ho2, hb2⟩))
      have hb12 := step hb1 hb2; have ho2' := ho2.mono hb1.size; obtain ⟨g, rfl, hgl, hgw⟩ := ho2'.form (by omega)
      go_loopw [6] (fun i wr => ∃ u : Nat, u ≤ 2 * 3 ∧ i = .int .i64 u ∧ Ow wr w.heap.size (some ⟨g, 0, none⟩) 9 cc (hU m 3 3 u) ∧ Below w.heap.size w wr) (fun i _ => 2 * 3 - (intOf i).toNat)
      case atStart => exact ⟨0, Nat.zero_le _, rfl, ho2', hb12⟩
      case round =>
        obtain ⟨u, hu, rfl, ho, hb⟩ := hrel
        by_cases hlt : u < 2 * 3
        · have hltI : (u : Int) < 2 * 3 := (by omega); have hgr := ho.own_hi g rfl
          have hat : Hid (∀ j, j < 3 → ∃ q : Nat, lineAt 3 u j = (q : Int) ∧ q < 9) := Lib.hid (fun j hj => by
            by_cases hx : (u : Int) < 3
            · rw [lineAt_row hx]; exact ⟨u * 3 + j, by omega, by omega⟩
            · rw [lineAt_col hx]
              exact ⟨j * 3 + u - 3, by omega, by omega⟩)
          have hsw := hb.size
          have HLc : Hid (Calls Tryz.prog 156 #[.int .i64 3, .int .i64 u] wr fun e w'' => ∃ g3 c3, e = .returned (.slice (some ⟨g3, 0, none⟩) 3 c3) ∧ Ow w'' wr.heap.size (some ⟨g3, 0, none⟩) 3 c3 (lineTo 3 u 3) ∧ Below wr.heap.size wr w'') := Lib.hid ((specLineCells 3 u wr ⟨by omega, by omega⟩).mono (by
            rintro e w'' ⟨A3, c3, rfl, ho3, hb3⟩
            have e1 : lineL 3 u = lineTo 3 u 3 := by
              have : lineOk 3 u = true := (by simp [lineOk, inr]; omega)
              simp [lineL, this]
            rw [e1, lineTo_length] at ho3; rw [e1, lineTo_length]; obtain ⟨g3, rfl, _, _⟩ := ho3.form (by omega)
            exact ⟨g3, c3, rfl, ho3, hb3⟩))
          go_wp2_with (go_at_call 156; refine HLc.out.mono ?_; rintro e w3 ⟨g3, c3, rfl, ho3, hb3⟩)
          have hg3 := ho3.own_lo g3 rfl; have hoA := ho.below hb3; have hbA := hb.trans (hb3.mono hsw)
          go_loopw [8] (fun i wr => ∃ r : Nat, r ≤ 3 ∧ i = .int .i64 ((r : Int) + 1) ∧ Ow wr w.heap.size (some ⟨g, 0, none⟩) 9 cc (hVs m 3 3 u (hU m 3 3 u) r) ∧ Ow wr (g + 1) (some ⟨g3, 0, none⟩) 3 c3 (lineTo 3 u 3) ∧ Below w.heap.size w wr) (fun i _ => 3 + 1 - (intOf i).toNat)
          case atStart => exact ⟨0, Nat.zero_le _, by simp, hoA, ho3.mono (by omega), hbA⟩
          case round =>
            clear ho3 hoA hbA hb3 ho hb hsw HLc; obtain ⟨r, hr, rfl, ho, ho3, hb⟩ := hrel
            by_cases hrT : r < 3
            · have hrI : (r : Int) + 1 ≤ 3 := (by omega); have hmr := (h.below (hb.mono hB'))
              go_wp2
              obtain ⟨WR, hWR⟩ : ∃ WR, WR = wr := ⟨_, rfl⟩; rw [← hWR]; rw [← hWR] at ho ho3 hb hmr; clear hWR
              go_loopw [9, 10, 11] (fun cn la i wr => wr = WR ∧ ∃ k : Nat, k ≤ 3 ∧ i = .int .i64 k ∧ cn = .int .i64 (hC m 3 u (r + 1) k : Nat) ∧ la = .int .i64 (hL m 3 u (r + 1) k : Nat)) (fun _ _ i _ => 3 - (intOf i).toNat)
              case atStart => exact ⟨rfl, 0, Nat.zero_le _, rfl, rfl, rfl⟩
              case round =>
                obtain ⟨rfl, k, hk, rfl, rfl, rfl⟩ := hrel
                by_cases hkT : k < 3
                · have hkI : (k : Int) < 3 := (by omega); obtain ⟨q, hq, hqn⟩ := hat.out k hkT; obtain ⟨hc3, _⟩ := ho3.cell hkT; rw [show nth (lineTo 3 u 3) k = (q : Int) by rw [← hq]; simp [lineTo, nth, List.getD_eq_getElem?_getD, hkT]] at hc3; obtain ⟨b, off, hA, hbB, hck⟩ := hmr.at_ hqn; subst hA; obtain ⟨M, hM⟩ := Int.eq_ofNat_of_zero_le (Hrng.out q hqn); rw [hM] at hck; have hsh := shr_bit M (r + 1); have hcl := hC_le m 3 u (r + 1) k; have hbit : hB m 3 u (r + 1) k = M.testBit (r + 1) := (by simp only [hB, hq, Int.toNat_natCast]; rw [hM]; simp); cases hh : M.testBit (r + 1)
                  · rw [hh] at hsh hbit; have H1 := Lib.hid (show hC m 3 u (r + 1) (k + 1) = hC m 3 u (r + 1) k by simp [hC, hbit]); have H2 := Lib.hid (show hL m 3 u (r + 1) (k + 1) = hL m 3 u (r + 1) k by simp [hL, hbit]); clear hh hbit hM hq
                    go_wp2
                    go_roundw
                    case rel => exact ⟨by trivial, k + 1, by omega, by go_num, by rw [H1.out], by rw [H2.out]⟩
                    case measure => simp [intOf]; omega
                  · rw [hh] at hsh hbit; have H1 := Lib.hid (show hC m 3 u (r + 1) (k + 1) = hC m 3 u (r + 1) k + 1 by simp [hC, hbit]); have H2 := Lib.hid (show hL m 3 u (r + 1) (k + 1) = q by simp [hL, hbit, hq]); clear hh hbit hM hq
                    go_wp2
                    go_roundw
                    case rel => exact ⟨by trivial, k + 1, by omega, by go_num, by rw [H1.out]; simp, by rw [H2.out]⟩
                    case measure => simp [intOf]; omega
                · obtain rfl : k = 3 := by omega
                  obtain ⟨q, hq⟩ : ∃ q, hC m 3 u (r + 1) 3 = q := ⟨_, rfl⟩; obtain ⟨l, hl⟩ : ∃ l, hL m 3 u (r + 1) 3 = l := ⟨_, rfl⟩
                  have hln : l < 9 := by
                    rw [← hl]; exact hL_lt (fun j hj => by obtain ⟨q, hq, hqn⟩ := hat.out j hj; rw [hq]; simpa using hqn) (by omega)
                  have Hq := Lib.hid hq; have Hl := Lib.hid hl; rw [hq, hl]; clear hq hl
                  by_cases h1 : q = 1
                  · have H3 := Lib.hid (show hVs m 3 3 u (hU m 3 3 u) (r + 1) = (hVs m 3 3 u (hU m 3 3 u) r).set l (bits .and .i64 (nth (hVs m 3 3 u (hU m 3 3 u) r) l) (2 ^ (r + 1))) by simp only [hVs]; rw [Hq.out, Hl.out, if_pos h1]); have h1I : ((q : Int) == 1) = true := (by simp [h1]); clear h1; obtain ⟨hcell, hfr⟩ := ho.cell hln; have hput := Lib.hid (ho.putN l (bits .and .i64 (nth (hVs m 3 3 u (hU m 3 3 u) r) l) (2 ^ (r + 1)))); have ho3p := Lib.hid (ho3.far (row := some g) (grown_set (w := wr) (G := g) (i := l) (v := .int .i64 (bits .and .i64 (nth (hVs m 3 3 u (hU m 3 3 u) r) l) (2 ^ (r + 1))))) (fun b hb e => by have := ho3.own_lo b hb; injection e with e; omega))
                    have hw2 : wrap64 ((2 : Int) ^ (r + 1)) = 2 ^ (r + 1) := pow_wrap5 (by omega)
                    go_wp2
                    go_region
                    go_wp2
                    go_roundw
                    case rel => exact ⟨r + 1, by omega, by go_num, by rw [H3.out]; exact hput.out, ho3p.out, below_drewN (Below.setCell (p := (⟨g, l, none⟩ : Addr)) hb hgl _) 1⟩
                    case measure => simp [intOf]; omega
                  · have H3 := Lib.hid (show hVs m 3 3 u (hU m 3 3 u) (r + 1) = hVs m 3 3 u (hU m 3 3 u) r by simp only [hVs]; rw [Hq.out, if_neg h1]); have h1I : ((q : Int) == 1) = false := (by simp; omega); clear h1
                    go_wp2
                    go_roundw
                    case rel => exact ⟨r + 1, by omega, by go_num, by rw [H3.out]; exact ho, ho3, hb⟩
                    case measure => simp [intOf]; omega
            · obtain rfl : r = 3 := by omega
              go_wp2
              go_roundw
              case rel => exact ⟨u + 1, by omega, by go_num, ho, hb⟩
              case measure => simp [intOf]; omega
        · obtain rfl : u = 2 * 3 := by omega
          go_wp2
          go_ret
          rw [HL.out]; have hnl := Lib.hid (hU_len m 3 3 (2 * 3)); exact ⟨_, _, by rw [hnl.out, hlen.out]; rfl, by rw [hnl.out, hlen.out]; exact ho, hb⟩
    · obtain rfl : n = 16 := by omega
      have HL := Lib.hid (show nhL m 4 = hU m 4 4 (2 * 4) by simp [nhL, hv]); have Hv := Lib.hid hv; clear hv
      go_enter Tryz.func119, Tryz.ntmps119
      go_wp2_with (first
        | (go_at_call 30; refine HV.out.mono ?_; rintro e w1 ⟨rfl, hb1⟩; rw [Hv.out])
        | (go_at_call 68; refine (HCp.out _ hb1).mono ?_; rintro e w2 ⟨Ac, cc, rfl, ho2, hb2⟩))
      have hb12 := step hb1 hb2; have ho2' := ho2.mono hb1.size; obtain ⟨g, rfl, hgl, hgw⟩ := ho2'.form (by omega)
      go_loopw [6] (fun i wr => ∃ u : Nat, u ≤ 2 * 4 ∧ i = .int .i64 u ∧ Ow wr w.heap.size (some ⟨g, 0, none⟩) 16 cc (hU m 4 4 u) ∧ Below w.heap.size w wr) (fun i _ => 2 * 4 - (intOf i).toNat)
      case atStart => exact ⟨0, Nat.zero_le _, rfl, ho2', hb12⟩
      case round =>
        obtain ⟨u, hu, rfl, ho, hb⟩ := hrel
        by_cases hlt : u < 2 * 4
        · have hltI : (u : Int) < 2 * 4 := (by omega); have hgr := ho.own_hi g rfl
          have hat : Hid (∀ j, j < 4 → ∃ q : Nat, lineAt 4 u j = (q : Int) ∧ q < 16) := Lib.hid (fun j hj => by
            by_cases hx : (u : Int) < 4
            · rw [lineAt_row hx]; exact ⟨u * 4 + j, by omega, by omega⟩
            · rw [lineAt_col hx]
              exact ⟨j * 4 + u - 4, by omega, by omega⟩)
          have hsw := hb.size
          have HLc : Hid (Calls Tryz.prog 156 #[.int .i64 4, .int .i64 u] wr fun e w'' => ∃ g3 c3, e = .returned (.slice (some ⟨g3, 0, none⟩) 4 c3) ∧ Ow w'' wr.heap.size (some ⟨g3, 0, none⟩) 4 c3 (lineTo 4 u 4) ∧ Below wr.heap.size wr w'') := Lib.hid ((specLineCells 4 u wr ⟨by omega, by omega⟩).mono (by
            rintro e w'' ⟨A3, c3, rfl, ho3, hb3⟩
            have e1 : lineL 4 u = lineTo 4 u 4 := by
              have : lineOk 4 u = true := (by simp [lineOk, inr]; omega)
              simp [lineL, this]
            rw [e1, lineTo_length] at ho3; rw [e1, lineTo_length]; obtain ⟨g3, rfl, _, _⟩ := ho3.form (by omega)
            exact ⟨g3, c3, rfl, ho3, hb3⟩))
          go_wp2_with (go_at_call 156; refine HLc.out.mono ?_; rintro e w3 ⟨g3, c3, rfl, ho3, hb3⟩)
          have hg3 := ho3.own_lo g3 rfl; have hoA := ho.below hb3; have hbA := hb.trans (hb3.mono hsw)
          go_loopw [8] (fun i wr => ∃ r : Nat, r ≤ 4 ∧ i = .int .i64 ((r : Int) + 1) ∧ Ow wr w.heap.size (some ⟨g, 0, none⟩) 16 cc (hVs m 4 4 u (hU m 4 4 u) r) ∧ Ow wr (g + 1) (some ⟨g3, 0, none⟩) 4 c3 (lineTo 4 u 4) ∧ Below w.heap.size w wr) (fun i _ => 4 + 1 - (intOf i).toNat)
          case atStart => exact ⟨0, Nat.zero_le _, by simp, hoA, ho3.mono (by omega), hbA⟩
          case round =>
            clear ho3 hoA hbA hb3 ho hb hsw HLc; obtain ⟨r, hr, rfl, ho, ho3, hb⟩ := hrel
            by_cases hrT : r < 4
            · have hrI : (r : Int) + 1 ≤ 4 := (by omega); have hmr := (h.below (hb.mono hB'))
              go_wp2
              obtain ⟨WR, hWR⟩ : ∃ WR, WR = wr := ⟨_, rfl⟩; rw [← hWR]; rw [← hWR] at ho ho3 hb hmr; clear hWR
              go_loopw [9, 10, 11] (fun cn la i wr => wr = WR ∧ ∃ k : Nat, k ≤ 4 ∧ i = .int .i64 k ∧ cn = .int .i64 (hC m 4 u (r + 1) k : Nat) ∧ la = .int .i64 (hL m 4 u (r + 1) k : Nat)) (fun _ _ i _ => 4 - (intOf i).toNat)
              case atStart => exact ⟨rfl, 0, Nat.zero_le _, rfl, rfl, rfl⟩
              case round =>
                obtain ⟨rfl, k, hk, rfl, rfl, rfl⟩ := hrel
                by_cases hkT : k < 4
                · have hkI : (k : Int) < 4 := (by omega); obtain ⟨q, hq, hqn⟩ := hat.out k hkT; obtain ⟨hc3, _⟩ := ho3.cell hkT; rw [show nth (lineTo 4 u 4) k = (q : Int) by rw [← hq]; simp [lineTo, nth, List.getD_eq_getElem?_getD, hkT]] at hc3; obtain ⟨b, off, hA, hbB, hck⟩ := hmr.at_ hqn; subst hA; obtain ⟨M, hM⟩ := Int.eq_ofNat_of_zero_le (Hrng.out q hqn); rw [hM] at hck; have hsh := shr_bit M (r + 1); have hcl := hC_le m 4 u (r + 1) k; have hbit : hB m 4 u (r + 1) k = M.testBit (r + 1) := (by simp only [hB, hq, Int.toNat_natCast]; rw [hM]; simp); cases hh : M.testBit (r + 1)
                  · rw [hh] at hsh hbit; have H1 := Lib.hid (show hC m 4 u (r + 1) (k + 1) = hC m 4 u (r + 1) k by simp [hC, hbit]); have H2 := Lib.hid (show hL m 4 u (r + 1) (k + 1) = hL m 4 u (r + 1) k by simp [hL, hbit]); clear hh hbit hM hq
                    go_wp2
                    go_roundw
                    case rel => exact ⟨by trivial, k + 1, by omega, by go_num, by rw [H1.out], by rw [H2.out]⟩
                    case measure => simp [intOf]; omega
                  · rw [hh] at hsh hbit; have H1 := Lib.hid (show hC m 4 u (r + 1) (k + 1) = hC m 4 u (r + 1) k + 1 by simp [hC, hbit]); have H2 := Lib.hid (show hL m 4 u (r + 1) (k + 1) = q by simp [hL, hbit, hq]); clear hh hbit hM hq
                    go_wp2
                    go_roundw
                    case rel => exact ⟨by trivial, k + 1, by omega, by go_num, by rw [H1.out]; simp, by rw [H2.out]⟩
                    case measure => simp [intOf]; omega
                · obtain rfl : k = 4 := by omega
                  obtain ⟨q, hq⟩ : ∃ q, hC m 4 u (r + 1) 4 = q := ⟨_, rfl⟩; obtain ⟨l, hl⟩ : ∃ l, hL m 4 u (r + 1) 4 = l := ⟨_, rfl⟩
                  have hln : l < 16 := by
                    rw [← hl]; exact hL_lt (fun j hj => by obtain ⟨q, hq, hqn⟩ := hat.out j hj; rw [hq]; simpa using hqn) (by omega)
                  have Hq := Lib.hid hq; have Hl := Lib.hid hl; rw [hq, hl]; clear hq hl
                  by_cases h1 : q = 1
                  · have H3 := Lib.hid (show hVs m 4 4 u (hU m 4 4 u) (r + 1) = (hVs m 4 4 u (hU m 4 4 u) r).set l (bits .and .i64 (nth (hVs m 4 4 u (hU m 4 4 u) r) l) (2 ^ (r + 1))) by simp only [hVs]; rw [Hq.out, Hl.out, if_pos h1]); have h1I : ((q : Int) == 1) = true := (by simp [h1]); clear h1; obtain ⟨hcell, hfr⟩ := ho.cell hln; have hput := Lib.hid (ho.putN l (bits .and .i64 (nth (hVs m 4 4 u (hU m 4 4 u) r) l) (2 ^ (r + 1)))); have ho3p := Lib.hid (ho3.far (row := some g) (grown_set (w := wr) (G := g) (i := l) (v := .int .i64 (bits .and .i64 (nth (hVs m 4 4 u (hU m 4 4 u) r) l) (2 ^ (r + 1))))) (fun b hb e => by have := ho3.own_lo b hb; injection e with e; omega))
                    have hw2 : wrap64 ((2 : Int) ^ (r + 1)) = 2 ^ (r + 1) := pow_wrap5 (by omega)
                    go_wp2
                    go_region
                    go_wp2
                    go_roundw
                    case rel => exact ⟨r + 1, by omega, by go_num, by rw [H3.out]; exact hput.out, ho3p.out, below_drewN (Below.setCell (p := (⟨g, l, none⟩ : Addr)) hb hgl _) 1⟩
                    case measure => simp [intOf]; omega
                  · have H3 := Lib.hid (show hVs m 4 4 u (hU m 4 4 u) (r + 1) = hVs m 4 4 u (hU m 4 4 u) r by simp only [hVs]; rw [Hq.out, if_neg h1]); have h1I : ((q : Int) == 1) = false := (by simp; omega); clear h1
                    go_wp2
                    go_roundw
                    case rel => exact ⟨r + 1, by omega, by go_num, by rw [H3.out]; exact ho, ho3, hb⟩
                    case measure => simp [intOf]; omega
            · obtain rfl : r = 4 := by omega
              go_wp2
              go_roundw
              case rel => exact ⟨u + 1, by omega, by go_num, ho, hb⟩
              case measure => simp [intOf]; omega
        · obtain rfl : u = 2 * 4 := by omega
          go_wp2
          go_ret
          rw [HL.out]; have hnl := Lib.hid (hU_len m 4 4 (2 * 4)); exact ⟨_, _, by rw [hnl.out, hlen.out]; rfl, by rw [hnl.out, hlen.out]; exact ho, hb⟩
end Go.Proofs.YtcjdjcpappfkgaaGreatDoor
