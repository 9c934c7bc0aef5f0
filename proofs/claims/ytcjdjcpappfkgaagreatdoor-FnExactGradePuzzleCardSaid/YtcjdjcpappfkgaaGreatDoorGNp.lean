import Derived.Test.YtcjdjcpappfkgaaGreatDoorGNh
namespace Go.Proofs.YtcjdjcpappfkgaaGreatDoor
open Go.ChangeShapes Go.WideShapes Go.ChangeAt Go.RowKit
def lcN (S u : Int) (k : Nat) : Nat := (lineAt S u k).toNat
def pIn (m : List Int) (S u : Int) (a b : Nat) (o : List Int) : Nat → List Int
  | 0 => o
  | k + 1 => if k ≠ a ∧ k ≠ b then (pIn m S u a b o k).set (lcN S u k) (bits .andNot .i64 (nth (pIn m S u a b o k) (lcN S u k)) (nth m (lcN S u a))) else pIn m S u a b o k
def pB (m : List Int) (S : Int) (N : Nat) (u : Int) (a : Nat) (o : List Int) : Nat → List Int
  | 0 => o
  | b + 1 => if nth m (lcN S u a) = nth m (lcN S u b) ∧ (maskVals (nth m (lcN S u a))).length = 2 then pIn m S u a b (pB m S N u a o b) N else pB m S N u a o b
def pA (m : List Int) (S : Int) (N : Nat) (u : Int) (o : List Int) : Nat → List Int
  | 0 => o
  | a + 1 => pB m S N u a (pA m S N u o a) a
def pU (m : List Int) (S : Int) (N : Nat) : Nat → List Int
  | 0 => m
  | u + 1 => pA m S N u (pU m S N u) N
def npL (m : List Int) (S : Int) : List Int := if mvd m S = true then pU m S S.toNat (2 * S.toNat) else []
theorem pIn_len (m : List Int) (S u : Int) (a b : Nat) (o : List Int) (k : Nat) : (pIn m S u a b o k).length = o.length := by
  induction k with
  | zero => rfl
  | succ k ih =>
    simp only [pIn]
    split
    · rw [List.length_set, ih]
    · exact ih
theorem pB_len (m : List Int) (S : Int) (N : Nat) (u : Int) (a : Nat) (o : List Int) (b : Nat) : (pB m S N u a o b).length = o.length := by
  induction b with
  | zero => rfl
  | succ b ih =>
    simp only [pB]
    split
    · rw [pIn_len, ih]
    · exact ih
theorem pA_len (m : List Int) (S : Int) (N : Nat) (u : Int) (o : List Int) (a : Nat) : (pA m S N u o a).length = o.length := by
  induction a with
  | zero => rfl
  | succ a ih => simp only [pA]; rw [pB_len, ih]
theorem pU_len (m : List Int) (S : Int) (N u : Nat) : (pU m S N u).length = m.length := by
  induction u with
  | zero => rfl
  | succ u ih => simp only [pU]; rw [pA_len, ih]
set_option maxRecDepth 8000 in
set_option maxHeartbeats 8000000 in
theorem specNarrowPairs (A : Option Addr) (c n B : Nat) (m : List Int) (s : Int) (w : World) (h : Rd w B A n m) (hB' : B ≤ w.heap.size) (hm : n ≤ 1099511627776) (hsb : -9223372036854775808 ≤ s ∧ s ≤ 9223372036854775807) :
    Calls Tryz.prog 120 #[.slice A n c, .int .i64 s] w (RetSl w (npL m s)) := by
  have hlen := Lib.hid h.1; have HV := Lib.hid (specMasksValid A c n B m s w h hB' hm hsb); cases hv : mvd m s
  · have HL := Lib.hid (show npL m s = [] by simp [npL, hv])
    go_enter Tryz.func120, Tryz.ntmps120
    go_wp2_with (go_at_call 30; refine HV.out.mono ?_; rintro e w1 ⟨rfl, hb1⟩; rw [hv])
    go_ret
    rw [HL.out]; exact ⟨_, _, rfl, Ow.made0 _ _ hb1.size, hb1.alloc hb1.size _⟩
  · obtain ⟨⟨h2, h4⟩, hsq, hn16, hrng⟩ := mvd_at hv; rw [hlen.out] at hsq hn16 hrng
    have hs3 : s = 2 ∨ s = 3 ∨ s = 4 := by omega
    clear h2 h4; have HCp := Lib.hid (fun w' (hb : Below w.heap.size w w') => specL6Copy A n c B m w' (h.below (hb.mono hB')) (Nat.le_trans hB' hb.size) hm); have Hrng := Lib.hid (mvd_b64' hv); clear hrng
    rcases hs3 with rfl | rfl | rfl
    · obtain rfl : n = 4 := by omega
      have HL := Lib.hid (show npL m 2 = pU m 2 2 (2 * 2) by simp [npL, hv]); have Hv := Lib.hid hv; clear hv
      go_enter Tryz.func120, Tryz.ntmps120
      go_wp2_with (first
        | (go_at_call 30; refine HV.out.mono ?_; rintro e w1 ⟨rfl, hb1⟩; rw [Hv.out])
        | (go_at_call 68; refine (HCp.out _ hb1).mono ?_; rintro e w2 ⟨Ac, cc, rfl, ho2, hb2⟩))
      have hb12 := step hb1 hb2; have ho2' := ho2.mono hb1.size; obtain ⟨g, rfl, hgl, hgw⟩ := ho2'.form (by omega)
      go_loopw [6] (fun i wr => ∃ u : Nat, u ≤ 2 * 2 ∧ i = .int .i64 u ∧ Ow wr w.heap.size (some ⟨g, 0, none⟩) 4 cc (pU m 2 2 u) ∧ Below w.heap.size w wr) (fun i _ => 2 * 2 - (intOf i).toNat)
      case atStart => exact ⟨0, Nat.zero_le _, rfl, ho2', hb12⟩
      case round =>
        obtain ⟨u, hu, rfl, ho, hb⟩ := hrel
        by_cases hlt : u < 2 * 2
        · have hltI : (u : Int) < 2 * 2 := (by omega); have hgr := ho.own_hi g rfl
          have hat : Hid (∀ j, j < 2 → ∃ q : Nat, lineAt 2 u j = (q : Int) ∧ q < 4) := Lib.hid (fun j hj => by
            by_cases hx : (u : Int) < 2
            · rw [lineAt_row hx]; exact ⟨u * 2 + j, by omega, by omega⟩
            · rw [lineAt_col hx]
              exact ⟨j * 2 + u - 2, by omega, by omega⟩)
          have hsw := hb.size
          have HLc : Hid (Calls Tryz.prog 156 #[.int .i64 2, .int .i64 u] wr fun e w'' => ∃ g3 c3, e = .returned (.slice (some ⟨g3, 0, none⟩) 2 c3) ∧ Ow w'' wr.heap.size (some ⟨g3, 0, none⟩) 2 c3 (lineTo 2 u 2) ∧ Below wr.heap.size wr w'') := Lib.hid ((specLineCells 2 u wr ⟨by omega, by omega⟩).mono (by
            rintro e w'' ⟨A3, c3, rfl, ho3, hb3⟩
            have e1 : lineL 2 u = lineTo 2 u 2 := by
              have : lineOk 2 u = true := (by simp [lineOk, inr]; omega)
              simp [lineL, this]
            rw [e1, lineTo_length] at ho3; rw [e1, lineTo_length]; obtain ⟨g3, rfl, _, _⟩ := ho3.form (by omega)
            exact ⟨g3, c3, rfl, ho3, hb3⟩))
          go_wp2_with (go_at_call 156; refine HLc.out.mono ?_; rintro e w3 ⟨g3, c3, rfl, ho3, hb3⟩)
          have hg3 := ho3.own_lo g3 rfl; have hoA := ho.below hb3; have hbA := hb.trans (hb3.mono hsw)
          go_loopw [8] (fun i wr => ∃ a : Nat, a ≤ 2 ∧ i = .int .i64 a ∧ Ow wr w.heap.size (some ⟨g, 0, none⟩) 4 cc (pA m 2 2 u (pU m 2 2 u) a) ∧ Ow wr (g + 1) (some ⟨g3, 0, none⟩) 2 c3 (lineTo 2 u 2) ∧ Below w.heap.size w wr) (fun i _ => 2 - (intOf i).toNat)
          case atStart => exact ⟨0, Nat.zero_le _, rfl, hoA, ho3.mono (by omega), hbA⟩
          case round =>
            clear ho3 hoA hbA hb3 ho hb hsw HLc; obtain ⟨a, ha, rfl, ho, ho3, hb⟩ := hrel
            by_cases haT : a < 2
            · have haI : (a : Int) < 2 := (by omega); obtain ⟨qa, hqa, hqan⟩ := hat.out a haT; have Hqa := Lib.hid (show lcN 2 u a = qa by simp [lcN, hqa])
              go_wp2
              go_loopw [9] (fun i wr => ∃ b : Nat, b ≤ a ∧ i = .int .i64 b ∧ Ow wr w.heap.size (some ⟨g, 0, none⟩) 4 cc (pB m 2 2 u a (pA m 2 2 u (pU m 2 2 u) a) b) ∧ Ow wr (g + 1) (some ⟨g3, 0, none⟩) 2 c3 (lineTo 2 u 2) ∧ Below w.heap.size w wr) (fun i _ => a - (intOf i).toNat)
              case atStart => exact ⟨0, Nat.zero_le _, rfl, ho, ho3, hb⟩
              case round =>
                clear ho ho3 hb; obtain ⟨b, hb', rfl, ho, ho3, hb⟩ := hrel
                by_cases hba : b < a
                · have hbI : (b : Int) < (a : Int) := (by omega); obtain ⟨qb, hqb, hqbn⟩ := hat.out b (by omega); have Hqb := Lib.hid (show lcN 2 u b = qb by simp [lcN, hqb]); obtain ⟨hca, _⟩ := ho3.cell haT; obtain ⟨hcb, _⟩ := ho3.cell (show b < 2 by omega); rw [show nth (lineTo 2 u 2) a = (qa : Int) by rw [← hqa]; simp [lineTo, nth, List.getD_eq_getElem?_getD, haT]] at hca; rw [show nth (lineTo 2 u 2) b = (qb : Int) by rw [← hqb]; simp [lineTo, nth, List.getD_eq_getElem?_getD, (show b < 2 by omega)]] at hcb; obtain ⟨bb, off, hA, hbB, hck⟩ := (h.below (hb.mono hB')).at_ hqan; subst hA; obtain ⟨bb2, off2, hA2, _, hck2⟩ := (h.below (hb.mono hB')).at_ hqbn
                  cases hA2; have hsw := hb.size; have hgw3 := ho3.own_hi g3 rfl; have hbbw : bb < wr.heap.size := (by omega); have hE1 : Hid (pB m 2 2 u a (pA m 2 2 u (pU m 2 2 u) a) (b + 1) = if nth m qa = nth m qb ∧ (maskVals (nth m qa)).length = 2 then pIn m 2 u a b (pB m 2 2 u a (pA m 2 2 u (pU m 2 2 u) a) b) 2 else pB m 2 2 u a (pA m 2 2 u (pU m 2 2 u) a) b) := Lib.hid (by simp only [pB]; rw [Hqa.out, Hqb.out])
                  by_cases h1 : nth m qa = nth m qb
                  · have h1I : (nth m qa != nth m qb) = false := (by simp [h1]); obtain ⟨q, hq⟩ : ∃ q, q = (maskVals (nth m qa)).length := ⟨_, rfl⟩; have Hq := Lib.hid hq; have HMv2 : Hid (Calls Tryz.prog 127 #[.int .i64 (nth m qa)] wr fun e w'' => ∃ A5 c5, e = .returned (.slice A5 q c5) ∧ Below wr.heap.size wr w'') := Lib.hid ((specMaskValues (nth m qa) wr (Hrng.out qa)).mono (by rintro e w'' ⟨A5, c5, rfl, _, hb5⟩; exact ⟨A5, c5, by rw [hq], hb5⟩)); have He1 := Lib.hid h1; clear hq h1
                    by_cases h2 : q = 2
                    · have h2I : ((q : Int) != 2) = false := (by simp [h2]); have Hs := Lib.hid (show pB m 2 2 u a (pA m 2 2 u (pU m 2 2 u) a) (b + 1) = pIn m 2 u a b (pB m 2 2 u a (pA m 2 2 u (pU m 2 2 u) a) b) 2 by rw [hE1.out, if_pos ⟨He1.out, by rw [← Hq.out]; exact h2⟩]); clear h2
                      go_wp2_with (go_at_call 127; refine HMv2.out.mono ?_; rintro e w5 ⟨A5, c5, rfl, hb5⟩)
                      have hoS := ho.below hb5; have ho3S := ho3.below hb5; have hbS := hb.trans (hb5.mono hsw)
                      go_loopw [11] (fun i wr => ∃ k : Nat, k ≤ 2 ∧ i = .int .i64 k ∧ Ow wr w.heap.size (some ⟨g, 0, none⟩) 4 cc (pIn m 2 u a b (pB m 2 2 u a (pA m 2 2 u (pU m 2 2 u) a) b) k) ∧ Ow wr (g + 1) (some ⟨g3, 0, none⟩) 2 c3 (lineTo 2 u 2) ∧ Below w.heap.size w wr) (fun i _ => 2 - (intOf i).toNat)
                      case atStart => exact ⟨0, Nat.zero_le _, rfl, hoS, ho3S, hbS⟩
                      case round =>
                        clear ho ho3 hb hoS ho3S hbS hca hcb hck hck2 hsw hgw3 hbbw HMv2 hb5; obtain ⟨k, hk, rfl, ho, ho3, hb⟩ := hrel
                        by_cases hkT : k < 2
                        · have hkI : (k : Int) < 2 := (by omega); obtain ⟨qk, hqk, hqkn⟩ := hat.out k hkT; have Hqk := Lib.hid (show lcN 2 u k = qk by simp [lcN, hqk]); have hE2 : Hid (pIn m 2 u a b (pB m 2 2 u a (pA m 2 2 u (pU m 2 2 u) a) b) (k + 1) = if k ≠ a ∧ k ≠ b then (pIn m 2 u a b (pB m 2 2 u a (pA m 2 2 u (pU m 2 2 u) a) b) k).set qk (bits .andNot .i64 (nth (pIn m 2 u a b (pB m 2 2 u a (pA m 2 2 u (pU m 2 2 u) a) b) k) qk) (nth m qa)) else pIn m 2 u a b (pB m 2 2 u a (pA m 2 2 u (pU m 2 2 u) a) b) k) := Lib.hid (by simp only [pIn]; rw [Hqa.out, Hqk.out])
                          by_cases e1 : k = a
                          · have f1 : ((k : Int) != (a : Int)) = false := (by simp [e1]); have Hk := Lib.hid (hE2.out.trans (if_neg (fun e => e.1 e1))); clear e1
                            go_wp2
                            go_roundw
                            case rel => exact ⟨k + 1, by omega, by go_num, by rw [Hk.out]; exact ho, ho3, hb⟩
                            case measure => simp [intOf]; omega
                          · have f1 : ((k : Int) != (a : Int)) = true := (by simp; omega)
                            by_cases e2 : k = b
                            · have f2 : ((k : Int) != (b : Int)) = false := (by simp [e2]); have Hk := Lib.hid (hE2.out.trans (if_neg (fun e => e.2 e2))); clear e1 e2
                              go_wp2
                              go_roundw
                              case rel => exact ⟨k + 1, by omega, by go_num, by rw [Hk.out]; exact ho, ho3, hb⟩
                              case measure => simp [intOf]; omega
                            · have f2 : ((k : Int) != (b : Int)) = true := (by simp; omega); have Hk := Lib.hid (hE2.out.trans (if_pos ⟨e1, e2⟩)); clear e1 e2; obtain ⟨hck, _⟩ := ho3.cell hkT; rw [show nth (lineTo 2 u 2) k = (qk : Int) by rw [← hqk]; simp [lineTo, nth, List.getD_eq_getElem?_getD, hkT]] at hck; obtain ⟨hcell, hfr⟩ := ho.cell hqkn; have hput := Lib.hid (ho.putN qk (bits .andNot .i64 (nth (pIn m 2 u a b (pB m 2 2 u a (pA m 2 2 u (pU m 2 2 u) a) b) k) qk) (nth m qa))); have ho3p := Lib.hid (ho3.far (row := some g) (grown_set (w := wr) (G := g) (i := qk) (v := .int .i64 (bits .andNot .i64 (nth (pIn m 2 u a b (pB m 2 2 u a (pA m 2 2 u (pU m 2 2 u) a) b) k) qk) (nth m qa)))) (fun b hb e => by have := ho3.own_lo b hb; injection e with e; omega))
                              go_wp2
                              go_region
                              go_wp2
                              go_roundw
                              case rel => exact ⟨k + 1, by omega, by go_num, by rw [Hk.out]; exact hput.out, ho3p.out, below_drewN (Below.setCell (p := (⟨g, qk, none⟩ : Addr)) hb hgl _) 1⟩
                              case measure => simp [intOf]; omega
                        · obtain rfl : k = 2 := by omega
                          go_wp2
                          go_roundw
                          case rel => exact ⟨b + 1, by omega, by go_num, by rw [Hs.out]; exact ho, ho3, hb⟩
                          case measure => simp [intOf]; omega
                    · have h2I : ((q : Int) != 2) = true := (by simp; omega); have Hs := Lib.hid (show pB m 2 2 u a (pA m 2 2 u (pU m 2 2 u) a) (b + 1) = pB m 2 2 u a (pA m 2 2 u (pU m 2 2 u) a) b by rw [hE1.out, if_neg (fun e => h2 (by rw [Hq.out]; exact e.2))]); clear h2
                      go_wp2_with (go_at_call 127; refine HMv2.out.mono ?_; rintro e w5 ⟨A5, c5, rfl, hb5⟩)
                      go_roundw
                      case rel => exact ⟨b + 1, by omega, by go_num, by rw [Hs.out]; exact ho.below hb5, ho3.below hb5, hb.trans (hb5.mono hsw)⟩
                      case measure => simp [intOf]; omega
                  · have h1I : (nth m qa != nth m qb) = true := (by simp; exact h1); have Hs := Lib.hid (show pB m 2 2 u a (pA m 2 2 u (pU m 2 2 u) a) (b + 1) = pB m 2 2 u a (pA m 2 2 u (pU m 2 2 u) a) b by rw [hE1.out, if_neg (fun e => h1 e.1)]); clear h1
                    go_wp2
                    go_roundw
                    case rel => exact ⟨b + 1, by omega, by go_num, by rw [Hs.out]; exact ho, ho3, hb⟩
                    case measure => simp [intOf]; omega
                · obtain rfl : b = a := by omega
                  go_wp2
                  go_roundw
                  case rel => exact ⟨b + 1, by omega, by go_num, ho, ho3, hb⟩
                  case measure => simp [intOf]; omega
            · have haT' : a = 2 := (by omega); have haI : ¬ (a : Int) < 2 := (by omega); have Ho : Hid (Ow wr w.heap.size (some ⟨g, 0, none⟩) 4 cc (pU m 2 2 (u + 1))) := Lib.hid (by subst haT'; exact ho); clear ho haT' haT ha
              go_wp2
              go_roundw
              case rel => exact ⟨u + 1, by omega, by go_num, Ho.out, hb⟩
              case measure => simp [intOf]; omega
        · obtain rfl : u = 2 * 2 := by omega
          go_wp2
          go_ret
          rw [HL.out]; have hnl := Lib.hid (pU_len m 2 2 (2 * 2)); exact ⟨_, _, by rw [hnl.out, hlen.out]; rfl, by rw [hnl.out, hlen.out]; exact ho, hb⟩
    · obtain rfl : n = 9 := by omega
      have HL := Lib.hid (show npL m 3 = pU m 3 3 (2 * 3) by simp [npL, hv]); have Hv := Lib.hid hv; clear hv
      go_enter Tryz.func120, Tryz.ntmps120
      go_wp2_with (first
        | (go_at_call 30; refine HV.out.mono ?_; rintro e w1 ⟨rfl, hb1⟩; rw [Hv.out])
        | (go_at_call 68; refine (HCp.out _ hb1).mono ?_; rintro e w2 ⟨Ac, cc, rfl, ho2, hb2⟩))
      have hb12 := step hb1 hb2; have ho2' := ho2.mono hb1.size; obtain ⟨g, rfl, hgl, hgw⟩ := ho2'.form (by omega)
      go_loopw [6] (fun i wr => ∃ u : Nat, u ≤ 2 * 3 ∧ i = .int .i64 u ∧ Ow wr w.heap.size (some ⟨g, 0, none⟩) 9 cc (pU m 3 3 u) ∧ Below w.heap.size w wr) (fun i _ => 2 * 3 - (intOf i).toNat)
      case atStart => exact ⟨0, Nat.zero_le _, rfl, ho2', hb12⟩
      case round =>
        obtain ⟨u, hu, rfl, ho, hb⟩ := hrel
        by_cases hlt : u < 2 * 3
        · have hltI : (u : Int) < 2 * 3 := (by omega); have hgr := ho.own_hi g rfl
          have hat : Hid (∀ j, j < 3 → ∃ q : Nat, lineAt 3 u j = (q : Int) ∧ q < 9) := Lib.hid (fun j hj => by
            by_cases hx : (u : Int) < 3
            · rw [lineAt_row hx]; exact ⟨u * 3 + j, by omega, by omega⟩
            · rw [lineAt_col hx]
              exact ⟨j * 3 + u - 3, by omega, by omega⟩)
          have hsw := hb.size
          have HLc : Hid (Calls Tryz.prog 156 #[.int .i64 3, .int .i64 u] wr fun e w'' => ∃ g3 c3, e = .returned (.slice (some ⟨g3, 0, none⟩) 3 c3) ∧ Ow w'' wr.heap.size (some ⟨g3, 0, none⟩) 3 c3 (lineTo 3 u 3) ∧ Below wr.heap.size wr w'') := Lib.hid ((specLineCells 3 u wr ⟨by omega, by omega⟩).mono (by
            rintro e w'' ⟨A3, c3, rfl, ho3, hb3⟩
            have e1 : lineL 3 u = lineTo 3 u 3 := by
              have : lineOk 3 u = true := (by simp [lineOk, inr]; omega)
              simp [lineL, this]
            rw [e1, lineTo_length] at ho3; rw [e1, lineTo_length]; obtain ⟨g3, rfl, _, _⟩ := ho3.form (by omega)
            exact ⟨g3, c3, rfl, ho3, hb3⟩))
          go_wp2_with (go_at_call 156; refine HLc.out.mono ?_; rintro e w3 ⟨g3, c3, rfl, ho3, hb3⟩)
          have hg3 := ho3.own_lo g3 rfl; have hoA := ho.below hb3; have hbA := hb.trans (hb3.mono hsw)
          go_loopw [8] (fun i wr => ∃ a : Nat, a ≤ 3 ∧ i = .int .i64 a ∧ Ow wr w.heap.size (some ⟨g, 0, none⟩) 9 cc (pA m 3 3 u (pU m 3 3 u) a) ∧ Ow wr (g + 1) (some ⟨g3, 0, none⟩) 3 c3 (lineTo 3 u 3) ∧ Below w.heap.size w wr) (fun i _ => 3 - (intOf i).toNat)
          case atStart => exact ⟨0, Nat.zero_le _, rfl, hoA, ho3.mono (by omega), hbA⟩
          case round =>
            clear ho3 hoA hbA hb3 ho hb hsw HLc; obtain ⟨a, ha, rfl, ho, ho3, hb⟩ := hrel
            by_cases haT : a < 3
            · have haI : (a : Int) < 3 := (by omega); obtain ⟨qa, hqa, hqan⟩ := hat.out a haT; have Hqa := Lib.hid (show lcN 3 u a = qa by simp [lcN, hqa])
              go_wp2
              go_loopw [9] (fun i wr => ∃ b : Nat, b ≤ a ∧ i = .int .i64 b ∧ Ow wr w.heap.size (some ⟨g, 0, none⟩) 9 cc (pB m 3 3 u a (pA m 3 3 u (pU m 3 3 u) a) b) ∧ Ow wr (g + 1) (some ⟨g3, 0, none⟩) 3 c3 (lineTo 3 u 3) ∧ Below w.heap.size w wr) (fun i _ => a - (intOf i).toNat)
              case atStart => exact ⟨0, Nat.zero_le _, rfl, ho, ho3, hb⟩
              case round =>
                clear ho ho3 hb; obtain ⟨b, hb', rfl, ho, ho3, hb⟩ := hrel
                by_cases hba : b < a
                · have hbI : (b : Int) < (a : Int) := (by omega); obtain ⟨qb, hqb, hqbn⟩ := hat.out b (by omega); have Hqb := Lib.hid (show lcN 3 u b = qb by simp [lcN, hqb]); obtain ⟨hca, _⟩ := ho3.cell haT; obtain ⟨hcb, _⟩ := ho3.cell (show b < 3 by omega); rw [show nth (lineTo 3 u 3) a = (qa : Int) by rw [← hqa]; simp [lineTo, nth, List.getD_eq_getElem?_getD, haT]] at hca; rw [show nth (lineTo 3 u 3) b = (qb : Int) by rw [← hqb]; simp [lineTo, nth, List.getD_eq_getElem?_getD, (show b < 3 by omega)]] at hcb; obtain ⟨bb, off, hA, hbB, hck⟩ := (h.below (hb.mono hB')).at_ hqan; subst hA; obtain ⟨bb2, off2, hA2, _, hck2⟩ := (h.below (hb.mono hB')).at_ hqbn
                  cases hA2; have hsw := hb.size; have hgw3 := ho3.own_hi g3 rfl; have hbbw : bb < wr.heap.size := (by omega); have hE1 : Hid (pB m 3 3 u a (pA m 3 3 u (pU m 3 3 u) a) (b + 1) = if nth m qa = nth m qb ∧ (maskVals (nth m qa)).length = 2 then pIn m 3 u a b (pB m 3 3 u a (pA m 3 3 u (pU m 3 3 u) a) b) 3 else pB m 3 3 u a (pA m 3 3 u (pU m 3 3 u) a) b) := Lib.hid (by simp only [pB]; rw [Hqa.out, Hqb.out])
                  by_cases h1 : nth m qa = nth m qb
                  · have h1I : (nth m qa != nth m qb) = false := (by simp [h1]); obtain ⟨q, hq⟩ : ∃ q, q = (maskVals (nth m qa)).length := ⟨_, rfl⟩; have Hq := Lib.hid hq; have HMv2 : Hid (Calls Tryz.prog 127 #[.int .i64 (nth m qa)] wr fun e w'' => ∃ A5 c5, e = .returned (.slice A5 q c5) ∧ Below wr.heap.size wr w'') := Lib.hid ((specMaskValues (nth m qa) wr (Hrng.out qa)).mono (by rintro e w'' ⟨A5, c5, rfl, _, hb5⟩; exact ⟨A5, c5, by rw [hq], hb5⟩)); have He1 := Lib.hid h1; clear hq h1
                    by_cases h2 : q = 2
                    · have h2I : ((q : Int) != 2) = false := (by simp [h2]); have Hs := Lib.hid (show pB m 3 3 u a (pA m 3 3 u (pU m 3 3 u) a) (b + 1) = pIn m 3 u a b (pB m 3 3 u a (pA m 3 3 u (pU m 3 3 u) a) b) 3 by rw [hE1.out, if_pos ⟨He1.out, by rw [← Hq.out]; exact h2⟩]); clear h2
                      go_wp2_with (go_at_call 127; refine HMv2.out.mono ?_; rintro e w5 ⟨A5, c5, rfl, hb5⟩)
                      have hoS := ho.below hb5; have ho3S := ho3.below hb5; have hbS := hb.trans (hb5.mono hsw)
                      go_loopw [11] (fun i wr => ∃ k : Nat, k ≤ 3 ∧ i = .int .i64 k ∧ Ow wr w.heap.size (some ⟨g, 0, none⟩) 9 cc (pIn m 3 u a b (pB m 3 3 u a (pA m 3 3 u (pU m 3 3 u) a) b) k) ∧ Ow wr (g + 1) (some ⟨g3, 0, none⟩) 3 c3 (lineTo 3 u 3) ∧ Below w.heap.size w wr) (fun i _ => 3 - (intOf i).toNat)
                      case atStart => exact ⟨0, Nat.zero_le _, rfl, hoS, ho3S, hbS⟩
                      case round =>
                        clear ho ho3 hb hoS ho3S hbS hca hcb hck hck2 hsw hgw3 hbbw HMv2 hb5; obtain ⟨k, hk, rfl, ho, ho3, hb⟩ := hrel
                        by_cases hkT : k < 3
                        · have hkI : (k : Int) < 3 := (by omega); obtain ⟨qk, hqk, hqkn⟩ := hat.out k hkT; have Hqk := Lib.hid (show lcN 3 u k = qk by simp [lcN, hqk]); have hE2 : Hid (pIn m 3 u a b (pB m 3 3 u a (pA m 3 3 u (pU m 3 3 u) a) b) (k + 1) = if k ≠ a ∧ k ≠ b then (pIn m 3 u a b (pB m 3 3 u a (pA m 3 3 u (pU m 3 3 u) a) b) k).set qk (bits .andNot .i64 (nth (pIn m 3 u a b (pB m 3 3 u a (pA m 3 3 u (pU m 3 3 u) a) b) k) qk) (nth m qa)) else pIn m 3 u a b (pB m 3 3 u a (pA m 3 3 u (pU m 3 3 u) a) b) k) := Lib.hid (by simp only [pIn]; rw [Hqa.out, Hqk.out])
                          by_cases e1 : k = a
                          · have f1 : ((k : Int) != (a : Int)) = false := (by simp [e1]); have Hk := Lib.hid (hE2.out.trans (if_neg (fun e => e.1 e1))); clear e1
                            go_wp2
                            go_roundw
                            case rel => exact ⟨k + 1, by omega, by go_num, by rw [Hk.out]; exact ho, ho3, hb⟩
                            case measure => simp [intOf]; omega
                          · have f1 : ((k : Int) != (a : Int)) = true := (by simp; omega)
                            by_cases e2 : k = b
                            · have f2 : ((k : Int) != (b : Int)) = false := (by simp [e2]); have Hk := Lib.hid (hE2.out.trans (if_neg (fun e => e.2 e2))); clear e1 e2
                              go_wp2
                              go_roundw
                              case rel => exact ⟨k + 1, by omega, by go_num, by rw [Hk.out]; exact ho, ho3, hb⟩
                              case measure => simp [intOf]; omega
                            · have f2 : ((k : Int) != (b : Int)) = true := (by simp; omega); have Hk := Lib.hid (hE2.out.trans (if_pos ⟨e1, e2⟩)); clear e1 e2; obtain ⟨hck, _⟩ := ho3.cell hkT; rw [show nth (lineTo 3 u 3) k = (qk : Int) by rw [← hqk]; simp [lineTo, nth, List.getD_eq_getElem?_getD, hkT]] at hck; obtain ⟨hcell, hfr⟩ := ho.cell hqkn; have hput := Lib.hid (ho.putN qk (bits .andNot .i64 (nth (pIn m 3 u a b (pB m 3 3 u a (pA m 3 3 u (pU m 3 3 u) a) b) k) qk) (nth m qa))); have ho3p := Lib.hid (ho3.far (row := some g) (grown_set (w := wr) (G := g) (i := qk) (v := .int .i64 (bits .andNot .i64 (nth (pIn m 3 u a b (pB m 3 3 u a (pA m 3 3 u (pU m 3 3 u) a) b) k) qk) (nth m qa)))) (fun b hb e => by have := ho3.own_lo b hb; injection e with e; omega))
                              go_wp2
                              go_region
                              go_wp2
                              go_roundw
                              case rel => exact ⟨k + 1, by omega, by go_num, by rw [Hk.out]; exact hput.out, ho3p.out, below_drewN (Below.setCell (p := (⟨g, qk, none⟩ : Addr)) hb hgl _) 1⟩
                              case measure => simp [intOf]; omega
                        · obtain rfl : k = 3 := by omega
                          go_wp2
                          go_roundw
                          case rel => exact ⟨b + 1, by omega, by go_num, by rw [Hs.out]; exact ho, ho3, hb⟩
                          case measure => simp [intOf]; omega
                    · have h2I : ((q : Int) != 2) = true := (by simp; omega); have Hs := Lib.hid (show pB m 3 3 u a (pA m 3 3 u (pU m 3 3 u) a) (b + 1) = pB m 3 3 u a (pA m 3 3 u (pU m 3 3 u) a) b by rw [hE1.out, if_neg (fun e => h2 (by rw [Hq.out]; exact e.2))]); clear h2
                      go_wp2_with (go_at_call 127; refine HMv2.out.mono ?_; rintro e w5 ⟨A5, c5, rfl, hb5⟩)
                      go_roundw
                      case rel => exact ⟨b + 1, by omega, by go_num, by rw [Hs.out]; exact ho.below hb5, ho3.below hb5, hb.trans (hb5.mono hsw)⟩
                      case measure => simp [intOf]; omega
                  · have h1I : (nth m qa != nth m qb) = true := (by simp; exact h1); have Hs := Lib.hid (show pB m 3 3 u a (pA m 3 3 u (pU m 3 3 u) a) (b + 1) = pB m 3 3 u a (pA m 3 3 u (pU m 3 3 u) a) b by rw [hE1.out, if_neg (fun e => h1 e.1)]); clear h1
                    go_wp2
                    go_roundw
                    case rel => exact ⟨b + 1, by omega, by go_num, by rw [Hs.out]; exact ho, ho3, hb⟩
                    case measure => simp [intOf]; omega
                · obtain rfl : b = a := by omega
                  go_wp2
                  go_roundw
                  case rel => exact ⟨b + 1, by omega, by go_num, ho, ho3, hb⟩
                  case measure => simp [intOf]; omega
            · have haT' : a = 3 := (by omega); have haI : ¬ (a : Int) < 3 := (by omega); have Ho : Hid (Ow wr w.heap.size (some ⟨g, 0, none⟩) 9 cc (pU m 3 3 (u + 1))) := Lib.hid (by subst haT'; exact ho); clear ho haT' haT ha
              go_wp2
              go_roundw
              case rel => exact ⟨u + 1, by omega, by go_num, Ho.out, hb⟩
              case measure => simp [intOf]; omega
        · obtain rfl : u = 2 * 3 := by omega
          go_wp2
          go_ret
          rw [HL.out]; have hnl := Lib.hid (pU_len m 3 3 (2 * 3)); exact ⟨_, _, by rw [hnl.out, hlen.out]; rfl, by rw [hnl.out, hlen.out]; exact ho, hb⟩
    · obtain rfl : n = 16 := by omega
      have HL := Lib.hid (show npL m 4 = pU m 4 4 (2 * 4) by simp [npL, hv]); have Hv := Lib.hid hv; clear hv
      go_enter Tryz.func120, Tryz.ntmps120
      go_wp2_with (first
        | (go_at_call 30; refine HV.out.mono ?_; rintro e w1 ⟨rfl, hb1⟩; rw [Hv.out])
        | (go_at_call 68; refine (HCp.out _ hb1).mono ?_; rintro e w2 ⟨Ac, cc, rfl, ho2, hb2⟩))
      have hb12 := step hb1 hb2; have ho2' := ho2.mono hb1.size; obtain ⟨g, rfl, hgl, hgw⟩ := ho2'.form (by omega)
      go_loopw [6] (fun i wr => ∃ u : Nat, u ≤ 2 * 4 ∧ i = .int .i64 u ∧ Ow wr w.heap.size (some ⟨g, 0, none⟩) 16 cc (pU m 4 4 u) ∧ Below w.heap.size w wr) (fun i _ => 2 * 4 - (intOf i).toNat)
      case atStart => exact ⟨0, Nat.zero_le _, rfl, ho2', hb12⟩
      case round =>
        obtain ⟨u, hu, rfl, ho, hb⟩ := hrel
        by_cases hlt : u < 2 * 4
        · have hltI : (u : Int) < 2 * 4 := (by omega); have hgr := ho.own_hi g rfl
          have hat : Hid (∀ j, j < 4 → ∃ q : Nat, lineAt 4 u j = (q : Int) ∧ q < 16) := Lib.hid (fun j hj => by
            by_cases hx : (u : Int) < 4
            · rw [lineAt_row hx]; exact ⟨u * 4 + j, by omega, by omega⟩
            · rw [lineAt_col hx]
              exact ⟨j * 4 + u - 4, by omega, by omega⟩)
          have hsw := hb.size
          have HLc : Hid (Calls Tryz.prog 156 #[.int .i64 4, .int .i64 u] wr fun e w'' => ∃ g3 c3, e = .returned (.slice (some ⟨g3, 0, none⟩) 4 c3) ∧ Ow w'' wr.heap.size (some ⟨g3, 0, none⟩) 4 c3 (lineTo 4 u 4) ∧ Below wr.heap.size wr w'') := Lib.hid ((specLineCells 4 u wr ⟨by omega, by omega⟩).mono (by
            rintro e w'' ⟨A3, c3, rfl, ho3, hb3⟩
            have e1 : lineL 4 u = lineTo 4 u 4 := by
              have : lineOk 4 u = true := (by simp [lineOk, inr]; omega)
              simp [lineL, this]
            rw [e1, lineTo_length] at ho3; rw [e1, lineTo_length]; obtain ⟨g3, rfl, _, _⟩ := ho3.form (by omega)
            exact ⟨g3, c3, rfl, ho3, hb3⟩))
          go_wp2_with (go_at_call 156; refine HLc.out.mono ?_; rintro e w3 ⟨g3, c3, rfl, ho3, hb3⟩)
          have hg3 := ho3.own_lo g3 rfl; have hoA := ho.below hb3; have hbA := hb.trans (hb3.mono hsw)
          go_loopw [8] (fun i wr => ∃ a : Nat, a ≤ 4 ∧ i = .int .i64 a ∧ Ow wr w.heap.size (some ⟨g, 0, none⟩) 16 cc (pA m 4 4 u (pU m 4 4 u) a) ∧ Ow wr (g + 1) (some ⟨g3, 0, none⟩) 4 c3 (lineTo 4 u 4) ∧ Below w.heap.size w wr) (fun i _ => 4 - (intOf i).toNat)
          case atStart => exact ⟨0, Nat.zero_le _, rfl, hoA, ho3.mono (by omega), hbA⟩
          case round =>
            clear ho3 hoA hbA hb3 ho hb hsw HLc; obtain ⟨a, ha, rfl, ho, ho3, hb⟩ := hrel
            by_cases haT : a < 4
            · have haI : (a : Int) < 4 := (by omega); obtain ⟨qa, hqa, hqan⟩ := hat.out a haT; have Hqa := Lib.hid (show lcN 4 u a = qa by simp [lcN, hqa])
              go_wp2
              go_loopw [9] (fun i wr => ∃ b : Nat, b ≤ a ∧ i = .int .i64 b ∧ Ow wr w.heap.size (some ⟨g, 0, none⟩) 16 cc (pB m 4 4 u a (pA m 4 4 u (pU m 4 4 u) a) b) ∧ Ow wr (g + 1) (some ⟨g3, 0, none⟩) 4 c3 (lineTo 4 u 4) ∧ Below w.heap.size w wr) (fun i _ => a - (intOf i).toNat)
              case atStart => exact ⟨0, Nat.zero_le _, rfl, ho, ho3, hb⟩
              case round =>
                clear ho ho3 hb; obtain ⟨b, hb', rfl, ho, ho3, hb⟩ := hrel
                by_cases hba : b < a
                · have hbI : (b : Int) < (a : Int) := (by omega); obtain ⟨qb, hqb, hqbn⟩ := hat.out b (by omega); have Hqb := Lib.hid (show lcN 4 u b = qb by simp [lcN, hqb]); obtain ⟨hca, _⟩ := ho3.cell haT; obtain ⟨hcb, _⟩ := ho3.cell (show b < 4 by omega); rw [show nth (lineTo 4 u 4) a = (qa : Int) by rw [← hqa]; simp [lineTo, nth, List.getD_eq_getElem?_getD, haT]] at hca; rw [show nth (lineTo 4 u 4) b = (qb : Int) by rw [← hqb]; simp [lineTo, nth, List.getD_eq_getElem?_getD, (show b < 4 by omega)]] at hcb; obtain ⟨bb, off, hA, hbB, hck⟩ := (h.below (hb.mono hB')).at_ hqan; subst hA; obtain ⟨bb2, off2, hA2, _, hck2⟩ := (h.below (hb.mono hB')).at_ hqbn
                  cases hA2; have hsw := hb.size; have hgw3 := ho3.own_hi g3 rfl; have hbbw : bb < wr.heap.size := (by omega); have hE1 : Hid (pB m 4 4 u a (pA m 4 4 u (pU m 4 4 u) a) (b + 1) = if nth m qa = nth m qb ∧ (maskVals (nth m qa)).length = 2 then pIn m 4 u a b (pB m 4 4 u a (pA m 4 4 u (pU m 4 4 u) a) b) 4 else pB m 4 4 u a (pA m 4 4 u (pU m 4 4 u) a) b) := Lib.hid (by simp only [pB]; rw [Hqa.out, Hqb.out])
                  by_cases h1 : nth m qa = nth m qb
                  · have h1I : (nth m qa != nth m qb) = false := (by simp [h1]); obtain ⟨q, hq⟩ : ∃ q, q = (maskVals (nth m qa)).length := ⟨_, rfl⟩; have Hq := Lib.hid hq; have HMv2 : Hid (Calls Tryz.prog 127 #[.int .i64 (nth m qa)] wr fun e w'' => ∃ A5 c5, e = .returned (.slice A5 q c5) ∧ Below wr.heap.size wr w'') := Lib.hid ((specMaskValues (nth m qa) wr (Hrng.out qa)).mono (by rintro e w'' ⟨A5, c5, rfl, _, hb5⟩; exact ⟨A5, c5, by rw [hq], hb5⟩)); have He1 := Lib.hid h1; clear hq h1
                    by_cases h2 : q = 2
                    · have h2I : ((q : Int) != 2) = false := (by simp [h2]); have Hs := Lib.hid (show pB m 4 4 u a (pA m 4 4 u (pU m 4 4 u) a) (b + 1) = pIn m 4 u a b (pB m 4 4 u a (pA m 4 4 u (pU m 4 4 u) a) b) 4 by rw [hE1.out, if_pos ⟨He1.out, by rw [← Hq.out]; exact h2⟩]); clear h2
                      go_wp2_with (go_at_call 127; refine HMv2.out.mono ?_; rintro e w5 ⟨A5, c5, rfl, hb5⟩)
                      have hoS := ho.below hb5; have ho3S := ho3.below hb5; have hbS := hb.trans (hb5.mono hsw)
                      go_loopw [11] (fun i wr => ∃ k : Nat, k ≤ 4 ∧ i = .int .i64 k ∧ Ow wr w.heap.size (some ⟨g, 0, none⟩) 16 cc (pIn m 4 u a b (pB m 4 4 u a (pA m 4 4 u (pU m 4 4 u) a) b) k) ∧ Ow wr (g + 1) (some ⟨g3, 0, none⟩) 4 c3 (lineTo 4 u 4) ∧ Below w.heap.size w wr) (fun i _ => 4 - (intOf i).toNat)
                      case atStart => exact ⟨0, Nat.zero_le _, rfl, hoS, ho3S, hbS⟩
                      case round =>
                        clear ho ho3 hb hoS ho3S hbS hca hcb hck hck2 hsw hgw3 hbbw HMv2 hb5; obtain ⟨k, hk, rfl, ho, ho3, hb⟩ := hrel
                        by_cases hkT : k < 4
                        · have hkI : (k : Int) < 4 := (by omega); obtain ⟨qk, hqk, hqkn⟩ := hat.out k hkT; have Hqk := Lib.hid (show lcN 4 u k = qk by simp [lcN, hqk]); have hE2 : Hid (pIn m 4 u a b (pB m 4 4 u a (pA m 4 4 u (pU m 4 4 u) a) b) (k + 1) = if k ≠ a ∧ k ≠ b then (pIn m 4 u a b (pB m 4 4 u a (pA m 4 4 u (pU m 4 4 u) a) b) k).set qk (bits .andNot .i64 (nth (pIn m 4 u a b (pB m 4 4 u a (pA m 4 4 u (pU m 4 4 u) a) b) k) qk) (nth m qa)) else pIn m 4 u a b (pB m 4 4 u a (pA m 4 4 u (pU m 4 4 u) a) b) k) := Lib.hid (by simp only [pIn]; rw [Hqa.out, Hqk.out])
                          by_cases e1 : k = a
                          · have f1 : ((k : Int) != (a : Int)) = false := (by simp [e1]); have Hk := Lib.hid (hE2.out.trans (if_neg (fun e => e.1 e1))); clear e1
                            go_wp2
                            go_roundw
                            case rel => exact ⟨k + 1, by omega, by go_num, by rw [Hk.out]; exact ho, ho3, hb⟩
                            case measure => simp [intOf]; omega
                          · have f1 : ((k : Int) != (a : Int)) = true := (by simp; omega)
                            by_cases e2 : k = b
                            · have f2 : ((k : Int) != (b : Int)) = false := (by simp [e2]); have Hk := Lib.hid (hE2.out.trans (if_neg (fun e => e.2 e2))); clear e1 e2
                              go_wp2
                              go_roundw
                              case rel => exact ⟨k + 1, by omega, by go_num, by rw [Hk.out]; exact ho, ho3, hb⟩
                              case measure => simp [intOf]; omega
                            · have f2 : ((k : Int) != (b : Int)) = true := (by simp; omega); have Hk := Lib.hid (hE2.out.trans (if_pos ⟨e1, e2⟩)); clear e1 e2; obtain ⟨hck, _⟩ := ho3.cell hkT; rw [show nth (lineTo 4 u 4) k = (qk : Int) by rw [← hqk]; simp [lineTo, nth, List.getD_eq_getElem?_getD, hkT]] at hck; obtain ⟨hcell, hfr⟩ := ho.cell hqkn; have hput := Lib.hid (ho.putN qk (bits .andNot .i64 (nth (pIn m 4 u a b (pB m 4 4 u a (pA m 4 4 u (pU m 4 4 u) a) b) k) qk) (nth m qa))); have ho3p := Lib.hid (ho3.far (row := some g) (grown_set (w := wr) (G := g) (i := qk) (v := .int .i64 (bits .andNot .i64 (nth (pIn m 4 u a b (pB m 4 4 u a (pA m 4 4 u (pU m 4 4 u) a) b) k) qk) (nth m qa)))) (fun b hb e => by have := ho3.own_lo b hb; injection e with e; omega))
                              go_wp2
                              go_region
                              go_wp2
                              go_roundw
                              case rel => exact ⟨k + 1, by omega, by go_num, by rw [Hk.out]; exact hput.out, ho3p.out, below_drewN (Below.setCell (p := (⟨g, qk, none⟩ : Addr)) hb hgl _) 1⟩
                              case measure => simp [intOf]; omega
                        · obtain rfl : k = 4 := by omega
                          go_wp2
                          go_roundw
                          case rel => exact ⟨b + 1, by omega, by go_num, by rw [Hs.out]; exact ho, ho3, hb⟩
                          case measure => simp [intOf]; omega
                    · have h2I : ((q : Int) != 2) = true := (by simp; omega); have Hs := Lib.hid (show pB m 4 4 u a (pA m 4 4 u (pU m 4 4 u) a) (b + 1) = pB m 4 4 u a (pA m 4 4 u (pU m 4 4 u) a) b by rw [hE1.out, if_neg (fun e => h2 (by rw [Hq.out]; exact e.2))]); clear h2
                      go_wp2_with (go_at_call 127; refine HMv2.out.mono ?_; rintro e w5 ⟨A5, c5, rfl, hb5⟩)
                      go_roundw
                      case rel => exact ⟨b + 1, by omega, by go_num, by rw [Hs.out]; exact ho.below hb5, ho3.below hb5, hb.trans (hb5.mono hsw)⟩
                      case measure => simp [intOf]; omega
                  · have h1I : (nth m qa != nth m qb) = true := (by simp; exact h1); have Hs := Lib.hid (show pB m 4 4 u a (pA m 4 4 u (pU m 4 4 u) a) (b + 1) = pB m 4 4 u a (pA m 4 4 u (pU m 4 4 u) a) b by rw [hE1.out, if_neg (fun e => h1 e.1)]); clear h1
                    go_wp2
                    go_roundw
                    case rel => exact ⟨b + 1, by omega, by go_num, by rw [Hs.out]; exact ho, ho3, hb⟩
                    case measure => simp [intOf]; omega
                · obtain rfl : b = a := by omega
                  go_wp2
                  go_roundw
                  case rel => exact ⟨b + 1, by omega, by go_num, ho, ho3, hb⟩
                  case measure => simp [intOf]; omega
            · have haT' : a = 4 := (by omega); have haI : ¬ (a : Int) < 4 := (by omega); have Ho : Hid (Ow wr w.heap.size (some ⟨g, 0, none⟩) 16 cc (pU m 4 4 (u + 1))) := Lib.hid (by subst haT'; exact ho); clear ho haT' haT ha
              go_wp2
              go_roundw
              case rel => exact ⟨u + 1, by omega, by go_num, Ho.out, hb⟩
              case measure => simp [intOf]; omega
        · obtain rfl : u = 2 * 4 := by omega
          go_wp2
          go_ret
          rw [HL.out]; have hnl := Lib.hid (pU_len m 4 4 (2 * 4)); exact ⟨_, _, by rw [hnl.out, hlen.out]; rfl, by rw [hnl.out, hlen.out]; exact ho, hb⟩
end Go.Proofs.YtcjdjcpappfkgaaGreatDoor
