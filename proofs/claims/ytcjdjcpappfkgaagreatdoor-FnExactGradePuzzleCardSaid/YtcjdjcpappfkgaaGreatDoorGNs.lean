import Derived.Test.YtcjdjcpappfkgaaGreatDoorGSix
import Derived.Test.YtcjdjcpappfkgaaGreatDoorGC3
set_option maxRecDepth 8000
namespace Go.Proofs.YtcjdjcpappfkgaaGreatDoor
open Go.ChangeShapes Go.WideShapes Go.ChangeAt Go.RowKit
theorem Ow.putN {w : World} {lo g n c : Nat} {xs : List Int} (h : Ow w lo (some ⟨g, 0, none⟩) n c xs) (k : Nat) (v : Int) : Ow (w.setCell ⟨g, k, none⟩ (.int .i64 v)) lo (some ⟨g, 0, none⟩) n c (xs.set k v) := by
  have := (World.ownsRow.stored h k (.int .i64 v)).1; rw [vals_set] at this; exact this
def seesB (s k i : Nat) : Bool := (k != i) && (k / s == i / s || k % s == i % s)
def nsIn (m : List Int) (s i : Nat) (o : List Int) : Nat → List Int
  | 0 => o
  | k + 1 => if seesB s k i = true then (nsIn m s i o k).set k (bits .andNot .i64 (nth (nsIn m s i o k) k) (nth m i)) else nsIn m s i o k
def nsTo (m : List Int) (s n : Nat) : Nat → List Int
  | 0 => m
  | i + 1 => if (maskVals (nth m i)).length = 1 then nsIn m s i (nsTo m s n i) n else nsTo m s n i
def nsL (m : List Int) (s : Int) (n : Nat) : List Int := if mvd m s = true then nsTo m s.toNat n n else []
theorem nsIn_len (m : List Int) (s i : Nat) (o : List Int) (k : Nat) : (nsIn m s i o k).length = o.length := by
  induction k with
  | zero => rfl
  | succ k ih =>
    simp only [nsIn]
    split
    · rw [List.length_set, ih]
    · exact ih
theorem nsTo_len (m : List Int) (s n i : Nat) : (nsTo m s n i).length = m.length := by
  induction i with
  | zero => rfl
  | succ i ih =>
    simp only [nsTo]
    split
    · rw [nsIn_len, ih]
    · exact ih
set_option maxHeartbeats 4000000 in
theorem specNarrowSingles (A : Option Addr) (c n B : Nat) (m : List Int) (s : Int) (w : World) (h : Rd w B A n m) (hB : B ≤ w.heap.size) (hm : n ≤ 1099511627776) (hsb : -9223372036854775808 ≤ s ∧ s ≤ 9223372036854775807) (h64 : Hid (∀ k, k < n → -9223372036854775808 ≤ nth m k ∧ nth m k ≤ 9223372036854775807)) :
    Calls Tryz.prog 118 #[.slice A n c, .int .i64 s] w (RetSl w (nsL m s n)) := by
  have hlen := Lib.hid h.1; have HV := Lib.hid (specMasksValid A c n B m s w h hB hm hsb); cases hv : mvd m s
  · have HL := Lib.hid (show nsL m s n = [] by simp [nsL, hv])
    go_enter Tryz.func118, Tryz.ntmps118
    go_wp2_with (go_at_call 30; refine HV.out.mono ?_; rintro e w1 ⟨rfl, hb1⟩; rw [hv])
    go_ret
    rw [HL.out]; exact ⟨_, _, rfl, Ow.made0 _ _ hb1.size, hb1.alloc hb1.size _⟩
  · have hs24 : inr s 2 4 = true := by
      simp only [mvd, Bool.and_eq_true] at hv; exact hv.1.1
    obtain ⟨h2, h4⟩ := inr_t hs24
    have hs3 : s = 2 ∨ s = 3 ∨ s = 4 := by omega
    clear hs24 h2 h4; have HCp := Lib.hid (fun w' (hb : Below w.heap.size w w') => specL6Copy A n c B m w' (h.below (hb.mono hB)) (Nat.le_trans hB hb.size) hm)
    rcases hs3 with rfl | rfl | rfl
    · have HL := Lib.hid (show nsL m 2 n = nsTo m 2 n n by simp [nsL, hv]); have Hv := Lib.hid hv; clear hv
      go_enter Tryz.func118, Tryz.ntmps118
      go_wp2_with (first
        | (go_at_call 30; refine HV.out.mono ?_; rintro e w1 ⟨rfl, hb1⟩; rw [Hv.out])
        | (go_at_call 68; refine (HCp.out _ hb1).mono ?_; rintro e w2 ⟨Ac, cc, rfl, ho2, hb2⟩))
      have hb12 := step hb1 hb2; have ho2' := ho2.mono hb1.size
      go_loopw [6] (fun i wr => ∃ u : Nat, u ≤ n ∧ i = .int .i64 u ∧ Ow wr w.heap.size Ac n cc (nsTo m 2 n u) ∧ Below w.heap.size w wr) (fun i _ => n - (intOf i).toNat)
      case atStart => exact ⟨0, Nat.zero_le _, rfl, ho2', hb12⟩
      case round =>
        obtain ⟨u, hu, rfl, ho, hb⟩ := hrel
        by_cases hlt : u < n
        · obtain ⟨b, off, hA, hbB, hck⟩ := (h.below (hb.mono hB)).at_ hlt; subst hA; have hbw : b < w.heap.size := Nat.lt_of_lt_of_le hbB hB; have hbwr : b < wr.heap.size := Nat.lt_of_lt_of_le hbw hb.size; obtain ⟨g, rfl, hgl, hgw⟩ := ho.form (by omega); have HMv := Lib.hid (specMaskValues (nth m u) wr (h64.out u hlt)); obtain ⟨q, hq⟩ : ∃ q, q = (maskVals (nth m u)).length := ⟨_, rfl⟩; have Hq := Lib.hid hq; have HMv2 : Hid (Calls Tryz.prog 127 #[.int .i64 (nth m u)] wr fun e w'' => ∃ A3 c3, e = .returned (.slice A3 q c3) ∧ Below wr.heap.size wr w'') := Lib.hid (HMv.out.mono (by rintro e w'' ⟨A3, c3, rfl, _, hb3⟩; exact ⟨A3, c3, by rw [hq], hb3⟩))
          clear hq HMv; have hsw := hb.size
          by_cases h1 : q = 1
          · have hq1 : ((q : Int) != 1) = false := (by simp [h1]); have Hs := Lib.hid (show nsTo m 2 n (u + 1) = nsIn m 2 u (nsTo m 2 n u) n by simp only [nsTo]; rw [if_pos (by rw [← Hq.out]; exact h1)]); clear h1
            go_wp2_with (go_at_call 127; refine HMv2.out.mono ?_; rintro e w3 ⟨A3, c3, rfl, hb3⟩)
            have ho3 := ho.below hb3; have hb03 := hb.trans (hb3.mono hsw)
            go_loopw [7] (fun j wr => ∃ k : Nat, k ≤ n ∧ j = .int .i64 k ∧ Ow wr w.heap.size (some ⟨g, 0, none⟩) n cc (nsIn m 2 u (nsTo m 2 n u) k) ∧ Below w.heap.size w wr) (fun j _ => n - (intOf j).toNat)
            case atStart => exact ⟨0, Nat.zero_le _, rfl, ho3, hb03⟩
            case round =>
              clear ho3 hb03 hck; obtain ⟨k, hk, rfl, hok, hbk⟩ := hrel
              by_cases hkn : k < n
              · have hck : wr.cell? ⟨b, off + u, none⟩ = some (.int .i64 (nth m u)) := by
                  obtain ⟨b', off', hA', _, hck'⟩ := (h.below (hbk.mono hB)).at_ hlt; cases hA'; exact hck'
                obtain ⟨hcell, hfr⟩ := hok.cell hkn; have hsk := hbk.size; have hput := Lib.hid (hok.putN k (bits .andNot .i64 (nth (nsIn m 2 u (nsTo m 2 n u) k) k) (nth m u)))
                by_cases e1 : k = u
                · have f1 : ((k : Int) != (u : Int)) = false := (by simp [e1]); have Hk := Lib.hid (show nsIn m 2 u (nsTo m 2 n u) (k + 1) = nsIn m 2 u (nsTo m 2 n u) k by simp [nsIn, seesB, e1]); clear e1
                  go_wp2
                  go_quiet (fail)
                  go_wp2
                  go_roundw
                  case rel => exact ⟨k + 1, by omega, by go_num, by rw [Hk.out]; exact hok, below_drewN hbk _⟩
                  case measure => simp [intOf]; omega
                · have f1 : ((k : Int) != (u : Int)) = true := (by simp; omega)
                  by_cases e2 : k / 2 = u / 2 ∨ k % 2 = u % 2
                  · have Hk := Lib.hid (show nsIn m 2 u (nsTo m 2 n u) (k + 1) = (nsIn m 2 u (nsTo m 2 n u) k).set k (bits .andNot .i64 (nth (nsIn m 2 u (nsTo m 2 n u) k) k) (nth m u)) by simp [nsIn, seesB, e1, e2])
                    by_cases e3 : k / 2 = u / 2
                    · have f2 : ((k : Int) / 2 == (u : Int) / 2) = true := (by simp; omega); clear e1 e2 e3
                      go_wp2
                      go_quiet (fail)
                      go_wp2
                      go_region
                      go_wp2
                      go_roundw
                      case rel => exact ⟨k + 1, by omega, by go_num, by rw [Hk.out]; exact hput.out, Below.setCell (p := (⟨g, k, none⟩ : Addr)) (below_drewN hbk _) hgl _⟩
                      case measure => simp [intOf]; omega
                    · have f2 : ((k : Int) / 2 == (u : Int) / 2) = false := (by simp; omega); have f3 : ((k : Int) % 2 == (u : Int) % 2) = true := (by simp; omega); clear e1 e2 e3
                      go_wp2
                      go_quiet (fail)
                      go_wp2
                      go_region
                      go_wp2
                      go_roundw
                      case rel => exact ⟨k + 1, by omega, by go_num, by rw [Hk.out]; exact hput.out, Below.setCell (p := (⟨g, k, none⟩ : Addr)) (below_drewN hbk _) hgl _⟩
                      case measure => simp [intOf]; omega
                  · have f2 : ((k : Int) / 2 == (u : Int) / 2) = false := (by simp; omega); have f3 : ((k : Int) % 2 == (u : Int) % 2) = false := (by simp; omega)
                    have Hk := Lib.hid (show nsIn m 2 u (nsTo m 2 n u) (k + 1) = nsIn m 2 u (nsTo m 2 n u) k by
                      have e4 : ¬ k / 2 = u / 2 := fun e => e2 (.inl e)
                      have e5 : ¬ k % 2 = u % 2 := fun e => e2 (.inr e)
                      simp [nsIn, seesB, e4, e5])
                    clear e1 e2
                    go_wp2
                    go_quiet (fail)
                    go_wp2
                    go_roundw
                    case rel => exact ⟨k + 1, by omega, by go_num, by rw [Hk.out]; exact hok, below_drewN hbk _⟩
                    case measure => simp [intOf]; omega
              · obtain rfl : k = n := by omega
                go_wp2
                go_roundw
                case rel => exact ⟨u + 1, by omega, by go_num, by rw [Hs.out]; exact hok, hbk⟩
                case measure => simp [intOf]; omega
          · have hq1 : ((q : Int) != 1) = true := (by simp; omega); have Hs := Lib.hid (show nsTo m 2 n (u + 1) = nsTo m 2 n u by simp only [nsTo]; rw [if_neg (by rw [← Hq.out]; exact h1)])
            go_wp2_with (go_at_call 127; refine HMv2.out.mono ?_; rintro e w3 ⟨A3, c3, rfl, hb3⟩)
            go_roundw
            case rel => exact ⟨u + 1, by omega, by go_num, by rw [Hs.out]; exact ho.below hb3, hb.trans (hb3.mono hsw)⟩
            case measure => simp [intOf]; omega
        · obtain rfl : u = n := by omega
          go_wp2
          go_ret
          rw [HL.out]; have hnl := Lib.hid (nsTo_len m 2 u u); exact ⟨_, _, by rw [hnl.out, hlen.out]; rfl, by rw [hnl.out, hlen.out]; exact ho, hb⟩
    · have HL := Lib.hid (show nsL m 3 n = nsTo m 3 n n by simp [nsL, hv]); have Hv := Lib.hid hv; clear hv
      go_enter Tryz.func118, Tryz.ntmps118
      go_wp2_with (first
        | (go_at_call 30; refine HV.out.mono ?_; rintro e w1 ⟨rfl, hb1⟩; rw [Hv.out])
        | (go_at_call 68; refine (HCp.out _ hb1).mono ?_; rintro e w2 ⟨Ac, cc, rfl, ho2, hb2⟩))
      have hb12 := step hb1 hb2; have ho2' := ho2.mono hb1.size
      go_loopw [6] (fun i wr => ∃ u : Nat, u ≤ n ∧ i = .int .i64 u ∧ Ow wr w.heap.size Ac n cc (nsTo m 3 n u) ∧ Below w.heap.size w wr) (fun i _ => n - (intOf i).toNat)
      case atStart => exact ⟨0, Nat.zero_le _, rfl, ho2', hb12⟩
      case round =>
        obtain ⟨u, hu, rfl, ho, hb⟩ := hrel
        by_cases hlt : u < n
        · obtain ⟨b, off, hA, hbB, hck⟩ := (h.below (hb.mono hB)).at_ hlt; subst hA; have hbw : b < w.heap.size := Nat.lt_of_lt_of_le hbB hB; have hbwr : b < wr.heap.size := Nat.lt_of_lt_of_le hbw hb.size; obtain ⟨g, rfl, hgl, hgw⟩ := ho.form (by omega); have HMv := Lib.hid (specMaskValues (nth m u) wr (h64.out u hlt)); obtain ⟨q, hq⟩ : ∃ q, q = (maskVals (nth m u)).length := ⟨_, rfl⟩; have Hq := Lib.hid hq; have HMv2 : Hid (Calls Tryz.prog 127 #[.int .i64 (nth m u)] wr fun e w'' => ∃ A3 c3, e = .returned (.slice A3 q c3) ∧ Below wr.heap.size wr w'') := Lib.hid (HMv.out.mono (by rintro e w'' ⟨A3, c3, rfl, _, hb3⟩; exact ⟨A3, c3, by rw [hq], hb3⟩))
          clear hq HMv; have hsw := hb.size
          by_cases h1 : q = 1
          · have hq1 : ((q : Int) != 1) = false := (by simp [h1]); have Hs := Lib.hid (show nsTo m 3 n (u + 1) = nsIn m 3 u (nsTo m 3 n u) n by simp only [nsTo]; rw [if_pos (by rw [← Hq.out]; exact h1)]); clear h1
            go_wp2_with (go_at_call 127; refine HMv2.out.mono ?_; rintro e w3 ⟨A3, c3, rfl, hb3⟩)
            have ho3 := ho.below hb3; have hb03 := hb.trans (hb3.mono hsw)
            go_loopw [7] (fun j wr => ∃ k : Nat, k ≤ n ∧ j = .int .i64 k ∧ Ow wr w.heap.size (some ⟨g, 0, none⟩) n cc (nsIn m 3 u (nsTo m 3 n u) k) ∧ Below w.heap.size w wr) (fun j _ => n - (intOf j).toNat)
            case atStart => exact ⟨0, Nat.zero_le _, rfl, ho3, hb03⟩
            case round =>
              clear ho3 hb03 hck; obtain ⟨k, hk, rfl, hok, hbk⟩ := hrel
              by_cases hkn : k < n
              · have hck : wr.cell? ⟨b, off + u, none⟩ = some (.int .i64 (nth m u)) := by
                  obtain ⟨b', off', hA', _, hck'⟩ := (h.below (hbk.mono hB)).at_ hlt; cases hA'; exact hck'
                obtain ⟨hcell, hfr⟩ := hok.cell hkn; have hsk := hbk.size; have hput := Lib.hid (hok.putN k (bits .andNot .i64 (nth (nsIn m 3 u (nsTo m 3 n u) k) k) (nth m u)))
                by_cases e1 : k = u
                · have f1 : ((k : Int) != (u : Int)) = false := (by simp [e1]); have Hk := Lib.hid (show nsIn m 3 u (nsTo m 3 n u) (k + 1) = nsIn m 3 u (nsTo m 3 n u) k by simp [nsIn, seesB, e1]); clear e1
                  go_wp2
                  go_quiet (fail)
                  go_wp2
                  go_roundw
                  case rel => exact ⟨k + 1, by omega, by go_num, by rw [Hk.out]; exact hok, below_drewN hbk _⟩
                  case measure => simp [intOf]; omega
                · have f1 : ((k : Int) != (u : Int)) = true := (by simp; omega)
                  by_cases e2 : k / 3 = u / 3 ∨ k % 3 = u % 3
                  · have Hk := Lib.hid (show nsIn m 3 u (nsTo m 3 n u) (k + 1) = (nsIn m 3 u (nsTo m 3 n u) k).set k (bits .andNot .i64 (nth (nsIn m 3 u (nsTo m 3 n u) k) k) (nth m u)) by simp [nsIn, seesB, e1, e2])
                    by_cases e3 : k / 3 = u / 3
                    · have f2 : ((k : Int) / 3 == (u : Int) / 3) = true := (by simp; omega); clear e1 e2 e3
                      go_wp2
                      go_quiet (fail)
                      go_wp2
                      go_region
                      go_wp2
                      go_roundw
                      case rel => exact ⟨k + 1, by omega, by go_num, by rw [Hk.out]; exact hput.out, Below.setCell (p := (⟨g, k, none⟩ : Addr)) (below_drewN hbk _) hgl _⟩
                      case measure => simp [intOf]; omega
                    · have f2 : ((k : Int) / 3 == (u : Int) / 3) = false := (by simp; omega); have f3 : ((k : Int) % 3 == (u : Int) % 3) = true := (by simp; omega); clear e1 e2 e3
                      go_wp2
                      go_quiet (fail)
                      go_wp2
                      go_region
                      go_wp2
                      go_roundw
                      case rel => exact ⟨k + 1, by omega, by go_num, by rw [Hk.out]; exact hput.out, Below.setCell (p := (⟨g, k, none⟩ : Addr)) (below_drewN hbk _) hgl _⟩
                      case measure => simp [intOf]; omega
                  · have f2 : ((k : Int) / 3 == (u : Int) / 3) = false := (by simp; omega); have f3 : ((k : Int) % 3 == (u : Int) % 3) = false := (by simp; omega)
                    have Hk := Lib.hid (show nsIn m 3 u (nsTo m 3 n u) (k + 1) = nsIn m 3 u (nsTo m 3 n u) k by
                      have e4 : ¬ k / 3 = u / 3 := fun e => e2 (.inl e)
                      have e5 : ¬ k % 3 = u % 3 := fun e => e2 (.inr e)
                      simp [nsIn, seesB, e4, e5])
                    clear e1 e2
                    go_wp2
                    go_quiet (fail)
                    go_wp2
                    go_roundw
                    case rel => exact ⟨k + 1, by omega, by go_num, by rw [Hk.out]; exact hok, below_drewN hbk _⟩
                    case measure => simp [intOf]; omega
              · obtain rfl : k = n := by omega
                go_wp2
                go_roundw
                case rel => exact ⟨u + 1, by omega, by go_num, by rw [Hs.out]; exact hok, hbk⟩
                case measure => simp [intOf]; omega
          · have hq1 : ((q : Int) != 1) = true := (by simp; omega); have Hs := Lib.hid (show nsTo m 3 n (u + 1) = nsTo m 3 n u by simp only [nsTo]; rw [if_neg (by rw [← Hq.out]; exact h1)])
            go_wp2_with (go_at_call 127; refine HMv2.out.mono ?_; rintro e w3 ⟨A3, c3, rfl, hb3⟩)
            go_roundw
            case rel => exact ⟨u + 1, by omega, by go_num, by rw [Hs.out]; exact ho.below hb3, hb.trans (hb3.mono hsw)⟩
            case measure => simp [intOf]; omega
        · obtain rfl : u = n := by omega
          go_wp2
          go_ret
          rw [HL.out]; have hnl := Lib.hid (nsTo_len m 3 u u); exact ⟨_, _, by rw [hnl.out, hlen.out]; rfl, by rw [hnl.out, hlen.out]; exact ho, hb⟩
    · have HL := Lib.hid (show nsL m 4 n = nsTo m 4 n n by simp [nsL, hv]); have Hv := Lib.hid hv; clear hv
      go_enter Tryz.func118, Tryz.ntmps118
      go_wp2_with (first
        | (go_at_call 30; refine HV.out.mono ?_; rintro e w1 ⟨rfl, hb1⟩; rw [Hv.out])
        | (go_at_call 68; refine (HCp.out _ hb1).mono ?_; rintro e w2 ⟨Ac, cc, rfl, ho2, hb2⟩))
      have hb12 := step hb1 hb2; have ho2' := ho2.mono hb1.size
      go_loopw [6] (fun i wr => ∃ u : Nat, u ≤ n ∧ i = .int .i64 u ∧ Ow wr w.heap.size Ac n cc (nsTo m 4 n u) ∧ Below w.heap.size w wr) (fun i _ => n - (intOf i).toNat)
      case atStart => exact ⟨0, Nat.zero_le _, rfl, ho2', hb12⟩
      case round =>
        obtain ⟨u, hu, rfl, ho, hb⟩ := hrel
        by_cases hlt : u < n
        · obtain ⟨b, off, hA, hbB, hck⟩ := (h.below (hb.mono hB)).at_ hlt; subst hA; have hbw : b < w.heap.size := Nat.lt_of_lt_of_le hbB hB; have hbwr : b < wr.heap.size := Nat.lt_of_lt_of_le hbw hb.size; obtain ⟨g, rfl, hgl, hgw⟩ := ho.form (by omega); have HMv := Lib.hid (specMaskValues (nth m u) wr (h64.out u hlt)); obtain ⟨q, hq⟩ : ∃ q, q = (maskVals (nth m u)).length := ⟨_, rfl⟩; have Hq := Lib.hid hq; have HMv2 : Hid (Calls Tryz.prog 127 #[.int .i64 (nth m u)] wr fun e w'' => ∃ A3 c3, e = .returned (.slice A3 q c3) ∧ Below wr.heap.size wr w'') := Lib.hid (HMv.out.mono (by rintro e w'' ⟨A3, c3, rfl, _, hb3⟩; exact ⟨A3, c3, by rw [hq], hb3⟩))
          clear hq HMv; have hsw := hb.size
          by_cases h1 : q = 1
          · have hq1 : ((q : Int) != 1) = false := (by simp [h1]); have Hs := Lib.hid (show nsTo m 4 n (u + 1) = nsIn m 4 u (nsTo m 4 n u) n by simp only [nsTo]; rw [if_pos (by rw [← Hq.out]; exact h1)]); clear h1
            go_wp2_with (go_at_call 127; refine HMv2.out.mono ?_; rintro e w3 ⟨A3, c3, rfl, hb3⟩)
            have ho3 := ho.below hb3; have hb03 := hb.trans (hb3.mono hsw)
            go_loopw [7] (fun j wr => ∃ k : Nat, k ≤ n ∧ j = .int .i64 k ∧ Ow wr w.heap.size (some ⟨g, 0, none⟩) n cc (nsIn m 4 u (nsTo m 4 n u) k) ∧ Below w.heap.size w wr) (fun j _ => n - (intOf j).toNat)
            case atStart => exact ⟨0, Nat.zero_le _, rfl, ho3, hb03⟩
            case round =>
              clear ho3 hb03 hck; obtain ⟨k, hk, rfl, hok, hbk⟩ := hrel
              by_cases hkn : k < n
              · have hck : wr.cell? ⟨b, off + u, none⟩ = some (.int .i64 (nth m u)) := by
                  obtain ⟨b', off', hA', _, hck'⟩ := (h.below (hbk.mono hB)).at_ hlt; cases hA'; exact hck'
                obtain ⟨hcell, hfr⟩ := hok.cell hkn; have hsk := hbk.size; have hput := Lib.hid (hok.putN k (bits .andNot .i64 (nth (nsIn m 4 u (nsTo m 4 n u) k) k) (nth m u)))
                by_cases e1 : k = u
                · have f1 : ((k : Int) != (u : Int)) = false := (by simp [e1]); have Hk := Lib.hid (show nsIn m 4 u (nsTo m 4 n u) (k + 1) = nsIn m 4 u (nsTo m 4 n u) k by simp [nsIn, seesB, e1]); clear e1
                  go_wp2
                  go_quiet (fail)
                  go_wp2
                  go_roundw
                  case rel => exact ⟨k + 1, by omega, by go_num, by rw [Hk.out]; exact hok, below_drewN hbk _⟩
                  case measure => simp [intOf]; omega
                · have f1 : ((k : Int) != (u : Int)) = true := (by simp; omega)
                  by_cases e2 : k / 4 = u / 4 ∨ k % 4 = u % 4
                  · have Hk := Lib.hid (show nsIn m 4 u (nsTo m 4 n u) (k + 1) = (nsIn m 4 u (nsTo m 4 n u) k).set k (bits .andNot .i64 (nth (nsIn m 4 u (nsTo m 4 n u) k) k) (nth m u)) by simp [nsIn, seesB, e1, e2])
                    by_cases e3 : k / 4 = u / 4
                    · have f2 : ((k : Int) / 4 == (u : Int) / 4) = true := (by simp; omega); clear e1 e2 e3
                      go_wp2
                      go_quiet (fail)
                      go_wp2
                      go_region
                      go_wp2
                      go_roundw
                      case rel => exact ⟨k + 1, by omega, by go_num, by rw [Hk.out]; exact hput.out, Below.setCell (p := (⟨g, k, none⟩ : Addr)) (below_drewN hbk _) hgl _⟩
                      case measure => simp [intOf]; omega
                    · have f2 : ((k : Int) / 4 == (u : Int) / 4) = false := (by simp; omega); have f3 : ((k : Int) % 4 == (u : Int) % 4) = true := (by simp; omega); clear e1 e2 e3
                      go_wp2
                      go_quiet (fail)
                      go_wp2
                      go_region
                      go_wp2
                      go_roundw
                      case rel => exact ⟨k + 1, by omega, by go_num, by rw [Hk.out]; exact hput.out, Below.setCell (p := (⟨g, k, none⟩ : Addr)) (below_drewN hbk _) hgl _⟩
                      case measure => simp [intOf]; omega
                  · have f2 : ((k : Int) / 4 == (u : Int) / 4) = false := (by simp; omega); have f3 : ((k : Int) % 4 == (u : Int) % 4) = false := (by simp; omega)
                    have Hk := Lib.hid (show nsIn m 4 u (nsTo m 4 n u) (k + 1) = nsIn m 4 u (nsTo m 4 n u) k by
                      have e4 : ¬ k / 4 = u / 4 := fun e => e2 (.inl e)
                      have e5 : ¬ k % 4 = u % 4 := fun e => e2 (.inr e)
                      simp [nsIn, seesB, e4, e5])
                    clear e1 e2
                    go_wp2
                    go_quiet (fail)
                    go_wp2
                    go_roundw
                    case rel => exact ⟨k + 1, by omega, by go_num, by rw [Hk.out]; exact hok, below_drewN hbk _⟩
                    case measure => simp [intOf]; omega
              · obtain rfl : k = n := by omega
                go_wp2
                go_roundw
                case rel => exact ⟨u + 1, by omega, by go_num, by rw [Hs.out]; exact hok, hbk⟩
                case measure => simp [intOf]; omega
          · have hq1 : ((q : Int) != 1) = true := (by simp; omega); have Hs := Lib.hid (show nsTo m 4 n (u + 1) = nsTo m 4 n u by simp only [nsTo]; rw [if_neg (by rw [← Hq.out]; exact h1)])
            go_wp2_with (go_at_call 127; refine HMv2.out.mono ?_; rintro e w3 ⟨A3, c3, rfl, hb3⟩)
            go_roundw
            case rel => exact ⟨u + 1, by omega, by go_num, by rw [Hs.out]; exact ho.below hb3, hb.trans (hb3.mono hsw)⟩
            case measure => simp [intOf]; omega
        · obtain rfl : u = n := by omega
          go_wp2
          go_ret
          rw [HL.out]; have hnl := Lib.hid (nsTo_len m 4 u u); exact ⟨_, _, by rw [hnl.out, hlen.out]; rfl, by rw [hnl.out, hlen.out]; exact ho, hb⟩
end Go.Proofs.YtcjdjcpappfkgaaGreatDoor
