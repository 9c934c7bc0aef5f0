import Derived.Test.YtmnacejmkjhpnaaW3T
import Derived.Test.YtmnacejmkjhpnaaW2E
import Derived.Deep.RegionWith
namespace Go.Proofs.Ytmnacejmkjhpnaa
open Go.ChangeShapes Go.WideShapes Go.ChangeAt Go.RowKit

theorem fits_of (hf : ISquareFits) (A : Option Addr) (c n B : Nat) (xs : List Int) (size : Int) (w : World) (h : Rd w B A n xs) (hB : B ≤ w.heap.size) (hm : n ≤ 1099511627776) :
    Calls Try.prog 21 #[.slice A n c, .int .i64 size] w fun e w' => e = .returned (.bool (sqFits xs size)) ∧ Below w.heap.size w w' := hf A c n B xs size w h hB hm
theorem pow_int_ (v : Nat) : ((2 : Int) ^ v) = ((2 ^ v : Nat) : Int) := by simp
theorem wrapI_pow (v : Nat) (hv : v ≤ 4) : IntKind.i64.wrap (2 ^ v) = ((2 ^ v : Nat) : Int) := by
  have hlt : 2 ^ v < 2 ^ 5 := Nat.pow_lt_pow_right (by omega) (by omega)
  rw [pow_int_]
  generalize 2 ^ v = p at *
  exact IntWalk.i64_in _ (by omega)
theorem fits_cand {xs : List Int} {s : Nat} {n k v : Nat} (hs : s ∈ [2, 3, 4]) (hn : n = s * s) (hl : xs.length = n) (hg : gv xs s = true) (hf : sqFits xs s = true) (hk : k < n) (hz : nth xs k = 0) (v1 : 1 ≤ v) (v2 : v ≤ s) : sqFits (xs.set k (v : Int)) s = (candN xs s k).testBit v := by
  have hc : clash xs s = false := by
    simp only [sqFits, Bool.and_eq_true, Bool.not_eq_true'] at hf
    exact hf.2
  have hok : okAll xs s n := fun j hj => gv_nth hg (by rw [hl]; exact hj)
  have hgs : gv (xs.set k (v : Int)) s = true := by
    obtain ⟨h2, h4⟩ := gv_size hg
    refine okAll_gv (n := n) (by rw [List.length_set]; exact hl) (by rw [hn]; simp) h2 h4 (okAll_set hok hl hk (by omega) (by omega))
  have hcn : candN xs s k = candTo xs s k s := by
    unfold candN
    rw [if_neg (by omega), Int.toNat_natCast]
  rw [sqFits, hgs, Bool.true_and, clash_cand hs hn hl hc hk v1 v2, Bool.not_not, hcn]
theorem cand_full {xs : List Int} {s : Int} {k : Nat} (h : 0 < nth xs k) : candG xs s k = ((2 ^ (nth xs k).toNat : Nat) : Int) := by
  simp only [candG, candN]
  rw [if_pos h]
set_option maxHeartbeats 2000000 in
theorem fnCandidatesOf_walk (himpl : ICandidatesOf) (hfit : ISquareFits) (hmv : IMasksValid) (A : Option Addr) (c n : Nat) (bs : List Int) (w : World) (h : Code_ w A n c bs) :
    Calls Try.prog 14 #[.slice A n c] w fun e w' => e = .returned (.bool true) ∧ Below w.heap.size w w' := by
  have Himpl := Lib.hid himpl; clear himpl
  have Hfit := Lib.hid hfit; clear hfit
  have Hmv := Lib.hid hmv; clear hmv
  by_cases hn : n ≤ 1048576
  · go_enter Try.func14, Try.ntmps14
    go_wp2_with fail
    refine (drawCandidatesOf _ _ _ _ _ h).mono ?_
    rintro e w1 ⟨A1, n1, c1, xs, s, rfl, hr1, ⟨h16, hc1, hc2⟩, s0, s1, _, hb1⟩
    have hl := Lib.hid hr1.1
    have hle := candL_length xs s
    go_wp2_with fail
    refine (Himpl.out _ _ _ _ _ _ _ hr1 (Nat.le_refl _) (by omega)).mono ?_
    rintro e w2 ⟨A2, c2, rfl, ho2, hb2⟩
    have hsame := same_refl (candL xs s)
    go_wp2_with fail
    refine (specCandidatesOf _ _ _ _ _ _ _ (hr1.below hb2) hb2.size (by omega)).mono ?_
    rintro e w3 ⟨A3, c3, rfl, ho3, hb3⟩
    go_wp2_with fail
    refine (sameInts_any _ _ _ _ _ _ _ _ _ _ _ (ho2.rd.below hb3) ho3.rd (by omega)).mono ?_
    rintro e w4 ⟨rfl, hb4⟩
    have h24 := step hb3 hb4
    have h14 := step hb2 h24
    have h04 := step hb1 h14
    have hrx := ho2.rd.below h24
    have hr4 := hr1.below h14
    cases hg : gv xs s
    · have e1 := candL_bad hg
      have hz : (((candL xs s).length : Int) == 0) = true := by rw [e1]; rfl
      clear e1
      go_wp2_with fail
      refine (alive_any _).mono ?_
      rintro e w5 ⟨rfl, hb5⟩
      go_wp2
      go_ret
      exact ⟨rfl, step h04 hb5⟩
    · have hn1 := (gv_n hg hl.out).2.2
      have hn4 := (gv_n hg hl.out).1
      obtain ⟨h2, h4⟩ := gv_size hg
      have hxl := candL_len hg hl.out
      rw [hxl] at hrx
      rw [hxl]
      have hz : ((n1 : Int) == 0) = false := by simp; omega
      have Hg := Lib.hid hg
      have Hval := Lib.hid (cand_valid hg)
      have Hxat := Lib.hid (fun k (hk : k < n1) => candL_at hg hl.out hk)
      have hok := Lib.hid (gv_okAll hg hl.out)
      have Hxl := Lib.hid hxl
      obtain ⟨t, rfl⟩ := Int.eq_ofNat_of_zero_le (by omega : 0 ≤ s)
      have ht : t ∈ [2, 3, 4] := by simp; omega
      have hn2 : n1 = t * t := by
        have e : ((t * t : Nat) : Int) = (t : Int) * (t : Int) := by simp
        omega
      have Hn1 := Lib.hid hn2
      have hB1 : w1.heap.size ≤ w4.heap.size := h14.size
      have hB2 : w2.heap.size ≤ w4.heap.size := h24.size
      clear hn1 hn2 hg hxl hle
      go_wp2
      go_loopw [6, 7, 8] (fun i _ _ wr => ∃ k : Nat, k ≤ n1 ∧ i = .int .i64 k ∧ Below w4.heap.size w4 wr) (fun i _ _ _ => n1 - (intOf i).toNat)
      case atStart => exact ⟨0, Nat.zero_le _, rfl, Below.refl _ _⟩
      case round =>
        obtain ⟨k, hk, rfl, hb⟩ := hrel
        have hrk := hr4.below (hb.mono hB1)
        have hxk := hrx.below (hb.mono hB2)
        by_cases hlt : k < n1
        · obtain ⟨bg, og, rfl, gg, hcg⟩ := hrk.at_ hlt
          obtain ⟨bx, ox, rfl, gx, hcx⟩ := hxk.at_ hlt
          rw [Hxat.out k hlt] at hcx
          obtain ⟨v0, v4⟩ := hok.out k hlt
          have hltI : (k : Int) < (n1 : Int) := by omega
          by_cases hp : 0 < nth xs k
          · obtain ⟨u, hu⟩ := Int.eq_ofNat_of_zero_le v0
            have hcf := cand_full (s := (t : Int)) hp
            rw [hu] at hcg hcf
            rw [hcf, Int.toNat_natCast] at hcx
            have hp' : 0 < (u : Int) := by omega
            have hu4 : u ≤ 4 := by omega
            have hpw := two_pow_nat u hu4
            have hpb : 2 ^ u < 2 ^ 5 := Nat.pow_lt_pow_right (by omega) (by omega)
            have w1 : IntKind.i64.wrap (2 ^ u) = ((2 ^ u : Nat) : Int) := wrapI_pow u hu4
            generalize 2 ^ u = p at hcx w1 hpb
            have hne : ((p : Int) != (p : Int)) = false := by simp
            clear hp hu v0 v4 hcf hpw
            go_wp2
            go_quiet (fail)
            go_wp2
            go_roundw
            case rel => exact ⟨k + 1, by omega, by go_num, below_drewN hb _⟩
            case measure => simp [intOf]; omega
          · have hz0 : nth xs k = 0 := by omega
            rw [hz0] at hcg
            have Hz0 := Lib.hid hz0
            have hcl := Lib.hid (candN_lt (xs := xs) (by omega : t ≤ 4) hok.out hlt)
            have hkx : Hid ((candN xs t k : Int) ≤ 31) := Lib.hid (by have := hcl.out; omega)
            have hcx2 : wr.cell? ⟨bx, ox + k, none⟩ = some (.int .i64 (candN xs t k : Int)) := hcx
            clear hp v0 v4 hz0 hcx
            go_wp2
            obtain ⟨wo, rfl⟩ : ∃ wo : World, wo = wr := ⟨_, rfl⟩
            go_loopw [7, 8] (fun i _ wr => ∃ v : Nat, 1 ≤ v ∧ v ≤ t + 1 ∧ i = .int .i64 v ∧ Below wo.heap.size wo wr) (fun i _ _ => t + 1 - (intOf i).toNat)
            case atStart => exact ⟨1, by omega, by omega, rfl, Below.refl _ _⟩
            case round =>
              obtain ⟨v, v1, v2, rfl, hbi⟩ := hrel
              have hbw := hb.trans (hbi.mono hb.size)
              have hrv := hr4.below (hbw.mono hB1)
              have hxv := hrx.below (hbw.mono hB2)
              by_cases hvt : v ≤ t
              · have hvI : (v : Int) ≤ (t : Int) := by omega
                cases hf : sqFits xs t
                · go_wp2_with (go_at_call 21; refine (fits_of Hfit.out _ _ _ _ _ _ _ hrv (Nat.le_trans hB1 hbw.size) (by omega)).mono ?_; rintro e w6 ⟨rfl, hb6⟩; rw [hf]; have hb7 := step hbw hb6)
                  go_roundw
                  case rel => exact ⟨k + 1, by omega, by go_num, hb7⟩
                  case measure => simp [intOf]; omega
                · have hfc := Lib.hid (fits_cand ht Hn1.out hl.out Hg.out hf hlt Hz0.out v1 hvt)
                  go_wp2_with (first
                    | (go_at_call 21; refine (fits_of Hfit.out _ _ _ _ _ _ _ hrv (Nat.le_trans hB1 hbw.size) (by omega)).mono ?_; rintro e w6 ⟨rfl, hb6⟩; rw [hf]; have hb7 := step hbw hb6; have hr6 := hr4.below (hb7.mono hB1))
                    | (at_builtin; refine push_some rfl (.tmp 61) (.tmp 62) rfl w6.heap.size (some ⟨w6.heap.size, 0, none⟩) 0 0 [] bg og n1 c1 w1.heap.size xs rfl rfl (Ow.made0 _ _ (Nat.le_refl _)) (hr6.alloc (Nat.le_trans hB1 hb7.size) _) (by omega) (by omega) (by simp) ?_; intro A8 c8 w8 ho8 hg8; simp only [Nat.zero_add, List.nil_append] at ho8; obtain ⟨g, rfl, hlog, hgw⟩ := ho8.form (by omega); obtain ⟨hcq, hfq⟩ := ho8.cell hlt))
                  have ho9 : Ow (w8.setCell ⟨g, k, none⟩ (.int .i64 v)) w6.heap.size (some ⟨g, 0, none⟩) n1 c8 (xs.set k (v : Int)) := by
                    have := (World.ownsRow.stored ho8 k (.int .i64 (v : Int))).1
                    rw [vals_set] at this
                    exact this
                  have hb9 : Below w6.heap.size w6 (w8.setCell ⟨g, k, none⟩ (.int .i64 v)) := (((Below.refl _ _).alloc (Nat.le_refl _) _).grown hg8 (by simp) (fun k hk => (Ow.made0 w6 w6.heap.size (Nat.le_refl _)).own_lo k hk)).setCell hlog _
                  generalize w8.setCell ⟨g, k, none⟩ (.int .i64 (v : Int)) = w9 at *
                  have hb10 := step hb7 hb9
                  have hbo : Below wo.heap.size wo w9 := step (step hbi hb6) hb9
                  have hxw : bx < wo.heap.size := Nat.lt_of_lt_of_le gx (Nat.le_trans hB2 hb.size)
                  have hc9 : w9.cell? ⟨bx, ox + k, none⟩ = some (.int .i64 (candN xs t k : Int)) := (hbo.cell (p := ⟨bx, ox + k, none⟩) hxw).trans hcx2
                  have hr9 := ho9.rd
                  have hsh := shr_bit (candN xs t k) v
                  have hM0 : 0 ≤ ((candN xs t k : Nat) : Int) / 2 ^ v := Int.ediv_nonneg (Int.natCast_nonneg _) (by rw [pow_int_]; exact Int.natCast_nonneg _)
                  have hsz9 : n1 ≤ 1099511627776 := by omega
                  clear ho8 hg8 hcq hfq
                  cases htb : (candN xs t k).testBit v
                  · rw [htb] at hsh
                    have Hfc := Lib.hid (hfc.out.trans htb)
                    go_region_with (go_at_call 21; (with_reducible refine (fits_of Hfit.out _ _ _ w9.heap.size (xs.set k (v : Int)) t _ ?hd ?hB ?hm).mono ?_); (case hd => exact hr9); (case hB => exact Nat.le_refl _); (case hm => exact hsz9); rintro e w11 ⟨rfl, hb11⟩; rw [Hfc.out]; have hb12 := of_drew_below hb11; have hc11 := (hb12.cell (p := ⟨bx, ox + k, none⟩) (Nat.lt_of_lt_of_le hxw hbo.size)).trans hc9; have hbf := step hbo hb12; clear hb11)
                    all_goals
                      go_wp2
                      go_roundw
                      case rel => exact ⟨v + 1, by omega, by omega, by go_num, hbf⟩
                      case measure => simp [intOf]; omega
                  · rw [htb] at hsh
                    have Hfc := Lib.hid (hfc.out.trans htb)
                    go_region_with (go_at_call 21; (with_reducible refine (fits_of Hfit.out _ _ _ w9.heap.size (xs.set k (v : Int)) t _ ?hd ?hB ?hm).mono ?_); (case hd => exact hr9); (case hB => exact Nat.le_refl _); (case hm => exact hsz9); rintro e w11 ⟨rfl, hb11⟩; rw [Hfc.out]; have hb12 := of_drew_below hb11; have hc11 := (hb12.cell (p := ⟨bx, ox + k, none⟩) (Nat.lt_of_lt_of_le hxw hbo.size)).trans hc9; have hbf := step hbo hb12; clear hb11)
                    all_goals
                      go_wp2
                      go_roundw
                      case rel => exact ⟨v + 1, by omega, by omega, by go_num, hbf⟩
                      case measure => simp [intOf]; omega
              · go_wp2
                go_roundw
                case rel => exact ⟨k + 1, by omega, by go_num, hbw⟩
                case measure => simp [intOf]; omega
        · obtain rfl : k = n1 := by omega
          go_wp2_with fail
          refine (Hmv.out _ _ _ _ _ _ _ hxk (candL_b64 _ _) (Nat.le_trans hB2 hb.size) (by omega) (by omega)).mono ?_
          rintro e w7 ⟨rfl, hb7⟩
          rw [Hval.out]
          go_wp2
          go_ret
          exact ⟨rfl, step (step h04 hb) hb7⟩
  · go_enter Try.func14, Try.ntmps14
    go_wp2
    go_ret
    exact ⟨rfl, Below.refl _ _⟩
end Go.Proofs.Ytmnacejmkjhpnaa
