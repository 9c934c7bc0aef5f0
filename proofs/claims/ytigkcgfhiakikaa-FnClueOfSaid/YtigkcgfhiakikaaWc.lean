import Derived.Test.YtigkcgfhiakikaaWq
set_option maxRecDepth 8000
namespace Go.Proofs.Ytigkcgfhiakikaa
open Go.ChangeShapes Go.WideShapes Go.ChangeAt Go.RowKit
theorem cT_snoc (L : List Bool) (b : Bool) : cT (L ++ [b]) = cT L + (if b then 1 else 0) := by simp [cT, List.countP_append, List.countP_cons]
theorem cT_le (L : List Bool) : cT L ≤ L.length := List.countP_le_length
theorem cT_rev (L : List Bool) : cT L.reverse = cT L := by simp [cT]
theorem sI_bd {xs : List Int} (h : ∀ v ∈ xs, 1 ≤ v ∧ v ≤ 8) : ∀ k, k ≤ xs.length → 0 ≤ sI xs k ∧ sI xs k ≤ 8 * k := by
  intro k
  induction k with
  | zero => intro _; simp [sI]
  | succ k ih =>
    intro hk
    have h1 := ih (by omega)
    have hm : nth xs k ∈ xs := by
      have hlt : k < xs.length := by omega
      simp [nth, List.getD_eq_getElem?_getD, hlt]
    have h2 := h _ hm
    simp only [sI]
    omega
theorem take_revS {L : List Bool} {n j m : Nat} (hl : L.length = n) (h : j + (m + 1) = n) : L.reverse.take (j + 1) = L.reverse.take j ++ [nb L m] := by
  rw [take_nb (by rw [List.length_reverse]; omega), nb_rev (by omega)]
  congr 3
  omega
set_option maxHeartbeats 1000000 in
theorem fnClueOf_walk (A : Option Addr) (c n : Nat) (bs : List Int) (w : World) (h : Code_ w A n c bs) :
    Calls Try.prog 3 #[.slice A n c] w fun e w' => e = .returned (.bool true) ∧ Below w.heap.size w w' := by
  by_cases hn : n ≤ 1048576
  · go_enter Try.func3, Try.ntmps3
    go_wp2_with fail
    refine (drawClueOf _ _ _ _ _ h).mono ?_
    rintro e w1 ⟨A1, n1, c1, L, rfl, hr, h9, hb⟩
    have hlL := Lib.hid hr.1
    have hlen := clueL_len L
    have hsame := same_refl (clueL L)
    go_wp2_with fail
    refine (implClueOf A1 n1 c1 w1.heap.size L w1 hr (Nat.le_refl _) (by omega)).mono ?_
    rintro e w2 ⟨A2, c2, rfl, ho2, hb2⟩
    go_wp2_with fail
    refine (specClueOf A1 n1 c1 w1.heap.size L w2 (hr.below hb2) hb2.size (by omega)).mono ?_
    rintro e w3 ⟨A3, c3, rfl, ho3, hb3⟩
    go_wp2_with fail
    refine (sameInts_any _ _ _ _ _ _ _ _ _ _ _ (ho2.below hb3).rd ho3.rd (by omega)).mono ?_
    rintro e w4 ⟨rfl, hb4⟩
    rw [hsame]
    have hb14 := step (step hb2 hb3) hb4
    have ho24 := (ho2.below hb3).below hb4
    have hs14 := hb14.size
    clear hsame ho2 ho3 hb2 hb3 hb4
    by_cases h8 : n1 ≤ 8
    · have hcl : clueL L = cl L := clueL_8 hlL.out h8
      have hb64 := b64_clue L
      rw [hcl] at hlen ho24 hb64 ⊢
      obtain ⟨cs, hcs⟩ : ∃ cs, cs = cl L := ⟨_, rfl⟩
      rw [← hcs] at hlen ho24 hb64 ⊢
      obtain ⟨q, hq⟩ : ∃ q, q = cs.length := ⟨_, rfl⟩
      rw [← hq] at hlen ho24 ⊢
      have Hcs := Lib.hid hcs
      have Hq := Lib.hid hq
      have hbd : ∀ v ∈ cs, 1 ≤ v ∧ v ≤ 8 := fun v hv => by
        have := cl_pos L v (by rw [← hcs]; exact hv)
        have := hlL.out
        omega
      have HS := Lib.hid (sI_bd hbd)
      have HN := Lib.hid (fun k (hk : k < q) => show 1 ≤ nth cs k ∧ nth cs k ≤ 8 from hbd _ (by
        have hlt : k < cs.length := by omega
        simp [nth, List.getD_eq_getElem?_getD, hlt]))
      have HT := Lib.hid (show sI cs q = (cT L : Int) by rw [hq, sI_sum, hcs, cl_sum])
      have hT8 : cT L ≤ 8 := by have := cT_le L; have := hlL.out; omega
      have HK := Lib.hid (fun (w9 : World) (hb9 : Below w4.heap.size w4 w9) => (hr.below (hb14.trans (hb9.mono hs14))))
      have HV := Lib.hid (fun (w9 : World) (hb9 : Below w4.heap.size w4 w9) => implClueValid A2 q c2 w4.heap.size cs (n1 : Int) w9 (ho24.rd.below hb9) (by omega) hb64)
      have HC := Lib.hid (fun (w9 : World) (hb9 : Below w4.heap.size w4 w9) => (ho24.rd.below hb9))
      have HQL := Lib.hid (show cl L.reverse = cs.reverse by rw [cl_rev, hcs])
      have HCV := Lib.hid (fun (h1 : 1 ≤ n1) => show cvB cs (n1 : Int) = true by rw [hcs, ← hlL.out]; exact cv_cl (by rw [hlL.out]; exact h1) (by rw [hlL.out]; exact h8))
      have hrd := ho24.rd
      have HM := Lib.hid (show OwF (w4.alloc (.cells #[] 4)) w4.heap.size (some ⟨w4.heap.size, 0, none⟩) 0 0 [] ∧ Below w4.heap.size w4 (w4.alloc (.cells #[] 4)) from ⟨OwF.made0 _ _ (Nat.le_refl _), (Below.refl _ _).alloc (Nat.le_refl _) _⟩)
      clear hcs hq hcl hbd ho24 hb64
      obtain ⟨T, hTT⟩ : ∃ T, T = cT L := ⟨_, rfl⟩
      rw [← hTT] at HT hT8
      have HTL := Lib.hid hTT
      clear hTT
      have h8I : ((n1 : Int) ≤ 8) := by omega
      go_wp2
      go_loopw [5, 6] (fun v i wr => ∃ k : Nat, k ≤ q ∧ i = .int .i64 k ∧ v = .int .i64 (sI cs k) ∧ w4 = wr) (fun _ i _ => q - (intOf i).toNat)
      case atStart => exact ⟨0, Nat.zero_le _, rfl, rfl, rfl⟩
      case round =>
        obtain ⟨k, hk, rfl, rfl, rfl⟩ := hrel
        by_cases hlt : k < q
        · have hkI : (k : Int) < (q : Int) := by omega
          obtain ⟨b, off, rfl, hbB, hck⟩ := hrd.at_ hlt
          have hs1 := HS.out k (by have := Hq.out; omega)
          have hs2 := HN.out k hlt
          have Hs := Lib.hid (show sI cs (k + 1) = sI cs k + nth cs k from rfl)
          generalize sI cs k = S at *
          generalize nth cs k = V at *
          have hq9 : (q : Int) ≤ 9 := by omega
          have hS : S + V ≤ 200 := by omega
          go_wp2
          go_roundw
          case rel => exact ⟨k + 1, by omega, by go_num, by rw [Hs.out], trivial⟩
          case measure => simp [intOf]; omega
        · have hkn : k = q := by omega
          rw [hkn, HT.out]
          have hkI : ¬ ((q : Int) < (q : Int)) := by omega
          clear hkn hlt hk
          obtain ⟨hO, hbO⟩ := HM.out
          go_wp2
          go_loopw [5, 7, 8] (fun f v i wr => ∃ (j m t : Nat) (A5 : Option Addr) (c5 : Nat), j + m = n1 ∧ t ≤ j ∧ Hid (t = cT (L.reverse.take j)) ∧ i = .int .i64 ((m : Int) - 1) ∧ f = .int .i64 ((T : Int) - t) ∧ v = .slice A5 j c5 ∧ OwF wr w4.heap.size A5 j c5 (L.reverse.take j) ∧ Below w4.heap.size w4 wr) (fun _ _ i _ => ((intOf i) + 1).toNat)
          case atStart => exact ⟨0, n1, 0, _, _, by omega, by omega, Lib.hid rfl, by go_num, by go_num, rfl, hO, hbO⟩
          case round =>
            obtain ⟨j, m, t, A5, c5, hjm, htj, Ht, rfl, rfl, rfl, ho5, hb5⟩ := hrel
            have hs5 := hb5.size
            by_cases hm : m = 0
            · subst hm
              have hjn : j = n1 := by omega
              have hall : L.reverse.take j = L.reverse := List.take_of_length_le (by rw [List.length_reverse, hlL.out]; omega)
              rw [hall] at Ht ho5
              rw [hjn] at ho5 ⊢
              have htT : (T : Int) - (t : Int) = 0 := by rw [Ht.out, cT_rev, ← HTL.out]; omega
              rw [show ((0 : Nat) : Int) - 1 = -1 from rfl, htT]
              clear hall htT hjm htj hjn Ht
              have HI := Lib.hid (implClueOf A5 n1 c5 wr.heap.size L.reverse wr ho5.rd (Nat.le_refl _) (by omega))
              rw [clueL_8 (L := L.reverse) (by rw [List.length_reverse, hlL.out]) h8, HQL.out] at HI
              have HL6 := Lib.hid (show cs.reverse.length = q by rw [List.length_reverse, ← Hq.out])
              clear ho5
              go_wp2_with (go_at_call 16; refine HI.out.mono ?_; rintro e w6 ⟨A6, c6, rfl, ho6, hb6⟩; rw [HL6.out] at ho6 ⊢)
              have hrb := ho6.rd
              have hb46 := step hb5 hb6
              have hs6 := hb46.size
              clear ho6 hb6
              go_loopw [10] (fun i w7 => ∃ k : Nat, k ≤ q ∧ i = .int .i64 k ∧ Below w6.heap.size w6 w7) (fun i _ => q - (intOf i).toNat)
              case atStart => exact ⟨0, Nat.zero_le _, rfl, Below.refl _ _⟩
              case round =>
                obtain ⟨k, hk, rfl, hb7⟩ := hrel
                have hb47 := step hb46 hb7
                by_cases hlt : k < q
                · have hkI : (k : Int) < (q : Int) := by omega
                  obtain ⟨p, hp⟩ : ∃ p, p = q - 1 - k := ⟨_, rfl⟩
                  have hpq : p < q := by omega
                  have hpI : (p : Int) < (q : Int) := by omega
                  have e1 : IntKind.i64.wrap ((q : Int) - 1) = (q : Int) - 1 := IntWalk.i64_in _ (by omega)
                  have e2 : IntKind.i64.wrap ((q : Int) - 1 - (k : Int)) = (p : Int) := (IntWalk.i64_in _ (by omega)).trans (by omega)
                  obtain ⟨b, off, rfl, hbB, hck⟩ := (hrb.below hb7).at_ hlt
                  obtain ⟨b2, off2, rfl, hbB2, hck2⟩ := (HC.out _ hb47).at_ hpq
                  rw [nth_rev Hq.out.symm hlt, ← hp] at hck
                  generalize nth cs p = V at *
                  have hne : (V != V) = false := by simp
                  clear hp
                  go_wp2
                  go_quiet (fail)
                  go_wp2
                  go_roundw
                  case rel => exact ⟨k + 1, by omega, by go_num, below_drewN hb7 _⟩
                  case measure => simp [intOf]; omega
                · have hkI : ¬ ((k : Int) < (q : Int)) := by omega
                  clear hlt hk
                  by_cases h0 : n1 = 0
                  · have h0I : ((n1 : Int) == 0) = true := by simp [h0]
                    clear h0
                    go_wp2
                    go_ret
                    exact ⟨rfl, hb.trans ((step hb14 hb47).mono hb.size)⟩
                  · have h0I : ((n1 : Int) == 0) = false := by simp; omega
                    have hcv := HCV.out (by omega)
                    have HV7 := Lib.hid (HV.out _ hb47)
                    rw [hcv] at HV7
                    clear h0 hcv
                    go_wp2_with (go_at_call 20; refine HV7.out.mono ?_; rintro e w8 ⟨rfl, rfl⟩)
                    go_ret
                    exact ⟨rfl, hb.trans ((step hb14 hb47).mono hb.size)⟩
            · obtain ⟨m', rfl⟩ : ∃ m', m = m' + 1 := ⟨m - 1, by omega⟩
              rw [show ((m' + 1 : Nat) : Int) - 1 = (m' : Int) by omega]
              have hmI : (m' : Int) < (n1 : Int) := by omega
              have hm0 : (0 : Int) ≤ (m' : Int) := by omega
              obtain ⟨b, off, rfl, hbB, _⟩ := hr.at_ (show m' < n1 by omega)
              have HC6 := Lib.hid (fun (w9 : World) (hb9 : Below w4.heap.size w4 w9) => show w9.cell? ⟨b, off + m', none⟩ = some (.bool (nb L m')) from by
                obtain ⟨_, _, e1, _, k1⟩ := (HK.out w9 hb9).at_ (show m' < n1 by omega)
                cases e1
                exact k1)
              have hck := HC6.out wr hb5
              have Htk := Lib.hid (take_revS hlL.out hjm)
              have hj40 : j ≤ 1099511627776 := by omega
              clear hm
              generalize nb L m' = bit at *
              have HTT := Lib.hid (show (t + if bit then 1 else 0) = cT (L.reverse.take (j + 1)) by rw [Htk.out, cT_snoc, Ht.out])
              cases bit
              · go_wp2_with (at_builtin; refine push_flag rfl (.tmp 52) (.tmp 57) rfl w4.heap.size A5 _ c5 _ _ rfl rfl ho5 hj40 hs5 ?_; intro A6 c6 w6 ho6 hg6; have hb6 := push_belowF hb5 ho5 (Nat.le_refl _) hs5 hg6; have hck6 := HC6.out w6 hb6; clear hg6)
                go_roundw
                case rel => exact ⟨j + 1, m', t, A6, c6, by omega, by omega, Lib.hid (by rw [← HTT.out]; simp), by go_num, by go_num, rfl, by rw [Htk.out]; exact ho6, hb6⟩
                case measure => simp [intOf]
              · go_wp2_with (at_builtin; refine push_flag rfl (.tmp 52) (.tmp 57) rfl w4.heap.size A5 _ c5 _ _ rfl rfl ho5 hj40 hs5 ?_; intro A6 c6 w6 ho6 hg6; have hb6 := push_belowF hb5 ho5 (Nat.le_refl _) hs5 hg6; have hck6 := HC6.out w6 hb6; clear hg6)
                go_roundw
                case rel => exact ⟨j + 1, m', t + 1, A6, c6, by omega, by omega, Lib.hid (by rw [← HTT.out]; simp), by go_num, by go_num, rfl, by rw [Htk.out]; exact ho6, hb6⟩
                case measure => simp [intOf]
    · have hc0 : clueL L = [] := by unfold clueL; rw [if_neg (by have := hlL.out; omega)]
      have hl0 : (clueL L).length = 0 := by rw [hc0]; rfl
      rw [hl0]
      have h8I : ¬ ((n1 : Int) ≤ 8) := by omega
      clear hl0 hc0 ho24
      go_wp2_with (go_at_call 19; refine (alive_any _).mono ?_; rintro e w5 ⟨rfl, hb5⟩)
      go_ret
      exact ⟨rfl, hb.trans ((step hb14 hb5).mono hb.size)⟩
  · go_enter Try.func3, Try.ntmps3
    go_wp2
    go_ret
    exact ⟨rfl, Below.refl _ _⟩
end Go.Proofs.Ytigkcgfhiakikaa
