import Derived.Test.YtigkcgfhiakikaaWp
set_option maxRecDepth 8000
namespace Go.Proofs.Ytigkcgfhiakikaa
open Go.ChangeShapes Go.WideShapes Go.ChangeAt Go.RowKit
theorem clueL_8 {L : List Bool} {n : Nat} (hl : L.length = n) (h : n ≤ 8) : clueL L = cl L := by
  unfold clueL
  rw [if_pos (by omega)]
set_option maxHeartbeats 1000000 in
theorem fnLineClue_walk (A : Option Addr) (c n : Nat) (bs : List Int) (w : World) (h : Code_ w A n c bs) :
    Calls Try.prog 8 #[.slice A n c] w fun e w' => e = .returned (.bool true) ∧ Below w.heap.size w w' := by
  by_cases hn : n ≤ 1048576
  · go_enter Try.func8, Try.ntmps8
    go_wp2_with fail
    refine (drawClueOf _ _ _ _ _ h).mono ?_
    rintro e w1 ⟨A1, n1, c1, L, rfl, hr, h9, hb⟩
    have hlL := Lib.hid hr.1
    have hlen := clueL_len L
    have hsame := same_refl (clueL L)
    go_wp2_with fail
    refine (implClueOf A1 n1 c1 w1.heap.size L w1 hr (Nat.le_refl _) (by omega)).mono ?_
    rintro e w2 ⟨A2, c2, rfl, ho2, hb2⟩
    go_wp2_with fail
    refine (specClueOf A1 n1 c1 w1.heap.size L w2 (hr.below hb2) hb2.size (by omega)).mono ?_
    rintro e w3 ⟨A3, c3, rfl, ho3, hb3⟩
    go_wp2_with fail
    refine (sameInts_any _ _ _ _ _ _ _ _ _ _ _ (ho2.below hb3).rd ho3.rd (by omega)).mono ?_
    rintro e w4 ⟨rfl, hb4⟩
    rw [hsame]
    have hb14 := step (step hb2 hb3) hb4
    have ho24 := (ho2.below hb3).below hb4
    have hb64 := b64_clue L
    obtain ⟨cs, hcs⟩ : ∃ cs, cs = clueL L := ⟨_, rfl⟩
    rw [← hcs] at hlen hsame ho24 hb64 ⊢
    obtain ⟨q, hq⟩ : ∃ q, q = cs.length := ⟨_, rfl⟩
    rw [← hq] at hlen ho24 ⊢
    have Hcs := Lib.hid hcs
    have Hq := Lib.hid hq
    have HO24 := Lib.hid ho24
    have HB14 := Lib.hid hb14
    clear hcs hq ho2 ho3 hb2 hb3 hb4 ho24
    have hO := Ow.made0 w4 w4.heap.size (Nat.le_refl _)
    have hbA : Below w4.heap.size w4 (w4.alloc (.cells #[] 3)) := (Below.refl _ _).alloc (Nat.le_refl _) _
    go_wp2
    go_loopw [5, 6] (fun v i wr => ∃ (k : Nat) (A5 : Option Addr) (c5 : Nat), k ≤ n1 ∧ i = .int .i64 k ∧ v = .slice A5 k c5 ∧ Ow wr w4.heap.size A5 k c5 (mapTo (fun j => if nb L j then 1 else 0) k) ∧ Below w4.heap.size w4 wr) (fun _ i _ => n1 - (intOf i).toNat)
    case atStart => exact ⟨0, _, _, by omega, rfl, rfl, hO, hbA⟩
    case round =>
      obtain ⟨k, A5, c5, hk, rfl, rfl, ho5, hb5⟩ := hrel
      by_cases hlt : k < n1
      · have hkI : (k : Int) < (n1 : Int) := by omega
        obtain ⟨b, off, rfl, hbB, hck⟩ := ((hr.below hb14).below (hb5.mono hb14.size)).at_ hlt
        have hk40 : k ≤ 1099511627776 := by omega
        have hs := Lib.hid (mapTo_succ (fun j => if nb L j then (1 : Int) else 0) k)
        cases hbit : nb L k
        · rw [hbit] at hck
          have Hs := Lib.hid (show mapTo (fun j => if nb L j then (1 : Int) else 0) (k + 1) = mapTo (fun j => if nb L j then (1 : Int) else 0) k ++ [0] by rw [hs.out, hbit]; rfl)
          clear hbit
          go_wp2_with (at_builtin; refine push_int rfl (.tmp 33) (.tmp 35) rfl w4.heap.size A5 _ c5 _ _ rfl rfl ho5 hk40 hb5.size ?_; intro A6 c6 w6 ho6 hg6)
          go_roundw
          case rel => exact ⟨k + 1, A6, c6, by omega, by go_num, rfl, by rw [Hs.out]; exact ho6, push_below hb5 ho5 (Nat.le_refl _) hb5.size hg6⟩
          case measure => simp [intOf]; omega
        · rw [hbit] at hck
          have Hs := Lib.hid (show mapTo (fun j => if nb L j then (1 : Int) else 0) (k + 1) = mapTo (fun j => if nb L j then (1 : Int) else 0) k ++ [1] by rw [hs.out, hbit]; rfl)
          clear hbit
          go_wp2_with (at_builtin; refine push_int rfl (.tmp 33) (.tmp 35) rfl w4.heap.size A5 _ c5 _ _ rfl rfl ho5 hk40 hb5.size ?_; intro A6 c6 w6 ho6 hg6)
          go_roundw
          case rel => exact ⟨k + 1, A6, c6, by omega, by go_num, rfl, by rw [Hs.out]; exact ho6, push_below hb5 ho5 (Nat.le_refl _) hb5.size hg6⟩
          case measure => simp [intOf]; omega
      · have hkn : k = n1 := by omega
        have hvs : mapTo (fun j => if nb L j then (1 : Int) else 0) k = vsL L := by rw [hkn, ← hlL.out]; rfl
        rw [hvs] at ho5
        have hkL : k = L.length := by rw [hkn, hlL.out]
        have hkI : ¬ ((k : Int) < (n1 : Int)) := by omega
        have hk9 : k ≤ 9 := by omega
        have ho24 := HO24.out.below hb5
        clear hvs hkn hlt hk hr
        by_cases hin : 1 ≤ k ∧ k ≤ 8
        · have hkv := vsL_kv (L := L) (by omega) (by omega)
          have HK := Lib.hid (specKnownValid A5 k c5 wr.heap.size (vsL L) wr ho5.rd (by omega))
          rw [hkv] at HK
          obtain ⟨p1, p2, p3, p4⟩ := line_clue (L := L) (by omega) (by omega)
          rw [← clueL_8 (L := L) rfl (by omega), ← Hcs.out] at p1 p2 p3 p4
          have hcaps := ho5.caps
          have HF := Lib.hid (implLineForced A2 q c2 wr.heap.size cs A5 k c5 wr.heap.size (vsL L) wr ho24.rd (Nat.le_refl _) (by omega) hb64 ho5.rd (Nat.le_refl _) (by omega) hcaps.1 hcaps.2)
          rw [p2, p3] at HF
          have HW1 := Lib.hid (fun (w6 : World) (hb6 : Below wr.heap.size wr w6) => implLineWays A2 q c2 wr.heap.size cs A5 k c5 wr.heap.size (vsL L) w6 (ho24.rd.below hb6) hb6.size (by omega) hb64 (ho5.rd.below hb6) hb6.size (by omega) hcaps.1 hcaps.2)
          rw [p1] at HW1
          have hW2 := fun (A8 : Option Addr) (c8 : Nat) (w8 : World) (ho8 : Ow w8 wr.heap.size A8 (q + 1) c8 (cs ++ [1])) (hb8 : Below wr.heap.size wr w8) => implLineWays A8 (q + 1) c8 w8.heap.size (cs ++ [1]) A5 k c5 wr.heap.size (vsL L) w8 ho8.rd (Nat.le_refl _) (by omega) (b64_snoc hb64 (by omega)) (ho5.rd.below hb8) hb8.size (by omega) hcaps.1 hcaps.2
          obtain ⟨X, hX⟩ : ∃ X, X = waysI (cs ++ [1]) (vsL L) := ⟨_, rfl⟩
          rw [← hX] at hW2 p4
          have HW2 := Lib.hid hW2
          have hvl : (vsL L).length = k := by rw [vsL_length, hkL]
          have hsv := same_refl (vsL L)
          have HRV := Lib.hid ho5.rd
          have HRC := Lib.hid ho24.rd
          have HMk := Lib.hid (fun (w6 : World) => (⟨Ow.made0 w6 w6.heap.size (Nat.le_refl _), (Below.refl _ _).alloc (Nat.le_refl _) _, by simp⟩ : Ow (w6.alloc (.cells #[] 3)) w6.heap.size (some ⟨w6.heap.size, 0, none⟩) 0 0 [] ∧ Below w6.heap.size w6 (w6.alloc (.cells #[] 3)) ∧ w6.heap.size ≤ (w6.alloc (.cells #[] 3)).heap.size))
          clear p1 p2 p3 hX hin hkv ho5 ho24 hW2 hkL
          generalize vsL L = vs at *
          have HVL := Lib.hid hvl
          clear hvl
          go_wp2_with (first
            | (go_at_call 26; (with_reducible refine HK.out.mono ?_); rintro e w' ⟨rfl, rfl⟩)
            | (go_at_call 30; refine HF.out.mono ?_; rintro e w6 ⟨A6, c6, rfl, ho6, hb6⟩; rw [HVL.out] at ho6 ⊢)
            | (go_at_call 23; refine (HW2.out A9 c9 w9 ho9 hb9).mono ?_; rintro e w10 ⟨rfl, hb10⟩)
            | (go_at_call 23; refine (HW1.out w6 hb6).mono ?_; rintro e w7 ⟨rfl, hb7⟩; have hb07 := step hb6 hb7)
            | (go_at_call 17; refine (sameInts_any _ _ _ _ _ _ _ _ _ _ _ (ho6.below hb7).rd (HRV.out.below hb07) (by omega)).mono ?_; rintro e w8 ⟨rfl, hb8⟩; rw [hsv]; have hb08 := step hb07 hb8; obtain ⟨m1, m2, m3⟩ := HMk.out w8)
            | (refine push_allW rfl (.tmp 60) (.tmp 61) rfl w8.heap.size (some ⟨w8.heap.size, 0, none⟩) 0 0 [] A2 q c2 wr.heap.size cs rfl rfl m1 ((HRC.out.below hb08).below (m2.mono hb08.size)) (.inr rfl) (by omega) (by omega) m3 ?_; intro A8 c8 w8' ho8 hg8; rw [Nat.zero_add] at ho8 ⊢; rw [List.nil_append] at ho8; have hb8' : Below w8.heap.size w8 w8' := m2.grown hg8 m2.size (fun k hk => m1.own_lo k hk); clear hg8)
            | (refine push_allW rfl (.tmp 62) (.tmp 63) rfl w8.heap.size A8 q c8 cs (some ⟨w8'.heap.size, 0, none⟩) 1 1 (w8'.heap.size + 1) [1] rfl rfl (ho8.below ((Below.refl _ _).alloc (Nat.le_refl _) _)) (rd_one w8' 1) (.inl (by omega)) (by omega) (by omega) (by have := hb8'.size; simp; omega) ?_; intro A9 c9 w9 ho9' hg9; have hb89 := push_below hb8' ho8 (Nat.le_refl _) hb8'.size hg9; have hb9 := step hb08 hb89; have ho9 := ho9'.mono (show wr.heap.size ≤ w8.heap.size from hb08.size); clear hg9))
          go_ret
          exact ⟨rfl, hb.trans ((step hb14 (step hb5 (step hb9 hb10))).mono hb.size)⟩
        · have hkv := vsL_no (L := L) (by omega)
          have HK := Lib.hid (specKnownValid A5 k c5 wr.heap.size (vsL L) wr ho5.rd (by omega))
          rw [hkv] at HK
          clear hkv ho5 ho24 hkL hin
          go_wp2_with (first
            | (go_at_call 26; (with_reducible refine HK.out.mono ?_); rintro e w' ⟨rfl, rfl⟩)
            | (go_at_call 19; refine (alive_any _).mono ?_; rintro e w6 ⟨rfl, hb6⟩))
          go_ret
          exact ⟨rfl, hb.trans ((step hb14 (step hb5 hb6)).mono hb.size)⟩
  · go_enter Try.func8, Try.ntmps8
    go_wp2
    go_ret
    exact ⟨rfl, Below.refl _ _⟩
end Go.Proofs.Ytigkcgfhiakikaa
