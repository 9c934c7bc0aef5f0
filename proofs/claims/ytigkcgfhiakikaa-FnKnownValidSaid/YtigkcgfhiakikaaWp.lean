import Derived.Test.YtigkcgfhiakikaaPm
import Derived.Test.YtigkcgfhiakikaaDn2
set_option maxRecDepth 8000
namespace Go.Proofs.Ytigkcgfhiakikaa
open Go.ChangeShapes Go.WideShapes Go.ChangeAt Go.RowKit
/-! the promises on lines. -/
/-- append of a slice at an operation that is guarded, and wanted. -/
theorem push_allW {w : World} {ops : Array Oper} {rest : List Oper} {o : Oper} {a : Act} {Q : Exit → Act → World → Prop} (hw : Region.wanted o (yielded ops a.tmps) = true) (s x : Operand)
    (ho : o.op = .call { callee := .builtin .append, args := #[s, x], argTypes := #[25, 25] })
    (lo : Nat) (A : Option Addr) (n c : Nat) (xs : List Int) (A2 : Option Addr) (m c2 B : Nat) (ys : List Int) (hs : a.eval s = .slice A n c) (hx : a.eval x = .slice A2 m c2) (hown : Ow w lo A n c xs) (hr : Rd w B A2 m ys)
    (hmn : 0 < m ∨ n = 0) (hn : n ≤ 1099511627776) (hm : m ≤ 1099511627776) (hlo : lo ≤ w.heap.size)
    (h : ∀ A' c' w', Ow w' lo A' (n + m) c' (xs ++ ys) → w.grownBy w' (Value.slice A n c).ownBlock → wpList Try.prog ops Q rest (a.put o.dst (.slice A' (n + m) c')) w') :
    wpList Try.prog ops Q (o :: rest) a w := by
  refine wpList_step fun K hK => ?_
  simp only [hw, if_true]
  obtain ⟨A', c', w', hrun, h1, h2, h3⟩ := run_push_all o.type lo A n c xs A2 m c2 B ys hown hr hmn hn hm hlo
  unfold Oper.wp
  simp [execOp, ho, resolve, invoke, builtin, hs, hx, hrun, Result.andThen]
  exact hK _ _ (h A' c' w' h1 h2)
theorem rd_one (w : World) (v : Int) : Rd (w.alloc (.cells #[.int .i64 v] 3)) (w.heap.size + 1) (some ⟨w.heap.size, 0, none⟩) 1 [v] :=
  ⟨rfl, fun _ => ⟨w.heap.size, 0, rfl, by omega, fun k hk => by
    obtain rfl : k = 0 := by omega
    exact (cell_of_row _ _ 0 _ _ (0, 0) (heap_alloc_new w _)).trans rfl⟩⟩
set_option maxHeartbeats 2000000 in
theorem fnKnownValid_walk (A : Option Addr) (c n : Nat) (bs : List Int) (w : World) (h : Code_ w A n c bs) :
    Calls Try.prog 5 #[.slice A n c] w fun e w' => e = .returned (.bool true) ∧ Below w.heap.size w w' := by
  by_cases hn : n ≤ 1048576
  · go_enter Try.func5, Try.ntmps5
    go_wp2_with fail
    refine (drawKnownValid _ _ _ _ _ h).mono ?_
    rintro e w1 ⟨A1, n1, c1, xs, rfl, hr, h8, ⟨hc1, hc2⟩, hb⟩
    have hlx := Lib.hid hr.1
    have HO := Lib.hid (Ow.made0 w1 w1.heap.size (Nat.le_refl _))
    have hbA : Below w1.heap.size w1 (w1.alloc (.cells #[] 3)) := (Below.refl _ _).alloc (Nat.le_refl _) _
    have HR := Lib.hid (hr.below hbA)
    have hsO : w1.heap.size ≤ (w1.alloc (.cells #[] 3)).heap.size := by simp
    have hk2 := Lib.hid (kv_two xs)
    have hne : (kvB xs != kvB xs) = false := by simp
    have H1 := Lib.hid (implKnownValid A1 n1 c1 w1.heap.size xs w1 hr (by omega))
    have H2 := Lib.hid (specKnownValid A1 n1 c1 w1.heap.size xs w1 hr (by omega))
    have HB := Lib.hid (fun (w2 : World) (A2 : Option Addr) (c2 : Nat) (ho2 : Ow w2 w1.heap.size A2 n1 c2 xs) (hg2 : (w1.alloc (.cells #[] 3)).grownBy w2 (Value.slice (some ⟨w1.heap.size, 0, none⟩) 0 0).ownBlock) => show Below w1.heap.size w1 w2 from hbA.grown hg2 hbA.size (fun k hk => HO.out.own_lo k hk))
    clear hbA
    cases hk : kvB xs
    · rw [hk] at H1 H2
      clear hk hne
      go_wp2_with (first
        | (go_at_call 25; (with_reducible refine H1.out.mono ?_); rintro e w' ⟨rfl, rfl⟩)
        | (go_at_call 26; refine H2.out.mono ?_; rintro e w' ⟨rfl, rfl⟩)
        | (refine push_allW rfl (.tmp 29) (.tmp 30) rfl w1.heap.size (some ⟨w1.heap.size, 0, none⟩) 0 0 [] A1 n1 c1 w1.heap.size xs rfl rfl HO.out HR.out (.inr rfl) (by omega) (by omega) hsO ?_; intro A2 c2 w2 ho2 hg2; rw [Nat.zero_add] at ho2 ⊢; rw [List.nil_append] at ho2; have hb2 := HB.out w2 A2 c2 ho2 hg2; clear hg2)
        | (refine push_allW rfl (.tmp 31) (.tmp 32) rfl w1.heap.size A2 n1 c2 xs (some ⟨w2.heap.size, 0, none⟩) 1 1 (w2.heap.size + 1) [2] rfl rfl (ho2.below ((Below.refl _ _).alloc (Nat.le_refl _) _)) (rd_one w2 2) (.inl (by omega)) (by omega) (by omega) (by have := hb2.size; simp; omega) ?_; intro A3 c3 w3 ho3 hg3; have hb3 := push_below hb2 ho2 (Nat.le_refl _) hb2.size hg3; clear hg3)
        | (go_at_call 25; refine (implKnownValid A3 (n1 + 1) c3 w3.heap.size (xs ++ [2]) w3 ho3.rd (by omega)).mono ?_; rintro e w' ⟨rfl, rfl⟩; rw [hk2.out])
        | (go_at_call 19; refine (alive_any _).mono ?_; rintro e w5 ⟨rfl, hb5⟩))
      go_ret
      exact ⟨rfl, hb.trans ((step hb3 hb5).mono hb.size)⟩
    · rw [hk] at H1 H2
      by_cases h2 : n1 < 2
      · have h2I : (n1 : Int) < 2 := by omega
        clear hk hne
        go_wp2_with (first
          | (go_at_call 25; (with_reducible refine H1.out.mono ?_); rintro e w' ⟨rfl, rfl⟩)
          | (go_at_call 26; refine H2.out.mono ?_; rintro e w' ⟨rfl, rfl⟩)
          | (refine push_allW rfl (.tmp 29) (.tmp 30) rfl w1.heap.size (some ⟨w1.heap.size, 0, none⟩) 0 0 [] A1 n1 c1 w1.heap.size xs rfl rfl HO.out HR.out (.inr rfl) (by omega) (by omega) hsO ?_; intro A2 c2 w2 ho2 hg2; rw [Nat.zero_add] at ho2 ⊢; rw [List.nil_append] at ho2; have hb2 := HB.out w2 A2 c2 ho2 hg2; clear hg2)
          | (refine push_allW rfl (.tmp 31) (.tmp 32) rfl w1.heap.size A2 n1 c2 xs (some ⟨w2.heap.size, 0, none⟩) 1 1 (w2.heap.size + 1) [2] rfl rfl (ho2.below ((Below.refl _ _).alloc (Nat.le_refl _) _)) (rd_one w2 2) (.inl (by omega)) (by omega) (by omega) (by have := hb2.size; simp; omega) ?_; intro A3 c3 w3 ho3 hg3; have hb3 := push_below hb2 ho2 (Nat.le_refl _) hb2.size hg3; clear hg3)
          | (go_at_call 25; refine (implKnownValid A3 (n1 + 1) c3 w3.heap.size (xs ++ [2]) w3 ho3.rd (by omega)).mono ?_; rintro e w' ⟨rfl, rfl⟩; rw [hk2.out])
          | (go_at_call 19; refine (alive_any _).mono ?_; rintro e w5 ⟨rfl, hb5⟩))
        go_ret
        exact ⟨rfl, hb.trans ((step hb3 hb5).mono hb.size)⟩
      · have h2I : (2 : Int) ≤ (n1 : Int) := by omega
        have h2I' : ¬ ((n1 : Int) < 2) := by omega
        obtain ⟨b, off, rfl, hbB, hck⟩ := hr.at_ (show 0 < n1 by omega)
        have hsub := hr.sub (s := 1) (e := n1) (by omega) (Nat.le_refl _)
        have hkt := Lib.hid (show kvB ((xs.drop 1).take (n1 - 1)) = true by
          rw [List.take_of_length_le (by rw [List.length_drop, hlx.out]; omega)]
          exact kv_tail hk (by rw [hlx.out]; omega))
        have H3 := Lib.hid (implKnownValid (some ⟨b, off + 1, none⟩) (n1 - 1) (c1 - 1) w1.heap.size _ w1 hsub (by omega))
        rw [hkt.out] at H3
        have hcI : (n1 : Int) ≤ (c1 : Int) := by omega
        clear hk hne hck hsub
        go_wp2_with (first
          | (go_at_call 25; (with_reducible refine H1.out.mono ?_); rintro e w' ⟨rfl, rfl⟩)
          | (go_at_call 26; refine H2.out.mono ?_; rintro e w' ⟨rfl, rfl⟩)
          | (go_at_call 25; (with_reducible refine H3.out.mono ?_); rintro e w' ⟨rfl, rfl⟩)
          | (refine push_allW rfl (.tmp 29) (.tmp 30) rfl w1.heap.size (some ⟨w1.heap.size, 0, none⟩) 0 0 [] (some ⟨b, off, none⟩) n1 c1 w1.heap.size xs rfl rfl HO.out HR.out (.inr rfl) (by omega) (by omega) hsO ?_; intro A2 c2 w2 ho2 hg2; rw [Nat.zero_add] at ho2 ⊢; rw [List.nil_append] at ho2; have hb2 := HB.out w2 A2 c2 ho2 hg2; clear hg2)
          | (refine push_allW rfl (.tmp 31) (.tmp 32) rfl w1.heap.size A2 n1 c2 xs (some ⟨w2.heap.size, 0, none⟩) 1 1 (w2.heap.size + 1) [2] rfl rfl (ho2.below ((Below.refl _ _).alloc (Nat.le_refl _) _)) (rd_one w2 2) (.inl (by omega)) (by omega) (by omega) (by have := hb2.size; simp; omega) ?_; intro A3 c3 w3 ho3 hg3; have hb3 := push_below hb2 ho2 (Nat.le_refl _) hb2.size hg3; clear hg3)
          | (go_at_call 25; refine (implKnownValid A3 (n1 + 1) c3 w3.heap.size (xs ++ [2]) w3 ho3.rd (by omega)).mono ?_; rintro e w' ⟨rfl, rfl⟩; rw [hk2.out])
          | (go_at_call 19; refine (alive_any _).mono ?_; rintro e w5 ⟨rfl, hb5⟩))
        go_ret
        exact ⟨rfl, hb.trans ((step hb3 hb5).mono hb.size)⟩
  · go_enter Try.func5, Try.ntmps5
    go_wp2
    go_ret
    exact ⟨rfl, Below.refl _ _⟩
set_option maxHeartbeats 2000000 in
theorem fnClueValid_walk (A : Option Addr) (c n : Nat) (bs : List Int) (w : World) (h : Code_ w A n c bs) :
    Calls Try.prog 4 #[.slice A n c] w fun e w' => e = .returned (.bool true) ∧ Below w.heap.size w w' := by
  by_cases hn : n ≤ 1048576
  · go_enter Try.func4, Try.ntmps4
    go_wp2_with fail
    refine (drawClueValid _ _ _ _ _ h).mono ?_
    rintro e w1 ⟨A1, m, c1, cs, x, rfl, hr, hm, hx, x0, x9, hb⟩
    have H1 := Lib.hid (implClueValid A1 m c1 w1.heap.size cs x w1 hr (by omega) hx)
    have H2 := Lib.hid (specClueValid A1 m c1 w1.heap.size cs x w1 hr (by omega))
    by_cases hin : 1 ≤ x ∧ x ≤ 8
    · obtain ⟨nn, rfl⟩ := Int.eq_ofNat_of_zero_le x0
      have hn1 : 1 ≤ nn := by omega
      have hn8 : nn ≤ 8 := by omega
      have HU := Lib.hid (unk_pos (cs := cs) hn1 hn8)
      have hne : (cvB cs (nn : Int) != cvB cs (nn : Int)) = false := by simp
      have i1 : (1 : Int) ≤ (nn : Int) := by omega
      have i8 : (nn : Int) ≤ 8 := by omega
      obtain ⟨bv, hbv⟩ : ∃ b, b = cvB cs (nn : Int) := ⟨_, rfl⟩
      rw [← hbv] at H1 H2 hne HU
      clear hbv hin
      have hO := Ow.made0 w1 w1.heap.size (Nat.le_refl _)
      have hbA : Below w1.heap.size w1 (w1.alloc (.cells #[] 3)) := (Below.refl _ _).alloc (Nat.le_refl _) _
      go_wp2_with (first
        | (go_at_call 20; refine H1.out.mono ?_; rintro e w' ⟨rfl, rfl⟩)
        | (go_at_call 22; refine H2.out.mono ?_; rintro e w' ⟨rfl, rfl⟩))
      go_loopw [6, 7] (fun v i wr => ∃ (k : Nat) (A2 : Option Addr) (c2 : Nat), k ≤ nn ∧ i = .int .i64 k ∧ v = .slice A2 k c2 ∧ Ow wr w1.heap.size A2 k c2 (mapTo (fun _ => -1) k) ∧ Below w1.heap.size w1 wr) (fun _ i _ => nn - (intOf i).toNat)
      case atStart => exact ⟨0, _, _, by omega, rfl, rfl, hO, hbA⟩
      case round =>
        obtain ⟨k, A2, c2, hk, rfl, rfl, ho, hb2⟩ := hrel
        by_cases hlt : k < nn
        · have hkI : (k : Int) < (nn : Int) := by omega
          have hk40 : k ≤ 1099511627776 := by omega
          have hs := Lib.hid (mapTo_succ (fun _ => (-1 : Int)) k)
          go_wp2_with (at_builtin; refine push_int rfl (.tmp 41) (.tmp 42) rfl w1.heap.size A2 _ c2 _ _ rfl rfl ho hk40 hb2.size ?_; intro A3 c3 w3 ho3 hg3)
          go_roundw
          case rel => exact ⟨k + 1, A3, c3, by omega, by go_num, rfl, by rw [hs.out]; exact ho3, push_below hb2 ho (Nat.le_refl _) hb2.size hg3⟩
          case measure => simp [intOf]; omega
        · have hkn : k = nn := by omega
          rw [hkn] at ho
          have hkI : ¬ ((k : Int) < (nn : Int)) := by omega
          have hcaps := ho.caps
          have HL := Lib.hid (implLineWays A1 m c1 w1.heap.size cs A2 nn c2 wr.heap.size _ wr (hr.below hb2) hb2.size (by omega) hx ho.rd (Nat.le_refl _) (by omega) hcaps.1 hcaps.2)
          rw [← hkn] at HL
          have HG := Lib.hid (show (bv == decide (0 < waysI cs (mapTo (fun _ => -1) k))) = true by rw [hkn, HU.out]; simp)
          clear hkn ho hlt hk
          go_wp2_with (go_at_call 23; refine HL.out.mono ?_; rintro e w4 ⟨rfl, hb4⟩)
          go_ret
          refine ⟨?_, hb.trans ((step hb2 hb4).mono hb.size)⟩
          show Ending.returned (.bool (bv == decide (0 < waysI cs (mapTo (fun _ => -1) k)))) = _
          rw [HG.out]
    · have hf : cvB cs x = false := by
        unfold cvB
        rw [show inr x 1 8 = false by simp only [inr, decide_eq_false_iff_not]; exact hin, Bool.and_false, Bool.false_and]
      rw [hf] at H1 H2
      clear hf
      by_cases hlo : x < 1
      · clear hin
        go_wp2_with (first
          | (go_at_call 20; refine H1.out.mono ?_; rintro e w' ⟨rfl, rfl⟩)
          | (go_at_call 22; refine H2.out.mono ?_; rintro e w' ⟨rfl, rfl⟩)
          | (go_at_call 19; refine (alive_any _).mono ?_; rintro e w5 ⟨rfl, hb5⟩))
        go_ret
        exact ⟨rfl, step hb hb5⟩
      · have hhi : 8 < x := by omega
        clear hin
        go_wp2_with (first
          | (go_at_call 20; refine H1.out.mono ?_; rintro e w' ⟨rfl, rfl⟩)
          | (go_at_call 22; refine H2.out.mono ?_; rintro e w' ⟨rfl, rfl⟩)
          | (go_at_call 19; refine (alive_any _).mono ?_; rintro e w5 ⟨rfl, hb5⟩))
        go_ret
        exact ⟨rfl, step hb hb5⟩
  · go_enter Try.func4, Try.ntmps4
    go_wp2
    go_ret
    exact ⟨rfl, Below.refl _ _⟩
set_option maxHeartbeats 2000000 in
theorem fnForcedAgain_walk (A : Option Addr) (c n : Nat) (bs : List Int) (w : World) (h : Code_ w A n c bs) :
    Calls Try.prog 9 #[.slice A n c] w fun e w' => e = .returned (.bool true) ∧ Below w.heap.size w w' := by
  by_cases hn : n ≤ 1048576
  · go_enter Try.func9, Try.ntmps9
    go_wp2_with fail
    refine (drawLineForced _ _ _ _ _ h).mono ?_
    rintro e w1 ⟨A1, m, c1, cs, A2, nk, c2, ks, rfl, hr, hm, hx, hr', hn8, ⟨hc1, hc2⟩, hb⟩
    have hlk := Lib.hid hr'.1
    have hfl := forI_len cs ks
    rw [hlk.out] at hfl
    go_wp2_with fail
    refine (implLineForced A1 m c1 w1.heap.size cs A2 nk c2 w1.heap.size ks w1 hr (Nat.le_refl _) (by omega) hx hr' (Nat.le_refl _) (by omega) hc1 hc2).mono ?_
    rintro e w2 ⟨A3, c3, rfl, ho3, hb2⟩
    go_wp2_with fail
    refine (specLineForced A1 A2 m c1 nk c2 w1.heap.size w1.heap.size cs ks w2 (hr.below hb2) hb2.size (by omega) (hr'.below hb2) hb2.size (by omega)).mono ?_
    rintro e w3 ⟨A4, c4, rfl, ho4, hb3⟩
    have hsame := same_refl (forI cs ks)
    go_wp2_with fail
    refine (sameInts_any _ _ _ _ _ _ _ _ _ _ _ (ho3.below hb3).rd ho4.rd (by omega)).mono ?_
    rintro e w4 ⟨rfl, hb4⟩
    rw [hsame]
    have hb14 := step (step hb2 hb3) hb4
    have ho34 := (ho3.below hb3).below hb4
    cases hfb : forB cs ks
    · go_wp2_with (go_at_call 19; refine (alive_any _).mono ?_; rintro e w5 ⟨rfl, hb5⟩)
      go_ret
      exact ⟨rfl, hb.trans ((step hb14 hb5).mono hb.size)⟩
    · obtain ⟨q1, q2, q3⟩ := forI_yes hfb
      obtain ⟨q4, q5⟩ := forI_for rfl q2 q3
      rw [← q1] at q4 q5
      have hcaps := ho34.caps
      have HL := Lib.hid (implLineForced A1 m c1 w4.heap.size cs A3 (forI cs ks).length c3 w4.heap.size (forI cs ks) w4 ((hr.below hb14).more hb14.size) (Nat.le_refl _) (by omega) hx ho34.rd (Nat.le_refl _) (by omega) hcaps.1 hcaps.2)
      rw [q4, q5] at HL
      clear q1 q2 q3 q4 q5 hfb
      generalize forI cs ks = fs at *
      go_wp2_with (first
        | (go_at_call 30; refine HL.out.mono ?_; rintro e w5 ⟨A5, c5, rfl, ho5, hb5⟩)
        | (go_at_call 17; refine (sameInts_any _ _ _ _ _ _ _ _ _ _ _ ho5.rd (ho34.below hb5).rd (by omega)).mono ?_; rintro e w6 ⟨rfl, hb6⟩; rw [hsame]))
      go_ret
      exact ⟨rfl, hb.trans ((step (step hb14 hb5) hb6).mono hb.size)⟩
  · go_enter Try.func9, Try.ntmps9
    go_wp2
    go_ret
    exact ⟨rfl, Below.refl _ _⟩
set_option maxHeartbeats 4000000 in
theorem fnLineWays_walk (A : Option Addr) (c n : Nat) (bs : List Int) (w : World) (h : Code_ w A n c bs) :
    Calls Try.prog 6 #[.slice A n c] w fun e w' => e = .returned (.bool true) ∧ Below w.heap.size w w' := by
  by_cases hn : n ≤ 1048576
  · go_enter Try.func6, Try.ntmps6
    go_wp2_with fail
    refine (drawLineWays _ _ _ _ _ h).mono ?_
    rintro e w1 ⟨A1, m, c1, cs, A2, nk, c2, ks, rfl, hr, hm, hx, hr', hn8, ⟨hc1, hc2⟩, hb⟩
    have hlk := Lib.hid hr'.1
    go_wp2_with fail
    refine (implLineWays A1 m c1 w1.heap.size cs A2 nk c2 w1.heap.size ks w1 hr (Nat.le_refl _) (by omega) hx hr' (Nat.le_refl _) (by omega) hc1 hc2).mono ?_
    rintro e w2 ⟨rfl, hb2⟩
    go_wp2_with fail
    refine (specLineWays A1 A2 m c1 nk c2 w1.heap.size w1.heap.size cs ks w2 (hr.below hb2) hb2.size (by omega) (hr'.below hb2) hb2.size (by omega)).mono ?_
    rintro e w3 ⟨rfl, hb3⟩
    have hb13 := step hb2 hb3
    have hne : (waysI cs ks != waysI cs ks) = false := by simp
    cases hok : okK ks cs nk
    · have hw := waysI_no hlk.out hok
      rw [hw] at hne ⊢
      go_wp2_with (go_at_call 19; refine (alive_any _).mono ?_; rintro e w5 ⟨rfl, hb5⟩)
      go_ret
      exact ⟨rfl, hb.trans ((step hb13 hb5).mono hb.size)⟩
    · have hw := waysI_ok hlk.out hok
      have hle : wys (kk ks) cs nk ≤ 256 := Nat.le_trans (sm_le (fun L => by split <;> omega)) (Nat.pow_le_pow_right (by omega) hn8 : 2 ^ nk ≤ 2 ^ 8)
      rw [hw] at hne ⊢
      obtain ⟨W, hW⟩ : ∃ W, W = wys (kk ks) cs nk := ⟨_, rfl⟩
      rw [← hW] at hne hle ⊢
      have HW := Lib.hid hW
      clear hW hw
      have HB3 := Lib.hid hb13
      clear hb2 hb3 hb13
      go_wp2
      go_loopw [6] (fun i wr => ∃ k : Nat, k ≤ nk ∧ i = .int .i64 k ∧ (∀ j, j < k → nth ks j ≠ -1) ∧ w3 = wr) (fun i _ => nk - (intOf i).toNat)
      case atStart => exact ⟨0, Nat.zero_le _, rfl, fun j hj => by omega, rfl⟩
      case round =>
        obtain ⟨k, hk, rfl, hall, rfl⟩ := hrel
        have hb13 := HB3.out
        by_cases hlt : k < nk
        · have hkI : (k : Int) < (nk : Int) := by omega
          obtain ⟨b, off, rfl, hbB, hck⟩ := (hr'.below hb13).at_ hlt
          have Hall := Lib.hid hall; clear hall
          by_cases he : nth ks k = -1
          · rw [he] at hck
            have HE := Lib.hid (show waysI cs (ks.set k 0) + waysI cs (ks.set k 1) = (W : Int) by
              rw [waysI_set0 hlk.out hok hlt (by omega), waysI_set1 hlk.out hok hlt (by omega), HW.out]
              have := ep_fl (kk ks) cs nk k
              omega)
            have hb00 : 0 ≤ waysI cs (ks.set k 0) := by rw [waysI_set0 hlk.out hok hlt (by omega)]; omega
            have hb01 : 0 ≤ waysI cs (ks.set k 1) := by rw [waysI_set1 hlk.out hok hlt (by omega)]; omega
            obtain ⟨X0, hX0⟩ : ∃ X, X = waysI cs (ks.set k 0) := ⟨_, rfl⟩
            obtain ⟨X1, hX1⟩ : ∃ X, X = waysI cs (ks.set k 1) := ⟨_, rfl⟩
            rw [← hX0] at hb00
            rw [← hX1] at hb01
            have hsum : (X0 + X1 == (W : Int)) = true := by rw [hX0, hX1, HE.out]; simp
            have hX256 : X0 + X1 ≤ 256 := by have := beq_iff_eq.1 hsum; omega
            have HX0 := Lib.hid hX0
            have HX1 := Lib.hid hX1
            clear hX0 hX1
            have HO := Lib.hid (Ow.made0 w3 w3.heap.size (Nat.le_refl _))
            have hbA : Below w3.heap.size w3 (w3.alloc (.cells #[] 3)) := (Below.refl _ _).alloc (Nat.le_refl _) _
            have HR := Lib.hid ((hr'.below hb13).below (hbA.mono hb13.size))
            have hsO : w3.heap.size ≤ (w3.alloc (.cells #[] 3)).heap.size := by simp
            have HP1 := Lib.hid (fun (w4 : World) (A4 : Option Addr) (c4 : Nat) (ho4 : Ow w4 w3.heap.size A4 nk c4 ks) (hg4 : (w3.alloc (.cells #[] 3)).grownBy w4 (Value.slice (some ⟨w3.heap.size, 0, none⟩) 0 0).ownBlock) => show Below w3.heap.size w3 w4 ∧ (∃ g4, A4 = some ⟨g4, 0, none⟩ ∧ w3.heap.size ≤ g4 ∧ g4 < w4.heap.size) ∧ Hid (Ow (w4.alloc (.cells #[] 3)) w4.heap.size (some ⟨w4.heap.size, 0, none⟩) 0 0 []) ∧ Hid (Rd (w4.alloc (.cells #[] 3)) w1.heap.size (some ⟨b, off, none⟩) nk ks) ∧ w4.heap.size ≤ (w4.alloc (.cells #[] 3)).heap.size from by
              have hb4 : Below w3.heap.size w3 w4 := hbA.grown hg4 hbA.size (fun k hk => HO.out.own_lo k hk)
              obtain ⟨g4, e4, l4, s4⟩ := ho4.form (by omega)
              have hbB2 : Below w4.heap.size w4 (w4.alloc (.cells #[] 3)) := (Below.refl _ _).alloc (Nat.le_refl _) _
              exact ⟨hb4, ⟨g4, e4, l4, s4⟩, Lib.hid (Ow.made0 w4 w4.heap.size (Nat.le_refl _)), Lib.hid (((hr'.below hb13).below (hb4.mono hb13.size)).below (hbB2.mono (by have := hb13.size; have := hb4.size; omega))), by simp⟩)
            have HP2 := Lib.hid (fun (w4 w5 : World) (g4 c4 : Nat) (A5 : Option Addr) (c5 : Nat) (hb4 : Below w3.heap.size w3 w4) (l4 : w3.heap.size ≤ g4) (s4 : g4 < w4.heap.size) (ho4 : Ow w4 w3.heap.size (some ⟨g4, 0, none⟩) nk c4 ks) (ho5 : Ow w5 w4.heap.size A5 nk c5 ks) (hg5 : (w4.alloc (.cells #[] 3)).grownBy w5 (Value.slice (some ⟨w4.heap.size, 0, none⟩) 0 0).ownBlock) => show ∃ g5, A5 = some ⟨g5, 0, none⟩ ∧ g4 ≠ g5 ∧ w5.cell? ⟨g4, k, none⟩ = some (.int .i64 (-1)) ∧ w5.frozen? ⟨g4, k, none⟩ = false ∧ w5.cell? ⟨g5, k, none⟩ = some (.int .i64 (-1)) ∧ w5.frozen? ⟨g5, k, none⟩ = false ∧ Hid (∀ u v : Int, ∃ WW, WW = (w5.setCell ⟨g4, k, none⟩ (.int .i64 u)).setCell ⟨g5, k, none⟩ (.int .i64 v) ∧ Ow WW w3.heap.size (some ⟨g4, 0, none⟩) nk c4 (ks.set k u) ∧ Ow WW w3.heap.size (some ⟨g5, 0, none⟩) nk c5 (ks.set k v) ∧ Below w3.heap.size w3 WW) from by
              have hbB2 : Below w4.heap.size w4 (w4.alloc (.cells #[] 3)) := (Below.refl _ _).alloc (Nat.le_refl _) _
              have hb5 : Below w4.heap.size w4 w5 := hbB2.grown hg5 hbB2.size (fun k hk => (Ow.made0 w4 w4.heap.size (Nat.le_refl _)).own_lo k hk)
              obtain ⟨g5, rfl, l5, s5⟩ := ho5.form (by omega)
              have ho45 := ho4.below hb5
              have d4 := ho45.cell hlt
              have d5 := ho5.cell hlt
              rw [he] at d4 d5
              refine ⟨g5, rfl, by omega, d4.1, d4.2, d5.1, d5.2, Lib.hid fun u v => ⟨_, rfl, ?_, ?_, ?_⟩⟩
              · have p1 := ho45.put k u
                exact World.ownsRow.kept p1 (grownSetF (w := w5.setCell ⟨g4, k, none⟩ (.int .i64 u)) (g := g5) (o := k) (v := .int .i64 v)) (.inr (fun e => by have e' : some g4 = some g5 := e; have := Option.some.inj e'; omega))
              · have p1 : Ow (w5.setCell ⟨g4, k, none⟩ (.int .i64 u)) w4.heap.size (some ⟨g5, 0, none⟩) nk c5 ks := World.ownsRow.kept ho5 (grownSetF (w := w5) (g := g4) (o := k) (v := .int .i64 u)) (.inr (fun e => by have e' : some g5 = some g4 := e; have := Option.some.inj e'; omega))
                exact (p1.put k v).mono hb4.size
              · have q1 := hb4.trans (hb5.mono hb4.size)
                exact (q1.setCell (p := ⟨g4, k, none⟩) l4 _).setCell (p := ⟨g5, k, none⟩) (by show w3.heap.size ≤ g5; have := hb4.size; omega) _)
            clear hbA
            go_wp2_with (first
              | ((refine push_new rfl (.tmp 43) (.tmp 44) rfl w3.heap.size (some ⟨w3.heap.size, 0, none⟩) (some ⟨b, off, none⟩) nk c2 w1.heap.size ks rfl rfl HO.out HR.out (by omega) hsO ?_); intro A4 c4 w4 ho4 hg4; obtain ⟨hb4, ⟨g4, rfl, l4, s4⟩, HO4, HR4, hs4⟩ := HP1.out w4 A4 c4 ho4 hg4; clear hg4)
              | ((refine push_new rfl (.tmp 46) (.tmp 47) rfl w4.heap.size (some ⟨w4.heap.size, 0, none⟩) (some ⟨b, off, none⟩) nk c2 w1.heap.size ks rfl rfl HO4.out HR4.out (by omega) hs4 ?_); intro A5 c5 w5 ho5 hg5; obtain ⟨g5, rfl, hne45, d1, d2, d3, d4, HD⟩ := HP2.out w4 w5 g4 c4 A5 c5 hb4 l4 s4 ho4 ho5 hg5; clear hg5)
              | (go_at_call 23; refine (implLineWays A1 m c1 w1.heap.size cs (some ⟨g5, 0, none⟩) nk c5 WW.heap.size (ks.set k 1) w6 ((hr.below (hb13.trans (hbW.mono hb13.size))).below (hb6.mono (by have := hb13.size; have := hbW.size; omega))) (by have := hb13.size; have := hbW.size; have := hb6.size; omega) (by omega) hx (ob.rd.below hb6) hb6.size (by omega) ob.caps.1 ob.caps.2).mono ?_; rintro e w7 ⟨rfl, hb7⟩; rw [← HX1.out])
              | (go_at_call 23; obtain ⟨WW, hWW, oa, ob, hbW⟩ := HD.out 0 1; rw [← hWW]; clear hWW; refine (implLineWays A1 m c1 w1.heap.size cs (some ⟨g4, 0, none⟩) nk c4 WW.heap.size (ks.set k 0) WW (hr.below (hb13.trans (hbW.mono hb13.size))) (by have := hb13.size; have := hbW.size; omega) (by omega) hx oa.rd (Nat.le_refl _) (by omega) oa.caps.1 oa.caps.2).mono ?_; rintro e w6 ⟨rfl, hb6⟩; rw [← HX0.out]))
            go_ret
            exact ⟨rfl, hb.trans ((step hb13 (step hbW (step hb6 hb7))).mono hb.size)⟩
          · have he2 : (nth ks k != -1) = true := by simpa using he
            have Hall2 := Lib.hid (show ∀ j, j < k + 1 → nth ks j ≠ -1 from fun j hj => by
              by_cases e : j = k
              · subst e; exact he
              · exact Hall.out j (by omega))
            clear he
            go_wp2
            go_roundw
            case rel => exact ⟨k + 1, by omega, by go_num, Hall2.out, trivial⟩
            case measure => simp [intOf]; omega
        · have hkn : k = nk := by omega
          have hW1 : W ≤ 1 := by rw [HW.out]; exact wys_full hlk.out (fun j hj => hall j (by omega)) (okK_kv hok)
          have hWI : (W : Int) ≤ 1 := by omega
          have hkI : ¬ ((k : Int) < (nk : Int)) := by omega
          clear hkn hlt hall hk
          go_wp2
          go_ret
          exact ⟨rfl, hb.trans (hb13.mono hb.size)⟩
  · go_enter Try.func6, Try.ntmps6
    go_wp2
    go_ret
    exact ⟨rfl, Below.refl _ _⟩
end Go.Proofs.Ytigkcgfhiakikaa
