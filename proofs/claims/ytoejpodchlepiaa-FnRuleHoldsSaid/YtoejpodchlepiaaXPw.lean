import Derived.Test.YtoejpodchlepiaaC3
import Derived.Test.YtoejpodchlepiaaR4P
import Derived.Test.YtoejpodchlepiaaC3C
import Derived.Test.YtoejpodchlepiaaXIu
import Derived.Test.YtoejpodchlepiaaXRS
import Derived.Shelf.RegionOpen
namespace Go.Proofs.Ytoejpodchlepiaa
open Go.ChangeShapes Go.WideShapes Go.ChangeAt Go.RowKit

theorem subset_and (a m : Nat) (ha : a < 2 ^ 64) (hm : m < 2 ^ 64) (h : a &&& (2 ^ 64 - (m + 1)) = 0) : a = a &&& m := by
  apply Nat.eq_of_testBit_eq
  intro i
  rw [Nat.testBit_and]
  cases hai : a.testBit i
  · rfl
  · have hi : i < 64 := by
      rcases Nat.lt_or_ge i 64 with h | h
      · exact h
      · have := Nat.testBit_lt_two_pow (Nat.lt_of_lt_of_le ha (Nat.pow_le_pow_right (by decide) h))
        rw [hai] at this; cases this
    have h2 := congrArg (fun z => z.testBit i) h
    simp only [Nat.testBit_and, hai, Nat.testBit_two_pow_sub_succ hm, hi, Nat.zero_testBit, decide_true, Bool.true_and, Bool.not_eq_false'] at h2
    rw [h2]; rfl
theorem small_and : ∀ s, s < 5 → ∀ a, a < 32 → a ≤ 2 ^ (s + 1) - 2 → a % 2 = 0 → a &&& (18446744073709551616 - (2 ^ (s + 1) - 2 + 1)) = 0 := by decide +kernel
theorem even_and : ∀ s, s < 5 → ∀ a, a % 2 = 1 → a &&& (2 ^ (s + 1) - 2) ≠ a := by
  intro s hs a ha h
  have h0 := congrArg (fun z => z.testBit 0) h
  have e : (2 ^ (s + 1) - 2).testBit 0 = false := by
    have : s = 0 ∨ s = 1 ∨ s = 2 ∨ s = 3 ∨ s = 4 := by omega
    rcases this with rfl | rfl | rfl | rfl | rfl <;> rfl
  simp only [Nat.testBit_and, e, Bool.and_false] at h0
  rw [Nat.testBit_zero] at h0
  simp [ha] at h0
theorem andNot_ok (x : Int) (s : Nat) (hs : s ≤ 4) (hx : -9223372036854775808 ≤ x ∧ x ≤ 9223372036854775807) :
    (bits .andNot .i64 x ((2 ^ (s + 1) - 2 : Nat) : Int) == 0) = mkOk ((2 : Int) ^ (s + 1) - 2) x := by
  have hp : (2 : Int) ^ (s + 1) - 2 = ((2 ^ (s + 1) - 2 : Nat) : Int) := by
    have : s = 0 ∨ s = 1 ∨ s = 2 ∨ s = 3 ∨ s = 4 := by omega
    rcases this with rfl | rfl | rfl | rfl | rfl <;> rfl
  have hm30 : 2 ^ (s + 1) - 2 ≤ 30 := by
    have : s = 0 ∨ s = 1 ∨ s = 2 ∨ s = 3 ∨ s = 4 := by omega
    rcases this with rfl | rfl | rfl | rfl | rfl <;> decide
  rw [hp]
  have hsa := small_and s (by omega)
  have hev := even_and s (by omega)
  generalize 2 ^ (s + 1) - 2 = m at *
  have hmm : (BitVec.ofInt 64 (m : Int)).toNat = m := ofInt_i64 m (by omega)
  have hb : bits .andNot .i64 x (m : Int) = IntKind.i64.wrap (((BitVec.ofInt 64 x).toNat &&& (2 ^ 64 - (m + 1)) : Nat) : Int) := by
    show IntKind.i64.wrap ((BitVec.ofInt 64 x &&& ~~~BitVec.ofInt 64 (m : Int)).toNat : Int) = _
    rw [BitVec.toNat_and, BitVec.toNat_not, hmm]
    congr 3
    omega
  have hA : (BitVec.ofInt 64 x).toNat < 2 ^ 64 := (BitVec.ofInt 64 x).isLt
  have hAx : ((BitVec.ofInt 64 x).toNat : Int) = x % 2 ^ 64 := by
    rw [BitVec.toNat_ofInt]; exact Int.toNat_of_nonneg (Int.emod_nonneg _ (by decide))
  rw [hb]
  generalize (BitVec.ofInt 64 x).toNat = a at *
  have hlt : a &&& (2 ^ 64 - (m + 1)) < 2 ^ 64 := Nat.and_lt_two_pow _ (by omega)
  have hw : (IntKind.i64.wrap ((a &&& (2 ^ 64 - (m + 1)) : Nat) : Int) == 0) = (a &&& (2 ^ 64 - (m + 1)) == 0) := by
    rw [IntKind.wrap_i64]
    rw [Bool.eq_iff_iff, beq_iff_eq, beq_iff_eq]
    generalize a &&& (2 ^ 64 - (m + 1)) = y at *
    omega
  rw [hw, Bool.eq_iff_iff, beq_iff_eq]
  simp only [mkOk, inr, Bool.and_eq_true, decide_eq_true_eq, beq_iff_eq]
  constructor
  · intro h
    have e := subset_and a m hA (by omega) h
    have hle : a ≤ m := by rw [e]; exact Nat.and_le_right
    have h2 : a % 2 = 0 := by
      rcases Nat.mod_two_eq_zero_or_one a with h' | h'
      · exact h'
      · exact absurd e.symm (hev a h')
    have hxa : x = a := by omega
    refine ⟨⟨by omega, by omega⟩, ?_⟩
    rw [Int.tmod_eq_emod_of_nonneg (by omega)]; omega
  · rintro ⟨⟨h1, h2⟩, h3⟩
    rw [Int.tmod_eq_emod_of_nonneg h1] at h3
    exact hsa a (by omega) (by omega) (by omega)
theorem allValues_any (s : Nat) (hs : s ∈ [2, 3, 4]) (w : World) :
    Calls Try.prog 121 #[.int .i64 s] w fun e w' => e = .returned (.int .i64 ((2 ^ (s + 1) - 2 : Nat) : Int)) ∧ w = w' := by
  simp only [List.mem_cons, List.not_mem_nil, or_false] at hs
  rcases hs with rfl | rfl | rfl
  all_goals
    go_enter Try.func121, Try.ntmps121
    go_wp2
    go_ret
    exact ⟨rfl, rfl⟩
end Go.Proofs.Ytoejpodchlepiaa
set_option maxRecDepth 8000
namespace Go.Proofs.Ytoejpodchlepiaa
open Go.ChangeShapes Go.WideShapes Go.ChangeAt Go.RowKit
theorem emN_lt {vs : List Int} {s j : Nat} (hs : s ∈ [2, 3, 4]) (h0 : 0 ≤ nth vs j) (h4 : nth vs j ≤ 4) : emN vs s j < 32 := by
  unfold emN
  split
  · have := (all_even s hs).2; omega
  · have : (nth vs j).toNat < 5 := by omega
    exact Nat.pow_lt_pow_right (n := 5) (by omega) this
theorem emL_len_ {vs : List Int} {s n : Nat} (h : vs.length = n) : (emL vs s).length = n := by unfold emL; rw [mapTo_length, h]
theorem emL_at {vs : List Int} {s n k : Nat} (hl : vs.length = n) (hk : k < n) : nth (emL vs s) k = ((emN vs s k : Nat) : Int) := by
  unfold emL
  rw [mapTo_nth (by omega)]
  simp [emG]
theorem openMasks_any (A : Option Addr) (c n B : Nat) (vs : List Int) (s : Nat) (w : World) (h : Rd w B A n vs) (hB : B ≤ w.heap.size) (n16 : n ≤ 16) (hs : s ∈ [2, 3, 4]) (hsm : ∀ i, i < n → 0 ≤ nth vs i ∧ nth vs i ≤ 4) :
    Calls Try.prog 91 #[.slice A n c, .int .i64 s] w (RetSl w (emL vs s)) := by
  obtain ⟨i0, hi, hz0, hz1, hz2⟩ := info_parts int_info
  have hlen := h.1
  have Hpm := Lib.hid (fun k (hk : k < n) => emL_at (s := s) hlen hk)
  have Hsm := Lib.hid hsm
  have HAV := Lib.hid (fun w' => allValues_any s hs w')
  have Hall : Hid (∀ k, k < n → nth vs k = 0 → ((2 ^ (s + 1) - 2 : Nat) : Int) = nth (emL vs s) k) := Lib.hid (fun k hk hz => by rw [Hpm.out k hk]; unfold emN; rw [if_pos hz])
  have Hl := Lib.hid (emL_len_ (s := s) hlen)
  clear hlen hsm
  obtain ⟨av, hav⟩ : ∃ av, av = 2 ^ (s + 1) - 2 := ⟨_, rfl⟩
  rw [← hav] at HAV Hall
  clear hav
  go_enter Try.func91, Try.ntmps91
  go_wp2_with (refine wpList_make_full _ rfl (.tmp 9) (.tmp 9) 23 rfl w.heap.size 3 i0 (.int .i64 0) 1 Try.underlying23 hi hz0 hz1 .i64 .i64 n n n rfl rfl rfl rfl (by rw [hz2]; omega) (by simp only [maxLen]; omega) (Nat.le_refl _) ?_; intro w1 hown hgr)
  have ho1 := made_part (emL vs s) hown
  have hb1 := made_below hgr (Nat.le_refl w.heap.size)
  clear hown hgr hz0 hz1 hz2 hi
  go_loopw [13] (fun i wr => ∃ k : Nat, k ≤ n ∧ i = .int .i64 k ∧ Ow wr w.heap.size (some ⟨w.heap.size, 0, none⟩) n n (part (emL vs s) k n) ∧ Below w.heap.size w wr) (fun i _ => n - (intOf i).toNat)
  case atStart => exact ⟨0, Nat.zero_le _, rfl, ho1, hb1⟩
  case round =>
    obtain ⟨k, hk, rfl, ho, hb⟩ := hrel
    by_cases hlt : k < n
    · obtain ⟨b, off, rfl, hbB, hck⟩ := (h.below (hb.mono hB)).at_ hlt
      obtain ⟨x0, x4⟩ := Hsm.out k hlt
      obtain ⟨v, hv⟩ := Int.eq_ofNat_of_zero_le x0
      rw [hv] at hck x4
      have hst := (World.ownsRow.stored ho k (.int .i64 (nth (emL vs s) k))).1
      rw [part_set] at hst
      have Hst := Lib.hid hst; clear hst
      obtain ⟨hold, hfr⟩ := ho.cell hlt
      by_cases hz : v = 0
      · subst hz
        have Hg := Lib.hid (Hall.out k hlt (by rw [hv]; rfl))
        clear hv x0 x4
        go_wp2_with (go_at_call 121; refine (HAV.out _).mono ?_; rintro e w' ⟨rfl, rfl⟩; rw [Hg.out])
        go_roundw
        case rel => exact ⟨k + 1, by omega, by go_num, Hst.out, hb.setCell (p := (⟨w.heap.size, k, none⟩ : Addr)) (Nat.le_refl _) _⟩
        case measure => simp [intOf]; omega
      · have Hg := Lib.hid (show ((2 ^ v : Nat) : Int) = nth (emL vs s) k by
          rw [Hpm.out k hlt]; unfold emN; rw [hv, if_neg (by omega), Int.toNat_natCast])
        have hz1 : ((v : Int) == 0) = false := by simp; omega
        have Hpw := Lib.hid (two_pow_nat v (by omega))
        clear hz hv
        go_wp2
        go_roundw
        case rel => exact ⟨k + 1, by omega, by go_num, by rw [show (wrap64 (2 ^ v)) = nth (emL vs s) k from Hpw.out.trans Hg.out]; exact Hst.out, hb.setCell (p := (⟨w.heap.size, k, none⟩ : Addr)) (Nat.le_refl _) _⟩
        case measure => simp [intOf]; omega
    · obtain rfl : k = n := by omega
      have hp : part (emL vs s) k k = emL vs s := part_all' Hl.out
      rw [hp] at ho
      go_wp2
      go_ret
      exact retSl_mk ho hb
end Go.Proofs.Ytoejpodchlepiaa
set_option maxRecDepth 8000
namespace Go.Proofs.Ytoejpodchlepiaa
open Go.ChangeShapes Go.WideShapes Go.ChangeAt Go.RowKit Go.Shelf
attribute [local go_sem] Oper.semAt_some
theorem part_put (xs : List Int) (k n : Nat) (hk : k < n) : (part xs k n).set k (nth xs k) = part xs (k + 1) n := by
  apply ext_nth (by simp [part_length])
  intro j hj
  rw [List.length_set, part_length] at hj
  rw [part_nth _ _ _ _ hj]
  by_cases e : j = k
  · subst e; rw [nth_set_same (by rw [part_length]; exact hk), if_pos (by omega)]
  · rw [nth_set_ne (fun e' => e e'.symm), part_nth _ _ _ _ hj]
    by_cases h : j < k
    · rw [if_pos h, if_pos (by omega)]
    · rw [if_neg h, if_neg (by omega)]
theorem part_zero_ (xs : List Int) (n : Nat) : part xs 0 n = zeros n := by
  apply ext_nth (by simp [part_length, zeros])
  intro j hj
  rw [part_length] at hj
  rw [part_nth _ _ _ _ hj, if_neg (by omega)]
  simp [zeros, nth, List.getD_eq_getElem?_getD, hj]
set_option maxHeartbeats 1000000 in
theorem possible_any (A : Option Addr) (c nc : Nat) (k v : Int) (Av : Option Addr) (cv n B : Nat) (vs : List Int) (s : Nat) (w : World) (hv : Rd w B Av n vs) (hB : B ≤ w.heap.size) (n1 : 1 ≤ n) (n4 : n ≤ 4) (hs : s ∈ [2, 3, 4]) (hsm : ∀ i, i < n → 0 ≤ nth vs i ∧ nth vs i ≤ 4)
    (hk : k = 1 ∨ k = 2 ∨ k = 3 ∨ k = 4 ∨ k = 5) (h2 : k = 1 ∨ k = 2 ∨ k = 3 ∨ 2 ≤ n) :
    Calls Try.prog 80 #[.agg #[.int .i64 k, .slice A nc c, .int .i64 v], .slice Av n cv, .int .i64 s] w fun e w' => e = .returned (.bool (!((allW (emL vs s) n []).filter (holdsB k v)).isEmpty)) ∧ Below w.heap.size w w' := by
  have hlen := hv.1
  have hpm : ∀ i, i < n → nth (emL vs s) i = ((emN vs s i : Nat) : Int) := fun i hi => by
    unfold emL
    rw [mapTo_nth (by omega)]
    simp [emG]
  have hms : ∀ i, i < n → 0 ≤ nth (emL vs s) i ∧ nth (emL vs s) i < 32 := fun i hi => by
    have := emN_lt (j := i) hs (hsm i hi).1 (hsm i hi).2
    rw [hpm i hi]; omega
  obtain ⟨W1, hW1⟩ : ∃ W1, w.alloc (.cells #[.int .i64 k, .slice A nc c, .int .i64 v] 25) = W1 := ⟨_, rfl⟩
  have hx1 := rbox_new w k A nc c v 25
  rw [hW1] at hx1
  have hb1 : Below w.heap.size w W1 := by rw [← hW1]; exact (Below.refl _ _).alloc (Nat.le_refl _) _
  have hs1 : W1.heap.size = w.heap.size + 1 := by rw [← hW1]; simp
  obtain ⟨W2, hW2⟩ : ∃ W2, W1.alloc (.cells #[.bool false] 4) = W2 := ⟨_, rfl⟩
  have hb2 : Below W1.heap.size W1 W2 := by rw [← hW2]; exact (Below.refl _ _).alloc (Nat.le_refl _) _
  have hs2 : W2.heap.size = w.heap.size + 1 + 1 := by rw [← hW2]; simp [hs1]
  have hx2 := hx1.below (by omega) hb2
  have hc2 : W2.heap[w.heap.size + 1]? = some (.cells #[.bool false] 4) := by rw [← hW2, ← hs1]; exact heap_alloc_new _ _
  have hbW2 : Below w.heap.size w W2 := hb1.trans (hb2.mono (by omega))
  have HB2 := Lib.hid hbW2
  have HX2 := Lib.hid hx2
  have HC2 := Lib.hid hc2
  have HOM := Lib.hid (fun (w' : World) (hb : Below w.heap.size w w') => openMasks_any Av cv n B vs s w' (hv.below (hb.mono hB)) (Nat.le_trans hB hb.size) (by omega) hs hsm)
  have Hel := Lib.hid (emL_len_ (s := s) hlen)
  have HV := Lib.hid (fun (w' : World) (hb : Below w.heap.size w w') => hv.below (hb.mono hB))
  have HPM := Lib.hid hpm
  have HMS := Lib.hid hms
  have HLEN := Lib.hid hlen
  have HSM := Lib.hid hsm
  have HS2 := Lib.hid hs2
  clear hbW2 hx2 hc2 hx1 hb1 hb2 hpm hms hlen hsm
  refine (callsIn_wide (n := 9)).1 ?_
  refine callsIn_of_wp_marks Try.func80 rfl trivial ?_ rfl
  simp only [Try.ntmps80, List.size_toArray, List.length_cons, List.length_nil, Nat.reduceAdd, Nat.reduceSub, Array.replicate_succ, Array.replicate_zero, List.push_toArray, List.append_toArray, List.nil_append, List.cons_append]
  have hmx : Try.prog.follows .mixedOrders = true := by kernel_rfl
  obtain ⟨x0, x1, x2⟩ := id HX2.out
  gi_wp2
  first | (gi_region_with_o (first
    | ((try refine ⟨trivial, ?_⟩); gi_at_call 91; refine (callsIn_wide.2 (HOM.out _ (by first | exact HB2.out | exact HB2.out.drew))).mono ?_; rintro e w3 ⟨A3, c3, rfl, ho3, hb3⟩; rw [Hel.out] at ho3 ⊢; have hb3' : Below W2.heap.size W2 w3 := (by first | exact hb3 | exact ((Below.refl _ _).drew).trans hb3); obtain ⟨y0, y1, y2⟩ := HX2.out.below (by rw [HS2.out]; omega) hb3')
    | ((try refine ⟨trivial, ?_⟩); gi_at_call 116; refine (callsIn_wide.2 (waysToHold_any A c nc k v A3 n c3 _ hk)).mono ?_; rintro e w5 ⟨MB, RB, rfl, hmb, hrb, hb5⟩))) | fail
  all_goals
    gi_wp2
    have hbw : Below w.heap.size w w3 := step HB2.out hb3'
    have hl5 : w.heap.size + 1 < w5.heap.size := by have := hb5.size; have := hb3'.size; omega
    have hrow5 : w5.heap[w.heap.size + 1]? = some (.cells #[.bool false] 4) := (hb5.block _ (by have := hb3'.size; omega)).trans ((hb3'.block _ (by omega)).trans HC2.out)
    have hbase : WBase MB RB w5.heap.size k A nc c v A3 n c3 (emL vs s) w5 := ⟨hmb, hrb, ?mask, Nat.le_refl _⟩
    case mask =>
      have h5 := (ho3.below hb5).rd
      exact ⟨emL_len_ HLEN.out, fun hn => by
        obtain ⟨b, off, e, hl, hc⟩ := h5.2 hn
        exact ⟨b, off, e, cell_lt (hc 0 hn), hc⟩⟩
    have hMB := cell_lt hmb
    have hRB := cell_lt hrb
    have HBW := Lib.hid (hbw.trans (hb5.mono (by have := hbw.size; omega)))
    refine range_skip 9 (by rfl) (enters_of Try.func134 (by kernel_rfl) rfl) (ways_seq MB RB w5.heap.size k A nc c v A3 n c3 (emL vs s) n1 n4 HMS.out hk h2)
      (fun pre X => pre = [] ∧ WBase MB RB w5.heap.size k A nc c v A3 n c3 (emL vs s) X ∧ X.heap[w.heap.size + 1]? = some (.cells #[.bool false] 4) ∧ Below w.heap.size w X)
      (fun cc X => cc = .ret ∧ ((allW (emL vs s) n []).filter (holdsB k v)).isEmpty = false ∧ X.heap[w.heap.size + 1]? = some (.cells #[.bool true] 4) ∧ Below w.heap.size w X)
      (fun pre X h => h.2.1)
      (fun pre X Y h hb => ⟨h.1, h.2.1.below hb (by omega) (by omega) (by omega), (hb.block _ hl5).trans h.2.2.1, h.2.2.2.trans (hb.mono (by omega))⟩)
      (fun cc X Y h hb => ⟨h.1, h.2.1, (hb.block _ hl5).trans h.2.2.1, h.2.2.2.trans (hb.mono (by omega))⟩)
      ⟨rfl, hbase, hrow5, HBW.out⟩ ?body ?done ?stop
    case body =>
      rintro l pre x X b n' c' ⟨rfl, hbX, hrX, hBX⟩ hx hbb hrd
      have hne : ((allW (emL vs s) n []).filter (holdsB k v)).isEmpty = false := by
        cases e : (allW (emL vs s) n []).filter (holdsB k v)
        · rw [e] at hx; cases hx
        · rfl
      clear hx
      simp only [List.setIfInBounds_toArray, List.set_cons_zero, List.set_cons_succ]
      have hcX := cell_of_row _ _ 0 _ _ (0, 0) hrX
      have hfX := frozen_of_row _ _ 0 _ _ hrX
      gi_wp2
      exact ⟨Mid.setCell _ _ _ _ _ hl5, rfl, heap_setCell_same X (w.heap.size + 1) 0 _ _ (.bool true) hrX, hBX.setCell (p := ⟨w.heap.size + 1, 0, none⟩) (by show w.heap.size ≤ w.heap.size + 1; omega) _⟩
    case done =>
      rintro D W hD ⟨he, hbX, hrX, hBX⟩ hK
      have hcX := cell_of_row _ _ 0 _ _ (0, 0) hrX
      have hfX := frozen_of_row _ _ 0 _ _ hrX
      gi_wp2
      have hK2 : (W.setCell ⟨w.heap.size + 1, 0, none⟩ (.bool false)).heap[D]? = some (.deferred (some [])) := (heap_setCell_other W ⟨w.heap.size + 1, 0, none⟩ D _ (fun e => by dsimp only at e; omega)).trans hK
      refine ⟨by simp, .inl ⟨_, _, rfl, run_takeDeferred hK2, ?_⟩⟩
      have hrow6 := (World.putObj_heap_other (o := .deferred none) (by omega : w.heap.size + 1 ≠ D)).trans (heap_setCell_same W (w.heap.size + 1) 0 _ _ (.bool false) hrX)
      have hc6 := cell_of_row _ _ 0 _ _ (0, 0) hrow6
      refine ⟨.bool false, ?_, rfl, (hBX.setCell (p := ⟨w.heap.size + 1, 0, none⟩) (by show w.heap.size ≤ w.heap.size + 1; omega) _).trans (below_put _ (by omega) hK2)⟩
      simp at hc6
      simp [results, Try.f80, go_sem, hc6]
    case stop =>
      rintro D cc W hD ⟨rfl, hne, hrX, hBX⟩ hK
      gi_wp2
      refine ⟨by simp, .inl ⟨_, _, rfl, run_takeDeferred hK, ?_⟩⟩
      have hrow6 := (World.putObj_heap_other (o := .deferred none) (by omega : w.heap.size + 1 ≠ D)).trans hrX
      have hc6 := cell_of_row _ _ 0 _ _ (0, 0) hrow6
      refine ⟨.bool true, ?_, rfl, hBX.trans (below_put _ (by omega) hK)⟩
      simp at hc6
      simp [results, Try.f80, go_sem, hc6]
end Go.Proofs.Ytoejpodchlepiaa
