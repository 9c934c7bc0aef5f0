import Derived.Test.YtoejpodchlepiaaVRS
import Derived.Test.YtoejpodchlepiaaVRp
import Derived.BigRegionIn
import Derived.Test.YtoejpodchlepiaaC3
import Derived.Test.YtoejpodchlepiaaC3C
import Derived.Test.YtoejpodchlepiaaC3G
import Derived.Test.YtoejpodchlepiaaVNa
import Derived.Deep.RegionHeld3
set_option maxRecDepth 8000
namespace Go.Proofs.Ytoejpodchlepiaa
open Go.ChangeShapes Go.WideShapes Go.ChangeAt Go.RowKit Go.Shelf
attribute [local go_sem] Oper.semAt_some
theorem nats_zerosN (n : Nat) : nats (zerosN n) = zeros n := by simp [nats, zerosN, zeros]
theorem ways_small {k v : Int} {ms : List Int} {n : Nat} {x : List Int} (h : x ∈ waysN k v ms n) : x.length = n ∧ small4 x n := by
  have hy := (List.mem_filter.1 h).1
  have h1 := allW_len hy
  simp at h1
  refine ⟨h1, fun i hi => ?_⟩
  have := allW_small (vs := []) (by intro i hi; simp at hi) hy i (by simpa using hi)
  omega
theorem fold_len {L : List (List Int)} {n : Nat} (h : ∀ ys ∈ L, small4 ys n) : (L.foldl orAll (zerosN n)).length = n ∧ lt32 (L.foldl orAll (zerosN n)) :=
  foldAll_inv L _ h (by simp [zerosN]) (zeros_lt _)
set_option maxHeartbeats 1000000 in
theorem narrowed_any (A : Option Addr) (c nc : Nat) (k v : Int) (Am : Option Addr) (cm n B : Nat) (ms : List Int) (w : World) (hm : Rd w B Am n ms) (hB : B ≤ w.heap.size) (n1 : 1 ≤ n) (n4 : n ≤ 4) (hms : ∀ i, i < n → 0 ≤ nth ms i ∧ nth ms i < 32)
    (hk : k = 1 ∨ k = 2 ∨ k = 3 ∨ k = 4 ∨ k = 5) (h2 : k = 1 ∨ k = 2 ∨ k = 3 ∨ 2 ≤ n) :
    Calls Try.prog 107 #[.agg #[.int .i64 k, .slice A nc c, .int .i64 v], .slice Am n cm] w (RetSl w (nats ((waysN k v ms n).foldl orAll (zerosN n)))) := by
  obtain ⟨W1, hW1⟩ : ∃ W1, w.alloc (.cells #[.int .i64 k, .slice A nc c, .int .i64 v] 25) = W1 := ⟨_, rfl⟩
  have hx1 := rbox_new w k A nc c v 25
  rw [hW1] at hx1
  have hb1 : Below w.heap.size w W1 := by rw [← hW1]; exact (Below.refl _ _).alloc (Nat.le_refl _) _
  have hs1 : W1.heap.size = w.heap.size + 1 := by rw [← hW1]; simp
  obtain ⟨W2, hW2⟩ : ∃ W2, W1.alloc (.cells (zeroArr n) 3) = W2 := ⟨_, rfl⟩
  have hb2 : Below W1.heap.size W1 W2 := by rw [← hW2]; exact (Below.refl _ _).alloc (Nat.le_refl _) _
  have hs2 : W2.heap.size = w.heap.size + 1 + 1 := by rw [← hW2]; simp [hs1]
  have ho2 : Ow W2 w.heap.size (some ⟨w.heap.size + 1, 0, none⟩) n n (zeros n) := by
    have := zeroArr_ow (n := n) (lo := w.heap.size) (by omega) W1 (by omega)
    rw [hW2, hs1] at this
    exact this
  have hmk : (Instr.makeSlice 23 (.int .i64 (n : Int)) (.int .i64 (n : Int))).run Try.prog W1 = .ok (.slice (some ⟨w.heap.size + 1, 0, none⟩) n n) W2 := by rw [make_ints (by omega), hW2, hs1]
  obtain ⟨W3, hW3⟩ : ∃ W3, W2.alloc (.cells #[.slice (some ⟨w.heap.size + 1, 0, none⟩) n n] 23) = W3 := ⟨_, rfl⟩
  have hb3 : Below W2.heap.size W2 W3 := by rw [← hW3]; exact (Below.refl _ _).alloc (Nat.le_refl _) _
  have hs3 : W3.heap.size = w.heap.size + 1 + 1 + 1 := by rw [← hW3]; simp [hs2]
  have hrow3 : W3.heap[w.heap.size + 1 + 1]? = some (.cells #[.slice (some ⟨w.heap.size + 1, 0, none⟩) n n] 23) := by rw [← hW3, ← hs2]; exact heap_alloc_new _ _
  have hbW3 : Below w.heap.size w W3 := (hb1.trans (hb2.mono (by omega))).trans (hb3.mono (by omega))
  have hx3 := (hx1.below (by omega) hb2).below (by omega) hb3
  have ho3 := ho2.below hb3
  have HW := Lib.hid (waysToHold_any A c nc k v Am n cm W3 hk)
  have HB3 := Lib.hid hbW3
  have HO3 := Lib.hid ho3
  have HR3 := Lib.hid hrow3
  have HM := Lib.hid (fun (w' : World) (hb : Below w.heap.size w w') => hm.below (hb.mono hB))
  have HMS := Lib.hid hms
  obtain ⟨x0, x1, x2⟩ := id hx3
  clear hb1 hb2 hb3 hbW3 ho3 ho2 hx1 hx3 hrow3 hms
  refine (callsIn_wide (n := 9)).1 ?_
  refine callsIn_of_wp_marks Try.func107 rfl trivial ?_ rfl
  simp only [Try.ntmps107, List.size_toArray, List.length_cons, List.length_nil, Nat.reduceAdd, Nat.reduceSub, Array.replicate_succ, Array.replicate_zero, List.push_toArray, List.append_toArray, List.nil_append, List.cons_append]
  gi_wp2_with (refine ⟨trivial, ?_⟩; gi_at_call 116; refine (callsIn_wide.2 HW.out).mono ?_; rintro e w5 ⟨MB, RB, rfl, hmb, hrb, hb5⟩)
  have hMB := cell_lt hmb
  have hRB := cell_lt hrb
  have hb05 : Below w.heap.size w w5 := HB3.out.trans (hb5.mono (by omega))
  have hs5 : w.heap.size + 1 + 1 < w5.heap.size := by have := hb5.size; omega
  have hrow5 := (hb5.block (w.heap.size + 1 + 1) (by omega)).trans HR3.out
  have hO5 := HO3.out.below hb5
  obtain ⟨z0, hz0⟩ : ∃ z : Int, w5.cell? ⟨w.heap.size + 1, 0, none⟩ = some (.int .i64 z) := by
    obtain ⟨b, off, e, _, hc⟩ := hO5.rd.at_ n1
    cases e
    exact ⟨_, hc⟩
  have hMB1 : MB ≠ w.heap.size + 1 := fun e => by
    rw [e, hz0] at hmb; cases hmb
  have hRB1 : RB ≠ w.heap.size + 1 := fun e => by
    rw [e, hz0] at hrb
    rcases hk with rfl | rfl | rfl | rfl | rfl <;> cases hrb
  have HWS := Lib.hid (fun x (hx : x ∈ waysN k v ms n) => ways_small hx)
  refine range_two 9 (q := 6) (by rfl) (enters_of Try.func134 (by kernel_rfl) rfl) (ways_seq MB RB B k A nc c v Am n cm ms n1 n4 HMS.out hk h2)
    (fun pre X => WBase MB RB B k A nc c v Am n cm ms X ∧ X.heap[w.heap.size + 1 + 1]? = some (.cells #[.slice (some ⟨w.heap.size + 1, 0, none⟩) n n] 23) ∧ Ow X w.heap.size (some ⟨w.heap.size + 1, 0, none⟩) n n (nats (pre.foldl orAll (zerosN n))) ∧ (∀ ys ∈ pre, small4 ys n) ∧ Below w.heap.size w X)
    (fun cc X => False)
    (fun pre X h => h.1)
    (fun pre X Y h hb => ⟨h.1.below hb (by omega) (by omega) (by omega), (hb.block _ (by omega)).trans h.2.1, h.2.2.1.same (hb.block _ (by omega)), h.2.2.2.1, h.2.2.2.2.trans (hb.mono (by omega))⟩)
    (fun cc X Y h hb => h)
    ⟨⟨hmb, hrb, HM.out _ hb05, Nat.le_trans hB hb05.size⟩, hrow5, by simpa [nats_zerosN] using hO5, by simp, hb05⟩ ?assign ?body ?done ?stop
  case assign =>
    intro l v W K hK
    simp only [List.setIfInBounds_toArray, List.set_cons_zero, List.set_cons_succ] at hK ⊢
    gi_wp2
    exact hK
  case body =>
    rintro l pre x X b n' c' ⟨hbX, hrX, hoX, hpre, hBX⟩ hx hbb hrd
    obtain ⟨hxl, hsm⟩ := HWS.out x hx
    obtain rfl : n' = n := by rw [← hrd.1]; exact hxl
    simp only [List.setIfInBounds_toArray, List.set_cons_zero, List.set_cons_succ]
    gi_wp2
    obtain ⟨F, hF⟩ : ∃ F, pre.foldl orAll (zerosN n') = F := ⟨_, rfl⟩
    have hFF := fold_len hpre
    rw [hF] at hoX hFF
    obtain ⟨hFl, hF32⟩ := hFF
    have HF32 := Lib.hid hF32
    have HSM := Lib.hid hsm
    have HFl := Lib.hid hFl
    have HRd := Lib.hid hrd
    have HoX := Lib.hid hoX
    have HrX := Lib.hid hrX
    clear hF32 hsm hFl hoX
    gi_loopw [18] (fun i wr => ∃ t : Nat, t ≤ n' ∧ i = .int .i64 t ∧ Ow wr w.heap.size (some ⟨w.heap.size + 1, 0, none⟩) n' n' (nats (orTo x F t)) ∧ X.grownBy wr (some (w.heap.size + 1))) (fun i _ => n' - (intOf i).toNat)
    case atStart => exact ⟨0, Nat.zero_le _, rfl, by rw [orTo_zero]; exact HoX.out, World.grownBy.refl X _⟩
    case round =>
      obtain ⟨t, ht, rfl, hFt, hgt⟩ := hrel
      have hcX := cell_of_row _ _ 0 _ _ (0, 0) ((hgt.block (w.heap.size + 1 + 1) (by have := (Array.getElem?_eq_some_iff.1 HrX.out).1; omega) (fun e => by have := Option.some.inj e; omega)).trans HrX.out)
      by_cases hlt : t < n'
      · obtain ⟨b', off', eb, hbl, hck0⟩ := HRd.out.at_ hlt
        cases eb
        have hck := (World.cell?_of_block (a := ⟨b, 0 + t, none⟩) (hgt.block b hbl (fun e => by have := Option.some.inj e; omega))).trans hck0
        rw [Nat.zero_add] at hck
        obtain ⟨x0, x4⟩ := HSM.out t hlt
        obtain ⟨z, hzv⟩ := Int.eq_ofNat_of_zero_le x0
        rw [hzv] at hck
        obtain ⟨hold, hfr⟩ := hFt.cell hlt
        have hot : nth (nats (orTo x F t)) t = ((F.getD t 0 : Nat) : Int) := by rw [nats_nth, orTo_get (by rw [HFl.out]; exact hlt), if_neg (by omega)]
        rw [hot] at hold
        have hor := or_int (F.getD t 0) z (HF32.out t) (by omega)
        have hst := (World.ownsRow.stored hFt t (.int .i64 ((F.getD t 0 ||| 2 ^ (nth x t).toNat : Nat) : Int))).1
        rw [orTo_set x F t, hzv, Int.toNat_natCast] at hst
        obtain ⟨f, hf⟩ : ∃ f, f = F.getD t 0 := ⟨_, rfl⟩
        rw [← hf] at hold hor hst
        have HE1 := Lib.hid (show Ow (wr.setCell ⟨w.heap.size + 1, t, none⟩ (.int .i64 (bits .or .i64 (f : Int) (wrap64 (2 ^ z))))).drew w.heap.size (some ⟨w.heap.size + 1, 0, none⟩) n' n' (nats (orTo x F (t + 1))) by rw [hor]; exact World.ownsRow.drew hst)
        have HE2 := Lib.hid (show X.grownBy (wr.setCell ⟨w.heap.size + 1, t, none⟩ (.int .i64 (bits .or .i64 (f : Int) (wrap64 (2 ^ z))))).drew (some (w.heap.size + 1)) from grown_drew (hgt.trans grown_set))
        clear hf hor
        have hnG : b ≠ w.heap.size + 1 := by omega
        have hx5 : (z : Int) < 64 := by omega
        clear hst hot
        gi_wp2
        gi_region
        all_goals
          gi_wp2
          exact ⟨⟨t + 1, hlt, by go_num, HE1.out, HE2.out⟩, by simp [intOf]; omega⟩
      · obtain rfl : t = n' := by omega
        have HEnd := Lib.hid (show (∀ ys ∈ pre ++ [x], small4 ys t) from fun ys hy => by
          rcases List.mem_append.1 hy with h | h
          · exact hpre ys h
          · rw [List.mem_singleton.1 h]; exact HSM.out)
        have HLast := Lib.hid (show nats ((pre ++ [x]).foldl orAll (zerosN t)) = nats (orTo x F t) by
          rw [List.foldl_append, hF]; simp only [List.foldl_cons, List.foldl_nil, orAll]; rw [HFl.out])
        have hXs := (Array.getElem?_eq_some_iff.1 HrX.out).1
        have hb1 : Below w.heap.size X wr := Below.of_grown hgt hBX.size (Nat.le_succ _)
        have HbX := Lib.hid (show WBase MB RB B k A nc c v Am t cm ms wr from ⟨(hgt.cell_far ⟨MB, 0, none⟩ (cell_lt hbX.1) (fun e => hMB1 (Option.some.inj e))).trans hbX.1, (hgt.cell_far ⟨RB, 0, none⟩ (cell_lt hbX.2.1) (fun e => hRB1 (Option.some.inj e))).trans hbX.2.1, hbX.2.2.1.below (hb1.mono hB), Nat.le_trans hbX.2.2.2 hb1.size⟩)
        have HrW := Lib.hid ((hgt.block (w.heap.size + 1 + 1) hXs (fun e => by have := Option.some.inj e; omega)).trans HrX.out)
        gi_wp2
        exact ⟨Mid.of_grown hgt (by omega), HbX.out, HrW.out, by rw [HLast.out]; exact hFt, HEnd.out, hBX.trans hb1⟩
  case done =>
    rintro D W hD ⟨hbX, hrX, hoX, hpre, hBX⟩ hK
    have hcX := cell_of_row _ _ 0 _ _ (0, 0) hrX
    gi_wp2
    refine ⟨by simp, .inl ⟨_, _, rfl, run_takeDeferred hK, ?_⟩⟩
    refine ⟨_, results_tmp rfl _ _ _, ?_⟩
    have hl := (fold_len (fun ys hy => (HWS.out ys hy).2)).1
    exact retSl_mk (hoX.same (World.putObj_heap_other (by omega))) (hBX.trans (below_put _ (by omega) hK))
  case stop =>
    rintro D cc W hD h hK
    exact h.elim
end Go.Proofs.Ytoejpodchlepiaa
namespace Go.Proofs.Ytoejpodchlepiaa
open Go.ChangeShapes Go.WideShapes Go.ChangeAt Go.RowKit

theorem subset_and (a m : Nat) (ha : a < 2 ^ 64) (hm : m < 2 ^ 64) (h : a &&& (2 ^ 64 - (m + 1)) = 0) : a = a &&& m := by
  apply Nat.eq_of_testBit_eq
  intro i
  rw [Nat.testBit_and]
  cases hai : a.testBit i
  · rfl
  · have hi : i < 64 := by
      rcases Nat.lt_or_ge i 64 with h | h
      · exact h
      · have := Nat.testBit_lt_two_pow (Nat.lt_of_lt_of_le ha (Nat.pow_le_pow_right (by decide) h))
        rw [hai] at this; cases this
    have h2 := congrArg (fun z => z.testBit i) h
    simp only [Nat.testBit_and, hai, Nat.testBit_two_pow_sub_succ hm, hi, Nat.zero_testBit, decide_true, Bool.true_and, Bool.not_eq_false'] at h2
    rw [h2]; rfl
theorem small_and : ∀ s, s < 5 → ∀ a, a < 32 → a ≤ 2 ^ (s + 1) - 2 → a % 2 = 0 → a &&& (18446744073709551616 - (2 ^ (s + 1) - 2 + 1)) = 0 := by decide +kernel
theorem even_and : ∀ s, s < 5 → ∀ a, a % 2 = 1 → a &&& (2 ^ (s + 1) - 2) ≠ a := by
  intro s hs a ha h
  have h0 := congrArg (fun z => z.testBit 0) h
  have e : (2 ^ (s + 1) - 2).testBit 0 = false := by
    have : s = 0 ∨ s = 1 ∨ s = 2 ∨ s = 3 ∨ s = 4 := by omega
    rcases this with rfl | rfl | rfl | rfl | rfl <;> rfl
  simp only [Nat.testBit_and, e, Bool.and_false] at h0
  rw [Nat.testBit_zero] at h0
  simp [ha] at h0
theorem andNot_ok (x : Int) (s : Nat) (hs : s ≤ 4) (hx : -9223372036854775808 ≤ x ∧ x ≤ 9223372036854775807) :
    (bits .andNot .i64 x ((2 ^ (s + 1) - 2 : Nat) : Int) == 0) = mkOk ((2 : Int) ^ (s + 1) - 2) x := by
  have hp : (2 : Int) ^ (s + 1) - 2 = ((2 ^ (s + 1) - 2 : Nat) : Int) := by
    have : s = 0 ∨ s = 1 ∨ s = 2 ∨ s = 3 ∨ s = 4 := by omega
    rcases this with rfl | rfl | rfl | rfl | rfl <;> rfl
  have hm30 : 2 ^ (s + 1) - 2 ≤ 30 := by
    have : s = 0 ∨ s = 1 ∨ s = 2 ∨ s = 3 ∨ s = 4 := by omega
    rcases this with rfl | rfl | rfl | rfl | rfl <;> decide
  rw [hp]
  have hsa := small_and s (by omega)
  have hev := even_and s (by omega)
  generalize 2 ^ (s + 1) - 2 = m at *
  have hmm : (BitVec.ofInt 64 (m : Int)).toNat = m := ofInt_i64 m (by omega)
  have hb : bits .andNot .i64 x (m : Int) = IntKind.i64.wrap (((BitVec.ofInt 64 x).toNat &&& (2 ^ 64 - (m + 1)) : Nat) : Int) := by
    show IntKind.i64.wrap ((BitVec.ofInt 64 x &&& ~~~BitVec.ofInt 64 (m : Int)).toNat : Int) = _
    rw [BitVec.toNat_and, BitVec.toNat_not, hmm]
    congr 3
    omega
  have hA : (BitVec.ofInt 64 x).toNat < 2 ^ 64 := (BitVec.ofInt 64 x).isLt
  have hAx : ((BitVec.ofInt 64 x).toNat : Int) = x % 2 ^ 64 := by
    rw [BitVec.toNat_ofInt]; exact Int.toNat_of_nonneg (Int.emod_nonneg _ (by decide))
  rw [hb]
  generalize (BitVec.ofInt 64 x).toNat = a at *
  have hlt : a &&& (2 ^ 64 - (m + 1)) < 2 ^ 64 := Nat.and_lt_two_pow _ (by omega)
  have hw : (IntKind.i64.wrap ((a &&& (2 ^ 64 - (m + 1)) : Nat) : Int) == 0) = (a &&& (2 ^ 64 - (m + 1)) == 0) := by
    rw [IntKind.wrap_i64]
    rw [Bool.eq_iff_iff, beq_iff_eq, beq_iff_eq]
    generalize a &&& (2 ^ 64 - (m + 1)) = y at *
    omega
  rw [hw, Bool.eq_iff_iff, beq_iff_eq]
  simp only [mkOk, inr, Bool.and_eq_true, decide_eq_true_eq, beq_iff_eq]
  constructor
  · intro h
    have e := subset_and a m hA (by omega) h
    have hle : a ≤ m := by rw [e]; exact Nat.and_le_right
    have h2 : a % 2 = 0 := by
      rcases Nat.mod_two_eq_zero_or_one a with h' | h'
      · exact h'
      · exact absurd e.symm (hev a h')
    have hxa : x = a := by omega
    refine ⟨⟨by omega, by omega⟩, ?_⟩
    rw [Int.tmod_eq_emod_of_nonneg (by omega)]; omega
  · rintro ⟨⟨h1, h2⟩, h3⟩
    rw [Int.tmod_eq_emod_of_nonneg h1] at h3
    exact hsa a (by omega) (by omega) (by omega)
theorem allValues_any (s : Nat) (hs : s ∈ [2, 3, 4]) (w : World) :
    Calls Try.prog 121 #[.int .i64 s] w fun e w' => e = .returned (.int .i64 ((2 ^ (s + 1) - 2 : Nat) : Int)) ∧ w = w' := by
  simp only [List.mem_cons, List.not_mem_nil, or_false] at hs
  rcases hs with rfl | rfl | rfl
  all_goals
    go_enter Try.func121, Try.ntmps121
    go_wp2
    go_ret
    exact ⟨rfl, rfl⟩
end Go.Proofs.Ytoejpodchlepiaa
namespace Go.Proofs.Ytoejpodchlepiaa
open Go.ChangeShapes Go.WideShapes Go.ChangeAt Go.RowKit

/- what the program's own functions of chapter 3 must be shown to do. -/
def IMasksValid : Prop := ∀ (A : Option Addr) (c n B : Nat) (xs : List Int) (size : Int) (w : World), Rd w B A n xs → B64 xs → B ≤ w.heap.size → n ≤ 1099511627776 → (-9223372036854775808 ≤ size ∧ size ≤ 9223372036854775807) →
    Calls Try.prog 65 #[.slice A n c, .int .i64 size] w fun e w' => e = .returned (.bool (mvd xs size)) ∧ Below w.heap.size w w'
theorem candL_length (xs : List Int) (size : Int) : (candL xs size).length ≤ 16 := by
  unfold candL
  split
  · next h =>
    obtain ⟨h2, h4⟩ := gv_size h
    have := sq_bd h2 h4
    have := gv_len h
    rw [mapTo_length]; omega
  · simp
theorem mgL_length (xs : List Int) (size : Int) : (mgL xs size).length ≤ 16 := by
  unfold mgL
  split
  · next h => rw [mapTo_length]; exact (mvd_at h).2.2.1
  · simp
end Go.Proofs.Ytoejpodchlepiaa
namespace Go.Proofs.Ytoejpodchlepiaa
open Go.ChangeShapes Go.WideShapes Go.ChangeAt Go.RowKit

theorem maskValid_any (x : Int) (s : Nat) (w : World) (hs : s ∈ [2, 3, 4]) (hx : -9223372036854775808 ≤ x ∧ x ≤ 9223372036854775807) :
    Calls Try.prog 110 #[.int .i64 x, .int .i64 s] w fun e w' => e = .returned (.bool (mkOk ((2 : Int) ^ (s + 1) - 2) x)) ∧ w = w' := by
  have hs4 : s ≤ 4 := by simp at hs; omega
  have ha := andNot_ok x s hs4 hx
  obtain ⟨m, hm⟩ : ∃ m, 2 ^ (s + 1) - 2 = m := ⟨_, rfl⟩
  rw [hm] at ha
  go_enter Try.func110, Try.ntmps110
  go_wp2_with (go_at_call 121; refine (allValues_any s hs _).mono ?_; rw [hm]; rintro e w' ⟨rfl, rfl⟩)
  go_ret
  exact ⟨by rw [← ha]; rfl, rfl⟩
theorem implMasksValid : IMasksValid := by
  intro A c n B xs size w h hx64 hB hm hsz
  have hlen := Lib.hid h.1
  cases hs : inr size 2 4
  · have HL := Lib.hid (show mvd xs size = false by simp [mvd, hs])
    go_enter Try.func65, Try.ntmps65
    go_wp2_with (go_at_call 109; refine (sizeValid_any _ _).mono ?_; rintro e w' ⟨rfl, rfl⟩)
    go_ret
    exact ⟨by rw [HL.out]; rfl, Below.refl _ _⟩
  · obtain ⟨h2, h4⟩ := inr_t hs
    have hw := sq_wrap h2 h4
    cases hsq : ((n : Int) == size * size)
    · have HL := Lib.hid (show mvd xs size = false by simp only [mvd, hlen.out, hsq]; simp)
      have hsq2 : ((n : Int) != wrap64 (size * size)) = true := by rw [hw, bne, hsq]; rfl
      clear hw hsq
      go_enter Try.func65, Try.ntmps65
      go_wp2_with (go_at_call 109; refine (sizeValid_any _ _).mono ?_; rintro e w' ⟨rfl, rfl⟩)
      go_ret
      exact ⟨by rw [HL.out]; rfl, Below.refl _ _⟩
    · obtain ⟨s, rfl⟩ := Int.eq_ofNat_of_zero_le (by omega : 0 ≤ size)
      have hsm : s ∈ [2, 3, 4] := by
        have : s = 2 ∨ s = 3 ∨ s = 4 := by omega
        simpa using this
      have HL := Lib.hid (show mvd xs s = xs.all (mkOk ((2 : Int) ^ (s + 1) - 2)) by simp only [mvd, hlen.out, hsq, hs, Int.toNat_natCast, Bool.true_and])
      have hsq2 : ((n : Int) != wrap64 ((s : Int) * s)) = false := by rw [hw, bne, hsq]; rfl
      clear hw hsq
      go_enter Try.func65, Try.ntmps65
      go_wp2_with (go_at_call 109; refine (sizeValid_any _ _).mono ?_; rintro e w' ⟨rfl, rfl⟩)
      go_loop [20] (fun i => ∃ k : Nat, k ≤ n ∧ i = .int .i64 k ∧ Hid (allTo (mkOk ((2 : Int) ^ (s + 1) - 2)) xs k)) (fun i => n - (intOf i).toNat)
      case atStart => exact ⟨0, Nat.zero_le _, rfl, Lib.hid (fun j hj => absurd hj (by omega))⟩
      case round =>
        obtain ⟨k, hk, rfl, hall⟩ := hrel
        by_cases hlt : k < n
        · obtain ⟨b, off, rfl, hb, hck⟩ := h.at_ hlt
          cases hok : mkOk ((2 : Int) ^ (s + 1) - 2) (nth xs k)
          · have Hf := Lib.hid (show mvd xs s = false by rw [HL.out]; exact all_not hlen.out hlt hok)
            go_wp2_with (go_at_call 110; refine (maskValid_any (nth xs k) s _ hsm (hx64 k)).mono ?_; rw [hok]; rintro e w' ⟨rfl, rfl⟩)
            go_ret
            exact ⟨by rw [Hf.out]; rfl, Below.refl _ _⟩
          · have hn2 := Lib.hid (allTo_succ hall.out hok)
            go_wp2_with (go_at_call 110; refine (maskValid_any (nth xs k) s _ hsm (hx64 k)).mono ?_; rw [hok]; rintro e w' ⟨rfl, rfl⟩)
            go_round
            case rel => exact ⟨k + 1, by omega, by go_num, hn2⟩
            case measure => simp [intOf]; omega
        · obtain rfl : k = n := by omega
          have Hf := Lib.hid (show mvd xs s = true by rw [HL.out]; exact allTo_all hall.out hlen.out)
          go_wp2
          go_ret
          exact ⟨by rw [Hf.out]; rfl, Below.refl _ _⟩
end Go.Proofs.Ytoejpodchlepiaa
set_option maxRecDepth 8000
namespace Go.Proofs.Ytoejpodchlepiaa
open Go.ChangeShapes Go.WideShapes Go.ChangeAt Go.RowKit
theorem implRuleMasks (A : Option Addr) (c n B : Nat) (xs : List Int) (k v size : Int) (Ag : Option Addr) (cg ng Bg : Nat) (ms : List Int) (w : World) (h : Rd w B A n xs) (hB : B ≤ w.heap.size) (hm : n ≤ 1099511627776) (hcap : n ≤ c) (hg : Rd w Bg Ag ng ms) (hb64 : B64 ms) (hBg : Bg ≤ w.heap.size) (hmg : ng ≤ 1099511627776) (hs64 : -9223372036854775808 ≤ size ∧ size ≤ 9223372036854775807) :
    Calls Try.prog 60 #[.agg #[.int .i64 k, .slice A n c, .int .i64 v], .slice Ag ng cg, .int .i64 size] w (RetSl w (rmL k xs v ms size)) := by
  have hlen := Lib.hid h.1
  have hx0 := rbox_new w k A n c v 25
  have hb0 : Below w.heap.size w (w.alloc (.cells #[.int .i64 k, .slice A n c, .int .i64 v] 25)) := (Below.refl _ _).alloc (Nat.le_refl _) _
  have hs0 : w.heap.size < (w.alloc (.cells #[.int .i64 k, .slice A n c, .int .i64 v] 25)).heap.size := by simp
  obtain ⟨k0, k1, k2⟩ := id hx0
  have HRV := Lib.hid (fun w' (hb : Below w.heap.size w w') => implRuleValid A c n B xs k v size w' (h.below (hb.mono hB)) (Nat.le_trans hB hb.size) hm hcap)
  have HGV := Lib.hid (fun w' (hb : Below w.heap.size w w') => implMasksValid Ag cg ng Bg ms size w' (hg.below (hb.mono hBg)) hb64 (Nat.le_trans hBg hb.size) hmg hs64)
  cases hv : rv k xs v size
  · have HL := Lib.hid (show rmL k xs v ms size = [] by simp [rmL, hv])
    go_enter Try.func60, Try.ntmps60
    go_wp2_with (go_at_call 73; refine (HRV.out _ hb0).mono ?_; rintro e w1 ⟨rfl, hb1⟩; rw [hv]; have h01 := step hb0 hb1)
    go_ret
    rw [HL.out]
    exact ⟨none, 0, rfl, Ow.nil_ _ _, h01⟩
  · cases hgv : mvd ms size
    · have HL := Lib.hid (show rmL k xs v ms size = [] by simp [rmL, hgv])
      go_enter Try.func60, Try.ntmps60
      go_wp2_with (first | (go_at_call 73; refine (HRV.out _ hb0).mono ?_; rintro e w1 ⟨rfl, hb1⟩; rw [hv]; have h01 := step hb0 hb1) | (go_at_call 65; refine (HGV.out _ h01).mono ?_; rintro e w2 ⟨rfl, hb2⟩; rw [hgv]; have h02 := step h01 hb2))
      go_ret
      rw [HL.out]
      exact ⟨none, 0, rfl, Ow.nil_ _ _, h02⟩
    · obtain ⟨hs24, ⟨hn1, hn4⟩, hk2, hcs⟩ := rv_facts hlen.out hv
      obtain ⟨_, hml, _, hmk⟩ := mvd_at hgv
      rw [hg.1] at hml hmk
      have Hin := Lib.hid (show ∀ i, i < n → 0 ≤ nth xs i ∧ nth xs i < ng from fun i hi => by have := hcs i hi; omega)
      have Hsm := Lib.hid (show ∀ i, i < n → 0 ≤ nth (pks ms xs n) i ∧ nth (pks ms xs n) i < 32 from fun i hi => by
        have := hcs i hi
        have := hmk (nth xs i).toNat (by omega)
        rw [pks_nth hi]; omega)
      have HPK := Lib.hid (fun w' (hb : Below w.heap.size w w') => implPick Ag cg ng Bg ms A c n B xs w' (hg.below (hb.mono hBg)) (h.below (hb.mono hB)) (Nat.le_trans hBg hb.size) (Nat.le_trans hB hb.size) hm Hin.out)
      have HL := Lib.hid (rm_ways hlen.out hv hgv)
      have Hk := Lib.hid (rv_kind hv)
      have Hk2 := Lib.hid (show k = 1 ∨ k = 2 ∨ k = 3 ∨ 2 ≤ n by rcases rv_kind hv with h | h | h | h | h <;> omega)
      have Hpl := Lib.hid (pks_length ms xs n)
      clear hk2 hcs hml hmk
      go_enter Try.func60, Try.ntmps60
      go_wp2_with fail
      refine (HRV.out _ hb0).mono ?_
      rintro e w1 ⟨rfl, hb1⟩
      rw [hv]
      have h01 := step hb0 hb1
      have hx1 := hx0.below hs0 hb1
      have hs1 := Nat.lt_of_lt_of_le hs0 hb1.size
      go_wp2_with fail
      refine (HGV.out _ h01).mono ?_
      rintro e w2 ⟨rfl, hb2⟩
      rw [hgv]
      have h02 := step h01 hb2
      have hx2 := hx1.below hs1 hb2
      have hs2 := Nat.lt_of_lt_of_le hs1 hb2.size
      have HS : Hid (∀ w', Below w2.heap.size w2 w' → w'.cell? ⟨w.heap.size, 0, none⟩ = some (.int .i64 k) ∧ w'.cell? ⟨w.heap.size, 1, none⟩ = some (.slice A n c) ∧ w'.cell? ⟨w.heap.size, 2, none⟩ = some (.int .i64 v)) := Lib.hid (fun w' hb => hx2.below hs2 hb)
      obtain ⟨d0, d1, d2⟩ := id hx2
      go_wp2_with fail
      go_region_held3 (fun w' => w'.cell? ⟨w.heap.size, 0, none⟩ = some (.int .i64 k) ∧ w'.cell? ⟨w.heap.size, 1, none⟩ = some (.slice A n c) ∧ w'.cell? ⟨w.heap.size, 2, none⟩ = some (.int .i64 v))
        (first | go_keep | exact HS.out _ hb3 | exact HS.out _ hb4)
        ((first | (go_simp; go_at_call 75; refine (HPK.out _ (h02.drew)).mono ?_; rintro e w3 ⟨A3, c3, rfl, ho3, hb3'⟩; rw [Hpl.out] at ho3 ⊢; have hb3 : Below w2.heap.size w2 w3 := ((Below.refl _ _).drew).trans hb3') | (go_simp; go_at_call 107; refine (narrowed_any _ _ _ _ _ _ _ _ _ _ _ ho3.rd (Nat.le_refl _) hn1 hn4 (fun i hi => Hsm.out i hi) Hk.out Hk2.out).mono ?_; rintro e w4 ⟨A4, c4, rfl, ho4, hb4'⟩; have hb4 := step hb3 hb4')))
      go_wp2
      go_ret
      rw [HL.out]
      exact ⟨A4, c4, rfl, ho4.mono (step h02 hb3).size, step h02 hb4⟩
end Go.Proofs.Ytoejpodchlepiaa
