import Derived.Test.YtbfjkepelfmeeaaIu
import Derived.Test.YtbfjkepelfmeeaaRS
import Derived.Test.YtbfjkepelfmeeaaWz
import Derived.BigRegionIn
set_option maxRecDepth 8000
namespace Go.Proofs.Ytbfjkepelfmeeaa
open Go.ChangeShapes Go.WideShapes Go.ChangeAt Go.RowKit Go.Shelf
attribute [local go_sem] Oper.semAt_some
theorem nats_zerosN (n : Nat) : nats (zerosN n) = zeros n := by simp [nats, zerosN, zeros]
theorem ways_small {k v : Int} {ms : List Int} {n : Nat} {x : List Int} (h : x ∈ waysN k v ms n) : x.length = n ∧ small4 x n := by
  have hy := (List.mem_filter.1 h).1
  have h1 := allW_len hy
  simp at h1
  refine ⟨h1, fun i hi => ?_⟩
  have := allW_small (vs := []) (by intro i hi; simp at hi) hy i (by simpa using hi)
  omega
theorem fold_len {L : List (List Int)} {n : Nat} (h : ∀ ys ∈ L, small4 ys n) : (L.foldl orAll (zerosN n)).length = n ∧ lt32 (L.foldl orAll (zerosN n)) :=
  foldAll_inv L _ h (by simp [zerosN]) (zeros_lt _)
set_option maxHeartbeats 1000000 in
theorem narrowed_any (A : Option Addr) (c nc : Nat) (k v : Int) (Am : Option Addr) (cm n B : Nat) (ms : List Int) (w : World) (hm : Rd w B Am n ms) (hB : B ≤ w.heap.size) (n1 : 1 ≤ n) (n4 : n ≤ 4) (hms : ∀ i, i < n → 0 ≤ nth ms i ∧ nth ms i < 32)
    (hk : k = 1 ∨ k = 2 ∨ k = 3 ∨ k = 4 ∨ k = 5) (h2 : k = 1 ∨ k = 2 ∨ k = 3 ∨ 2 ≤ n) :
    Calls Try.prog 79 #[.agg #[.int .i64 k, .slice A nc c, .int .i64 v], .slice Am n cm] w (RetSl w (nats ((waysN k v ms n).foldl orAll (zerosN n)))) := by
  obtain ⟨W1, hW1⟩ : ∃ W1, w.alloc (.cells #[.int .i64 k, .slice A nc c, .int .i64 v] 30) = W1 := ⟨_, rfl⟩
  have hx1 := rbox_new w k A nc c v 30
  rw [hW1] at hx1
  have hb1 : Below w.heap.size w W1 := by rw [← hW1]; exact (Below.refl _ _).alloc (Nat.le_refl _) _
  have hs1 : W1.heap.size = w.heap.size + 1 := by rw [← hW1]; simp
  obtain ⟨W2, hW2⟩ : ∃ W2, W1.alloc (.cells (zeroArr n) 3) = W2 := ⟨_, rfl⟩
  have hb2 : Below W1.heap.size W1 W2 := by rw [← hW2]; exact (Below.refl _ _).alloc (Nat.le_refl _) _
  have hs2 : W2.heap.size = w.heap.size + 1 + 1 := by rw [← hW2]; simp [hs1]
  have ho2 : Ow W2 w.heap.size (some ⟨w.heap.size + 1, 0, none⟩) n n (zeros n) := by
    have := zeroArr_ow (n := n) (lo := w.heap.size) (by omega) W1 (by omega)
    rw [hW2, hs1] at this
    exact this
  have hmk : (Instr.makeSlice 23 (.int .i64 (n : Int)) (.int .i64 (n : Int))).run Try.prog W1 = .ok (.slice (some ⟨w.heap.size + 1, 0, none⟩) n n) W2 := by rw [make_ints (by omega), hW2, hs1]
  obtain ⟨W3, hW3⟩ : ∃ W3, W2.alloc (.cells #[.slice (some ⟨w.heap.size + 1, 0, none⟩) n n] 23) = W3 := ⟨_, rfl⟩
  have hb3 : Below W2.heap.size W2 W3 := by rw [← hW3]; exact (Below.refl _ _).alloc (Nat.le_refl _) _
  have hs3 : W3.heap.size = w.heap.size + 1 + 1 + 1 := by rw [← hW3]; simp [hs2]
  have hrow3 : W3.heap[w.heap.size + 1 + 1]? = some (.cells #[.slice (some ⟨w.heap.size + 1, 0, none⟩) n n] 23) := by rw [← hW3, ← hs2]; exact heap_alloc_new _ _
  have hbW3 : Below w.heap.size w W3 := (hb1.trans (hb2.mono (by omega))).trans (hb3.mono (by omega))
  have hx3 := (hx1.below (by omega) hb2).below (by omega) hb3
  have ho3 := ho2.below hb3
  have HW := Lib.hid (waysToHold_any A c nc k v Am n cm W3 hk)
  have HB3 := Lib.hid hbW3
  have HO3 := Lib.hid ho3
  have HR3 := Lib.hid hrow3
  have HM := Lib.hid (fun (w' : World) (hb : Below w.heap.size w w') => hm.below (hb.mono hB))
  have HMS := Lib.hid hms
  obtain ⟨x0, x1, x2⟩ := id hx3
  clear hb1 hb2 hb3 hbW3 ho3 ho2 hx1 hx3 hrow3 hms
  refine (callsIn_wide (n := 9)).1 ?_
  refine callsIn_of_wp_marks Try.func79 rfl trivial ?_ rfl
  simp only [Try.ntmps79, List.size_toArray, List.length_cons, List.length_nil, Nat.reduceAdd, Nat.reduceSub, Array.replicate_succ, Array.replicate_zero, List.push_toArray, List.append_toArray, List.nil_append, List.cons_append]
  gi_wp2_with (refine ⟨trivial, ?_⟩; gi_at_call 101; refine (callsIn_wide.2 HW.out).mono ?_; rintro e w5 ⟨MB, RB, rfl, hmb, hrb, hb5⟩)
  have hMB := cell_lt hmb
  have hRB := cell_lt hrb
  have hb05 : Below w.heap.size w w5 := HB3.out.trans (hb5.mono (by omega))
  have hs5 : w.heap.size + 1 + 1 < w5.heap.size := by have := hb5.size; omega
  have hrow5 := (hb5.block (w.heap.size + 1 + 1) (by omega)).trans HR3.out
  have hO5 := HO3.out.below hb5
  obtain ⟨z0, hz0⟩ : ∃ z : Int, w5.cell? ⟨w.heap.size + 1, 0, none⟩ = some (.int .i64 z) := by
    obtain ⟨b, off, e, _, hc⟩ := hO5.rd.at_ n1
    cases e
    exact ⟨_, hc⟩
  have hMB1 : MB ≠ w.heap.size + 1 := fun e => by
    rw [e, hz0] at hmb; cases hmb
  have hRB1 : RB ≠ w.heap.size + 1 := fun e => by
    rw [e, hz0] at hrb
    rcases hk with rfl | rfl | rfl | rfl | rfl <;> cases hrb
  have HWS := Lib.hid (fun x (hx : x ∈ waysN k v ms n) => ways_small hx)
  refine range_two 9 (q := 6) (by rfl) (enters_of Try.func120 (by kernel_rfl) rfl) (ways_seq MB RB B k A nc c v Am n cm ms n1 n4 HMS.out hk h2)
    (fun pre X => WBase MB RB B k A nc c v Am n cm ms X ∧ X.heap[w.heap.size + 1 + 1]? = some (.cells #[.slice (some ⟨w.heap.size + 1, 0, none⟩) n n] 23) ∧ Ow X w.heap.size (some ⟨w.heap.size + 1, 0, none⟩) n n (nats (pre.foldl orAll (zerosN n))) ∧ (∀ ys ∈ pre, small4 ys n) ∧ Below w.heap.size w X)
    (fun cc X => False)
    (fun pre X h => h.1)
    (fun pre X Y h hb => ⟨h.1.below hb (by omega) (by omega) (by omega), (hb.block _ (by omega)).trans h.2.1, h.2.2.1.same (hb.block _ (by omega)), h.2.2.2.1, h.2.2.2.2.trans (hb.mono (by omega))⟩)
    (fun cc X Y h hb => h)
    ⟨⟨hmb, hrb, HM.out _ hb05, Nat.le_trans hB hb05.size⟩, hrow5, by simpa [nats_zerosN] using hO5, by simp, hb05⟩ ?assign ?body ?done ?stop
  case assign =>
    intro l v W K hK
    simp only [List.setIfInBounds_toArray, List.set_cons_zero, List.set_cons_succ] at hK ⊢
    gi_wp2
    exact hK
  case body =>
    rintro l pre x X b n' c' ⟨hbX, hrX, hoX, hpre, hBX⟩ hx hbb hrd
    obtain ⟨hxl, hsm⟩ := HWS.out x hx
    obtain rfl : n' = n := by rw [← hrd.1]; exact hxl
    simp only [List.setIfInBounds_toArray, List.set_cons_zero, List.set_cons_succ]
    gi_wp2
    obtain ⟨F, hF⟩ : ∃ F, pre.foldl orAll (zerosN n') = F := ⟨_, rfl⟩
    have hFF := fold_len hpre
    rw [hF] at hoX hFF
    obtain ⟨hFl, hF32⟩ := hFF
    have HF32 := Lib.hid hF32
    have HSM := Lib.hid hsm
    have HFl := Lib.hid hFl
    have HRd := Lib.hid hrd
    have HoX := Lib.hid hoX
    have HrX := Lib.hid hrX
    clear hF32 hsm hFl hoX
    gi_loopw [18] (fun i wr => ∃ t : Nat, t ≤ n' ∧ i = .int .i64 t ∧ Ow wr w.heap.size (some ⟨w.heap.size + 1, 0, none⟩) n' n' (nats (orTo x F t)) ∧ X.grownBy wr (some (w.heap.size + 1))) (fun i _ => n' - (intOf i).toNat)
    case atStart => exact ⟨0, Nat.zero_le _, rfl, by rw [orTo_zero]; exact HoX.out, World.grownBy.refl X _⟩
    case round =>
      obtain ⟨t, ht, rfl, hFt, hgt⟩ := hrel
      have hcX := cell_of_row _ _ 0 _ _ (0, 0) ((hgt.block (w.heap.size + 1 + 1) (by have := (Array.getElem?_eq_some_iff.1 HrX.out).1; omega) (fun e => by have := Option.some.inj e; omega)).trans HrX.out)
      by_cases hlt : t < n'
      · obtain ⟨b', off', eb, hbl, hck0⟩ := HRd.out.at_ hlt
        cases eb
        have hck := (World.cell?_of_block (a := ⟨b, 0 + t, none⟩) (hgt.block b hbl (fun e => by have := Option.some.inj e; omega))).trans hck0
        rw [Nat.zero_add] at hck
        obtain ⟨x0, x4⟩ := HSM.out t hlt
        obtain ⟨z, hzv⟩ := Int.eq_ofNat_of_zero_le x0
        rw [hzv] at hck
        obtain ⟨hold, hfr⟩ := hFt.cell hlt
        have hot : nth (nats (orTo x F t)) t = ((F.getD t 0 : Nat) : Int) := by rw [nats_nth, orTo_get (by rw [HFl.out]; exact hlt), if_neg (by omega)]
        rw [hot] at hold
        have hor := or_int (F.getD t 0) z (HF32.out t) (by omega)
        have hst := (World.ownsRow.stored hFt t (.int .i64 ((F.getD t 0 ||| 2 ^ (nth x t).toNat : Nat) : Int))).1
        rw [orTo_set x F t, hzv, Int.toNat_natCast] at hst
        obtain ⟨f, hf⟩ : ∃ f, f = F.getD t 0 := ⟨_, rfl⟩
        rw [← hf] at hold hor hst
        have HE1 := Lib.hid (show Ow (wr.setCell ⟨w.heap.size + 1, t, none⟩ (.int .i64 (bits .or .i64 (f : Int) (wrap64 (2 ^ z))))).drew w.heap.size (some ⟨w.heap.size + 1, 0, none⟩) n' n' (nats (orTo x F (t + 1))) by rw [hor]; exact World.ownsRow.drew hst)
        have HE2 := Lib.hid (show X.grownBy (wr.setCell ⟨w.heap.size + 1, t, none⟩ (.int .i64 (bits .or .i64 (f : Int) (wrap64 (2 ^ z))))).drew (some (w.heap.size + 1)) from grown_drew (hgt.trans grown_set))
        clear hf hor
        have hnG : b ≠ w.heap.size + 1 := by omega
        have hx5 : (z : Int) < 64 := by omega
        clear hst hot
        gi_wp2
        gi_region
        all_goals
          gi_wp2
          exact ⟨⟨t + 1, hlt, by go_num, HE1.out, HE2.out⟩, by simp [intOf]; omega⟩
      · obtain rfl : t = n' := by omega
        have HEnd := Lib.hid (show (∀ ys ∈ pre ++ [x], small4 ys t) from fun ys hy => by
          rcases List.mem_append.1 hy with h | h
          · exact hpre ys h
          · rw [List.mem_singleton.1 h]; exact HSM.out)
        have HLast := Lib.hid (show nats ((pre ++ [x]).foldl orAll (zerosN t)) = nats (orTo x F t) by
          rw [List.foldl_append, hF]; simp only [List.foldl_cons, List.foldl_nil, orAll]; rw [HFl.out])
        have hXs := (Array.getElem?_eq_some_iff.1 HrX.out).1
        have hb1 : Below w.heap.size X wr := Below.of_grown hgt hBX.size (Nat.le_succ _)
        have HbX := Lib.hid (show WBase MB RB B k A nc c v Am t cm ms wr from ⟨(hgt.cell_far ⟨MB, 0, none⟩ (cell_lt hbX.1) (fun e => hMB1 (Option.some.inj e))).trans hbX.1, (hgt.cell_far ⟨RB, 0, none⟩ (cell_lt hbX.2.1) (fun e => hRB1 (Option.some.inj e))).trans hbX.2.1, hbX.2.2.1.below (hb1.mono hB), Nat.le_trans hbX.2.2.2 hb1.size⟩)
        have HrW := Lib.hid ((hgt.block (w.heap.size + 1 + 1) hXs (fun e => by have := Option.some.inj e; omega)).trans HrX.out)
        gi_wp2
        exact ⟨Mid.of_grown hgt (by omega), HbX.out, HrW.out, by rw [HLast.out]; exact hFt, HEnd.out, hBX.trans hb1⟩
  case done =>
    rintro D W hD ⟨hbX, hrX, hoX, hpre, hBX⟩ hK
    have hcX := cell_of_row _ _ 0 _ _ (0, 0) hrX
    gi_wp2
    refine ⟨by simp, .inl ⟨_, _, rfl, run_takeDeferred hK, ?_⟩⟩
    refine ⟨_, results_tmp rfl _ _ _, ?_⟩
    have hl := (fold_len (fun ys hy => (HWS.out ys hy).2)).1
    exact retSl_mk (hoX.same (World.putObj_heap_other (by omega))) (hBX.trans (below_put _ (by omega) hK))
  case stop =>
    rintro D cc W hD h hK
    exact h.elim
end Go.Proofs.Ytbfjkepelfmeeaa
