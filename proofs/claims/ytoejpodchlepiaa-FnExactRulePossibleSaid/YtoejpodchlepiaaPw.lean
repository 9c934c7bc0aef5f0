import Derived.Test.YtoejpodchlepiaaIu
import Derived.Test.YtoejpodchlepiaaAn
import Derived.Test.YtoejpodchlepiaaOm
import Derived.Test.YtoejpodchlepiaaRS
import Derived.Shelf.RegionOpen
set_option maxRecDepth 8000
namespace Go.Proofs.Ytoejpodchlepiaa
open Go.ChangeShapes Go.WideShapes Go.ChangeAt Go.RowKit Go.Shelf
attribute [local go_sem] Oper.semAt_some
theorem part_put (xs : List Int) (k n : Nat) (hk : k < n) : (part xs k n).set k (nth xs k) = part xs (k + 1) n := by
  apply ext_nth (by simp [part_length])
  intro j hj
  rw [List.length_set, part_length] at hj
  rw [part_nth _ _ _ _ hj]
  by_cases e : j = k
  · subst e; rw [nth_set_same (by rw [part_length]; exact hk), if_pos (by omega)]
  · rw [nth_set_ne (fun e' => e e'.symm), part_nth _ _ _ _ hj]
    by_cases h : j < k
    · rw [if_pos h, if_pos (by omega)]
    · rw [if_neg h, if_neg (by omega)]
theorem part_zero_ (xs : List Int) (n : Nat) : part xs 0 n = zeros n := by
  apply ext_nth (by simp [part_length, zeros])
  intro j hj
  rw [part_length] at hj
  rw [part_nth _ _ _ _ hj, if_neg (by omega)]
  simp [zeros, nth, List.getD_eq_getElem?_getD, hj]
set_option maxHeartbeats 1000000 in
theorem possible_any (A : Option Addr) (c nc : Nat) (k v : Int) (Av : Option Addr) (cv n B : Nat) (vs : List Int) (s : Nat) (w : World) (hv : Rd w B Av n vs) (hB : B ≤ w.heap.size) (n1 : 1 ≤ n) (n4 : n ≤ 4) (hs : s ∈ [2, 3, 4]) (hsm : ∀ i, i < n → 0 ≤ nth vs i ∧ nth vs i ≤ 4)
    (hk : k = 1 ∨ k = 2 ∨ k = 3 ∨ k = 4 ∨ k = 5) (h2 : k = 1 ∨ k = 2 ∨ k = 3 ∨ 2 ≤ n) :
    Calls Try.prog 80 #[.agg #[.int .i64 k, .slice A nc c, .int .i64 v], .slice Av n cv, .int .i64 s] w fun e w' => e = .returned (.bool (!((allW (emL vs s) n []).filter (holdsB k v)).isEmpty)) ∧ Below w.heap.size w w' := by
  have hlen := hv.1
  have hpm : ∀ i, i < n → nth (emL vs s) i = ((emN vs s i : Nat) : Int) := fun i hi => by
    unfold emL
    rw [mapTo_nth (by omega)]
    simp [emG]
  have hms : ∀ i, i < n → 0 ≤ nth (emL vs s) i ∧ nth (emL vs s) i < 32 := fun i hi => by
    have := emN_lt (j := i) hs (hsm i hi).1 (hsm i hi).2
    rw [hpm i hi]; omega
  obtain ⟨W1, hW1⟩ : ∃ W1, w.alloc (.cells #[.int .i64 k, .slice A nc c, .int .i64 v] 25) = W1 := ⟨_, rfl⟩
  have hx1 := rbox_new w k A nc c v 25
  rw [hW1] at hx1
  have hb1 : Below w.heap.size w W1 := by rw [← hW1]; exact (Below.refl _ _).alloc (Nat.le_refl _) _
  have hs1 : W1.heap.size = w.heap.size + 1 := by rw [← hW1]; simp
  obtain ⟨W2, hW2⟩ : ∃ W2, W1.alloc (.cells #[.bool false] 4) = W2 := ⟨_, rfl⟩
  have hb2 : Below W1.heap.size W1 W2 := by rw [← hW2]; exact (Below.refl _ _).alloc (Nat.le_refl _) _
  have hs2 : W2.heap.size = w.heap.size + 1 + 1 := by rw [← hW2]; simp [hs1]
  have hx2 := hx1.below (by omega) hb2
  have hc2 : W2.heap[w.heap.size + 1]? = some (.cells #[.bool false] 4) := by rw [← hW2, ← hs1]; exact heap_alloc_new _ _
  have hbW2 : Below w.heap.size w W2 := hb1.trans (hb2.mono (by omega))
  have HB2 := Lib.hid hbW2
  have HX2 := Lib.hid hx2
  have HC2 := Lib.hid hc2
  have HOM := Lib.hid (fun (w' : World) (hb : Below w.heap.size w w') => openMasks_any Av cv n B vs s w' (hv.below (hb.mono hB)) (Nat.le_trans hB hb.size) (by omega) hs hsm)
  have Hel := Lib.hid (emL_len_ (s := s) hlen)
  have HV := Lib.hid (fun (w' : World) (hb : Below w.heap.size w w') => hv.below (hb.mono hB))
  have HPM := Lib.hid hpm
  have HMS := Lib.hid hms
  have HLEN := Lib.hid hlen
  have HSM := Lib.hid hsm
  have HS2 := Lib.hid hs2
  clear hbW2 hx2 hc2 hx1 hb1 hb2 hpm hms hlen hsm
  refine (callsIn_wide (n := 9)).1 ?_
  refine callsIn_of_wp_marks Try.func80 rfl trivial ?_ rfl
  simp only [Try.ntmps80, List.size_toArray, List.length_cons, List.length_nil, Nat.reduceAdd, Nat.reduceSub, Array.replicate_succ, Array.replicate_zero, List.push_toArray, List.append_toArray, List.nil_append, List.cons_append]
  have hmx : Try.prog.follows .mixedOrders = true := by kernel_rfl
  obtain ⟨x0, x1, x2⟩ := id HX2.out
  gi_wp2
  first | (gi_region_with_o (first
    | ((try refine ⟨trivial, ?_⟩); gi_at_call 91; refine (callsIn_wide.2 (HOM.out _ (by first | exact HB2.out | exact HB2.out.drew))).mono ?_; rintro e w3 ⟨A3, c3, rfl, ho3, hb3⟩; rw [Hel.out] at ho3 ⊢; have hb3' : Below W2.heap.size W2 w3 := (by first | exact hb3 | exact ((Below.refl _ _).drew).trans hb3); obtain ⟨y0, y1, y2⟩ := HX2.out.below (by rw [HS2.out]; omega) hb3')
    | ((try refine ⟨trivial, ?_⟩); gi_at_call 116; refine (callsIn_wide.2 (waysToHold_any A c nc k v A3 n c3 _ hk)).mono ?_; rintro e w5 ⟨MB, RB, rfl, hmb, hrb, hb5⟩))) | fail
  all_goals
    gi_wp2
    have hbw : Below w.heap.size w w3 := step HB2.out hb3'
    have hl5 : w.heap.size + 1 < w5.heap.size := by have := hb5.size; have := hb3'.size; omega
    have hrow5 : w5.heap[w.heap.size + 1]? = some (.cells #[.bool false] 4) := (hb5.block _ (by have := hb3'.size; omega)).trans ((hb3'.block _ (by omega)).trans HC2.out)
    have hbase : WBase MB RB w5.heap.size k A nc c v A3 n c3 (emL vs s) w5 := ⟨hmb, hrb, ?mask, Nat.le_refl _⟩
    case mask =>
      have h5 := (ho3.below hb5).rd
      exact ⟨emL_len_ HLEN.out, fun hn => by
        obtain ⟨b, off, e, hl, hc⟩ := h5.2 hn
        exact ⟨b, off, e, cell_lt (hc 0 hn), hc⟩⟩
    have hMB := cell_lt hmb
    have hRB := cell_lt hrb
    have HBW := Lib.hid (hbw.trans (hb5.mono (by have := hbw.size; omega)))
    refine range_skip 9 (by rfl) (enters_of Try.func134 (by kernel_rfl) rfl) (ways_seq MB RB w5.heap.size k A nc c v A3 n c3 (emL vs s) n1 n4 HMS.out hk h2)
      (fun pre X => pre = [] ∧ WBase MB RB w5.heap.size k A nc c v A3 n c3 (emL vs s) X ∧ X.heap[w.heap.size + 1]? = some (.cells #[.bool false] 4) ∧ Below w.heap.size w X)
      (fun cc X => cc = .ret ∧ ((allW (emL vs s) n []).filter (holdsB k v)).isEmpty = false ∧ X.heap[w.heap.size + 1]? = some (.cells #[.bool true] 4) ∧ Below w.heap.size w X)
      (fun pre X h => h.2.1)
      (fun pre X Y h hb => ⟨h.1, h.2.1.below hb (by omega) (by omega) (by omega), (hb.block _ hl5).trans h.2.2.1, h.2.2.2.trans (hb.mono (by omega))⟩)
      (fun cc X Y h hb => ⟨h.1, h.2.1, (hb.block _ hl5).trans h.2.2.1, h.2.2.2.trans (hb.mono (by omega))⟩)
      ⟨rfl, hbase, hrow5, HBW.out⟩ ?body ?done ?stop
    case body =>
      rintro l pre x X b n' c' ⟨rfl, hbX, hrX, hBX⟩ hx hbb hrd
      have hne : ((allW (emL vs s) n []).filter (holdsB k v)).isEmpty = false := by
        cases e : (allW (emL vs s) n []).filter (holdsB k v)
        · rw [e] at hx; cases hx
        · rfl
      clear hx
      simp only [List.setIfInBounds_toArray, List.set_cons_zero, List.set_cons_succ]
      have hcX := cell_of_row _ _ 0 _ _ (0, 0) hrX
      have hfX := frozen_of_row _ _ 0 _ _ hrX
      gi_wp2
      exact ⟨Mid.setCell _ _ _ _ _ hl5, rfl, heap_setCell_same X (w.heap.size + 1) 0 _ _ (.bool true) hrX, hBX.setCell (p := ⟨w.heap.size + 1, 0, none⟩) (by show w.heap.size ≤ w.heap.size + 1; omega) _⟩
    case done =>
      rintro D W hD ⟨he, hbX, hrX, hBX⟩ hK
      have hcX := cell_of_row _ _ 0 _ _ (0, 0) hrX
      have hfX := frozen_of_row _ _ 0 _ _ hrX
      gi_wp2
      have hK2 : (W.setCell ⟨w.heap.size + 1, 0, none⟩ (.bool false)).heap[D]? = some (.deferred (some [])) := (heap_setCell_other W ⟨w.heap.size + 1, 0, none⟩ D _ (fun e => by dsimp only at e; omega)).trans hK
      refine ⟨by simp, .inl ⟨_, _, rfl, run_takeDeferred hK2, ?_⟩⟩
      have hrow6 := (World.putObj_heap_other (o := .deferred none) (by omega : w.heap.size + 1 ≠ D)).trans (heap_setCell_same W (w.heap.size + 1) 0 _ _ (.bool false) hrX)
      have hc6 := cell_of_row _ _ 0 _ _ (0, 0) hrow6
      refine ⟨.bool false, ?_, rfl, (hBX.setCell (p := ⟨w.heap.size + 1, 0, none⟩) (by show w.heap.size ≤ w.heap.size + 1; omega) _).trans (below_put _ (by omega) hK2)⟩
      simp at hc6
      simp [results, Try.f80, go_sem, hc6]
    case stop =>
      rintro D cc W hD ⟨rfl, hne, hrX, hBX⟩ hK
      gi_wp2
      refine ⟨by simp, .inl ⟨_, _, rfl, run_takeDeferred hK, ?_⟩⟩
      have hrow6 := (World.putObj_heap_other (o := .deferred none) (by omega : w.heap.size + 1 ≠ D)).trans hrX
      have hc6 := cell_of_row _ _ 0 _ _ (0, 0) hrow6
      refine ⟨.bool true, ?_, rfl, hBX.trans (below_put _ (by omega) hK)⟩
      simp at hc6
      simp [results, Try.f80, go_sem, hc6]
end Go.Proofs.Ytoejpodchlepiaa
