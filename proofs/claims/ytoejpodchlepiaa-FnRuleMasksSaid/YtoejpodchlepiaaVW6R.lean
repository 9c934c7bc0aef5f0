import Derived.Test.YtoejpodchlepiaaVLM
import Derived.Test.YtoejpodchlepiaaVLD
import Derived.Deep.CutRange
import Derived.Deep.CutBlock
import Derived.Test.YtoejpodchlepiaaVNr
import Derived.Test.YtoejpodchlepiaaQ4V
import Derived.Test.YtoejpodchlepiaaVI4M
import Derived.Test.YtoejpodchlepiaaVNa
set_option maxRecDepth 8000
namespace Go.Proofs.Ytoejpodchlepiaa
open Go.ChangeShapes Go.WideShapes Go.ChangeAt Go.RowKit
theorem rd_keepR {w w' : World} {G B n : Nat} {A : Option Addr} {xs : List Int} (h : Rd w B A n xs) (hB : B ≤ w.heap.size) (hg : w.grownBy w' (some G)) (hne : ∀ b off, A = some ⟨b, off, none⟩ → G < b) : Rd w' B A n xs := by
  refine ⟨h.1, fun hn => ?_⟩
  obtain ⟨b, off, e, hlt, hc⟩ := h.2 hn
  exact ⟨b, off, e, hlt, fun k hk => (grown_at hg _ _ (hne b off e) (by omega)).trans (hc k hk)⟩
/-- what a draw of a rule, masks and a size hands back. -/
def DrawnR (w : World) (e : Ending) (w' : World) : Prop := ∃ k A4 n4 c4 v xs A n c m s, e = .returned (.tuple #[.agg #[.int .i64 k, .slice A4 n4 c4, .int .i64 v], .slice A n c, .int .i64 s]) ∧ -1 ≤ s ∧ s ≤ 5 ∧ Rd w' w'.heap.size A4 n4 xs ∧ n4 ≤ 5 ∧ n4 ≤ c4 ∧ Rd w' w'.heap.size A n m ∧ n ≤ 16 ∧ Hid (B64 m) ∧ Below w.heap.size w w'
set_option maxHeartbeats 4000000 in
theorem draw_DrawRuleMasks (A : Option Addr) (n c : Nat) (bs : List Int) (w : World) (h : Code_ w A n c bs) : Calls Try.prog 59 #[.slice A n c] w (DrawnR w) := by
  have Hone := Lib.hid rule_one
  have Hi := Lib.hid rule_info
  have h1 := h.1.alloc_ (.cells #[.int .i64 0, .slice none 0 0, .int .i64 0] 25)
  obtain ⟨w0, hW⟩ : ∃ w0, w0 = w.alloc (.cells #[.int .i64 0, .slice none 0 0, .int .i64 0] 25) := ⟨_, rfl⟩
  rw [← hW] at h1
  have hRw : w.heap.size < w0.heap.size := by rw [hW]; simp
  have hb00 : Below w.heap.size w w0 := by rw [hW]; exact (Below.refl _ _).alloc (Nat.le_refl _) _
  have hR0 : w0.heap[w.heap.size]? = some (.cells #[.int .i64 0, .slice none 0 0, .int .i64 0] 25) := by rw [hW]; exact heap_alloc_new w _
  have HW := Lib.hid hW
  clear hW
  go_enter Try.func59, Try.ntmps59
  go_wp2_with fail
  rw [← HW.out]
  refine (specOpen A c n bs w0 h1 h.2.1 h.2.2).mono ?_
  rintro e w1 ⟨rfl, hr, hb⟩
  have hR1 := (hb.block w.heap.size hRw).trans hR0
  have hG1 := hr.lt
  go_wp2_with fail
  refine (l20Masks_any w0.heap.size w0.heap.size 0 14 w1 hr (Nat.le_refl _) (by omega) (by omega)).mono ?_
  rintro e w2 ⟨s, A2, n2, c2, xs, rfl, s1, s5, n16, hnc, hcm, hrd, hsm, hlo, hr2, hg, hfz⟩
  obtain ⟨t, ht⟩ : ∃ t, max 2 (min 4 s) = t := ⟨_, rfl⟩
  have t2 : 2 ≤ t := by omega
  have t4 : t ≤ 4 := by omega
  go_upto_region 3 with fail
  go_cut [8] from 9 (fun tv wx => tv = .int .i64 t ∧ w2 = wx)
  case first =>
    go_wp2
    all_goals go_meet
    all_goals (first | exact ⟨rfl, rfl⟩ | exact ⟨by congr 1; omega, rfl⟩)
  case rest =>
  obtain ⟨rfl, rfl⟩ := hcut
  clear ht
  go_wp2_with fail
  refine (l20Solved_any w0.heap.size w0.heap.size _ t w2 hr2 (Nat.le_refl _) (by omega) t2 t4).mono ?_
  rintro e w3 ⟨Ag, ng, cg, g, rfl, hog, hng, hmem, hr3, hg3⟩
  have hgv : gv g t = true := solved_gv t2 t4 hng hmem
  have h12 := hg.size
  have hlo2 : ∀ b off, A2 = some ⟨b, off, none⟩ → w0.heap.size < b := fun b off e => by have := hlo b off e; omega
  have hrm3 := rd_keepR hrd (Nat.le_refl _) hg3 hlo2
  have h23 := hg3.size
  go_wp2_with fail
  refine (l20Rule_any w0.heap.size w0.heap.size _ _ _ _ _ _ t 14 _ hr3 (Nat.le_refl _) (by omega) hog.rd (Nat.le_refl _) (fun b off e => by subst e; have := hog.own_lo b rfl; omega) hgv (by omega)).mono ?_
  rintro e w4 ⟨k, A4, n4, c4, v4, ys, rfl, ho4, hn5, _, hr4, hg4⟩
  have h34 := hg4.size
  have hrm4 := rd_keepR hrm3 h23 hg4 hlo2
  have hg14 := (hg.trans hg3).trans hg4
  have hR4 := (hg14.block w.heap.size (Nat.lt_of_lt_of_le hRw hb.size) (fun e => by injection e with e; omega)).trans hR1
  have hb17 : Below w.heap.size w w4 := (hb00.trans (hb.mono hb00.size)).trans ⟨hg14.os, hg14.tape, hg14.output, hg14.size, fun j hj => hg14.block j (Nat.lt_of_lt_of_le hj (Nat.le_trans hb00.size hb.size)) (fun e => by injection e with e; omega)⟩
  have h64 := Lib.hid (smallM_b64 hsm.out hrd.1)
  have hnc4 := ho4.le_cap
  have hf : DrawnR w (.returned (.tuple #[.agg #[.int .i64 k, .slice A4 n4 c4, .int .i64 v4], .slice A2 n2 c2, .int .i64 s])) (w4.setRow w.heap.size #[.int .i64 k, .slice A4 n4 c4, .int .i64 v4]) := by
    have hgr : w4.grownBy (w4.setRow w.heap.size #[.int .i64 k, .slice A4 n4 c4, .int .i64 v4]) (some w.heap.size) := grown_row
    have hsz := hgr.size
    exact ⟨k, A4, n4, c4, v4, ys, A2, n2, c2, xs, s, rfl, s1, s5, (rd_keepR ho4.rd (Nat.le_refl _) hgr (fun b off e => by subst e; have := ho4.own_lo b rfl; omega)).more hsz, hn5, hnc4, (rd_keepR hrm4 (by omega) hgr (fun b off e => by have := hlo2 b off e; omega)).more (by omega), n16, h64, setRow_below5 hb17 (Nat.le_refl _)⟩
  clear hog hmem hrm3 hrm4 ho4 hrd hsm hfz hr hr2 hr3 hr4 hg hg3 hg4 hg14
  go_wp2_with (refine wpList_store_row rfl 25 _ _ rfl w.heap.size #[.int .i64 k, .slice A4 n4 c4, .int .i64 v4] rfl rfl 25 #[.int .i64 0, .slice none 0 0, .int .i64 0] hR4 (Hi.out _ _ _ _ _) rfl (Hone.out _ _ _ _ _) ?_)
  exact bodyPost_ret (v := .tuple #[.agg #[.int .i64 k, .slice A4 n4 c4, .int .i64 v4], .slice A2 n2 c2, .int .i64 s]) (results_c2 (by rfl) _ _ w.heap.size 25 _ (0, 0) _ _ _ rfl rfl rfl (setRow_heap _ _ _ _ _ _ hR4) Try.underlying25 rfl (Hi.out _ _ _ _ _)) rfl hf
end Go.Proofs.Ytoejpodchlepiaa
set_option maxRecDepth 8000
namespace Go.Proofs.Ytoejpodchlepiaa
open Go.ChangeShapes Go.WideShapes Go.ChangeAt Go.RowKit
theorem rv_apart {k v s : Int} {xs : List Int} (hv : rv k xs v s = true) {i j : Nat} (hij : i < j) (hj : j < xs.length) : nth xs i ≠ nth xs j := fun e => by
  have : rv k xs v s = false := rv_cell rfl hj (by
    unfold cellOk
    rw [fresh_mem, memTo_hit hij e, Bool.not_true, Bool.and_false])
  rw [hv] at this
  cases this
theorem allW_mem {ms : List Int} : ∀ (d : Nat) (vs ys : List Int), ys.length = vs.length + d → (∀ i, i < vs.length → nth ys i = nth vs i) → (∀ i, vs.length ≤ i → i < vs.length + d → nth ys i ∈ bitsTo (nth ms i).toNat 4) → ys ∈ allW ms d vs := by
  intro d
  induction d with
  | zero =>
    intro vs ys hl hp _
    simp only [allW, List.mem_singleton]
    exact ext_nth (by omega) (fun i hi => hp i (by omega))
  | succ d ih =>
    intro vs ys hl hp hb
    simp only [allW, List.mem_flatMap]
    refine ⟨nth ys vs.length, hb _ (Nat.le_refl _) (by omega), ih _ _ ?_ ?_ ?_⟩
    · rw [List.length_append, List.length_singleton]; omega
    · intro i hi
      rw [List.length_append, List.length_singleton] at hi
      rw [nth_push rfl]
      by_cases e : i < vs.length
      · rw [if_pos e]; exact hp i e
      · rw [if_neg e, if_pos (by omega), show i = vs.length by omega]
    · intro i h1 h2
      rw [List.length_append, List.length_singleton] at h1 h2
      exact hb i (by omega) (by omega)
theorem foldAll_keep {j t : Nat} : ∀ (L : List (List Int)) (G : List Nat), j < G.length → (G.getD j 0).testBit t = true → ((L.foldl orAll G).getD j 0).testBit t = true := by
  intro L
  induction L with
  | nil => intro G _ h; exact h
  | cons ys L ih =>
    intro G hj h
    refine ih _ (by rw [orAll_length]; exact hj) ?_
    unfold orAll
    rw [orTo_get hj, if_pos hj, Nat.testBit_or, h, Bool.true_or]
theorem foldAll_in {j : Nat} : ∀ (L : List (List Int)) (G : List Nat), j < G.length → ∀ ys ∈ L, ((L.foldl orAll G).getD j 0).testBit (nth ys j).toNat = true := by
  intro L
  induction L with
  | nil => intro G _ ys h; cases h
  | cons zs L ih =>
    intro G hj ys h
    rcases List.mem_cons.1 h with rfl | h
    · refine foldAll_keep L _ (by rw [orAll_length]; exact hj) ?_
      unfold orAll
      rw [orTo_get hj, if_pos hj, Nat.testBit_or, Nat.testBit_two_pow_self, Bool.or_true]
    · exact ih _ (by rw [orAll_length]; exact hj) ys h
/-- the masks of a rule, as a fold. -/
def rmF (k v : Int) (P : List Int) (n : Nat) : List Nat := (waysN k v P n).foldl orAll (zerosN n)
theorem zerosN_get {n j : Nat} : (zerosN n).getD j 0 = 0 := by
  simp only [zerosN, List.getD_eq_getElem?_getD, List.getElem?_replicate]
  split <;> rfl
theorem rmF_bit {k v : Int} {P : List Int} {n j : Nat} (hj : j < n) (t : Nat) : ((rmF k v P n).getD j 0).testBit t = true ↔ ∃ ys ∈ waysN k v P n, (nth ys j).toNat = t := by
  have hz : j < (zerosN n).length := by simpa [zerosN] using hj
  constructor
  · intro h
    rcases foldAll_bit _ _ hz h with h | h
    · rw [zerosN_get] at h; simp at h
    · exact h
  · rintro ⟨ys, hy, rfl⟩
    exact foldAll_in _ _ hz ys hy
theorem ways_bit {k v : Int} {P : List Int} {n j : Nat} (hj : j < n) {ys : List Int} (hy : ys ∈ waysN k v P n) : ∃ u : Nat, nth ys j = (u : Int) ∧ 1 ≤ u ∧ u ≤ 4 ∧ (nth P j).toNat.testBit u = true :=
  bits_iff.1 ((allW_bits (List.mem_filter.1 hy).1).2 j (Nat.zero_le _) (by simpa using hj))
theorem rmF_idem {k v : Int} {P P' : List Int} {n : Nat} (h : ∀ j, j < n → (nth P' j).toNat = (rmF k v P n).getD j 0) : ∀ j, j < n → (rmF k v P' n).getD j 0 = (rmF k v P n).getD j 0 := by
  have hm : ∀ ys, ys ∈ waysN k v P' n ↔ ys ∈ waysN k v P n := by
    intro ys
    unfold waysN
    rw [List.mem_filter, List.mem_filter]
    constructor
    · rintro ⟨h1, h2⟩
      refine ⟨allW_mono _ _ _ (fun i _ hi t t1 t4 hb => ?_) h1, h2⟩
      have hi' : i < n := by simpa using hi
      rw [h i hi', rmF_bit hi'] at hb
      obtain ⟨zs, hz, e⟩ := hb
      obtain ⟨u, hu, _, _, hbit⟩ := ways_bit hi' hz
      rw [hu, Int.toNat_natCast] at e
      rw [← e]; exact hbit
    · rintro ⟨h1, h2⟩
      have hy : ys ∈ waysN k v P n := List.mem_filter.2 ⟨h1, h2⟩
      refine ⟨allW_mem _ _ _ (by have := allW_len h1; exact this) (fun i hi => absurd hi (by simp)) (fun i _ hi => ?_), h2⟩
      have hi' : i < n := by simpa using hi
      obtain ⟨u, hu, u1, u4, _⟩ := ways_bit hi' hy
      rw [hu]
      refine bits_iff.2 ⟨u, rfl, u1, u4, ?_⟩
      rw [h i hi', rmF_bit hi']
      exact ⟨ys, hy, by rw [hu, Int.toNat_natCast]⟩
  intro j hj
  apply Nat.eq_of_testBit_eq
  intro t
  rw [Bool.eq_iff_iff, rmF_bit hj, rmF_bit hj]
  constructor
  · rintro ⟨ys, hy, e⟩; exact ⟨ys, (hm ys).1 hy, e⟩
  · rintro ⟨ys, hy, e⟩; exact ⟨ys, (hm ys).2 hy, e⟩
theorem rm_nth {k v s : Int} {xs ms : List Int} (hv : rv k xs v s = true) (hm : mvd ms s = true) (j : Nat) : nth (rmL k xs v ms s) j = (((rmF k v (pks ms xs xs.length) xs.length).getD j 0 : Nat) : Int) := by
  rw [rm_ways rfl hv hm, nats_nth]
  rfl
theorem nrIn_nth {k v s : Int} {xs f o : List Int} (hv : rv k xs v s = true) (ho : ∀ i, i < xs.length → (nth xs i).toNat < o.length) (j : Nat) (hj : j ≤ xs.length) : (nrIn xs f o j).length = o.length ∧ ∀ i, i < j → nth (nrIn xs f o j) (nth xs i).toNat = nth f i := by
  have hx := (rv_facts rfl hv).2.2.2
  induction j with
  | zero => exact ⟨rfl, fun i hi => absurd hi (by omega)⟩
  | succ j ih =>
    obtain ⟨h1, h2⟩ := ih (by omega)
    refine ⟨by simp only [nrIn]; rw [List.length_set, h1], fun i hi => ?_⟩
    simp only [nrIn]
    rw [nth_set (by rw [h1]; exact ho j (by omega))]
    by_cases e : i = j
    · subst e; rw [if_pos rfl]
    · have hne := rv_apart hv (show i < j by omega) (by omega)
      have a := hx i (by omega)
      have b := hx j (by omega)
      rw [if_neg (by omega)]
      exact h2 i (by omega)
/-- with its own masks a rule has the same masks. -/
theorem rm_idem {k v s : Int} {xs ms : List Int} (hv : rv k xs v s = true) (hm : mvd ms s = true) : rmL k xs v (nrIn xs (rmL k xs v ms s) ms xs.length) s = rmL k xs v ms s := by
  have hm' := (nrIn_sub hv hm xs.length (Nat.le_refl _)).mvd_ hm
  obtain ⟨_, _, _, hx⟩ := rv_facts rfl hv
  have hml := (mvd_at hm).2.1
  have hn := (nrIn_nth (f := rmL k xs v ms s) (o := ms) hv (fun i hi => by have := hx i hi; omega) xs.length (Nat.le_refl _)).2
  apply ext_nth
  · rw [rm_len hv hm', rm_len hv hm]
  · intro j hj
    rw [rm_len hv hm'] at hj
    rw [rm_nth hv hm', rm_nth hv hm]
    rw [rmF_idem (P := pks ms xs xs.length) (fun i hi => ?_) j hj]
    rw [pks_nth hi, hn i hi, rm_nth hv hm, Int.toNat_natCast]
theorem rm_empty {k v s : Int} {xs ms : List Int} (hv : rv k xs v s = true) (hm : mvd ms s = true) : (∀ j, j < xs.length → nth (rmL k xs v ms s) j = 0) ∨ (∀ j, j < xs.length → nth (rmL k xs v ms s) j ≠ 0) := by
  cases hL : waysN k v (pks ms xs xs.length) xs.length with
  | nil =>
    left
    intro j hj
    rw [rm_nth hv hm, rmF, hL]
    simp only [List.foldl_nil]
    rw [zerosN_get]; rfl
  | cons ys L =>
    right
    intro j hj e
    rw [rm_nth hv hm] at e
    have h0 : (rmF k v (pks ms xs xs.length) xs.length).getD j 0 = 0 := by omega
    have := (rmF_bit (k := k) (v := v) (P := pks ms xs xs.length) hj (nth ys j).toNat).2 ⟨ys, by rw [hL]; exact List.mem_cons_self .., rfl⟩
    rw [h0] at this
    simp at this
def anB (x y : Nat) : Bool := !(Nat.beq (Nat.land x y) x) || (bits .andNot .i64 (x : Int) (y : Int) == 0)
theorem anB_key : ∀ x, x < 32 → ∀ y, y < 32 → anB x y = true := by decide +kernel
theorem an_zero {x y : Nat} (hx : x < 32) (hy : y < 32) (h : ∀ t, x.testBit t = true → y.testBit t = true) : bits .andNot .i64 (x : Int) (y : Int) = 0 := by
  have e : x &&& y = x := by
    apply Nat.eq_of_testBit_eq
    intro t
    rw [Nat.testBit_and]
    cases ha : x.testBit t
    · rfl
    · rw [h t ha]; rfl
  have := anB_key x hx y hy
  unfold anB at this
  rw [show Nat.land x y = x from e, Nat.beq_refl] at this
  simpa using this
theorem rm_part {k v s : Int} {xs ms : List Int} (hv : rv k xs v s = true) (hm : mvd ms s = true) {j : Nat} (hj : j < xs.length) : bits .andNot .i64 (nth (rmL k xs v ms s) j) (nth ms (nth xs j).toNat) = 0 := by
  obtain ⟨r0, r1, _⟩ := rm_sub hv hm hj
  obtain ⟨m0, m1, _⟩ := mvd_nth hm (nth xs j).toNat
  obtain ⟨y, hy⟩ := Int.eq_ofNat_of_zero_le m0
  rw [rm_nth hv hm] at r1 ⊢
  rw [hy] at r1 ⊢
  refine an_zero (by omega) (by omega) (fun t ht => ?_)
  obtain ⟨ys, hys, e⟩ := (rmF_bit hj t).1 ht
  obtain ⟨u, hu, _, _, hb⟩ := ways_bit hj hys
  rw [hu, Int.toNat_natCast] at e
  rw [pks_nth hj, hy, Int.toNat_natCast] at hb
  rw [← e]; exact hb
end Go.Proofs.Ytoejpodchlepiaa
set_option maxRecDepth 8000
namespace Go.Proofs.Ytoejpodchlepiaa
open Go.ChangeShapes Go.WideShapes Go.ChangeAt Go.RowKit
theorem b64_mvdR {m : List Int} {s : Int} (h : mvd m s = true) : B64 m := fun k => by have := mvd_nth h k; omega
set_option maxHeartbeats 8000000 in
theorem ruleMasks_walk (A : Option Addr) (c n : Nat) (bs : List Int) (w : World) (h : Code_ w A n c bs) :
    Calls Try.prog 15 #[.slice A n c] w fun e w' => e = .returned (.bool true) ∧ Below w.heap.size w w' := by
  by_cases hn : n ≤ 1048576
  · go_enter Try.func15, Try.ntmps15
    go_wp2_with fail
    refine (draw_DrawRuleMasks _ _ _ _ _ h).mono ?_
    rintro e w1 ⟨k, A1, n1, c1, v, xs, Am, nm, cm, ms, s, rfl, s1, s5, hrx, hn5, hcap, hrm, hm16, h64, hb1⟩
    have hsb : -9223372036854775808 ≤ s ∧ s ≤ 9223372036854775807 := by omega
    have hx1 := rbox_new w1 k A1 n1 c1 v 25
    have hbA : Below w1.heap.size w1 (w1.alloc (.cells #[.int .i64 k, .slice A1 n1 c1, .int .i64 v] 25)) := (Below.refl _ _).alloc (Nat.le_refl _) _
    have hsA : w1.heap.size < (w1.alloc (.cells #[.int .i64 k, .slice A1 n1 c1, .int .i64 v] 25)).heap.size := by simp
    have h01 := step hb1 hbA
    have hm1 : n1 ≤ 1099511627776 := by omega
    have hln : (rmL k xs v ms s).length ≤ 5 := by
      by_cases hh : (rv k xs v s && mvd ms s) = true
      · rw [Bool.and_eq_true] at hh
        rw [rm_len hh.1 hh.2, hrx.1]; exact hn5
      · simp [rmL, hh]
    obtain ⟨nl, hnl⟩ : ∃ nl, (rmL k xs v ms s).length = nl := ⟨_, rfl⟩
    rw [hnl] at hln
    have Hnl := Lib.hid hnl
    obtain ⟨a0, a1, a2⟩ := id hx1
    go_wp2_with fail
    refine (implRuleMasks _ _ _ _ xs k v s _ _ _ _ ms _ (hrx.below hbA) hbA.size hm1 hcap (hrm.below hbA) h64.out hbA.size (by omega) hsb).mono ?_
    rintro e w2 ⟨A2, c2, rfl, ho2, hb2⟩
    rw [Hnl.out] at ho2 ⊢
    have h02 := step h01 hb2
    have h12 := step hbA hb2
    have hx2 := hx1.below hsA hb2
    have hs2 := Nat.lt_of_lt_of_le hsA hb2.size
    obtain ⟨b0, b1, b2⟩ := id hx2
    go_wp2_with fail
    refine (specRuleMasks _ _ _ _ xs k v s _ _ _ _ ms _ (hrx.below h12) h12.size hm1 (hrm.below h12) h12.size (by omega) hsb).mono ?_
    rintro e w3 ⟨A3, c3, rfl, ho3, hb3⟩
    rw [Hnl.out] at ho3 ⊢
    have h03 := step h02 hb3
    have h13 := step h12 hb3
    have hr2 := ho2.rd.below hb3
    go_wp2_with fail
    refine (sameInts_any _ _ _ _ _ _ _ _ _ _ _ hr2 ho3.rd (by omega)).mono ?_
    rintro e w4 ⟨rfl, hb4⟩
    rw [show same (rmL k xs v ms s) (rmL k xs v ms s) = true by simp [same]]
    have h04 := step h03 hb4
    have h14 := step h13 hb4
    have hx4 := hx2.below hs2 (hb3.trans (hb4.mono hb3.size))
    have hs4 := Nat.lt_of_lt_of_le hs2 (Nat.le_trans hb3.size hb4.size)
    have hy4 := hr2.below (hb4.mono hb3.size)
    have hyB4 := Nat.le_trans hb3.size hb4.size
    have hB4 := h14.size
    obtain ⟨d0, d1, d2⟩ := id hx4
    have HR := Lib.hid (specRuleValid A1 c1 n1 _ xs k v s w4 (hrx.below h14) hB4 hm1)
    cases hv : rv k xs v s
    · have hz : nl = 0 := by rw [← Hnl.out]; simp [rmL, hv]
      subst hz
      go_wp2_with (first
        | (go_at_call 22; refine HR.out.mono ?_; rintro e w5 ⟨rfl, hb5⟩; rw [hv]; have h05 := step h04 hb5)
        | (go_at_call 24; (with_reducible refine (alive_any _).mono ?_); rintro e w6 ⟨rfl, hb6⟩))
      go_ret
      exact ⟨rfl, step h05 hb6⟩
    · have HV := Lib.hid (fun w' (hb : Below w4.heap.size w4 w') => specMasksValid Am cm nm _ ms s w' (hrm.below (step h14 hb)) (Nat.le_trans hB4 hb.size) (by omega) hsb)
      cases hmv : mvd ms s
      · have hz : nl = 0 := by rw [← Hnl.out]; simp [rmL, hmv]
        subst hz
        go_wp2_with (first
          | (go_at_call 22; refine HR.out.mono ?_; rintro e w5 ⟨rfl, hb5⟩; rw [hv]; have h05 := step h04 hb5)
          | (go_at_call 63; refine (HV.out _ hb5).mono ?_; rintro e w6 ⟨rfl, hb6⟩; rw [hmv]; have h06 := step h05 hb6)
          | (go_at_call 24; (with_reducible refine (alive_any _).mono ?_); rintro e w7 ⟨rfl, hb7⟩))
        go_ret
        exact ⟨rfl, step h06 hb7⟩
      · have e1 := hrx.1
        have e2 := hrm.1
        obtain ⟨⟨s2, s4⟩, hml, _, _⟩ := mvd_at hmv
        obtain ⟨_, ⟨hn1, _⟩, _, hcx⟩ := rv_facts e1 hv
        have hq := (sq_bd s2 s4).1
        have hnm4 : 4 ≤ nm := by omega
        have hne : nl = n1 := by rw [← Hnl.out, rm_len hv hmv, e1]
        subst hne
        have Hcx := Lib.hid (fun (i : Nat) (hi : i < nl) => show ∃ q : Nat, nth xs i = (q : Int) ∧ q < nm by
          have := hcx i hi
          exact ⟨(nth xs i).toNat, by omega, by omega⟩)
        have Hpart := Lib.hid (fun (j : Nat) (hj : j < nl) => rm_part hv hmv (by rw [e1]; exact hj))
        have Hidem := Lib.hid (rm_idem hv hmv)
        have Hm' := Lib.hid ((nrIn_sub hv hmv xs.length (Nat.le_refl _)).mvd_ hmv)
        rw [e1] at Hidem Hm'
        obtain ⟨zb, hzb⟩ : ∃ zb : Bool, ∀ j, j < nl → (nth (rmL k xs v ms s) j == 0) = zb := by
          rcases rm_empty hv hmv with hh | hh
          · exact ⟨true, fun j hj => by rw [hh j (by omega)]; rfl⟩
          · exact ⟨false, fun j hj => by simpa using hh j (by omega)⟩
        have Hzb := Lib.hid hzb
        clear hzb hcx hml e1 e2 hq
        go_wp2_with (first
          | (go_at_call 22; refine HR.out.mono ?_; rintro e w5 ⟨rfl, hb5⟩; rw [hv]; have h05 := step h04 hb5)
          | (go_at_call 63; refine (HV.out _ hb5).mono ?_; rintro e w6 ⟨rfl, hb6⟩; rw [hmv]; have h06 := step h05 hb6; have h46 := step hb5 hb6; have hmade : Ow (w6.alloc (.cells #[] 3)) w6.heap.size (some ⟨w6.heap.size, 0, none⟩) 0 0 [] := Ow.made0 _ _ (Nat.le_refl _); have hbm : Below w6.heap.size w6 (w6.alloc (.cells #[] 3)) := (Below.refl _ _).alloc (Nat.le_refl _) _; have h16 := step h14 h46; have hB6 := h16.size; have hrm6 := hrm.below h16; have hrm6' := hrm6.below (hbm.mono hB6))
          | (at_builtin; refine push_new rfl (.tmp 46) (.tmp 47) rfl w6.heap.size (some ⟨w6.heap.size, 0, none⟩) Am nm cm w1.heap.size ms rfl rfl hmade hrm6' (by omega) (by simp) ?_; intro A7 c7 w7 ho7 hg7; have hb7 : Below w6.heap.size w6 w7 := hbm.grown hg7 (by simp) (fun k hk => hmade.own_lo k hk)))
        obtain ⟨g7, rfl, hg7l, hg7u⟩ := ho7.form (by omega)
        have hs6 : w1.heap.size < w6.heap.size := Nat.lt_of_lt_of_le hs4 h46.size
        have hx6 := hx4.below hs4 h46
        have hy6 := hy4.below (h46.mono hyB4)
        have hyB6 := Nat.le_trans hyB4 h46.size
        have hr6 := hrx.below h16
        clear hmade hbm hrm6' hg7 hx1 hx2 hx4 hr2 hy4 a0 a1 a2 b0 b1 b2 d0 d1 d2
        go_loopw [8, 9] (fun ev kv wr => ∃ j : Nat, j ≤ nl ∧ kv = .int .i64 j ∧ ev = .int .i64 (bif zb then (j : Int) else 0) ∧ Ow wr w6.heap.size (some ⟨g7, 0, none⟩) nm c7 (nrIn xs (rmL k xs v ms s) ms j) ∧ Below w6.heap.size w6 wr) (fun _ kv _ => nl - (intOf kv).toNat)
        case atStart => exact ⟨0, Nat.zero_le _, rfl, by cases zb <;> rfl, ho7, hb7⟩
        case round =>
          obtain ⟨j, hj, rfl, hev, ho, hb⟩ := hrel
          by_cases hlt : j < nl
          · obtain ⟨q, hq, hqn⟩ := Hcx.out j hlt
            have hpt := Hpart.out j hlt
            rw [hq, Int.toNat_natCast] at hpt
            have hzj := Hzb.out j hlt
            obtain ⟨bx, ox, rfl, hbx, hcx0⟩ := hy6.at_ hlt
            obtain ⟨bc, oc, rfl, hbc, hcc0⟩ := hr6.at_ hlt
            obtain ⟨bm, om, rfl, hbm', hcm0⟩ := hrm6.at_ hqn
            rw [hq] at hcc0
            have hc1 := (hb.cell (p := ⟨bx, ox + j, none⟩) (show bx < w6.heap.size by omega)).trans hcx0
            have hc2 := (hb.cell (p := ⟨bc, oc + j, none⟩) (show bc < w6.heap.size by omega)).trans hcc0
            have hc3 := (hb.cell (p := ⟨bm, om + q, none⟩) (show bm < w6.heap.size by omega)).trans hcm0
            have hf1 := (hb.cell (p := ⟨w1.heap.size, 1, none⟩) hs6).trans hx6.2.1
            obtain ⟨x, hx⟩ : ∃ x, nth (rmL k xs v ms s) j = x := ⟨_, rfl⟩
            have HS := Lib.hid (show nrIn xs (rmL k xs v ms s) ms (j + 1) = (nrIn xs (rmL k xs v ms s) ms j).set q x by simp only [nrIn]; rw [hq, Int.toNat_natCast, hx])
            rw [hx] at hpt hzj hc1
            have hltI : (j : Int) < (nl : Int) := by omega
            have hqI : (q : Int) < (nm : Int) := by omega
            have hne0 : (bits .andNot .i64 x (nth ms q) != 0) = false := by rw [hpt]; rfl
            clear hq hx hpt hcx0 hcc0 hcm0
            cases zb
            · obtain rfl := hev
              simp only [cond_false]
              go_wp2
              go_region
              go_wp2
              obtain ⟨W, hW⟩ : ∃ W, W = wr.drew := ⟨_, rfl⟩
              rw [← hW]
              have hoW : Ow W w6.heap.size (some ⟨g7, 0, none⟩) nm c7 (nrIn xs (rmL k xs v ms s) ms j) := by rw [hW]; exact ho.below (below_drewN (Below.refl _ _) 1)
              have hbW : Below w6.heap.size w6 W := by rw [hW]; exact below_drewN hb 1
              have hc1W : W.cell? ⟨bx, ox + j, none⟩ = some (.int .i64 x) := by rw [hW]; exact hc1
              have hc2W : W.cell? ⟨bc, oc + j, none⟩ = some (.int .i64 (q : Int)) := by rw [hW]; exact hc2
              have hf1W : W.cell? ⟨w1.heap.size, 1, none⟩ = some (.slice (some ⟨bc, oc, none⟩) nl c1) := by rw [hW]; exact hf1
              clear hW hc1 hc2 hc3 hf1
              obtain ⟨hcell, hfr⟩ := hoW.cell hqn
              have hput := Lib.hid (hoW.putN q x)
              have hbs := Lib.hid (below_drewN (Below.setCell (p := (⟨g7, q, none⟩ : Addr)) hbW hg7l (.int .i64 x)) 1)
              go_region
              go_wp2
              go_roundw
              case rel => exact ⟨j + 1, by omega, by go_num, rfl, by rw [HS.out]; exact hput.out, hbs.out⟩
              case measure => simp [intOf]; omega
            · obtain rfl := hev
              simp only [cond_true]
              go_wp2
              go_region
              go_wp2
              obtain ⟨W, hW⟩ : ∃ W, W = wr.drew := ⟨_, rfl⟩
              rw [← hW]
              have hoW : Ow W w6.heap.size (some ⟨g7, 0, none⟩) nm c7 (nrIn xs (rmL k xs v ms s) ms j) := by rw [hW]; exact ho.below (below_drewN (Below.refl _ _) 1)
              have hbW : Below w6.heap.size w6 W := by rw [hW]; exact below_drewN hb 1
              have hc1W : W.cell? ⟨bx, ox + j, none⟩ = some (.int .i64 x) := by rw [hW]; exact hc1
              have hc2W : W.cell? ⟨bc, oc + j, none⟩ = some (.int .i64 (q : Int)) := by rw [hW]; exact hc2
              have hf1W : W.cell? ⟨w1.heap.size, 1, none⟩ = some (.slice (some ⟨bc, oc, none⟩) nl c1) := by rw [hW]; exact hf1
              clear hW hc1 hc2 hc3 hf1
              obtain ⟨hcell, hfr⟩ := hoW.cell hqn
              have hput := Lib.hid (hoW.putN q x)
              have hbs := Lib.hid (below_drewN (Below.setCell (p := (⟨g7, q, none⟩ : Addr)) hbW hg7l (.int .i64 x)) 1)
              go_region
              go_wp2
              go_roundw
              case rel => exact ⟨j + 1, by omega, by go_num, by go_num, by rw [HS.out]; exact hput.out, hbs.out⟩
              case measure => simp [intOf]; omega
          · obtain rfl : j = nl := by omega
            have hxr := hx6.below hs6 hb
            obtain ⟨d0, d1, d2⟩ := id hxr
            have hyr := hy6.below (hb.mono hyB6)
            have hyBr := Nat.le_trans hyB6 hb.size
            have h0r := step h06 hb
            have HI := Lib.hid (implRuleMasks A1 c1 j _ xs k v s (some ⟨g7, 0, none⟩) c7 nm _ (nrIn xs (rmL k xs v ms s) ms j) wr (hr6.below (hb.mono hB6)) (Nat.le_trans hB6 hb.size) hm1 hcap ho.rd (b64_mvdR Hm'.out) (Nat.le_refl _) (by omega) hsb)
            have hnn : ((j : Int) == (j : Int)) = true := by simp
            have hn0 : ((j : Int) == 0) = false := by simp only [beq_eq_false_iff_ne]; omega
            cases zb
            · obtain rfl := hev
              simp only [cond_false]
              go_wp2_with (first
                | (go_at_call 60; refine HI.out.mono ?_; rintro e w8 ⟨A8, c8, rfl, ho8, hb8⟩; rw [Hidem.out] at ho8 ⊢; rw [Hnl.out] at ho8 ⊢; have h08 := step h0r hb8; have hy8 := hyr.below (hb8.mono hyBr); have ho8r := ho8.rd)
                | (go_at_call 61; refine (sameInts_any _ _ _ _ _ _ _ _ _ _ _ ho8r hy8 (by omega)).mono ?_; rintro e w9 ⟨rfl, hb9⟩; rw [show same (rmL k xs v ms s) (rmL k xs v ms s) = true by simp [same]]))
              go_ret
              exact ⟨rfl, step h08 hb9⟩
            · obtain rfl := hev
              simp only [cond_true]
              go_wp2_with (first
                | (go_at_call 60; refine HI.out.mono ?_; rintro e w8 ⟨A8, c8, rfl, ho8, hb8⟩; rw [Hidem.out] at ho8 ⊢; rw [Hnl.out] at ho8 ⊢; have h08 := step h0r hb8; have hy8 := hyr.below (hb8.mono hyBr); have ho8r := ho8.rd)
                | (go_at_call 61; refine (sameInts_any _ _ _ _ _ _ _ _ _ _ _ ho8r hy8 (by omega)).mono ?_; rintro e w9 ⟨rfl, hb9⟩; rw [show same (rmL k xs v ms s) (rmL k xs v ms s) = true by simp [same]]))
              go_ret
              exact ⟨rfl, step h08 hb9⟩
  · go_enter Try.func15, Try.ntmps15
    go_wp2
    go_ret
    exact ⟨rfl, Below.refl _ _⟩
end Go.Proofs.Ytoejpodchlepiaa
