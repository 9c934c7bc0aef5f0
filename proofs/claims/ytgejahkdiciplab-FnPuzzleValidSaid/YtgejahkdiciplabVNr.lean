import Derived.Test.YtgejahkdiciplabVNp
import Derived.Test.YtgejahkdiciplabVRp
set_option maxRecDepth 8000
namespace Go.Proofs.Ytgejahkdiciplab
open Go.ChangeShapes Go.WideShapes Go.ChangeAt Go.RowKit
/-! masks within others: every technique keeps within. -/
def Sub (a b : List Int) : Prop := a.length = b.length ∧ ∀ k, k < b.length → 0 ≤ nth a k ∧ nth a k ≤ nth b k ∧ (nth a k).tmod 2 = 0
theorem mvd_nth {m : List Int} {s : Int} (h : mvd m s = true) (i : Nat) : 0 ≤ nth m i ∧ nth m i ≤ 30 ∧ (nth m i).tmod 2 = 0 := by
  by_cases hi : i < m.length
  · exact (mvd_at h).2.2.2 i hi
  · have : nth m i = 0 := by simp [nth, List.getD_eq_getElem?_getD, List.getElem?_eq_none (by omega : m.length ≤ i)]
    rw [this]; decide
theorem Sub.of_mvd {m : List Int} {s : Int} (h : mvd m s = true) : Sub m m := ⟨rfl, fun k _ => ⟨(mvd_nth h k).1, Int.le_refl _, (mvd_nth h k).2.2⟩⟩
theorem Sub.trans {a b c : List Int} (h : Sub a b) (h' : Sub b c) : Sub a c :=
  ⟨h.1.trans h'.1, fun k hk => by
    obtain ⟨x1, x2, x3⟩ := h.2 k (by rw [h'.1]; exact hk)
    obtain ⟨_, y2, _⟩ := h'.2 k hk
    exact ⟨x1, by omega, x3⟩⟩
theorem Sub.put {o b : List Int} (h : Sub o b) {k : Nat} {v : Int} (hv : k < b.length → 0 ≤ v ∧ v ≤ nth b k ∧ v.tmod 2 = 0) : Sub (o.set k v) b := by
  refine ⟨by rw [List.length_set]; exact h.1, fun j hj => ?_⟩
  by_cases e : k = j
  · subst e
    rw [nth_set (by rw [h.1]; exact hj), if_pos rfl]
    exact hv hj
  · have : nth (o.set k v) j = nth o j := by simp only [nth, List.getD_eq_getElem?_getD, List.getElem?_set]; rw [if_neg e]
    rw [this]; exact h.2 j hj
theorem Sub.mvd_ {a b : List Int} {s : Int} (h : Sub a b) (hb : mvd b s = true) : mvd a s = true := by
  simp only [mvd, Bool.and_eq_true, beq_iff_eq] at hb ⊢
  refine ⟨⟨hb.1.1, by rw [h.1]; exact hb.1.2⟩, allTo_all (n := a.length) (fun k hk => ?_) rfl⟩
  have hkb : k < b.length := by rw [← h.1]; exact hk
  obtain ⟨x1, x2, x3⟩ := h.2 k hkb
  have := List.all_eq_true.1 hb.2 b[k] (List.getElem_mem hkb)
  simp only [mkOk, Bool.and_eq_true, beq_iff_eq] at this ⊢
  obtain ⟨y1, y2⟩ := inr_t this.1
  have e : nth b k = b[k] := by simp [nth, List.getD_eq_getElem?_getD, hkb]
  exact ⟨by simp only [inr, decide_eq_true_eq]; omega, x3⟩
theorem an_key : ∀ x, x < 32 → ∀ y, y < 32 → (0 ≤ bits .andNot .i64 (x : Nat) (y : Nat) ∧ bits .andNot .i64 (x : Nat) (y : Nat) ≤ (x : Nat) ∧ (x % 2 = 0 → (bits .andNot .i64 (x : Nat) (y : Nat)).tmod 2 = 0)) := by decide +kernel
theorem an_sub {x y : Int} (hx : 0 ≤ x ∧ x ≤ 30 ∧ x.tmod 2 = 0) (hy : 0 ≤ y ∧ y ≤ 30) : 0 ≤ bits .andNot .i64 x y ∧ bits .andNot .i64 x y ≤ x ∧ (bits .andNot .i64 x y).tmod 2 = 0 := by
  obtain ⟨a, rfl⟩ := Int.eq_ofNat_of_zero_le hx.1
  obtain ⟨b, rfl⟩ := Int.eq_ofNat_of_zero_le hy.1
  obtain ⟨q1, q2, q3⟩ := an_key a (by omega) b (by omega)
  exact ⟨q1, q2, q3 (by have := hx.2.2; rw [Int.tmod_eq_emod_of_nonneg (by omega)] at this; omega)⟩
theorem ad_key : ∀ x, x < 32 → ∀ v, v < 5 → (0 ≤ bits .and .i64 (x : Nat) (2 ^ v) ∧ bits .and .i64 (x : Nat) (2 ^ v) ≤ (x : Nat) ∧ (x % 2 = 0 → (bits .and .i64 (x : Nat) (2 ^ v)).tmod 2 = 0)) := by decide +kernel
theorem ad_sub {x : Int} {v : Nat} (hx : 0 ≤ x ∧ x ≤ 30 ∧ x.tmod 2 = 0) (hv : v ≤ 4) : 0 ≤ bits .and .i64 x (2 ^ v) ∧ bits .and .i64 x (2 ^ v) ≤ x ∧ (bits .and .i64 x (2 ^ v)).tmod 2 = 0 := by
  obtain ⟨a, rfl⟩ := Int.eq_ofNat_of_zero_le hx.1
  obtain ⟨q1, q2, q3⟩ := ad_key a (by omega) v (by omega)
  exact ⟨q1, q2, q3 (by have := hx.2.2; rw [Int.tmod_eq_emod_of_nonneg (by omega)] at this; omega)⟩
/-- of a part of valid masks, an element. -/
theorem Sub.at_ {o m : List Int} {s : Int} (h : Sub o m) (hm : mvd m s = true) {k : Nat} (hk : k < m.length) : (0 ≤ nth o k ∧ nth o k ≤ 30 ∧ (nth o k).tmod 2 = 0) ∧ nth o k ≤ nth m k := by
  obtain ⟨x1, x2, x3⟩ := h.2 k hk
  have := mvd_nth hm k
  exact ⟨⟨x1, by omega, x3⟩, x2⟩
theorem Sub.anput {o m : List Int} {s y : Int} (h : Sub o m) (hm : mvd m s = true) (hy : 0 ≤ y ∧ y ≤ 30) (k : Nat) : Sub (o.set k (bits .andNot .i64 (nth o k) y)) m :=
  h.put fun hk => by
    obtain ⟨h1, h2⟩ := h.at_ hm hk
    obtain ⟨q1, q2, q3⟩ := an_sub h1 hy
    exact ⟨q1, by omega, q3⟩
theorem nsIn_sub {m o : List Int} {s : Int} {S i : Nat} (hm : mvd m s = true) (h : Sub o m) (k : Nat) : Sub (nsIn m S i o k) m := by
  induction k with
  | zero => exact h
  | succ k ih =>
    simp only [nsIn]
    split
    · exact ih.anput hm ⟨(mvd_nth hm i).1, (mvd_nth hm i).2.1⟩ k
    · exact ih
theorem nsTo_sub {m : List Int} {s : Int} {S n : Nat} (hm : mvd m s = true) (i : Nat) : Sub (nsTo m S n i) m := by
  induction i with
  | zero => exact Sub.of_mvd hm
  | succ i ih =>
    simp only [nsTo]
    split
    · exact nsIn_sub hm ih n
    · exact ih
theorem ns_sub {m : List Int} {s : Int} (hm : mvd m s = true) (n : Nat) : Sub (nsL m s n) m := by
  unfold nsL; rw [if_pos hm]; exact nsTo_sub hm n
theorem hVs_sub {m o : List Int} {s S : Int} {N : Nat} {u : Int} (hm : mvd m s = true) (h : Sub o m) (r : Nat) (hr : r ≤ 4) : Sub (hVs m S N u o r) m := by
  induction r with
  | zero => exact h
  | succ r ih =>
    have ih := ih (by omega)
    simp only [hVs]
    split
    · exact ih.put fun hk => by
        obtain ⟨h1, h2⟩ := ih.at_ hm hk
        obtain ⟨q1, q2, q3⟩ := ad_sub (v := r + 1) h1 (by omega)
        exact ⟨q1, by omega, q3⟩
    · exact ih
theorem hU_sub {m : List Int} {s S : Int} {N : Nat} (hm : mvd m s = true) (hN : N ≤ 4) (u : Nat) : Sub (hU m S N u) m := by
  induction u with
  | zero => exact Sub.of_mvd hm
  | succ u ih => simp only [hU]; exact hVs_sub hm ih N hN
theorem nh_sub {m : List Int} {s : Int} (hm : mvd m s = true) : Sub (nhL m s) m := by
  unfold nhL; rw [if_pos hm]; exact hU_sub hm (by have := (mvd_at hm).1; omega) _
theorem pIn_sub {m o : List Int} {s S u : Int} {a b : Nat} (hm : mvd m s = true) (h : Sub o m) (k : Nat) : Sub (pIn m S u a b o k) m := by
  induction k with
  | zero => exact h
  | succ k ih =>
    simp only [pIn]
    split
    · exact ih.anput hm ⟨(mvd_nth hm _).1, (mvd_nth hm _).2.1⟩ _
    · exact ih
theorem pB_sub {m o : List Int} {s S u : Int} {N a : Nat} (hm : mvd m s = true) (h : Sub o m) (b : Nat) : Sub (pB m S N u a o b) m := by
  induction b with
  | zero => exact h
  | succ b ih =>
    simp only [pB]
    split
    · exact pIn_sub hm ih N
    · exact ih
theorem pA_sub {m o : List Int} {s S u : Int} {N : Nat} (hm : mvd m s = true) (h : Sub o m) (a : Nat) : Sub (pA m S N u o a) m := by
  induction a with
  | zero => exact h
  | succ a ih => simp only [pA]; exact pB_sub hm ih a
theorem pU_sub {m : List Int} {s S : Int} {N : Nat} (hm : mvd m s = true) (u : Nat) : Sub (pU m S N u) m := by
  induction u with
  | zero => exact Sub.of_mvd hm
  | succ u ih => simp only [pU]; exact pA_sub hm ih N
theorem np_sub {m : List Int} {s : Int} (hm : mvd m s = true) : Sub (npL m s) m := by
  unfold npL; rw [if_pos hm]; exact pU_sub hm _
theorem allW_bits {ms : List Int} : ∀ {d : Nat} {vs ys : List Int}, ys ∈ allW ms d vs → (∀ i, i < vs.length → nth ys i = nth vs i) ∧ ∀ i, vs.length ≤ i → i < vs.length + d → nth ys i ∈ bitsTo (nth ms i).toNat 4 := by
  intro d
  induction d with
  | zero => intro vs ys h; simp [allW] at h; subst h; exact ⟨fun _ _ => rfl, fun i h1 h2 => absurd h2 (by omega)⟩
  | succ d ih =>
    intro vs ys h
    simp only [allW, List.mem_flatMap] at h
    obtain ⟨x, hx, h⟩ := h
    obtain ⟨h1, h2⟩ := ih h
    rw [List.length_append, List.length_singleton] at h1 h2
    refine ⟨fun i hi => ?_, fun i hi hi2 => ?_⟩
    · rw [h1 i (by omega), nth_push rfl, if_pos hi]
    · by_cases e : i = vs.length
      · subst e
        rw [h1 _ (by omega), nth_push rfl, if_neg (by omega), if_pos rfl]
        exact hx
      · exact h2 i (by omega) (by omega)
theorem foldAll_bit {j t : Nat} : ∀ (L : List (List Int)) (G : List Nat), j < G.length → ((L.foldl orAll G).getD j 0).testBit t = true → (G.getD j 0).testBit t = true ∨ ∃ ys ∈ L, (nth ys j).toNat = t := by
  intro L
  induction L with
  | nil => intro G _ h; exact .inl h
  | cons ys L ih =>
    intro G hj h
    rcases ih (orAll G ys) (by rw [orAll_length]; exact hj) h with h | ⟨zs, hz, e⟩
    · unfold orAll at h
      rw [orTo_get hj, if_pos hj, Nat.testBit_or, Bool.or_eq_true] at h
      rcases h with h | h
      · exact .inl h
      · rw [Nat.testBit_two_pow, decide_eq_true_eq] at h
        exact .inr ⟨ys, List.mem_cons_self .., h⟩
    · exact .inr ⟨zs, List.mem_cons_of_mem _ hz, e⟩
theorem le_of_bits {a b : Nat} (h : ∀ t, a.testBit t = true → b.testBit t = true) : a ≤ b := by
  have e : a &&& b = a := by
    apply Nat.eq_of_testBit_eq
    intro t
    rw [Nat.testBit_and]
    cases ha : a.testBit t
    · rfl
    · rw [h t ha]; rfl
  rw [← e]
  exact Nat.and_le_right
theorem rm_sub {k v s : Int} {xs o : List Int} (hv : rv k xs v s = true) (hm : mvd o s = true) {j : Nat} (hj : j < xs.length) : 0 ≤ nth (rmL k xs v o s) j ∧ nth (rmL k xs v o s) j ≤ nth o (nth xs j).toNat ∧ (nth (rmL k xs v o s) j).tmod 2 = 0 := by
  rw [rm_ways rfl hv hm, nats_nth]
  have hbit : ∀ t, (((waysN k v (pks o xs xs.length) xs.length).foldl orAll (zerosN xs.length)).getD j 0).testBit t = true → 1 ≤ t ∧ (nth o (nth xs j).toNat).toNat.testBit t = true := fun t ht => by
    rcases foldAll_bit _ _ (by simpa [zerosN] using hj) ht with h | ⟨ys, hys, e⟩
    · simp [zerosN, List.getD_eq_getElem?_getD, hj] at h
    · have hy := (allW_bits (List.mem_filter.1 hys).1).2 j (Nat.zero_le _) (by simpa using hj)
      rw [pks_nth hj] at hy
      obtain ⟨u, hu, u1, _, u3⟩ := bits_iff.1 hy
      rw [hu] at e
      have e2 : u = t := by simpa using e
      subst e2
      exact ⟨u1, u3⟩
  obtain ⟨a, ha⟩ : ∃ a, ((waysN k v (pks o xs xs.length) xs.length).foldl orAll (zerosN xs.length)).getD j 0 = a := ⟨_, rfl⟩
  rw [ha] at hbit ⊢
  have hle := le_of_bits (fun t ht => (hbit t ht).2)
  have h0 := (mvd_nth hm (nth xs j).toNat).1
  refine ⟨by omega, by omega, ?_⟩
  rw [Int.tmod_eq_emod_of_nonneg (by omega)]
  have : a.testBit 0 = false := by
    cases hb : a.testBit 0
    · rfl
    · have := (hbit 0 hb).1; omega
  rw [Nat.testBit_zero] at this
  have : a % 2 ≠ 1 := by simpa using this
  omega
theorem rm_len {k v s : Int} {xs o : List Int} (hv : rv k xs v s = true) (hm : mvd o s = true) : (rmL k xs v o s).length = xs.length := by
  unfold rmL
  rw [hv, hm, Bool.true_and, if_pos rfl, nats_length]
  exact (rmN_inv k xs v o).1
/-- the fourth technique. -/
def nrIn (xs f o : List Int) : Nat → List Int
  | 0 => o
  | j + 1 => (nrIn xs f o j).set (nth xs j).toNat (nth f j)
def nrTo (s : Int) (rs : List RuleM) (m : List Int) : Nat → List Int
  | 0 => m
  | u + 1 => nrIn (rat rs u).xs (rmL (rat rs u).k (rat rs u).xs (rat rs u).v (nrTo s rs m u) s) (nrTo s rs m u) (rat rs u).xs.length
def nrL (s : Int) (gi : List Int) (rs : List RuleM) (m : List Int) : List Int := if (pvB s gi rs && mvd m s) = true then nrTo s rs m rs.length else []
theorem nrIn_sub {k v s : Int} {xs o : List Int} (hv : rv k xs v s = true) (hm : mvd o s = true) (j : Nat) (hj : j ≤ xs.length) : Sub (nrIn xs (rmL k xs v o s) o j) o := by
  induction j with
  | zero => exact Sub.of_mvd hm
  | succ j ih => exact (ih (by omega)).put fun _ => rm_sub hv hm (by omega)
theorem nrTo_sub {s : Int} {rs : List RuleM} {m : List Int} (hm : mvd m s = true) (hr : ∀ i, i < rs.length → rvR s (rat rs i) = true) (u : Nat) (hu : u ≤ rs.length) : Sub (nrTo s rs m u) m := by
  induction u with
  | zero => exact Sub.of_mvd hm
  | succ u ih =>
    have ih := ih (by omega)
    exact (nrIn_sub (hr u (by omega)) (ih.mvd_ hm) _ (Nat.le_refl _)).trans ih
theorem nr_sub {s : Int} {gi : List Int} {rs : List RuleM} {m : List Int} (hv : pvB s gi rs = true) (hm : mvd m s = true) : Sub (nrL s gi rs m) m := by
  unfold nrL
  rw [hv, hm, Bool.true_and, if_pos rfl]
  exact nrTo_sub hm (pv_gv hv).2.2 _ (Nat.le_refl _)
end Go.Proofs.Ytgejahkdiciplab
set_option maxRecDepth 8000
namespace Go.Proofs.Ytgejahkdiciplab
open Go.ChangeShapes Go.WideShapes Go.ChangeAt Go.RowKit
set_option maxHeartbeats 8000000 in
theorem specNarrowRules (s : Int) (Ag : Option Addr) (n cg Bg : Nat) (gi : List Int) (Ar : Option Addr) (nr cr Br : Nat) (rs : List RuleM) (A : Option Addr) (c nm B : Nat) (m : List Int) (w : World) (hp : PGs w s Ag n cg Bg gi Ar nr cr Br rs) (h : Rd w B A nm m) (hBm : B ≤ w.heap.size) (hm : nm ≤ 1099511627776) (hsb : -9223372036854775808 ≤ s ∧ s ≤ 9223372036854775807) :
    Calls Try.prog 117 #[.agg #[.int .i64 s, .slice Ag n cg, .slice Ar nr cr], .slice A nm c] w (RetSl w (nrL s gi rs m)) := by
  have hlen := Lib.hid h.1
  have hlenr := Lib.hid hp.r.1
  have hx0 := pbox_new w s Ag n cg Ar nr cr 26
  have hb0 : Below w.heap.size w (w.alloc (.cells #[.int .i64 s, .slice Ag n cg, .slice Ar nr cr] 26)) := (Below.refl _ _).alloc (Nat.le_refl _) _
  have hs0 : w.heap.size < (w.alloc (.cells #[.int .i64 s, .slice Ag n cg, .slice Ar nr cr] 26)).heap.size := by simp
  obtain ⟨z0, z1, z2⟩ := id hx0
  have HP := Lib.hid (fun w' (hb : Below w.heap.size w w') => specPuzzleValid s Ag n cg Bg gi Ar nr cr Br rs w' (hp.below hb).g (hp.below hb).gB hp.gm (hp.below hb).r (hp.below hb).rB hp.rm)
  have HV := Lib.hid (fun w' (hb : Below w.heap.size w w') => specMasksValid A c nm B m s w' (h.below (hb.mono hBm)) (Nat.le_trans hBm hb.size) hm hsb)
  cases hv : pvB s gi rs
  · have HL := Lib.hid (show nrL s gi rs m = [] by simp [nrL, hv])
    go_enter Try.func117, Try.ntmps117
    go_wp2_with (go_at_call 12; refine (HP.out _ hb0).mono ?_; rintro e w1 ⟨rfl, hb1⟩; rw [hv]; have h01 := step hb0 hb1)
    go_ret
    rw [HL.out]
    exact ⟨_, _, rfl, Ow.made0 _ _ h01.size, h01.alloc h01.size _⟩
  · cases hmv : mvd m s
    · have HL := Lib.hid (show nrL s gi rs m = [] by simp [nrL, hmv])
      go_enter Try.func117, Try.ntmps117
      go_wp2_with (first
        | (go_at_call 12; refine (HP.out _ hb0).mono ?_; rintro e w1 ⟨rfl, hb1⟩; rw [hv]; have h01 := step hb0 hb1; obtain ⟨c0, c1, c2⟩ := hx0.below hs0 hb1)
        | (go_at_call 28; refine (HV.out _ h01).mono ?_; rintro e w2 ⟨rfl, hb2⟩; rw [hmv]; have h02 := step h01 hb2))
      go_ret
      rw [HL.out]
      exact ⟨_, _, rfl, Ow.made0 _ _ h02.size, h02.alloc h02.size _⟩
    · obtain ⟨⟨s2, s4⟩, hsq, hnm16, _⟩ := mvd_at hmv
      rw [hlen.out] at hsq hnm16
      have hall := (pv_gv hv).2.2
      have hnm0 : 0 < nm := by
        have : s = 2 ∨ s = 3 ∨ s = 4 := by omega
        rcases this with rfl | rfl | rfl <;> omega
      have HCp := Lib.hid (fun w' (hb : Below w.heap.size w w') => specL6Copy A nm c B m w' (h.below (hb.mono hBm)) (Nat.le_trans hBm hb.size) hm)
      have HL := Lib.hid (show nrL s gi rs m = nrTo s rs m nr by unfold nrL; rw [hv, hmv, Bool.true_and, if_pos rfl, hlenr.out])
      have HS := Lib.hid (fun u (hu : u ≤ nr) => nrTo_sub (rs := rs) hmv hall u (by rw [hlenr.out]; exact hu))
      have HA := Lib.hid (fun u (hu : u < nr) => hall u (by rw [hlenr.out]; exact hu))
      have Hsq := Lib.hid hsq
      clear hall hsq
      go_enter Try.func117, Try.ntmps117
      go_wp2_with (first
        | (go_at_call 12; refine (HP.out _ hb0).mono ?_; rintro e w1 ⟨rfl, hb1⟩; rw [hv]; have h01 := step hb0 hb1; have hx1 := hx0.below hs0 hb1; have hs1 := Nat.lt_of_lt_of_le hs0 hb1.size; obtain ⟨c0, c1, c2⟩ := id hx1)
        | (go_at_call 28; refine (HV.out _ h01).mono ?_; rintro e w2 ⟨rfl, hb2⟩; rw [hmv]; have h02 := step h01 hb2; have hx2 := hx1.below hs1 hb2; have hs2 := Nat.lt_of_lt_of_le hs1 hb2.size)
        | (go_at_call 64; refine (HCp.out _ h02).mono ?_; rintro e w3 ⟨Ac, cc, rfl, ho3, hb3⟩))
      have h03 := step h02 hb3
      have hx3 := hx2.below hs2 hb3
      obtain ⟨g, rfl, hgl, hgw⟩ := ho3.form hnm0
      have hmv' := Lib.hid hmv
      clear hmv hx0 hx1 hx2 z0 z1 z2 c0 c1 c2
      go_loopw [6] (fun i wr => ∃ u : Nat, u ≤ nr ∧ i = .int .i64 u ∧ Ow wr w2.heap.size (some ⟨g, 0, none⟩) nm cc (nrTo s rs m u) ∧ PBox wr w.heap.size s Ag n cg Ar nr cr ∧ Below w.heap.size w wr ∧ w2.heap.size ≤ wr.heap.size) (fun i _ => nr - (intOf i).toNat)
      case atStart => exact ⟨0, Nat.zero_le _, rfl, ho3, hx3, h03, hb3.size⟩
      case round =>
        clear ho3 hx3 h03 hb3
        obtain ⟨u, hu, rfl, ho, hx, hb, hsw⟩ := hrel
        obtain ⟨c0, c1, c2⟩ := id hx
        by_cases hlt : u < nr
        · have hltI : (u : Int) < (nr : Int) := by omega
          have hmu := (HS.out u hu).mvd_ hmv'.out
          have hpb := hp.below hb
          obtain ⟨b, off, rfl, hbB, hcc⟩ := hpb.r.2 (by omega)
          obtain ⟨A', c', r0, r1, r2, r3, r4⟩ := hcc u hlt
          have hv0 := HA.out u hlt
          have HT0 : nrTo s rs m (u + 1) = nrIn (rat rs u).xs (rmL (rat rs u).k (rat rs u).xs (rat rs u).v (nrTo s rs m u) s) (nrTo s rs m u) (rat rs u).xs.length := rfl
          obtain ⟨rk, hrk⟩ : ∃ x, x = (rat rs u).k := ⟨_, rfl⟩
          obtain ⟨rx, hrx⟩ : ∃ x, x = (rat rs u).xs := ⟨_, rfl⟩
          obtain ⟨rvv, hrv⟩ : ∃ x, x = (rat rs u).v := ⟨_, rfl⟩
          have hvv : rv rk rx rvv s = true := by rw [hrk, hrx, hrv]; exact hv0
          obtain ⟨O, hO⟩ : ∃ O, O = nrTo s rs m u := ⟨_, rfl⟩
          rw [← hrk, ← hrx, ← hrv, ← hO] at HT0
          rw [← hO] at hmu ho
          rw [← hrk] at r0
          rw [← hrx] at r1 r3 r4
          rw [← hrv] at r2
          have hlf := rm_len (o := O) hvv hmu
          obtain ⟨_, ⟨hn1, hn4⟩, _, hxin⟩ := rv_facts rfl hvv
          obtain ⟨l, hl⟩ : ∃ l, l = rx.length := ⟨_, rfl⟩
          rw [← hl] at r1 r3 r4 HT0 hlf hn1 hn4 hxin
          have hBr : Br ≤ wr.heap.size := hpb.rB
          have hrlen := Lib.hid (show rx.length = l from hl.symm)
          have Hxin := Lib.hid (show ∀ i, i < l → ∃ q : Nat, nth rx i = (q : Int) ∧ q < nm from fun i hi => by
            obtain ⟨y0, y1⟩ := hxin i hi
            obtain ⟨q, hq⟩ := Int.eq_ofNat_of_zero_le y0
            exact ⟨q, hq, by have := Hsq.out; omega⟩)
          have hy0 := rbox_new wr rk A' l c' rvv 30
          have hb1 : Below wr.heap.size wr (wr.alloc (.cells #[.int .i64 rk, .slice A' l c', .int .i64 rvv] 30)) := (Below.refl _ _).alloc (Nat.le_refl _) _
          have hs1' : (wr.alloc (.cells #[.int .i64 rk, .slice A' l c', .int .i64 rvv] 30)).heap.size = wr.heap.size + 1 := by simp
          obtain ⟨y0, y1, y2⟩ := id hy0
          obtain ⟨x0, x1, x2⟩ := hx.below (show w.heap.size < wr.heap.size by omega) hb1
          obtain ⟨W, hW⟩ : ∃ W, wr.alloc (.cells #[.int .i64 rk, .slice A' l c', .int .i64 rvv] 30) = W := ⟨_, rfl⟩
          rw [hW] at hy0 hb1 hs1'
          have hxW := hx.below (show w.heap.size < wr.heap.size by omega) hb1
          have hoW := ho.below hb1
          have hrW := r3.below (hb1.mono hBr)
          have hbW := hb.trans (hb1.mono hb.size)
          have HRM := Lib.hid (specRuleMasks A' c' l Br rx rk rvv s (some ⟨g, 0, none⟩) cc nm W.heap.size O W hrW (by omega) (by omega) hoW.rd (Nat.le_refl _) (by omega) hsb)
          obtain ⟨f, hf⟩ : ∃ f, f = rmL rk rx rvv O s := ⟨_, rfl⟩
          rw [← hf] at HRM hlf HT0
          have Hlf := Lib.hid hlf
          have HT := Lib.hid HT0
          have HW := Lib.hid hW
          have hgr : g < wr.heap.size := ho.own_hi g rfl
          clear hcc HT0 hlf hrk hrx hrv hvv hv0 hmu hO hf hW hxin hl
          go_wp2_with fail
          rw [HW.out]
          refine HRM.out.mono ?_
          rintro e w4 ⟨A3, c3, rfl, ho4, hb4⟩
          rw [Hlf.out] at ho4 ⊢
          obtain ⟨g3, rfl, hg3, _⟩ := ho4.form (by omega)
          have hy4 := hy0.below (show wr.heap.size < W.heap.size by omega) hb4
          have hx4 := hxW.below (show w.heap.size < W.heap.size by omega) hb4
          have hog := hoW.below hb4
          have hr4 := hrW.below (hb4.mono (show Br ≤ W.heap.size by omega))
          have hs4 := hb4.size
          have hbw4 := hbW.trans (hb4.mono hbW.size)
          have hbg : ∀ b off, A' = some ⟨b, off, none⟩ → b ≠ g := fun b off e e2 => by
            obtain ⟨b', off', e3, hlt', _⟩ := hrW.2 (by omega)
            rw [e] at e3
            injection e3 with e3
            injection e3 with e3 _ _
            have := hp.rB
            omega
          have HF := Lib.hid (fun wx (hg : w4.grownBy wx (some g)) => (⟨(hg.cell_far ⟨wr.heap.size, 1, none⟩ (by show wr.heap.size < _; omega) (fun e2 => by have e3 : wr.heap.size = g := Option.some.inj e2; omega)).trans hy4.2.1, hr4.grown hg hbg (show Br ≤ w4.heap.size by omega), ho4.far hg (fun b hb e2 => by have := ho4.own_lo b hb; injection e2 with e2; omega)⟩ : wx.cell? ⟨wr.heap.size, 1, none⟩ = some (.slice A' l c') ∧ Rd wx Br A' l rx ∧ Ow wx W.heap.size (some ⟨g3, 0, none⟩) l c3 f))
          have HPB := Lib.hid (fun wx (hg : w4.grownBy wx (some g)) => (⟨(hg.cell_far ⟨w.heap.size, 0, none⟩ (by show w.heap.size < _; omega) (fun e2 => by have e3 : w.heap.size = g := Option.some.inj e2; have := h02.size; omega)).trans hx4.1, (hg.cell_far ⟨w.heap.size, 1, none⟩ (by show w.heap.size < _; omega) (fun e2 => by have e3 : w.heap.size = g := Option.some.inj e2; have := h02.size; omega)).trans hx4.2.1, (hg.cell_far ⟨w.heap.size, 2, none⟩ (by show w.heap.size < _; omega) (fun e2 => by have e3 : w.heap.size = g := Option.some.inj e2; have := h02.size; omega)).trans hx4.2.2⟩ : PBox wx w.heap.size s Ag n cg (some ⟨b, off, none⟩) nr cr))
          clear y0 y1 y2 x0 x1 x2 c0 c1 c2 r0 r1 r2 r3 hy0 hxW hoW hrW ho hx hbg
          go_wp2
          go_loopw [9] (fun j wx => ∃ k : Nat, k ≤ l ∧ j = .int .i64 k ∧ Ow wx w2.heap.size (some ⟨g, 0, none⟩) nm cc (nrIn rx f O k) ∧ w4.grownBy wx (some g)) (fun j _ => l - (intOf j).toNat)
          case atStart => exact ⟨0, Nat.zero_le _, rfl, hog, World.grownBy.refl _ _⟩
          case round =>
            obtain ⟨k, hk, rfl, ho, hg⟩ := hrel
            obtain ⟨y1, hrd, hof⟩ := HF.out _ hg
            by_cases hkl : k < l
            · have hklI : (k : Int) < (l : Int) := by omega
              obtain ⟨q, hq, hqn⟩ := Hxin.out k hkl
              obtain ⟨b', off', rfl, hbB', hcx⟩ := hrd.at_ hkl
              rw [hq] at hcx
              obtain ⟨hcf, _⟩ := hof.cell hkl
              obtain ⟨hcell, hfr⟩ := ho.cell hqn
              have HN := Lib.hid (show nrIn rx f O (k + 1) = (nrIn rx f O k).set q (nth f k) by simp only [nrIn, hq, Int.toNat_natCast])
              have hput := Lib.hid (ho.putN q (nth f k))
              have hgp := Lib.hid (grown_drew (hg.trans (grown_set (w := wr) (G := g) (i := q) (v := .int .i64 (nth f k)))))
              clear hq
              go_wp2
              go_region
              go_wp2
              go_roundw
              case rel => exact ⟨k + 1, by omega, by go_num, by rw [HN.out]; exact hput.out, hgp.out⟩
              case measure => simp [intOf]; omega
            · obtain rfl : k = l := by omega
              have hrm := hp.rm
              go_wp2
              go_roundw
              case rel => exact ⟨u + 1, hlt, by go_num, by rw [HT.out]; exact ho, HPB.out _ hg, hbw4.grown hg hbw4.size (fun k hk => by injection hk with hk; omega), by have := hg.size; omega⟩
              case measure => simp [intOf]; omega
        · obtain rfl : u = nr := by omega
          go_wp2
          go_ret
          rw [HL.out]
          exact retSl_mk (ho.mono (by omega)) hb
/-- a technique by its number. -/
def nbL (s : Int) (gi : List Int) (rs : List RuleM) (m : List Int) (t : Int) : List Int :=
  if (pvB s gi rs && mvd m s) = true then (if t = 1 then nsL m s m.length else if t = 2 then nhL m s else if t = 3 then npL m s else if t = 4 then nrL s gi rs m else []) else []
theorem nb_sub {s : Int} {gi : List Int} {rs : List RuleM} {m : List Int} {t : Int} (hv : pvB s gi rs = true) (hm : mvd m s = true) (h1 : 1 ≤ t) (h4 : t ≤ 4) : Sub (nbL s gi rs m t) m := by
  unfold nbL
  rw [hv, hm, Bool.true_and, if_pos rfl]
  have : t = 1 ∨ t = 2 ∨ t = 3 ∨ t = 4 := by omega
  rcases this with rfl | rfl | rfl | rfl
  · exact ns_sub hm _
  · exact nh_sub hm
  · exact np_sub hm
  · exact nr_sub hv hm
set_option maxHeartbeats 4000000 in
theorem specNarrowBy (s : Int) (Ag : Option Addr) (n cg Bg : Nat) (gi : List Int) (Ar : Option Addr) (nr cr Br : Nat) (rs : List RuleM) (A : Option Addr) (c nm B : Nat) (m : List Int) (t : Int) (w : World) (hp : PGs w s Ag n cg Bg gi Ar nr cr Br rs) (h : Rd w B A nm m) (hBm : B ≤ w.heap.size) (hm : nm ≤ 1099511627776) (hsb : -9223372036854775808 ≤ s ∧ s ≤ 9223372036854775807) :
    Calls Try.prog 108 #[.agg #[.int .i64 s, .slice Ag n cg, .slice Ar nr cr], .slice A nm c, .int .i64 t] w (RetSl w (nbL s gi rs m t)) := by
  have hlen := Lib.hid h.1
  have hx0 := pbox_new w s Ag n cg Ar nr cr 26
  have hb0 : Below w.heap.size w (w.alloc (.cells #[.int .i64 s, .slice Ag n cg, .slice Ar nr cr] 26)) := (Below.refl _ _).alloc (Nat.le_refl _) _
  have hs0 : w.heap.size < (w.alloc (.cells #[.int .i64 s, .slice Ag n cg, .slice Ar nr cr] 26)).heap.size := by simp
  obtain ⟨z0, z1, z2⟩ := id hx0
  have HP := Lib.hid (fun w' (hb : Below w.heap.size w w') => specPuzzleValid s Ag n cg Bg gi Ar nr cr Br rs w' (hp.below hb).g (hp.below hb).gB hp.gm (hp.below hb).r (hp.below hb).rB hp.rm)
  have HV := Lib.hid (fun w' (hb : Below w.heap.size w w') => specMasksValid A c nm B m s w' (h.below (hb.mono hBm)) (Nat.le_trans hBm hb.size) hm hsb)
  cases hv : pvB s gi rs
  · have HL := Lib.hid (show nbL s gi rs m t = [] by simp [nbL, hv])
    go_enter Try.func108, Try.ntmps108
    go_wp2_with (go_at_call 12; refine (HP.out _ hb0).mono ?_; rintro e w1 ⟨rfl, hb1⟩; rw [hv]; have h01 := step hb0 hb1)
    go_ret
    rw [HL.out]
    exact ⟨_, _, rfl, Ow.made0 _ _ h01.size, h01.alloc h01.size _⟩
  · cases hmv : mvd m s
    · have HL := Lib.hid (show nbL s gi rs m t = [] by simp [nbL, hmv])
      go_enter Try.func108, Try.ntmps108
      go_wp2_with (first
        | (go_at_call 12; refine (HP.out _ hb0).mono ?_; rintro e w1 ⟨rfl, hb1⟩; rw [hv]; have h01 := step hb0 hb1; obtain ⟨c0, c1, c2⟩ := hx0.below hs0 hb1)
        | (go_at_call 28; refine (HV.out _ h01).mono ?_; rintro e w2 ⟨rfl, hb2⟩; rw [hmv]; have h02 := step h01 hb2))
      go_ret
      rw [HL.out]
      exact ⟨_, _, rfl, Ow.made0 _ _ h02.size, h02.alloc h02.size _⟩
    · have h64 : Hid (∀ k, k < nm → -9223372036854775808 ≤ nth m k ∧ nth m k ≤ 9223372036854775807) := Lib.hid (fun k _ => by have := mvd_nth hmv k; omega)
      have HL0 : nbL s gi rs m t = (if t = 1 then nsL m s m.length else if t = 2 then nhL m s else if t = 3 then npL m s else if t = 4 then nrL s gi rs m else []) := by unfold nbL; rw [hv, hmv, Bool.true_and, if_pos rfl]
      rw [hlen.out] at HL0
      by_cases h1 : t = 1
      · subst h1
        have HL := Lib.hid (show nbL s gi rs m 1 = nsL m s nm by rw [HL0]; rfl)
        have HC := Lib.hid (fun w' (hb : Below w.heap.size w w') => specNarrowSingles A c nm B m s w' (h.below (hb.mono hBm)) (Nat.le_trans hBm hb.size) hm hsb h64)
        clear HL0
        go_enter Try.func108, Try.ntmps108
        go_wp2_with (first
          | (go_at_call 12; refine (HP.out _ hb0).mono ?_; rintro e w1 ⟨rfl, hb1⟩; rw [hv]; have h01 := step hb0 hb1; have hx1 := hx0.below hs0 hb1; have hs1 := Nat.lt_of_lt_of_le hs0 hb1.size; obtain ⟨c0, c1, c2⟩ := id hx1)
          | (go_at_call 28; refine (HV.out _ h01).mono ?_; rintro e w2 ⟨rfl, hb2⟩; rw [hmv]; have h02 := step h01 hb2; obtain ⟨d0, d1, d2⟩ := hx1.below hs1 hb2)
          | (go_at_call 115; refine (HC.out _ h02).mono ?_; rintro e w3 ⟨A3, c3, rfl, ho3, hb3⟩))
        go_ret
        rw [HL.out]
        exact ⟨_, _, rfl, ho3.mono h02.size, step h02 hb3⟩
      · have n1 : (t == 1) = false := by simpa using h1
        by_cases h2 : t = 2
        · subst h2
          have HL := Lib.hid (show nbL s gi rs m 2 = nhL m s by rw [HL0]; rfl)
          have HC := Lib.hid (fun w' (hb : Below w.heap.size w w') => specNarrowHidden A c nm B m s w' (h.below (hb.mono hBm)) (Nat.le_trans hBm hb.size) hm hsb)
          clear HL0
          go_enter Try.func108, Try.ntmps108
          go_wp2_with (first
            | (go_at_call 12; refine (HP.out _ hb0).mono ?_; rintro e w1 ⟨rfl, hb1⟩; rw [hv]; have h01 := step hb0 hb1; have hx1 := hx0.below hs0 hb1; have hs1 := Nat.lt_of_lt_of_le hs0 hb1.size; obtain ⟨c0, c1, c2⟩ := id hx1)
            | (go_at_call 28; refine (HV.out _ h01).mono ?_; rintro e w2 ⟨rfl, hb2⟩; rw [hmv]; have h02 := step h01 hb2; obtain ⟨d0, d1, d2⟩ := hx1.below hs1 hb2)
            | (go_at_call 116; refine (HC.out _ h02).mono ?_; rintro e w3 ⟨A3, c3, rfl, ho3, hb3⟩))
          go_ret
          rw [HL.out]
          exact ⟨_, _, rfl, ho3.mono h02.size, step h02 hb3⟩
        · have n2 : (t == 2) = false := by simpa using h2
          by_cases h3 : t = 3
          · subst h3
            have HL := Lib.hid (show nbL s gi rs m 3 = npL m s by rw [HL0]; rfl)
            have HC := Lib.hid (fun w' (hb : Below w.heap.size w w') => specNarrowPairs A c nm B m s w' (h.below (hb.mono hBm)) (Nat.le_trans hBm hb.size) hm hsb)
            clear HL0
            go_enter Try.func108, Try.ntmps108
            go_wp2_with (first
              | (go_at_call 12; refine (HP.out _ hb0).mono ?_; rintro e w1 ⟨rfl, hb1⟩; rw [hv]; have h01 := step hb0 hb1; have hx1 := hx0.below hs0 hb1; have hs1 := Nat.lt_of_lt_of_le hs0 hb1.size; obtain ⟨c0, c1, c2⟩ := id hx1)
              | (go_at_call 28; refine (HV.out _ h01).mono ?_; rintro e w2 ⟨rfl, hb2⟩; rw [hmv]; have h02 := step h01 hb2; obtain ⟨d0, d1, d2⟩ := hx1.below hs1 hb2)
              | (go_at_call 27; refine (HC.out _ h02).mono ?_; rintro e w3 ⟨A3, c3, rfl, ho3, hb3⟩))
            go_ret
            rw [HL.out]
            exact ⟨_, _, rfl, ho3.mono h02.size, step h02 hb3⟩
          · have n3 : (t == 3) = false := by simpa using h3
            by_cases h4 : t = 4
            · subst h4
              have HL := Lib.hid (show nbL s gi rs m 4 = nrL s gi rs m by rw [HL0]; rfl)
              have HC := Lib.hid (fun w' (hb : Below w.heap.size w w') => specNarrowRules s Ag n cg Bg gi Ar nr cr Br rs A c nm B m w' (hp.below hb) (h.below (hb.mono hBm)) (Nat.le_trans hBm hb.size) hm hsb)
              clear HL0
              go_enter Try.func108, Try.ntmps108
              go_wp2_with (first
                | (go_at_call 12; refine (HP.out _ hb0).mono ?_; rintro e w1 ⟨rfl, hb1⟩; rw [hv]; have h01 := step hb0 hb1; have hx1 := hx0.below hs0 hb1; have hs1 := Nat.lt_of_lt_of_le hs0 hb1.size; obtain ⟨c0, c1, c2⟩ := id hx1)
                | (go_at_call 28; refine (HV.out _ h01).mono ?_; rintro e w2 ⟨rfl, hb2⟩; rw [hmv]; have h02 := step h01 hb2; obtain ⟨d0, d1, d2⟩ := hx1.below hs1 hb2)
                | (go_at_call 117; refine (HC.out _ h02).mono ?_; rintro e w3 ⟨A3, c3, rfl, ho3, hb3⟩))
              go_ret
              rw [HL.out]
              exact ⟨_, _, rfl, ho3.mono h02.size, step h02 hb3⟩
            · have n4 : (t == 4) = false := by simpa using h4
              have HL := Lib.hid (show nbL s gi rs m t = [] by rw [HL0, if_neg h1, if_neg h2, if_neg h3, if_neg h4])
              clear HL0
              go_enter Try.func108, Try.ntmps108
              go_wp2_with (first
                | (go_at_call 12; refine (HP.out _ hb0).mono ?_; rintro e w1 ⟨rfl, hb1⟩; rw [hv]; have h01 := step hb0 hb1; have hx1 := hx0.below hs0 hb1; have hs1 := Nat.lt_of_lt_of_le hs0 hb1.size; obtain ⟨c0, c1, c2⟩ := id hx1)
                | (go_at_call 28; refine (HV.out _ h01).mono ?_; rintro e w2 ⟨rfl, hb2⟩; rw [hmv]; have h02 := step h01 hb2; obtain ⟨d0, d1, d2⟩ := hx1.below hs1 hb2))
              go_ret
              rw [HL.out]
              exact ⟨_, _, rfl, Ow.made0 _ _ h02.size, h02.alloc h02.size _⟩
end Go.Proofs.Ytgejahkdiciplab
