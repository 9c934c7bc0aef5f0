import Derived.Test.YtoejpodchlepiaaYR4W
import Derived.Test.YtoejpodchlepiaaYR4X
namespace Go.Proofs.Ytoejpodchlepiaa
open Go.ChangeShapes Go.WideShapes Go.ChangeAt Go.RowKit

/-- the value of a list that has exactly one. -/
def oneOf (L : List Int) : Int := if L.length = 1 then nth L 0 else 0
def mgG (xs : List Int) (k : Nat) : Int := oneOf (maskVals (nth xs k))
def mgL (xs : List Int) (size : Int) : List Int := if mvd xs size = true then mapTo (mgG xs) xs.length else []
theorem mvd_at {xs : List Int} {size : Int} (h : mvd xs size = true) : (2 ≤ size ∧ size ≤ 4) ∧ (xs.length : Int) = size * size ∧ xs.length ≤ 16 ∧ ∀ k, k < xs.length → 0 ≤ nth xs k ∧ nth xs k ≤ 30 ∧ (nth xs k).tmod 2 = 0 := by
  simp only [mvd, Bool.and_eq_true, beq_iff_eq, List.all_eq_true] at h
  obtain ⟨⟨h1, h2⟩, h3⟩ := h
  obtain ⟨s2, s4⟩ := inr_t h1
  obtain ⟨q4, q16⟩ := sq_bd s2 s4
  refine ⟨⟨s2, s4⟩, h2, by omega, fun k hk => ?_⟩
  have hm := h3 _ (List.getElem_mem hk)
  simp only [mkOk, Bool.and_eq_true, beq_iff_eq] at hm
  have e : nth xs k = xs[k] := by simp [nth, List.getD_eq_getElem?_getD, hk]
  rw [e]
  obtain ⟨m0, m1⟩ := inr_t hm.1
  have hp : (2 : Int) ^ (size.toNat + 1) ≤ 32 := by
    have : size = 2 ∨ size = 3 ∨ size = 4 := by omega
    rcases this with rfl | rfl | rfl <;> decide
  exact ⟨m0, by omega, hm.2⟩

end Go.Proofs.Ytoejpodchlepiaa
set_option maxRecDepth 8000
namespace Go.Proofs.Ytoejpodchlepiaa
open Go.ChangeShapes Go.WideShapes Go.ChangeAt Go.RowKit

theorem rv_facts {k v s : Int} {xs : List Int} {n : Nat} (hl : xs.length = n) (h : rv k xs v s = true) : (2 ≤ s ∧ s ≤ 4) ∧ (1 ≤ n ∧ n ≤ 4) ∧ (k = 1 ∨ k = 2 ∨ k = 3 ∨ 2 ≤ n) ∧ ∀ i, i < n → 0 ≤ nth xs i ∧ nth xs i ≤ s * s - 1 := by
  simp only [rv, Bool.and_eq_true, decide_eq_true_eq, List.all_eq_true, List.mem_range] at h
  obtain ⟨⟨⟨h1, h2⟩, h3⟩, h4⟩ := h
  rw [hl] at h2 h3 h4
  have hs := inr_t h1
  refine ⟨hs, ?_, ?_, fun i hi => ?_⟩
  · refine ⟨?_, h2⟩
    unfold kindOk at h4
    split at h4
    · simp only [Bool.and_eq_true, decide_eq_true_eq] at h4; omega
    · split at h4
      · simp only [Bool.and_eq_true, decide_eq_true_eq] at h4; omega
      · split at h4
        · simp only [Bool.and_eq_true, decide_eq_true_eq] at h4; omega
        · split at h4
          · simp only [Bool.and_eq_true, decide_eq_true_eq] at h4; omega
          · split at h4
            · simp only [Bool.and_eq_true, decide_eq_true_eq] at h4; omega
            · cases h4
  · unfold kindOk at h4
    split at h4
    · exact .inl (by assumption)
    · split at h4
      · exact .inr (.inl (by assumption))
      · split at h4
        · exact .inr (.inr (.inl (by assumption)))
        · split at h4
          · simp only [Bool.and_eq_true, decide_eq_true_eq] at h4; omega
          · split at h4
            · simp only [Bool.and_eq_true, decide_eq_true_eq] at h4; omega
            · cases h4
  · have := h3 i hi
    simp only [cellOk, Bool.and_eq_true] at this
    exact inr_t this.1
theorem mvd_b64' {xs : List Int} {size : Int} (h : mvd xs size = true) : B64 xs := b64_of rfl fun k hk => by
  have := (mvd_at h).2.2.2 k hk
  omega
def zerosN (n : Nat) : List Nat := List.replicate n 0
theorem nats_zeros (n : Nat) : nats (zerosN n) = part [] 0 n := by
  apply ext_nth (by rw [nats_length, part_length]; simp [zerosN])
  intro k hk
  rw [nats_length] at hk
  have hk' : k < n := by simpa [zerosN] using hk
  rw [nats_nth, part_nth _ _ _ _ hk', if_neg (by omega)]
  simp [zerosN, List.getD_eq_getElem?_getD, hk']
theorem zeros_lt (n : Nat) : lt32 (zerosN n) := fun i => by
  by_cases h : i < n
  · simp [zerosN, List.getD_eq_getElem?_getD, h]
  · simp [zerosN, List.getD_eq_getElem?_getD, List.getElem?_eq_none (by simp; omega : (List.replicate n 0).length ≤ i)]
theorem Rd.ne {w : World} {B : Nat} {A : Option Addr} {n : Nat} {xs : List Int} (h : Rd w B A n xs) (hn : 0 < n) {G : Nat} (hG : B ≤ G) : ∀ b off, A = some ⟨b, off, none⟩ → b ≠ G := fun b off e => by
  obtain ⟨b', off', e', hlt, _⟩ := h.at_ hn
  rw [e] at e'
  cases e'
  omega
/-- the masks that a rule leaves to its cells. -/
def rmN (k : Int) (xs : List Int) (v : Int) (ms : List Int) : List Nat := waysF k v xs ms xs.length [] (zerosN xs.length)
def rmL (k : Int) (xs : List Int) (v : Int) (ms : List Int) (s : Int) : List Int := if (rv k xs v s && mvd ms s) = true then nats (rmN k xs v ms) else []
theorem rmN_inv (k : Int) (xs : List Int) (v : Int) (ms : List Int) : (rmN k xs v ms).length = xs.length ∧ lt32 (rmN k xs v ms) :=
  waysF_inv k v xs ms xs.length xs.length [] (zerosN xs.length) (by simp) (fun i hi => absurd hi (by simp)) (by simp [zerosN]) (zeros_lt _)

set_option maxHeartbeats 1000000 in
theorem specRuleMasks (A : Option Addr) (c n B : Nat) (xs : List Int) (k v size : Int) (Am : Option Addr) (cm nm Bm : Nat) (ms : List Int) (w : World) (h : Rd w B A n xs) (hB : B ≤ w.heap.size) (hm : n ≤ 1099511627776) (hr : Rd w Bm Am nm ms) (hBm : Bm ≤ w.heap.size) (hmm : nm ≤ 1099511627776) (hs64 : -9223372036854775808 ≤ size ∧ size ≤ 9223372036854775807) :
    Calls Try.prog 62 #[.agg #[.int .i64 k, .slice A n c, .int .i64 v], .slice Am nm cm, .int .i64 size] w (RetSl w (rmL k xs v ms size)) := by
  have hlen := Lib.hid h.1
  have hlenm := Lib.hid hr.1
  have hx0 := rbox_new w k A n c v 25
  have hb0 : Below w.heap.size w (w.alloc (.cells #[.int .i64 k, .slice A n c, .int .i64 v] 25)) := (Below.refl _ _).alloc (Nat.le_refl _) _
  have hsz0 : w.heap.size < (w.alloc (.cells #[.int .i64 k, .slice A n c, .int .i64 v] 25)).heap.size := by simp
  have HV : Hid (∀ w', Below w.heap.size w w' → Calls Try.prog 22 #[.agg #[.int .i64 k, .slice A n c, .int .i64 v], .int .i64 size] w' fun e w'' => e = .returned (.bool (rv k xs v size)) ∧ Below w'.heap.size w' w'') :=
    Lib.hid (fun w' hb => specRuleValid A c n B xs k v size w' (h.below (hb.mono hB)) (Nat.le_trans hB hb.size) hm)
  have HMV : Hid (∀ w', Below w.heap.size w w' → Calls Try.prog 63 #[.slice Am nm cm, .int .i64 size] w' fun e w'' => e = .returned (.bool (mvd ms size)) ∧ Below w'.heap.size w' w'') :=
    Lib.hid (fun w' hb => specMasksValid Am cm nm Bm ms size w' (hr.below (hb.mono hBm)) (Nat.le_trans hBm hb.size) hmm hs64)
  cases hv : rv k xs v size
  · have HL := Lib.hid (show rmL k xs v ms size = [] by simp [rmL, hv])
    go_enter Try.func62, Try.ntmps62
    go_wp2_with (go_at_call 22; refine (HV.out _ hb0).mono ?_; rintro e w1 ⟨rfl, hb1⟩; rw [hv]; have hB1 := step hb0 hb1; clear hb1)
    go_ret
    rw [HL.out]
    exact ⟨_, _, rfl, (Ow.made0 _ _ (Nat.le_refl _)).mono hB1.size, hB1.alloc hB1.size _⟩
  · cases hmv : mvd ms size
    · have HL := Lib.hid (show rmL k xs v ms size = [] by simp [rmL, hmv])
      go_enter Try.func62, Try.ntmps62
      go_wp2_with (first | (go_at_call 22; refine (HV.out _ hb0).mono ?_; rintro e w1 ⟨rfl, hb1⟩; rw [hv]; have hB1 := step hb0 hb1; have hx1 := hx0.below hsz0 hb1; obtain ⟨c0, c1, c2⟩ := hx1; clear hb1) | (go_at_call 63; refine (HMV.out _ hB1).mono ?_; rintro e w2 ⟨rfl, hb2⟩; rw [hmv]; have hB2 := step hB1 hb2; clear hb2))
      go_ret
      rw [HL.out]
      exact ⟨_, _, rfl, (Ow.made0 _ _ (Nat.le_refl _)).mono hB2.size, hB2.alloc hB2.size _⟩
    · obtain ⟨i0, hi, hz0, hz1, hz2⟩ := info_parts int_info
      obtain ⟨⟨s2, s4⟩, ⟨n1, n4⟩, hk, hcs⟩ := rv_facts hlen.out hv
      obtain ⟨_, hmlen, _, _⟩ := mvd_at hmv
      have Hms := Lib.hid (mvd_b64' hmv)
      have HL := Lib.hid (show rmL k xs v ms size = nats (waysF k v xs ms n [] (zerosN n)) by simp [rmL, hv, hmv, rmN, hlen.out])
      have Hxc : Hid (∀ i, i < n → 0 ≤ nth xs i ∧ nth xs i < nm) := Lib.hid (fun i hi2 => by
        have := hcs i hi2
        rw [hlenm.out] at hmlen
        omega)
      have Hinv := Lib.hid (waysF_inv k v xs ms n n [] (zerosN n) (by simp) (fun i hi => absurd hi (by simp)) (by simp [zerosN]) (zeros_lt _))
      have hnm : 0 < nm := by rw [hlenm.out] at hmlen; have := (sq_bd s2 s4).1; omega
      clear hcs hmlen
      go_enter Try.func62, Try.ntmps62
      go_wp2_with (first
        | (go_at_call 22; refine (HV.out _ hb0).mono ?_; rintro e w1 ⟨rfl, hb1⟩; rw [hv]; have hB1 := step hb0 hb1; have hx1 := hx0.below hsz0 hb1; have hsz1 := Nat.lt_of_lt_of_le hsz0 hb1.size; obtain ⟨c0, c1, c2⟩ := id hx1; clear hb1)
        | (go_at_call 63; refine (HMV.out _ hB1).mono ?_; rintro e w2 ⟨rfl, hb2⟩; rw [hmv]; have hB2 := step hB1 hb2; have hx2 := hx1.below hsz1 hb2; have hsz2 := Nat.lt_of_lt_of_le hsz1 hb2.size; obtain ⟨d0, d1, d2⟩ := id hx2; clear hb2)
        | (refine wpList_make_full _ rfl (.tmp 21) (.tmp 21) 23 rfl w.heap.size 3 i0 (.int .i64 0) 1 Try.underlying23 hi hz0 hz1 .i64 .i64 n n n rfl rfl rfl rfl (by rw [hz2]; omega) (by simp only [maxLen]; omega) hB2.size ?_; intro w3 hown hgr; have hb3 := made_below hgr (Nat.le_refl _); have hB3 := step hB2 hb3; have hx3 := hx2.below hsz2 hb3; obtain ⟨e0, e1, e2⟩ := id hx3; have ho3 := made_part [] hown; rw [← nats_zeros] at ho3; obtain ⟨_, hge, hge1, hgl⟩ := ho3.form (by omega); cases hge)
        | (go_at_call 108; refine (specWays k v xs ms A c n B Am cm nm Bm hk n4 Hxc Hms w.heap.size _ n ?hA ?hM n _ 0 _ 0 [] (zerosN n) _ (by omega) (h.below ((hB3.alloc hB3.size _).mono hB)) (Nat.le_trans hB (hB3.alloc hB3.size _).size) (hr.below ((hB3.alloc hB3.size _).mono hBm)) (Nat.le_trans hBm (hB3.alloc hB3.size _).size) ⟨rfl, fun h0 => absurd h0 (by omega)⟩ (Nat.zero_le _) ?hne (Lib.hid (fun i hi => absurd hi (by omega))) (World.ownsRow.alloc ho3 _) (by simp [zerosN]) (Lib.hid (zeros_lt _)) (by rw [World.size_alloc]; omega)).mono ?_; (case hA => exact h.ne (by omega) (Nat.le_trans hB hge1)); (case hM => exact hr.ne hnm (Nat.le_trans hBm hge1)); (case hne => intro b off e; cases e; omega); rintro e w5 ⟨rfl, ho5, hg5⟩))
      go_ret
      rw [HL.out]
      exact retSl_mk ho5 ((hB3.alloc hB3.size _).grown hg5 (hB3.alloc hB3.size _).size (fun g hg => by cases hg; exact hge1))
end Go.Proofs.Ytoejpodchlepiaa
set_option maxRecDepth 8000
namespace Go.Proofs.Ytoejpodchlepiaa
open Go.ChangeShapes Go.WideShapes Go.ChangeAt Go.RowKit

/-- what a cell of a grid can have: its own value, or everything. -/
def emN (g : List Int) (s k : Nat) : Nat := if nth g k = 0 then 2 ^ (s + 1) - 2 else 2 ^ (nth g k).toNat
def emG (g : List Int) (s : Int) (k : Nat) : Int := (emN g s.toNat k : Int)
def emL (g : List Int) (s : Int) : List Int := mapTo (emG g s) g.length
theorem pow_even : ∀ s ∈ [2, 3, 4], ∀ v, v < 5 → 1 ≤ v → v ≤ s → 2 ^ v ≤ 2 ^ (s + 1) - 2 ∧ 2 ^ v % 2 = 0 := by decide
theorem all_even : ∀ s ∈ [2, 3, 4], (2 ^ (s + 1) - 2) % 2 = 0 ∧ 2 ^ (s + 1) - 2 ≤ 30 := by decide
theorem emL_valid {g : List Int} {s : Nat} (hs : s ∈ [2, 3, 4]) (hg : gv g s = true) : mvd (emL g s) s = true := by
  have hl := gv_len hg
  have h24 := gv_size hg
  have h1 : inr (s : Int) 2 4 = true := by simp [inr]; omega
  have h3 : (emL g s).all (mkOk (2 ^ ((s : Int).toNat + 1) - 2)) = true := by
    refine allTo_all (n := g.length) (fun j hj => ?_) (mapTo_length _ _)
    unfold emL
    rw [mapTo_nth hj]
    have hp : ((2 : Int) ^ (s + 1) - 2) = ((2 ^ (s + 1) - 2 : Nat) : Int) := by
      simp at hs
      rcases hs with rfl | rfl | rfl <;> rfl
    obtain ⟨v0, v4⟩ := gv_nth hg hj
    have key : emN g s j ≤ 2 ^ (s + 1) - 2 ∧ emN g s j % 2 = 0 := by
      unfold emN
      split
      · exact ⟨Nat.le_refl _, (all_even s hs).1⟩
      · exact pow_even s hs _ (by omega) (by omega) (by omega)
    simp only [mkOk, emG, Int.toNat_natCast, Bool.and_eq_true, beq_iff_eq]
    rw [hp, Int.tmod_eq_emod_of_nonneg (Int.natCast_nonneg _)]
    refine ⟨by simp only [inr, decide_eq_true_eq]; omega, by omega⟩
  have h2 : ((emL g s).length : Int) = (s : Int) * s := by unfold emL; rw [mapTo_length]; exact hl
  simp only [mvd, h1, h3, Bool.true_and, Bool.and_true, beq_iff_eq]
  exact h2
/-- whether a rule can hold for a grid. -/
def rpB (k : Int) (xs : List Int) (v : Int) (g : List Int) (s : Int) : Bool := rv k xs v s && gv g s && (nth (rmL k xs v (emL g s) s) 0 != 0)

set_option maxHeartbeats 1000000 in
theorem specRulePossible (A : Option Addr) (c n B : Nat) (xs : List Int) (k v size : Int) (Ag : Option Addr) (cg ng Bg : Nat) (g : List Int) (w : World) (h : Rd w B A n xs) (hB : B ≤ w.heap.size) (hm : n ≤ 1099511627776) (hr : Rd w Bg Ag ng g) (hBg : Bg ≤ w.heap.size) (hmm : ng ≤ 1099511627776) (hs64 : -9223372036854775808 ≤ size ∧ size ≤ 9223372036854775807) :
    Calls Try.prog 28 #[.agg #[.int .i64 k, .slice A n c, .int .i64 v], .slice Ag ng cg, .int .i64 size] w fun e w' => e = .returned (.bool (rpB k xs v g size)) ∧ Below w.heap.size w w' := by
  have hlen := Lib.hid h.1
  have hleng := Lib.hid hr.1
  have hx0 := rbox_new w k A n c v 25
  have hb0 : Below w.heap.size w (w.alloc (.cells #[.int .i64 k, .slice A n c, .int .i64 v] 25)) := (Below.refl _ _).alloc (Nat.le_refl _) _
  have hsz0 : w.heap.size < (w.alloc (.cells #[.int .i64 k, .slice A n c, .int .i64 v] 25)).heap.size := by simp
  have HV : Hid (∀ w', Below w.heap.size w w' → Calls Try.prog 22 #[.agg #[.int .i64 k, .slice A n c, .int .i64 v], .int .i64 size] w' fun e w'' => e = .returned (.bool (rv k xs v size)) ∧ Below w'.heap.size w' w'') :=
    Lib.hid (fun w' hb => specRuleValid A c n B xs k v size w' (h.below (hb.mono hB)) (Nat.le_trans hB hb.size) hm)
  have HG : Hid (∀ w', Below w.heap.size w w' → Calls Try.prog 23 #[.slice Ag ng cg, .int .i64 size] w' fun e w'' => e = .returned (.bool (gv g size)) ∧ w' = w'') :=
    Lib.hid (fun w' hb => specGridValid _ _ _ _ _ _ _ (hr.below (hb.mono hBg)) hmm)
  cases hv : rv k xs v size
  · have HL := Lib.hid (show rpB k xs v g size = false by simp [rpB, hv])
    go_enter Try.func28, Try.ntmps28
    go_wp2_with (go_at_call 22; refine (HV.out _ hb0).mono ?_; rintro e w1 ⟨rfl, hb1⟩; rw [hv]; have hB1 := step hb0 hb1; clear hb1)
    go_ret
    exact ⟨by rw [HL.out]; rfl, hB1⟩
  · cases hg : gv g size
    · have HL := Lib.hid (show rpB k xs v g size = false by simp [rpB, hg])
      go_enter Try.func28, Try.ntmps28
      go_wp2_with (first | (go_at_call 22; refine (HV.out _ hb0).mono ?_; rintro e w1 ⟨rfl, hb1⟩; rw [hv]; have hB1 := step hb0 hb1; have hx1 := hx0.below hsz0 hb1; obtain ⟨c0, c1, c2⟩ := hx1; clear hb1) | (go_at_call 23; refine (HG.out _ hB1).mono ?_; rintro e w2 ⟨rfl, rfl⟩; rw [hg]))
      go_ret
      exact ⟨by rw [HL.out]; rfl, hB1⟩
    · obtain ⟨⟨s2, s4⟩, ⟨n1, n4⟩, _, _⟩ := rv_facts hlen.out hv
      obtain ⟨s, rfl⟩ := Int.eq_ofNat_of_zero_le (by omega : 0 ≤ size)
      have hs : s ∈ [2, 3, 4] := by
        have : s = 2 ∨ s = 3 ∨ s = 4 := by omega
        simpa using this
      have hgl := gv_len hg
      rw [hleng.out] at hgl
      have hgb := (sq_bd s2 s4).2
      have hng : ng ≤ 16 := by omega
      have Hok : Hid (∀ i, i < ng → 0 ≤ nth g i ∧ nth g i ≤ s) := Lib.hid (fun i hi => gv_nth hg (by rw [hleng.out]; exact hi))
      have hmv := emL_valid hs hg
      have HL := Lib.hid (show rpB k xs v g s = (nth (rmL k xs v (emL g s) s) 0 != 0) by simp only [rpB, hv, hg, Bool.true_and])
      have hrl : (rmL k xs v (emL g s) s).length = n := by
        unfold rmL
        rw [if_pos (by simp only [hv, hmv, Bool.and_true]), nats_length, (rmN_inv k xs v (emL g s)).1]
        exact hlen.out
      have Hel := Lib.hid (show emL g s = mapTo (emG g s) ng by unfold emL; rw [hleng.out])
      have Hall : Hid (wrap64 (wrap64 (2 ^ (s + 1)) - 2) = ((2 ^ (s + 1) - 2 : Nat) : Int)) := by
        refine Lib.hid ?_
        simp at hs
        rcases hs with rfl | rfl | rfl
        · show wrap64 (wrap64 8 - 2) = 6
          rw [IntWalk.wrap64_in 8 ⟨by omega, by omega⟩]
          exact IntWalk.wrap64_in 6 ⟨by omega, by omega⟩
        · show wrap64 (wrap64 16 - 2) = 14
          rw [IntWalk.wrap64_in 16 ⟨by omega, by omega⟩]
          exact IntWalk.wrap64_in 14 ⟨by omega, by omega⟩
        · show wrap64 (wrap64 32 - 2) = 30
          rw [IntWalk.wrap64_in 32 ⟨by omega, by omega⟩]
          exact IntWalk.wrap64_in 30 ⟨by omega, by omega⟩
      clear hmv hgl hgb
      go_enter Try.func28, Try.ntmps28
      go_wp2_with (first | (go_at_call 22; refine (HV.out _ hb0).mono ?_; rintro e w1 ⟨rfl, hb1⟩; rw [hv]; have hB1 := step hb0 hb1; have hx1 := hx0.below hsz0 hb1; have hsz1 := Nat.lt_of_lt_of_le hsz0 hb1.size; obtain ⟨c0, c1, c2⟩ := id hx1; clear hb1) | (go_at_call 23; refine (HG.out _ hB1).mono ?_; rintro e w2 ⟨rfl, rfl⟩; rw [hg]))
      have hBe := hB1.alloc hB1.size (.cells #[] 3)
      have hxe := hx1.below hsz1 ((Below.refl _ _).alloc (Nat.le_refl _) (.cells #[] 3))
      have hsw : w.heap.size + 1 ≤ w1.heap.size := hsz1
      go_loopw [7, 8] (fun vv i wr => ∃ u : Nat, u ≤ ng ∧ i = .int .i64 u ∧ OwV wr (w.heap.size + 1) vv (mapTo (emG g s) u) ∧ RBox wr w.heap.size k A n c v ∧ Below w.heap.size w wr ∧ w.heap.size + 1 ≤ wr.heap.size) (fun _ i _ => ng - (intOf i).toNat)
      case atStart => exact ⟨0, by omega, rfl, ⟨_, _, rfl, Ow.made0 _ _ hsw⟩, hxe, hBe, by rw [World.size_alloc]; omega⟩
      case round =>
        obtain ⟨u, hu, rfl, ⟨A', c', rfl, ho⟩, hx, hb, hsr⟩ := hrel
        have hkb : (mapTo (emG g s) u).length ≤ 1099511627776 := by rw [mapTo_length]; omega
        by_cases hlt : u < ng
        · obtain ⟨b, off, rfl, hbB, hck⟩ := (hr.below (hb.mono hBg)).at_ hlt
          obtain ⟨x0, x4⟩ := Hok.out u hlt
          obtain ⟨x, hxv⟩ := Int.eq_ofNat_of_zero_le x0
          rw [hxv] at hck
          by_cases hz : x = 0
          · subst hz
            have Hem := Lib.hid (show wrap64 (wrap64 (2 ^ (s + 1)) - 2) = emG g s u by
              rw [Hall.out]; simp only [emG, emN, hxv, Int.toNat_natCast]; rfl)
            go_wp2_with (at_builtin; refine push_int rfl (.tmp 41) (.tmp 43) rfl (w.heap.size + 1) A' _ c' (mapTo (emG g s) u) _ rfl rfl ho hkb hsr ?_; intro A'' c'' w4 ho4 hg4; rw [Hem.out] at ho4)
            have ho5 : OwV w4 (w.heap.size + 1) (.slice A'' ((mapTo (emG g s) u).length + 1) c'') (mapTo (emG g s) (u + 1)) := by
              refine ⟨A'', c'', by rw [mapTo_succ, List.length_append]; rfl, ?_⟩
              rw [mapTo_succ, List.length_append]
              exact ho4
            have hb4 := push_below hb ho (Nat.le_succ _) hb.size hg4
            have hb4' := push_below (Below.refl (w.heap.size + 1) wr) ho (Nat.le_refl _) hsr hg4
            have hx4 := hx.below (Nat.lt_succ_self _) hb4'
            clear ho4 hg4
            go_roundw
            case rel => exact ⟨u + 1, by omega, by go_num, ho5, hx4, hb4, Nat.le_trans hsr hb4'.size⟩
            case measure => simp [intOf]; omega
          · have hz1 : ((x : Int) == 0) = false := by simp; omega
            have Hem := Lib.hid (show wrap64 (2 ^ x) = emG g s u by
              rw [two_pow_nat x (by omega)]; simp only [emG, emN, hxv, Int.toNat_natCast]; rw [if_neg (by omega)])
            go_wp2_with (at_builtin; refine push_int rfl (.tmp 41) (.tmp 43) rfl (w.heap.size + 1) A' _ c' (mapTo (emG g s) u) _ rfl rfl ho hkb hsr ?_; intro A'' c'' w4 ho4 hg4; rw [Hem.out] at ho4)
            have ho5 : OwV w4 (w.heap.size + 1) (.slice A'' ((mapTo (emG g s) u).length + 1) c'') (mapTo (emG g s) (u + 1)) := by
              refine ⟨A'', c'', by rw [mapTo_succ, List.length_append]; rfl, ?_⟩
              rw [mapTo_succ, List.length_append]
              exact ho4
            have hb4 := push_below hb ho (Nat.le_succ _) hb.size hg4
            have hb4' := push_below (Below.refl (w.heap.size + 1) wr) ho (Nat.le_refl _) hsr hg4
            have hx4 := hx.below (Nat.lt_succ_self _) hb4'
            clear ho4 hg4
            go_roundw
            case rel => exact ⟨u + 1, by omega, by go_num, ho5, hx4, hb4, Nat.le_trans hsr hb4'.size⟩
            case measure => simp [intOf]; omega
        · obtain rfl : u = ng := by omega
          obtain ⟨c0, c1, c2⟩ := id hx
          rw [mapTo_length] at ho
          rw [mapTo_length]
          rw [← Hel.out] at ho
          have HM := Lib.hid (specRuleMasks A c n B xs k v s A' c' u wr.heap.size (emL g s) wr (h.below (hb.mono hB)) (Nat.le_trans hB hb.size) hm ho.rd (Nat.le_refl _) (by omega) (by omega))
          go_wp2_with (go_at_call 62; refine HM.out.mono ?_; rintro e w5 ⟨A5, c5, rfl, ho5, hb5⟩; rw [hrl] at ho5 ⊢; obtain ⟨g5, rfl, _, _⟩ := ho5.form (by omega); obtain ⟨hc5, _⟩ := ho5.cell (show 0 < n by omega))
          go_ret
          exact ⟨by rw [HL.out]; rfl, step hb hb5⟩
end Go.Proofs.Ytoejpodchlepiaa
