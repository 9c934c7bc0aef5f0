import Derived.Test.YtgejahkdiciplaaDoorBase
import Derived.Test.YtgejahkdiciplaaDoorOwn
import Derived.Lib.SliceRun
import Derived.Test.YtgejahkdiciplaaDoorWI6M
import Derived.Test.YtgejahkdiciplaaDoorWNp
import Derived.Test.YtgejahkdiciplaaDoorWPuzA
import Derived.Test.YtgejahkdiciplaaDoorWNr
import Derived.Test.YtgejahkdiciplaaDoorWDM
import Derived.RegionTactic
import Derived.Laws.Rows
import Derived.Laws.Tables
import Derived.Maps.AppendAt
import Derived.Deep.RegionHeld3
import Derived.Test.YtgejahkdiciplaaDoorC3C
import Derived.Test.YtgejahkdiciplaaDoorC3G
import Derived.Test.YtgejahkdiciplaaDoorWNa
set_option maxRecDepth 8000
namespace Go.Proofs.YtgejahkdiciplaaDoor
open Go.ChangeShapes Go.WideShapes Go.ChangeAt Go.RowKit
/-! slices.Clone of ints. -/
theorem clone_any (A : Option Addr) (n c B : Nat) (xs : List Int) (w : World) (h : Rd w B A n xs) (hB : B ≤ w.heap.size) (hn : 0 < n) (hm : n ≤ 1099511627776) :
    Calls Tryd.prog 63 #[.slice A n c] w fun e w' => ∃ A' c', e = .returned (.slice A' n c') ∧ Ow w' w.heap.size A' n c' xs ∧ Below w.heap.size w w' := by
  obtain ⟨b, off, rfl, _, _⟩ := h.at_ hn
  have hb0 : Below w.heap.size w (w.alloc (.cells #[] 3)) := (Below.refl _ _).alloc (Nat.le_refl _) _
  have HO := Lib.hid (Ow.made0 w w.heap.size (Nat.le_refl _))
  have HR := Lib.hid (h.below (hb0.mono hB))
  have hsO : w.heap.size ≤ (w.alloc (.cells #[] 3)).heap.size := by simp
  have hcmp := fun w' => Lib.run_eql_slice_nil (P := Tryd.prog) w' 23 3 (some ⟨b, off, none⟩) n c 0 0 Tryd.underlying23
  go_enter Tryd.func63, Tryd.ntmps63
  go_wp2_with (at_builtin; (refine push_new rfl (.tmp 5) (.tmp 6) rfl w.heap.size (some ⟨w.heap.size, 0, none⟩) (some ⟨b, off, none⟩) n c B xs rfl rfl HO.out HR.out hm hsO ?_); intro A1 c1 w1 ho1 hg1; have hb1 := hb0.grown hg1 hb0.size (fun k hk => HO.out.own_lo k hk))
  go_ret
  exact ⟨_, _, rfl, ho1, hb1⟩
end Go.Proofs.YtgejahkdiciplaaDoor
set_option maxRecDepth 8000
namespace Go.Proofs.YtgejahkdiciplaaDoor
open Go.ChangeShapes Go.WideShapes Go.ChangeAt Go.RowKit
/-! the second technique of the program: a queue of cells. -/
theorem hC_mono (m : List Int) (S u : Int) (v : Nat) {k k' : Nat} (h : k ≤ k') : hC m S u v k ≤ hC m S u v k' := by
  induction h with
  | refl => exact Nat.le_refl _
  | step _ ih => simp only [hC]; split <;> omega
/-- what a line's values leave in the queue: cells and values. -/
def qV (m : List Int) (S : Int) (N : Nat) (u : Int) : Nat → List (Nat × Nat)
  | 0 => []
  | r + 1 => if hC m S u (r + 1) N = 1 then qV m S N u r ++ [(hL m S u (r + 1) N, r + 1)] else qV m S N u r
def qU (m : List Int) (S : Int) (N : Nat) : Nat → List (Nat × Nat)
  | 0 => []
  | u + 1 => qU m S N u ++ qV m S N u N
def keepQ (o : List Int) (p : Nat × Nat) : List Int := o.set p.1 (bits .and .i64 (nth o p.1) (2 ^ p.2))
theorem qV_fold (m : List Int) (S : Int) (N : Nat) (u : Int) (o : List Int) (r : Nat) : (qV m S N u r).foldl keepQ o = hVs m S N u o r := by
  induction r with
  | zero => rfl
  | succ r ih =>
    simp only [qV, hVs]
    split
    · rw [List.foldl_append, ih]; rfl
    · exact ih
theorem qU_fold (m : List Int) (S : Int) (N u : Nat) : (qU m S N u).foldl keepQ m = hU m S N u := by
  induction u with
  | zero => rfl
  | succ u ih => simp only [qU, hU]; rw [List.foldl_append, ih, qV_fold]
theorem qV_len (m : List Int) (S : Int) (N : Nat) (u : Int) (r : Nat) : (qV m S N u r).length ≤ r := by
  induction r with
  | zero => exact Nat.le_refl _
  | succ r ih =>
    simp only [qV]
    split
    · simp; omega
    · omega
theorem qU_len (m : List Int) (S : Int) (N u : Nat) : (qU m S N u).length ≤ u * N := by
  induction u with
  | zero => simp [qU]
  | succ u ih => simp only [qU, List.length_append]; have := qV_len m S N u N; rw [Nat.succ_mul]; omega
theorem qV_in {m : List Int} {S u : Int} {N n : Nat} (hat : ∀ j, j < N → (lineAt S u j).toNat < n) (h0 : 0 < n) (r : Nat) : ∀ p ∈ qV m S N u r, p.1 < n ∧ 1 ≤ p.2 ∧ p.2 ≤ r := by
  induction r with
  | zero => intro p hp; simp [qV] at hp
  | succ r ih =>
    intro p hp
    simp only [qV] at hp
    split at hp
    · rcases List.mem_append.1 hp with h | h
      · have := ih p h; omega
      · rw [List.mem_singleton] at h; subst h
        exact ⟨hL_lt hat h0, by simp, by simp⟩
    · have := ih p hp; omega
theorem qU_in {m : List Int} {S : Int} {N n U : Nat} (hat : ∀ u : Nat, u < U → ∀ j, j < N → (lineAt S u j).toNat < n) (h0 : 0 < n) (u : Nat) (hu : u ≤ U) : ∀ p ∈ qU m S N u, p.1 < n ∧ 1 ≤ p.2 ∧ p.2 ≤ N := by
  induction u with
  | zero => intro p hp; simp [qU] at hp
  | succ u ih =>
    intro p hp
    simp only [qU] at hp
    rcases List.mem_append.1 hp with h | h
    · exact ih (by omega) p h
    · exact qV_in (hat u (by omega)) h0 N p h
/-- a queue of the call's own. -/
def fl (q : List (Nat × Nat)) : List Value := q.flatMap (fun p => [.int .i64 (p.1 : Int), .int .i64 (p.2 : Int)])
theorem fl_len (q : List (Nat × Nat)) : (fl q).length = q.length * 2 := by
  induction q with
  | nil => rfl
  | cons a q ih =>
    have : fl (a :: q) = [.int .i64 (a.1 : Int), .int .i64 (a.2 : Int)] ++ fl q := rfl
    rw [this, List.length_append, ih, List.length_cons]; simp; omega
theorem fl_app (q q' : List (Nat × Nat)) : fl (q ++ q') = fl q ++ fl q' := by simp [fl]
theorem fl_get {q : List (Nat × Nat)} {k : Nat} (h : k < q.length) : (fl q)[k * 2]? = some (.int .i64 (q[k].1 : Int)) ∧ (fl q)[k * 2 + 1]? = some (.int .i64 (q[k].2 : Int)) := by
  induction q generalizing k with
  | nil => simp at h
  | cons a q ih =>
    have e : fl (a :: q) = .int .i64 (a.1 : Int) :: .int .i64 (a.2 : Int) :: fl q := rfl
    rw [e]
    cases k with
    | zero => simp
    | succ k =>
      have h' : k < q.length := by simpa using h
      rw [show (k + 1) * 2 = k * 2 + 1 + 1 by omega]
      simpa using ih h'
def OwF (w : World) (lo : Nat) (A : Option Addr) (n c : Nat) (q : List (Nat × Nat)) : Prop := w.ownsRow lo 72 2 (.slice A n c) n (fl q)
theorem OwF.below {w w' : World} {lo n c : Nat} {A : Option Addr} {q : List (Nat × Nat)} (h : OwF w lo A n c q) (hb : Below w.heap.size w w') : OwF w' lo A n c q :=
  World.ownsRow.kept h (row := none) ⟨hb.os, hb.tape, hb.output, hb.size, fun k hk _ => hb.block k hk⟩ (by
    cases e : (Value.slice A n c).ownBlock
    · exact .inl rfl
    · exact .inr (by simp))
theorem found_info : (Tryd.prog.info? 72).map (fun i => (i.zero, i.size, i.bytes)) = some (some (.agg #[.int .i64 0, .int .i64 0]), 2, 16) := by kernel_rfl
/-- 'queue = append(queue, foundCell{cell, value})'. -/
theorem push_found {w : World} {ops : Array Oper} {rest : List Oper} {o : Oper} {a : Act} {Q : Exit → Act → World → Prop} (hgd : o.guard = none) (s x : Operand)
    (ho : o.op = .call { callee := .builtin .append, args := #[s, x], argTypes := #[69, 69] })
    (lo : Nat) (A : Option Addr) (n c : Nat) (q : List (Nat × Nat)) (p v : Nat) (hs : a.eval s = .slice A n c) (hx : a.eval x = .slice (some ⟨w.heap.size, 0, none⟩) 1 1) (hown : OwF w lo A n c q) (hn : n ≤ 1099511627776) (hlo : lo ≤ w.heap.size)
    (h : ∀ A' c' w', OwF w' lo A' (n + 1) c' (q ++ [(p, v)]) → (w.alloc (.cells #[.int .i64 (p : Int), .int .i64 (v : Int)] 72)).grownBy w' (Value.slice A n c).ownBlock → wpList Tryd.prog ops Q rest (a.put o.dst (.slice A' (n + 1) c')) w') :
    wpList Tryd.prog ops Q (o :: rest) a (w.alloc (.cells #[.int .i64 (p : Int), .int .i64 (v : Int)] 72)) := by
  obtain ⟨i0, hi, hz0, hz1, hz2⟩ := info_parts found_info
  refine wpList_append_own (P := Tryd.prog) _ hgd s x 69 ho lo 72 i0 (.agg #[.int .i64 0, .int .i64 0]) 2 16 Tryd.underlying69 hi hz0 hz1 hz2 rfl (by decide) _ n (fl q) hs (World.ownsRow.alloc hown _) ⟨w.heap.size, 0, none⟩ 1 1 [.int .i64 (p : Int), .int .i64 (v : Int)] hx rfl ?_ ?_ (by simp only [maxLen]; omega) (by omega) (by simp; omega) ?_
  · intro j u hj
    match j, hj with
    | 0, hj =>
      simp at hj
      subst hj
      simp [Addr.add]
    | 1, hj =>
      simp at hj
      subst hj
      simp [Addr.add]
  · intro u hu
    simp at hu
    rcases hu with rfl | rfl <;> rfl
  · intro v' w' h2 h3 _
    obtain ⟨g, cap, hv, _, _⟩ := World.ownsRow.form h2 (by omega)
    subst hv
    exact h _ _ _ (by unfold OwF; rw [fl_app]; exact h2) h3
theorem qV_step {m : List Int} {S u : Int} {N v : Nat} (h : 1 ≤ v) : qV m S N u v = if hC m S u v N = 1 then qV m S N u (v - 1) ++ [(hL m S u v N, v)] else qV m S N u (v - 1) := by
  obtain ⟨r, rfl⟩ : ∃ r, v = r + 1 := ⟨v - 1, by omega⟩
  rfl
theorem line_in {s u : Nat} (hs : s ∈ [2, 3, 4]) (hu : u < 2 * s) : ∀ j, j < s → ∃ q : Nat, lineAt s u j = (q : Int) ∧ q < s * s := by
  intro j hj
  simp at hs
  by_cases hx : (u : Int) < (s : Int)
  · rw [lineAt_row hx]
    refine ⟨u * s + j, by simp, ?_⟩
    rcases hs with rfl | rfl | rfl <;> omega
  · rw [lineAt_col hx]
    refine ⟨j * s + u - s, ?_, ?_⟩
    · rcases hs with rfl | rfl | rfl <;> omega
    · rcases hs with rfl | rfl | rfl <;> omega
theorem OwF.set {w : World} {lo lo' g n c n' c' j : Nat} {A : Option Addr} {q : List (Nat × Nat)} {xs : List Int} (h : OwF w lo A n c q) (ho : Ow w lo' (some ⟨g, 0, none⟩) n' c' xs) (v : Value) : OwF (w.setCell ⟨g, j, none⟩ v) lo A n c q := by
  refine World.ownsRow.kept h (row := some g) grown_set ?_
  rcases h.2 with ⟨e1, _⟩ | ⟨g1, cap1, cur1, e1, _, hr1, _⟩
  · rw [e1]; exact .inl rfl
  · refine .inr (fun e2 => ?_)
    rw [e1] at e2
    have e3 : g1 = g := by simpa [Value.ownBlock] using e2
    subst e3
    rcases ho.2 with ⟨e4, _⟩ | ⟨g2, cap2, cur2, e4, _, hr2, _⟩
    · cases e4
    · injection e4 with e4 _ _
      injection e4 with e4
      injection e4 with e4 _ _
      subst e4
      rw [hr1] at hr2
      injection hr2 with hr2
      injection hr2 with _ h2 _
      exact absurd h2 (by decide)
theorem OwF.cells {w : World} {lo n c : Nat} {A : Option Addr} {q : List (Nat × Nat)} (h : OwF w lo A n c q) {k : Nat} (hk : k < n) : ∃ g, A = some ⟨g, 0, none⟩ ∧ g < w.heap.size ∧ w.cell? ⟨g, k * 2, none⟩ = some (.int .i64 ((q.getD k (0, 0)).1 : Int)) ∧ w.cell? ⟨g, k * 2 + 1, none⟩ = some (.int .i64 ((q.getD k (0, 0)).2 : Int)) := by
  obtain ⟨g, cap, hv, _, hg⟩ := World.ownsRow.form h (by omega)
  injection hv with hA _ _
  subst hA
  have hl := h.1
  rw [fl_len] at hl
  have hkq : k < q.length := by omega
  have e := fl_get hkq
  have hd : q.getD k (0, 0) = q[k] := by simp [List.getD_eq_getElem?_getD, hkq]
  refine ⟨g, rfl, hg, ?_, ?_⟩
  · rw [hd, World.ownsRow.cellAt h (k * 2) (by omega)]; exact e.1
  · rw [hd, World.ownsRow.cellAt h (k * 2 + 1) (by omega)]; exact e.2
end Go.Proofs.YtgejahkdiciplaaDoor
set_option maxRecDepth 8000
namespace Go.Proofs.YtgejahkdiciplaaDoor
open Go.ChangeShapes Go.WideShapes Go.ChangeAt Go.RowKit
/-- masks within masks, bit by bit. -/
def Wi (a b : List Int) : Prop := ∀ k, k < b.length → bits .andNot .i64 (nth a k) (nth b k) = 0
theorem an_self : ∀ x, x < 32 → bits .andNot .i64 (x : Nat) (x : Nat) = 0 := by decide +kernel
theorem an_and : ∀ x, x < 32 → ∀ v, v < 5 → ∀ y, y < 32 → bits .andNot .i64 (x : Nat) (y : Nat) = 0 → bits .andNot .i64 (bits .and .i64 (x : Nat) (2 ^ v)) (y : Nat) = 0 := by decide +kernel
theorem and_bit : ∀ x, x < 32 → ∀ v, v < 5 → (bits .and .i64 (x : Nat) (2 ^ v)).toNat.testBit v = x.testBit v := by decide +kernel
theorem Wi.refl {m : List Int} {s : Int} (hm : mvd m s = true) : Wi m m := fun k hk => by
  obtain ⟨x0, x1, _⟩ := mvd_nth hm k
  obtain ⟨x, hx⟩ := Int.eq_ofNat_of_zero_le x0
  rw [hx]; exact an_self x (by omega)
theorem within_any (A A' : Option Addr) (c c' n n' B B' : Nat) (xs ys : List Int) (w : World) (h : Rd w B A n xs) (h' : Rd w B' A' n' ys) (hnn : n = n') (hw : Hid (Wi xs ys)) (hm : n ≤ 1099511627776) :
    Calls Tryd.prog 30 #[.slice A n c, .slice A' n' c'] w fun e w' => e = .returned (.bool true) ∧ Below w.heap.size w w' := by
  subst hnn
  have hl' := Lib.hid h'.1
  go_enter Tryd.func30, Tryd.ntmps30
  go_wp2
  go_loopw [5] (fun i wr => ∃ k : Nat, k ≤ n ∧ i = .int .i64 k ∧ Below w.heap.size w wr ∧ Rd wr B A n xs ∧ Rd wr B' A' n ys) (fun i _ => n - (intOf i).toNat)
  case atStart => exact ⟨0, Nat.zero_le _, rfl, Below.refl _ _, h, h'⟩
  case round =>
    obtain ⟨k, hk, rfl, hb, hr, hr'⟩ := hrel
    by_cases hlt : k < n
    · obtain ⟨b, off, rfl, hbB, hck⟩ := hr.at_ hlt
      obtain ⟨b', off', rfl, hbB', hck'⟩ := hr'.at_ hlt
      have hltI : (k : Int) < (n : Int) := by omega
      have hne : (bits .andNot .i64 (nth xs k) (nth ys k) != 0) = false := by rw [hw.out k (by rw [hl'.out]; exact hlt)]; rfl
      go_wp2
      go_quiet (fail)
      go_wp2
      go_roundw
      case rel => exact ⟨k + 1, by omega, by go_num, below_drewN hb _, hr, hr'⟩
      case measure => simp [intOf]; omega
    · obtain rfl : k = n := by omega
      go_wp2
      go_ret
      exact ⟨rfl, hb⟩
set_option maxHeartbeats 1000000 in
theorem keeps_any (A A' : Option Addr) (c c' n n' B B' : Nat) (m x : List Int) (s : Int) (w : World) (h : Rd w B A n m) (h' : Rd w B' A' n' x) (hB : B ≤ w.heap.size) (hB' : B' ≤ w.heap.size) (hm : n ≤ 1099511627776) (hm' : n' ≤ 1099511627776) (h64 : B64 x) (s2 : 2 ≤ s) (s4 : s ≤ 4)
    (hk : Hid (∀ q : Nat, sqSolved (sqn s q) s = true → mhB m s (sqn s q) = true → mhB x s (sqn s q) = true)) :
    Calls Tryd.prog 31 #[.slice A n c, .slice A' n' c', .int .i64 s] w fun e w' => e = .returned (.bool true) ∧ Below w.heap.size w w' := by
  have hsb : -9223372036854775808 ≤ s ∧ s ≤ 9223372036854775807 := by omega
  go_enter Tryd.func31, Tryd.ntmps31
  go_wp2
  go_loopw [7] (fun i wr => ∃ k : Nat, k ≤ 14 ∧ i = .int .i64 k ∧ Below w.heap.size w wr) (fun i _ => 14 - (intOf i).toNat)
  case atStart => exact ⟨0, Nat.zero_le _, rfl, Below.refl _ _⟩
  case round =>
    obtain ⟨k, hk14, rfl, hb⟩ := hrel
    by_cases hlt : k < 14
    · have hltI : (k : Int) < 14 := by omega
      have HS := Lib.hid (fun w' => specSquareNumber s (k : Int) w' (by omega) (by omega))
      by_cases hc : (k : Int) < sqCnt s
      · obtain ⟨hl, hsv, _⟩ := sqn_some s2 s4 (by omega : (0 : Int) ≤ k) hc
        obtain ⟨q4, q16⟩ := sq_bd s2 s4
        obtain ⟨ng, hng⟩ : ∃ ng : Nat, (sqn s k).length = ng := ⟨_, rfl⟩
        have hng4 : 4 ≤ ng := by omega
        have hng16 : ng ≤ 16 := by omega
        have hnz : ((ng : Int) == 0) = false := by simp only [beq_eq_false_iff_ne]; omega
        have Hng := Lib.hid hng
        have Hk := Lib.hid (hk.out k hsv)
        clear hl hsv hng hc q4 q16
        have hX : ∃ bb, mhB x s (sqn s k) = bb := ⟨_, rfl⟩
        obtain ⟨bb, hbb⟩ := hX
        have Hbb := Lib.hid hbb
        cases hmh : mhB m s (sqn s k)
        · go_wp2_with (first
            | (go_at_call 69; refine (HS.out _).mono ?_; rintro e w2 ⟨Ag, cg, rfl, hog, hb2⟩; rw [Hng.out] at hog ⊢; have h02 := step hb hb2; have hrg := hog.rd; have hrm := h.below (h02.mono hB); have hBm := Nat.le_trans hB h02.size)
            | (go_at_call 70; refine (specMasksHave A c n B m s Ag cg ng _ (sqn s k) _ hrm hBm hm hrg (Nat.le_refl _) (by omega) hsb).mono ?_; rintro e w3 ⟨rfl, hb3⟩; rw [hmh]; have h03 := step h02 hb3))
          go_roundw
          case rel => exact ⟨k + 1, by omega, by go_num, h03⟩
          case measure => simp [intOf]; omega
        · have hx := Lib.hid (Hk.out hmh)
          clear hbb
          go_wp2_with (first
            | (go_at_call 69; refine (HS.out _).mono ?_; rintro e w2 ⟨Ag, cg, rfl, hog, hb2⟩; rw [Hng.out] at hog ⊢; have h02 := step hb hb2; have hrg := hog.rd; have hrm := h.below (h02.mono hB); have hBm := Nat.le_trans hB h02.size)
            | (go_at_call 70; refine (specMasksHave A c n B m s Ag cg ng _ (sqn s k) _ hrm hBm hm hrg (Nat.le_refl _) (by omega) hsb).mono ?_; rintro e w3 ⟨rfl, hb3⟩; rw [hmh]; have h03 := step h02 hb3; have hrg3 := hrg.below hb3; have hrx := h'.below (h03.mono hB'); have hBx := Nat.le_trans hB' h03.size; have hBg := hb3.size)
            | (go_at_call 25; refine (implMasksHave A' c' n' B' x s Ag cg ng _ (sqn s k) _ hrx h64 hBx hm' hrg3 hBg (by omega) hsb).mono ?_; rintro e w4 ⟨rfl, hb4⟩; rw [hx.out]; have h04 := step h03 hb4))
          go_roundw
          case rel => exact ⟨k + 1, by omega, by go_num, h04⟩
          case measure => simp [intOf]; omega
      · have hz := Lib.hid (sqn_none (n := (k : Int)) s2 s4 (by omega))
        go_wp2_with (go_at_call 69; refine (HS.out _).mono ?_; rintro e w2 ⟨Ag, cg, rfl, hog, hb2⟩; rw [hz.out])
        go_ret
        exact ⟨rfl, step hb hb2⟩
    · obtain rfl : k = 14 := by omega
      go_wp2
      go_ret
      exact ⟨rfl, hb⟩
end Go.Proofs.YtgejahkdiciplaaDoor
set_option maxRecDepth 8000
namespace Go.Proofs.YtgejahkdiciplaaDoor
open Go.ChangeShapes Go.WideShapes Go.ChangeAt Go.RowKit
theorem line_at {s u : Nat} (hs : s ∈ [2, 3, 4]) (hu : u < 2 * s) : ∀ j, j < s → (lineAt s u j).toNat < s * s := by
  intro j hj
  simp at hs
  by_cases hx : (u : Int) < (s : Int)
  · rw [lineAt_row hx]
    rcases hs with rfl | rfl | rfl <;> omega
  · rw [lineAt_col hx]
    rcases hs with rfl | rfl | rfl <;> omega
theorem hC_none {m : List Int} {S u : Int} {v : Nat} : ∀ {N : Nat}, hC m S u v N = 0 → ∀ k, k < N → hB m S u v k = false := by
  intro N
  induction N with
  | zero => intro _ k hk; omega
  | succ N ih =>
    intro h k hk
    simp only [hC] at h
    split at h
    · omega
    · next hn =>
      by_cases e : k = N
      · subst e; simpa using hn
      · exact ih h k (by omega)
theorem hL_one {m : List Int} {S u : Int} {v : Nat} : ∀ {N : Nat}, hC m S u v N = 1 → ∀ k, k < N → hB m S u v k = true → hL m S u v N = (lineAt S u k).toNat := by
  intro N
  induction N with
  | zero => intro _ k hk; omega
  | succ N ih =>
    intro h k hk hb
    simp only [hC] at h
    simp only [hL]
    split at h
    · next hn =>
      rw [if_pos hn]
      by_cases e : k = N
      · subst e; rfl
      · have := hC_none (by omega : hC m S u v N = 0) k (by omega)
        rw [hb] at this; cases this
    · next hn =>
      rw [if_neg hn]
      by_cases e : k = N
      · subst e; exact absurd hb hn
      · exact ih h k (by omega) hb
theorem inr_bit {x : Int} (h0 : 0 ≤ x) (h1 : x ≤ 30) {v : Nat} (hv : v ≤ 4) : (bits .and .i64 x (2 ^ v)).toNat.testBit v = x.toNat.testBit v := by
  obtain ⟨y, rfl⟩ := Int.eq_ofNat_of_zero_le h0
  rw [Int.toNat_natCast]
  exact and_bit y (by omega) v (by omega)
/-- a solved grid within masks stays within them. -/
theorem hVs_in {m g o : List Int} {s : Nat} {u : Nat} (hs : s ∈ [2, 3, 4]) (hm : mvd m s = true) (hsb : Sub o m) (hu : u < 2 * s)
    (hg : ∀ v : Nat, 1 ≤ v → v ≤ s → ∃ i, i < s ∧ lineV g s u i = v) (hin : ∀ k, k < s * s → inMask m g k = true) (ho : ∀ k, k < s * s → inMask o g k = true) (r : Nat) (hr : r ≤ s) : ∀ k, k < s * s → inMask (hVs m s s u o r) g k = true := by
  induction r with
  | zero => exact ho
  | succ r ih =>
    have ih := ih (by omega)
    simp only [hVs]
    split
    · next h1 =>
      obtain ⟨i, hi, hv⟩ := hg (r + 1) (by omega) hr
      have hp := line_at hs hu i hi
      have hbi : hB m s u (r + 1) i = true := by
        have := hin _ hp
        unfold inMask at this
        unfold hB
        unfold lineV at hv
        rw [hv] at this
        exact this
      have he := hL_one h1 i hi hbi
      rw [he]
      have hln : m.length = s * s := by
        have := (mvd_at hm).2.1
        simp at hs
        rcases hs with rfl | rfl | rfl <;> omega
      have hlo : (hVs m s s u o r).length = s * s := by rw [hVs_len, hsb.1, hln]
      intro k hk
      unfold inMask
      rw [nth_set (by rw [hlo]; exact hp)]
      split
      · next e =>
        subst e
        have hs4 : s ≤ 4 := by simp at hs; omega
        have hsub := hVs_sub (u := (u : Int)) (S := (s : Int)) (N := s) hm hsb r (by omega)
        obtain ⟨⟨x0, x1, _⟩, _⟩ := hsub.at_ hm (by rw [hln]; exact hp)
        have := ih _ hp
        unfold inMask at this
        unfold lineV at hv
        rw [hv] at this ⊢
        have e2 : ((r + 1 : Nat) : Int).toNat = r + 1 := by omega
        rw [e2] at this ⊢
        rw [inr_bit x0 x1 (by omega)]
        exact this
      · exact ih k hk
    · exact ih
theorem hU_in {m g : List Int} {s : Nat} (hs : s ∈ [2, 3, 4]) (hm : mvd m s = true)
    (hg : ∀ u, u < 2 * s → ∀ v : Nat, 1 ≤ v → v ≤ s → ∃ i, i < s ∧ lineV g s (u : Nat) i = v) (hin : ∀ k, k < s * s → inMask m g k = true) (u : Nat) (hu : u ≤ 2 * s) : ∀ k, k < s * s → inMask (hU m s s u) g k = true := by
  have hs4 : s ≤ 4 := by simp at hs; omega
  induction u with
  | zero => exact hin
  | succ u ih =>
    simp only [hU]
    exact hVs_in hs hm (hU_sub hm hs4 u) (by omega) (hg u (by omega)) hin (ih (by omega)) s (Nat.le_refl _)
theorem sol_lines {g : List Int} {s : Nat} (hs : s ∈ [2, 3, 4]) (hl : g.length = s * s) (h : sqSolved g s = true) : ∀ u, u < 2 * s → ∀ v : Nat, 1 ≤ v → v ≤ s → ∃ i, i < s ∧ lineV g s (u : Nat) i = v := by
  obtain ⟨h1, h2, h3⟩ := (solved_iff hl).1 h
  intro u hu v v1 v2
  have hd : dupTo (lineV g s (u : Nat)) s = false := by
    cases e : dupTo (lineV g s (u : Nat)) s
    · rfl
    · have := clash_at (xs := g) (size := (s : Int)) (l := u) (by omega) (by rw [Int.toNat_natCast]; exact e)
      rw [h2] at this; cases this
  have := pig (f := lineV g s (u : Nat)) hs (fun i hi => by
    have hp := line_at hs hu i hi
    have hz := h3 _ hp
    obtain ⟨q0, q1⟩ := gv_nth h1 (k := (lineAt s u i).toNat) (by rw [hl]; exact hp)
    unfold lineV
    omega) hd (v := (v : Int)) (by omega) (by omega)
  exact hasTo_iff.1 this
theorem nh_keeps {m g : List Int} {s : Int} (hm : mvd m s = true) (hg : sqSolved g s = true) (h : mhB m s g = true) : mhB (nhL m s) s g = true := by
  obtain ⟨⟨s2, s4⟩, hlm, _, _⟩ := mvd_at hm
  obtain ⟨t, rfl⟩ : ∃ t : Nat, s = t := ⟨s.toNat, by omega⟩
  have hs : t ∈ [2, 3, 4] := by simp; omega
  simp only [mhB, Bool.and_eq_true, List.all_eq_true, List.mem_range] at h ⊢
  obtain ⟨⟨_, hgv⟩, hin⟩ := h
  have hlg := gv_len hgv
  have hln : g.length = t * t := by
    simp at hs
    rcases hs with rfl | rfl | rfl <;> omega
  refine ⟨⟨(nh_sub hm).mvd_ hm, hgv⟩, ?_⟩
  rw [hln] at hin ⊢
  have := hU_in hs hm (sol_lines hs hln hg) hin (2 * t) (Nat.le_refl _)
  unfold nhL
  rw [if_pos hm, Int.toNat_natCast]
  exact this
theorem hVs_wi {m o : List Int} {s : Int} {S : Int} {N : Nat} {u : Int} (hm : mvd m s = true) (h : Sub o m) (hw : Wi o m) (r : Nat) (hr : r ≤ 4) : Wi (hVs m S N u o r) m := by
  induction r with
  | zero => exact hw
  | succ r ih =>
    have ih := ih (by omega)
    simp only [hVs]
    split
    · have hsub := hVs_sub (u := u) (S := S) (N := N) hm h r (by omega)
      intro k hk
      rw [show nth ((hVs m S N u o r).set (hL m S u (r + 1) N) (bits .and .i64 (nth (hVs m S N u o r) (hL m S u (r + 1) N)) (2 ^ (r + 1)))) k = if hL m S u (r + 1) N = k then bits .and .i64 (nth (hVs m S N u o r) (hL m S u (r + 1) N)) (2 ^ (r + 1)) else nth (hVs m S N u o r) k from ?_]
      · split
        · next e =>
          rw [e]
          obtain ⟨⟨x0, x1, _⟩, _⟩ := hsub.at_ hm hk
          obtain ⟨y0, y1, _⟩ := mvd_nth hm k
          have hz := ih k hk
          obtain ⟨x, hx⟩ := Int.eq_ofNat_of_zero_le x0
          obtain ⟨y, hy⟩ := Int.eq_ofNat_of_zero_le y0
          rw [hx, hy] at hz ⊢
          exact an_and x (by omega) (r + 1) (by omega) y (by omega) hz
        · exact ih k hk
      · by_cases hj : hL m S u (r + 1) N < (hVs m S N u o r).length
        · exact nth_set hj
        · rw [List.set_eq_of_length_le (by omega)]
          rw [if_neg (by have := hsub.1; omega)]
    · exact ih
theorem hU_wi {m : List Int} {s S : Int} {N : Nat} (hm : mvd m s = true) (hN : N ≤ 4) (u : Nat) : Wi (hU m S N u) m := by
  induction u with
  | zero => exact Wi.refl hm
  | succ u ih => simp only [hU]; exact hVs_wi hm (hU_sub hm hN u) ih N hN
theorem nh_wi {m : List Int} {s : Int} (hm : mvd m s = true) : Wi (nhL m s) m := by
  unfold nhL; rw [if_pos hm]; exact hU_wi hm (by have := (mvd_at hm).1; omega) _
end Go.Proofs.YtgejahkdiciplaaDoor
set_option maxRecDepth 8000
namespace Go.Proofs.YtgejahkdiciplaaDoor
open Go.ChangeShapes Go.WideShapes Go.ChangeAt Go.RowKit
theorem an_an : ∀ x, x < 32 → ∀ y, y < 32 → ∀ z, z < 32 → bits .andNot .i64 (x : Nat) (z : Nat) = 0 → bits .andNot .i64 (bits .andNot .i64 (x : Nat) (y : Nat)) (z : Nat) = 0 := by decide +kernel
theorem an_bit : ∀ x, x < 32 → ∀ y, y < 32 → ∀ v, v < 5 → (bits .andNot .i64 (x : Nat) (y : Nat)).toNat.testBit v = (x.testBit v && !y.testBit v) := by decide +kernel
def twoB (M a b v : Nat) : Bool := !((maskVals (M : Int)).length == 2 && M.testBit a && M.testBit b && a != b && v != a && v != b) || !M.testBit v
theorem two_key : ∀ M, M < 32 → ∀ a, a < 5 → ∀ b, b < 5 → ∀ v, v < 5 → twoB M a b v = true := by decide +kernel
/-- the cells of a line of a solved grid have different values. -/
theorem sol_ne {g : List Int} {s : Nat} (hs : s ∈ [2, 3, 4]) (hl : g.length = s * s) (h : sqSolved g s = true) {u : Nat} (hu : u < 2 * s) {i j : Nat} (hij : i ≠ j) (hi : i < s) (hj : j < s) : lineV g s (u : Nat) i ≠ lineV g s (u : Nat) j := by
  obtain ⟨h1, h2, h3⟩ := (solved_iff hl).1 h
  have hd : dupTo (lineV g s (u : Nat)) s = false := by
    cases e : dupTo (lineV g s (u : Nat)) s
    · rfl
    · have := clash_at (xs := g) (size := (s : Int)) (l := u) (by omega) (by rw [Int.toNat_natCast]; exact e)
      rw [h2] at this; cases this
  have hp : ∀ k, k < s → 0 < lineV g s (u : Nat) k := fun k hk => by
    have hp := line_at hs hu k hk
    have hz := h3 _ hp
    obtain ⟨q0, _⟩ := gv_nth h1 (k := (lineAt s u k).toNat) (by rw [hl]; exact hp)
    unfold lineV
    omega
  intro e
  have : dupTo (lineV g s (u : Nat)) s = true := by
    rw [dupTo_iff]
    rcases Nat.lt_or_gt_of_ne hij with hlt | hlt
    · exact ⟨i, j, hlt, hj, e, hp j hj⟩
    · exact ⟨j, i, hlt, hi, e.symm, hp i hi⟩
  rw [hd] at this; cases this
theorem len_of {m : List Int} {s : Nat} (hs : s ∈ [2, 3, 4]) (hm : mvd m s = true) : m.length = s * s := by
  have := (mvd_at hm).2.1
  simp at hs
  rcases hs with rfl | rfl | rfl <;> omega
theorem pIn_in {m g o : List Int} {s u a b : Nat} (hs : s ∈ [2, 3, 4]) (hm : mvd m s = true) (hsb : Sub o m) (hu : u < 2 * s) (hno : ∀ k, k < s → k ≠ a → k ≠ b → inMask (m.set (lcN s u k) (nth m (lcN s u a))) g (lcN s u k) = false) (hg4 : ∀ k, k < s * s → (nth g k).toNat < 5)
    (ho : ∀ k, k < s * s → inMask o g k = true) (K : Nat) (hK : K ≤ s) : ∀ k, k < s * s → inMask (pIn m s u a b o K) g k = true := by
  induction K with
  | zero => exact ho
  | succ K ih =>
    have ih := ih (by omega)
    simp only [pIn]
    split
    · next hne =>
      have hp : lcN s u K < s * s := line_at hs hu K (by omega)
      have hln := len_of hs hm
      have hsub := pIn_sub (u := (u : Int)) (S := (s : Int)) (a := a) (b := b) hm hsb K
      have hlo : (pIn m s u a b o K).length = s * s := by rw [hsub.1, hln]
      intro k hk
      unfold inMask
      rw [nth_set (by rw [hlo]; exact hp)]
      split
      · next e =>
        subst e
        obtain ⟨⟨x0, x1, _⟩, _⟩ := hsub.at_ hm (k := lcN s u K) (by rw [hln]; exact hp)
        obtain ⟨y0, y1, _⟩ := mvd_nth hm (lcN s u a)
        have h1 := ih _ hp
        have h2 := hno K (by omega) hne.1 hne.2
        unfold inMask at h1 h2
        rw [nth_set (by rw [hln]; exact hp), if_pos rfl] at h2
        obtain ⟨x, hx⟩ := Int.eq_ofNat_of_zero_le x0
        obtain ⟨y, hy⟩ := Int.eq_ofNat_of_zero_le y0
        rw [hx] at h1 ⊢
        rw [hy] at h2 ⊢
        rw [Int.toNat_natCast] at h1 h2
        rw [an_bit x (by omega) y (by omega) _ (hg4 _ hp), h1, h2]
        rfl
      · exact ih k hk
    · exact ih
theorem pB_in {m g o : List Int} {s u a : Nat} (hs : s ∈ [2, 3, 4]) (hm : mvd m s = true) (hsb : Sub o m) (hu : u < 2 * s) (hl : g.length = s * s) (hg : sqSolved g s = true) (hin : ∀ k, k < s * s → inMask m g k = true) (ha : a < s) (ho : ∀ k, k < s * s → inMask o g k = true) (b : Nat) (hb : b ≤ a) : ∀ k, k < s * s → inMask (pB m s s u a o b) g k = true := by
  have hg4 : ∀ k, k < s * s → (nth g k).toNat < 5 := fun k hk => by
    obtain ⟨h1, _, _⟩ := (solved_iff hl).1 hg
    obtain ⟨q0, q1⟩ := gv_nth h1 (k := k) (by omega)
    have := gv_size h1
    omega
  induction b with
  | zero => exact ho
  | succ b ih =>
    have ih := ih (by omega)
    simp only [pB]
    split
    · next hc =>
      refine pIn_in hs hm (pB_sub hm hsb b) hu (fun k hk hka hkb => ?_) hg4 ih s (Nat.le_refl _)
      have hln := len_of hs hm
      have hpa : lcN s u a < s * s := line_at hs hu a ha
      have hpb : lcN s u b < s * s := line_at hs hu b (by omega)
      have hpk : lcN s u k < s * s := line_at hs hu k hk
      have ma := hin _ hpa
      have mb := hin _ hpb
      have n1 : nth g (lcN s u a) ≠ nth g (lcN s u b) := sol_ne hs hl hg hu (by omega) ha (by omega)
      have n2 : nth g (lcN s u k) ≠ nth g (lcN s u a) := sol_ne hs hl hg hu hka hk ha
      have n3 : nth g (lcN s u k) ≠ nth g (lcN s u b) := sol_ne hs hl hg hu hkb hk (by omega)
      obtain ⟨h1, _, _⟩ := (solved_iff hl).1 hg
      have p1 := (gv_nth h1 (k := lcN s u a) (by omega)).1
      have p2 := (gv_nth h1 (k := lcN s u b) (by omega)).1
      have p3 := (gv_nth h1 (k := lcN s u k) (by omega)).1
      obtain ⟨y0, y1, _⟩ := mvd_nth hm (lcN s u a)
      unfold inMask at ma mb ⊢
      rw [← hc.1] at mb
      rw [nth_set (by rw [hln]; exact hpk), if_pos rfl]
      obtain ⟨M, hM⟩ := Int.eq_ofNat_of_zero_le y0
      have h2 := hc.2
      rw [hM] at ma mb h2 ⊢
      rw [Int.toNat_natCast] at ma mb ⊢
      have := two_key M (by omega) _ (hg4 _ hpa) _ (hg4 _ hpb) _ (hg4 _ hpk)
      unfold twoB at this
      rw [ma, mb, h2, bne_iff_ne.2 (show (nth g (lcN s u a)).toNat ≠ (nth g (lcN s u b)).toNat by omega), bne_iff_ne.2 (show (nth g (lcN s u k)).toNat ≠ (nth g (lcN s u a)).toNat by omega), bne_iff_ne.2 (show (nth g (lcN s u k)).toNat ≠ (nth g (lcN s u b)).toNat by omega)] at this
      simpa using this
    · exact ih
theorem pA_in {m g o : List Int} {s u : Nat} (hs : s ∈ [2, 3, 4]) (hm : mvd m s = true) (hsb : Sub o m) (hu : u < 2 * s) (hl : g.length = s * s) (hg : sqSolved g s = true) (hin : ∀ k, k < s * s → inMask m g k = true) (ho : ∀ k, k < s * s → inMask o g k = true) (a : Nat) (ha : a ≤ s) : ∀ k, k < s * s → inMask (pA m s s u o a) g k = true := by
  induction a with
  | zero => exact ho
  | succ a ih =>
    simp only [pA]
    exact pB_in hs hm (pA_sub hm hsb a) hu hl hg hin (by omega) (ih (by omega)) a (Nat.le_refl _)
theorem pU_in {m g : List Int} {s : Nat} (hs : s ∈ [2, 3, 4]) (hm : mvd m s = true) (hl : g.length = s * s) (hg : sqSolved g s = true) (hin : ∀ k, k < s * s → inMask m g k = true) (u : Nat) (hu : u ≤ 2 * s) : ∀ k, k < s * s → inMask (pU m s s u) g k = true := by
  induction u with
  | zero => exact hin
  | succ u ih =>
    simp only [pU]
    exact pA_in hs hm (pU_sub hm u) (by omega) hl hg hin (ih (by omega)) s (Nat.le_refl _)
/-- the third technique loses no solved grid. -/
theorem np_keeps {m g : List Int} {s : Int} (hm : mvd m s = true) (hg : sqSolved g s = true) (h : mhB m s g = true) : mhB (npL m s) s g = true := by
  obtain ⟨⟨s2, s4⟩, _, _, _⟩ := mvd_at hm
  obtain ⟨t, rfl⟩ : ∃ t : Nat, s = t := ⟨s.toNat, by omega⟩
  have hs : t ∈ [2, 3, 4] := by simp; omega
  simp only [mhB, Bool.and_eq_true, List.all_eq_true, List.mem_range] at h ⊢
  obtain ⟨⟨_, hgv⟩, hin⟩ := h
  have hlg := gv_len hgv
  have hln : g.length = t * t := by
    simp at hs
    rcases hs with rfl | rfl | rfl <;> omega
  refine ⟨⟨(np_sub hm).mvd_ hm, hgv⟩, ?_⟩
  rw [hln] at hin ⊢
  have := pU_in hs hm hln hg hin (2 * t) (Nat.le_refl _)
  unfold npL
  rw [if_pos hm, Int.toNat_natCast]
  exact this
theorem Wi.anput {o m : List Int} {s y : Int} (h : Wi o m) (hs : Sub o m) (hm : mvd m s = true) (hy : 0 ≤ y ∧ y ≤ 30) (p : Nat) : Wi (o.set p (bits .andNot .i64 (nth o p) y)) m := fun k hk => by
  by_cases hp : p < o.length
  · rw [nth_set hp]
    split
    · next e =>
      subst e
      obtain ⟨⟨x0, x1, _⟩, _⟩ := hs.at_ hm hk
      obtain ⟨z0, z1, _⟩ := mvd_nth hm p
      have hz := h p hk
      obtain ⟨x, hx⟩ := Int.eq_ofNat_of_zero_le x0
      obtain ⟨z, hzz⟩ := Int.eq_ofNat_of_zero_le z0
      obtain ⟨yy, hyy⟩ := Int.eq_ofNat_of_zero_le hy.1
      rw [hx, hzz] at hz ⊢
      rw [hyy]
      exact an_an x (by omega) yy (by omega) z (by omega) hz
    · exact h k hk
  · rw [List.set_eq_of_length_le (by omega)]
    exact h k hk
theorem pIn_wi {m o : List Int} {s S u : Int} {a b : Nat} (hm : mvd m s = true) (hs : Sub o m) (h : Wi o m) (k : Nat) : Wi (pIn m S u a b o k) m := by
  induction k with
  | zero => exact h
  | succ k ih =>
    simp only [pIn]
    split
    · exact ih.anput (pIn_sub hm hs k) hm ⟨(mvd_nth hm _).1, (mvd_nth hm _).2.1⟩ _
    · exact ih
theorem pB_wi {m o : List Int} {s S u : Int} {N a : Nat} (hm : mvd m s = true) (hs : Sub o m) (h : Wi o m) (b : Nat) : Wi (pB m S N u a o b) m := by
  induction b with
  | zero => exact h
  | succ b ih =>
    simp only [pB]
    split
    · exact pIn_wi hm (pB_sub hm hs b) ih N
    · exact ih
theorem pA_wi {m o : List Int} {s S u : Int} {N : Nat} (hm : mvd m s = true) (hs : Sub o m) (h : Wi o m) (a : Nat) : Wi (pA m S N u o a) m := by
  induction a with
  | zero => exact h
  | succ a ih => simp only [pA]; exact pB_wi hm (pA_sub hm hs a) ih a
theorem pU_wi {m : List Int} {s S : Int} {N : Nat} (hm : mvd m s = true) (u : Nat) : Wi (pU m S N u) m := by
  induction u with
  | zero => exact Wi.refl hm
  | succ u ih => simp only [pU]; exact pA_wi hm (pU_sub hm u) ih N
theorem np_wi {m : List Int} {s : Int} (hm : mvd m s = true) : Wi (npL m s) m := by
  unfold npL; rw [if_pos hm]; exact pU_wi hm _
/-- how many pairs of a line there are: of cell a and those before b; of the first a cells. -/
def prB (m : List Int) (S u : Int) (a : Nat) : Nat → Nat
  | 0 => 0
  | b + 1 => if nth m (lcN S u a) = nth m (lcN S u b) ∧ (maskVals (nth m (lcN S u a))).length = 2 then prB m S u a b + 1 else prB m S u a b
def prA (m : List Int) (S u : Int) : Nat → Nat
  | 0 => 0
  | a + 1 => prA m S u a + prB m S u a a
theorem pB_none {m o : List Int} {S u : Int} {N a : Nat} : ∀ {b : Nat}, prB m S u a b = 0 → pB m S N u a o b = o := by
  intro b
  induction b with
  | zero => intro _; rfl
  | succ b ih =>
    intro h
    simp only [prB] at h
    simp only [pB]
    split at h
    · omega
    · next hn => rw [if_neg hn]; exact ih h
theorem pA_none {m o : List Int} {S u : Int} {N : Nat} : ∀ {a : Nat}, prA m S u a = 0 → pA m S N u o a = o := by
  intro a
  induction a with
  | zero => intro _; rfl
  | succ a ih =>
    intro h
    simp only [prA] at h
    simp only [pA]
    rw [ih (by omega)]
    exact pB_none (by omega)
theorem pU_none {m : List Int} {S : Int} {N : Nat} : ∀ {u : Nat}, (∀ l : Nat, l < u → prA m S l N = 0) → pU m S N u = m := by
  intro u
  induction u with
  | zero => intro _; rfl
  | succ u ih =>
    intro h
    simp only [pU]
    rw [ih (fun l hl => h l (by omega))]
    exact pA_none (h u (by omega))
/-- without pairs nothing changes. -/
theorem np_none {m : List Int} {s : Int} (hm : mvd m s = true) (h : ∀ l : Nat, l < 2 * s.toNat → prA m s l s.toNat = 0) : npL m s = m := by
  unfold npL; rw [if_pos hm]; exact pU_none h
theorem prB_le {m : List Int} {S u : Int} {a : Nat} (b : Nat) : prB m S u a b ≤ b := by
  induction b with
  | zero => exact Nat.le_refl _
  | succ b ih => simp only [prB]; split <;> omega
/-- at most as many pairs as two cells of a line. -/
theorem prA_le {m : List Int} {S u : Int} (a : Nat) : 2 * prA m S u a ≤ a * (a - 1) := by
  induction a with
  | zero => exact Nat.le_refl _
  | succ a ih =>
    have := prB_le (m := m) (S := S) (u := u) (a := a) a
    simp only [prA]
    rcases a with _ | a
    · simp at *; omega
    · simp only [Nat.add_sub_cancel] at ih ⊢
      have e : (a + 1 + 1) * (a + 1) = (a + 1) * a + 2 * (a + 1) := by rw [Nat.mul_comm (a + 1 + 1), show a + 1 + 1 = a + 2 from rfl, Nat.mul_add, Nat.mul_comm 2]
      omega
end Go.Proofs.YtgejahkdiciplaaDoor
set_option maxRecDepth 8000
namespace Go.Proofs.YtgejahkdiciplaaDoor
open Go.ChangeShapes Go.WideShapes Go.ChangeAt Go.RowKit
/-! how often each mask stands in a line, and what its pairs take away: the program's way, and that it is the reference's. -/
def cN (v : Nat → Nat) (x : Nat) : Nat → Nat
  | 0 => 0
  | k + 1 => if v k = x then cN v x k + 1 else cN v x k
def two (x : Nat) : Bool := Lib.onesCount x == 2
def tkC (C : Nat → Nat) (x P : Nat) : Bool := two P && (decide (2 < C P) || (C P == 2 && P != x))
def tkF (C : Nat → Nat) (x : Nat) : Nat → Nat
  | 0 => 0
  | P + 1 => if tkC C x P = true then tkF C x P ||| P else tkF C x P
def prF (C : Nat → Nat) : Nat → Nat
  | 0 => 0
  | P + 1 => if two P = true then prF C P + C P * (C P - 1) / 2 else prF C P
theorem cN_le (v : Nat → Nat) (x k : Nat) : cN v x k ≤ k := by
  induction k with
  | zero => exact Nat.le_refl _
  | succ k ih => simp only [cN]; split <;> omega
theorem tkF_bit {C : Nat → Nat} {x j : Nat} : ∀ K, (tkF C x K).testBit j = true ↔ ∃ P, P < K ∧ tkC C x P = true ∧ P.testBit j = true := by
  intro K
  induction K with
  | zero => simp [tkF]
  | succ K ih =>
    simp only [tkF]
    constructor
    · intro h
      split at h
      · next hc =>
        rw [Nat.testBit_or, Bool.or_eq_true] at h
        rcases h with h | h
        · obtain ⟨P, h1, h2⟩ := ih.1 h
          exact ⟨P, by omega, h2⟩
        · exact ⟨K, by omega, hc, h⟩
      · obtain ⟨P, h1, h2⟩ := ih.1 h
        exact ⟨P, by omega, h2⟩
    · rintro ⟨P, h1, h2, h3⟩
      by_cases e : P = K
      · subst e
        rw [if_pos h2, Nat.testBit_or, h3, Bool.or_true]
      · have := ih.2 ⟨P, by omega, h2, h3⟩
        split
        · rw [Nat.testBit_or, this, Bool.true_or]
        · exact this
theorem tkF_lt (C : Nat → Nat) (x K : Nat) (hK : K ≤ 32) : tkF C x K < 32 := by
  induction K with
  | zero => simp [tkF]
  | succ K ih =>
    simp only [tkF]
    split
    · exact Nat.or_lt_two_pow (n := 5) (ih (by omega)) (by omega)
    · exact ih (by omega)
/-- what the pairs take away from cell k, as the reference goes: of cell a and those before b; of the first a cells. -/
def tB (v : Nat → Nat) (k a : Nat) : Nat → Nat
  | 0 => 0
  | b + 1 => if (v a = v b ∧ two (v a) = true) ∧ (k ≠ a ∧ k ≠ b) then tB v k a b ||| v a else tB v k a b
def tA (v : Nat → Nat) (k : Nat) : Nat → Nat
  | 0 => 0
  | a + 1 => tA v k a ||| tB v k a a
theorem tB_bit {v : Nat → Nat} {k a j : Nat} : ∀ b, (tB v k a b).testBit j = true ↔ ∃ i, i < b ∧ v a = v i ∧ two (v a) = true ∧ k ≠ a ∧ k ≠ i ∧ (v a).testBit j = true := by
  intro b
  induction b with
  | zero => simp [tB]
  | succ b ih =>
    simp only [tB]
    constructor
    · intro h
      split at h
      · next hc =>
        rw [Nat.testBit_or, Bool.or_eq_true] at h
        rcases h with h | h
        · obtain ⟨i, h1, h2⟩ := ih.1 h
          exact ⟨i, by omega, h2⟩
        · exact ⟨b, by omega, hc.1.1, hc.1.2, hc.2.1, hc.2.2, h⟩
      · obtain ⟨i, h1, h2⟩ := ih.1 h
        exact ⟨i, by omega, h2⟩
    · rintro ⟨i, h1, h2, h3, h4, h5, h6⟩
      by_cases e : i = b
      · subst e
        rw [if_pos ⟨⟨h2, h3⟩, h4, h5⟩, Nat.testBit_or, h6, Bool.or_true]
      · have := ih.2 ⟨i, by omega, h2, h3, h4, h5, h6⟩
        split
        · rw [Nat.testBit_or, this, Bool.true_or]
        · exact this
theorem tA_bit {v : Nat → Nat} {k j : Nat} : ∀ n, (tA v k n).testBit j = true ↔ ∃ a b, a < n ∧ b < a ∧ v a = v b ∧ two (v a) = true ∧ k ≠ a ∧ k ≠ b ∧ (v a).testBit j = true := by
  intro n
  induction n with
  | zero => simp [tA]
  | succ n ih =>
    simp only [tA]
    rw [Nat.testBit_or, Bool.or_eq_true, ih, tB_bit]
    constructor
    · rintro (⟨a, b, h1, h2⟩ | ⟨i, h1, h2⟩)
      · exact ⟨a, b, by omega, h2⟩
      · exact ⟨n, i, by omega, h1, h2⟩
    · rintro ⟨a, b, h1, h2, h3⟩
      by_cases e : a = n
      · subst e; exact .inr ⟨b, h2, h3⟩
      · exact .inl ⟨a, b, by omega, h2, h3⟩
theorem tB_lt {v : Nat → Nat} {k a : Nat} (ha : v a < 32) (b : Nat) : tB v k a b < 32 := by
  induction b with
  | zero => simp [tB]
  | succ b ih =>
    simp only [tB]
    split
    · exact Nat.or_lt_two_pow (n := 5) ih ha
    · exact ih
theorem tA_lt {v : Nat → Nat} {k : Nat} (n : Nat) (hv : ∀ i, i < n → v i < 32) : tA v k n < 32 := by
  induction n with
  | zero => simp [tA]
  | succ n ih => exact Nat.or_lt_two_pow (n := 5) (ih fun i hi => hv i (by omega)) (tB_lt (hv n (by omega)) n)
/-- how many of the first cells, apart from k, have mask P. -/
def cX (v : Nat → Nat) (P k : Nat) : Nat → Nat
  | 0 => 0
  | a + 1 => if v a = P ∧ k ≠ a then cX v P k a + 1 else cX v P k a
theorem cX_pos {v : Nat → Nat} {P k : Nat} : ∀ n, 1 ≤ cX v P k n ↔ ∃ b, b < n ∧ v b = P ∧ k ≠ b := by
  intro n
  induction n with
  | zero => simp [cX]
  | succ n ih =>
    simp only [cX]
    constructor
    · intro h
      split at h
      · next hc => exact ⟨n, by omega, hc⟩
      · obtain ⟨b, h1, h2⟩ := ih.1 h
        exact ⟨b, by omega, h2⟩
    · rintro ⟨b, h1, h2⟩
      by_cases e : b = n
      · subst e; rw [if_pos h2]; omega
      · have := ih.2 ⟨b, by omega, h2⟩
        split <;> omega
theorem cX_two {v : Nat → Nat} {P k : Nat} : ∀ n, 2 ≤ cX v P k n ↔ ∃ a b, a < n ∧ b < a ∧ v a = P ∧ v b = P ∧ k ≠ a ∧ k ≠ b := by
  intro n
  induction n with
  | zero => simp [cX]
  | succ n ih =>
    simp only [cX]
    constructor
    · intro h
      split at h
      · next hc =>
        obtain ⟨b, h1, h2, h3⟩ := (cX_pos (v := v) (P := P) (k := k) n).1 (by omega)
        exact ⟨n, b, by omega, h1, hc.1, h2, hc.2, h3⟩
      · obtain ⟨a, b, h1, h2⟩ := ih.1 h
        exact ⟨a, b, by omega, h2⟩
    · rintro ⟨a, b, h1, h2, h3, h4, h5, h6⟩
      by_cases e : a = n
      · subst e
        have := (cX_pos a).2 ⟨b, h2, h4, h6⟩
        rw [if_pos ⟨h3, h5⟩]; omega
      · have := ih.2 ⟨a, b, by omega, h2, h3, h4, h5, h6⟩
        split <;> omega
theorem cN_X {v : Nat → Nat} {P k : Nat} : ∀ n, cN v P n = cX v P k n + if k < n ∧ v k = P then 1 else 0 := by
  intro n
  induction n with
  | zero => simp [cN, cX]
  | succ n ih =>
    by_cases e : k = n
    · subst e
      have e1 : (if k < k ∧ v k = P then 1 else 0) = 0 := if_neg (fun h => absurd h.1 (by omega))
      rw [e1] at ih
      have e2 : cX v P k (k + 1) = cX v P k k := by simp only [cX]; rw [if_neg (fun h => h.2 rfl)]
      rw [e2]
      simp only [cN]
      by_cases h : v k = P
      · rw [if_pos h, if_pos ⟨by omega, h⟩]; omega
      · rw [if_neg h, if_neg (fun h' => h h'.2)]; omega
    · have e3 : (if k < n + 1 ∧ v k = P then 1 else 0) = if k < n ∧ v k = P then 1 else 0 := by
        by_cases h2 : k < n ∧ v k = P
        · rw [if_pos h2, if_pos ⟨by omega, h2.2⟩]
        · rw [if_neg h2, if_neg (fun h' => h2 ⟨by omega, h'.2⟩)]
      rw [e3]
      simp only [cN, cX]
      by_cases h : v n = P
      · rw [if_pos h, if_pos ⟨h, e⟩]; omega
      · rw [if_neg h, if_neg (fun h' => h h'.1)]; exact ih
theorem tk_is {v : Nat → Nat} {k N : Nat} (hk : k < N) (hv : ∀ i, i < N → v i < 32) : tkF (fun x => cN v x N) (v k) 32 = tA v k N := by
  apply Nat.eq_of_testBit_eq
  intro j
  rw [Bool.eq_iff_iff, tkF_bit, tA_bit]
  have key : ∀ P, tkC (fun x => cN v x N) (v k) P = true ↔ two P = true ∧ 2 ≤ cX v P k N := fun P => by
    have h := cN_X (v := v) (P := P) (k := k) N
    simp only [tkC, Bool.and_eq_true, Bool.or_eq_true, decide_eq_true_eq, beq_iff_eq, bne_iff_ne]
    by_cases e : v k = P
    · rw [if_pos ⟨hk, e⟩] at h
      constructor
      · rintro ⟨h1, h2 | h2⟩
        · exact ⟨h1, by omega⟩
        · exact absurd e.symm h2.2
      · rintro ⟨h1, h2⟩
        exact ⟨h1, .inl (by omega)⟩
    · rw [if_neg (fun h' => e h'.2)] at h
      constructor
      · rintro ⟨h1, h2 | h2⟩
        · exact ⟨h1, by omega⟩
        · exact ⟨h1, by omega⟩
      · rintro ⟨h1, h2⟩
        refine ⟨h1, ?_⟩
        by_cases h3 : 2 < cN v P N
        · exact .inl h3
        · exact .inr ⟨by omega, fun e' => e e'.symm⟩
  constructor
  · rintro ⟨P, h1, h2, h3⟩
    obtain ⟨h4, h5⟩ := (key P).1 h2
    obtain ⟨a, b, ha, hb, ea, eb, na, nb⟩ := (cX_two N).1 h5
    exact ⟨a, b, ha, hb, by rw [ea, eb], by rw [ea]; exact h4, na, nb, by rw [ea]; exact h3⟩
  · rintro ⟨a, b, ha, hb, e, h2, na, nb, h3⟩
    exact ⟨v a, hv a ha, (key _).2 ⟨h2, (cX_two N).2 ⟨a, b, ha, hb, rfl, e.symm, na, nb⟩⟩, h3⟩

/-! the pairs of a line. -/
theorem half_step (c : Nat) : (c + 1) * (c + 1 - 1) / 2 = c * (c - 1) / 2 + c := by
  have e : (c + 1) * (c + 1 - 1) = c * (c - 1) + 2 * c := by
    rcases c with _ | c
    · rfl
    · simp only [Nat.add_sub_cancel]
      rw [Nat.add_mul (c + 1) 1, Nat.one_mul, Nat.mul_add (c + 1) c 1, Nat.mul_one]; omega
  rw [e, Nat.add_mul_div_left _ _ (by omega)]
theorem prF_step (v : Nat → Nat) (a : Nat) : ∀ K, prF (fun x => cN v x (a + 1)) K = prF (fun x => cN v x a) K + if v a < K ∧ two (v a) = true then cN v (v a) a else 0 := by
  intro K
  induction K with
  | zero => simp [prF]
  | succ K ih =>
    simp only [prF]
    by_cases e : v a = K
    · have hlt : ¬ (v a < K) := by omega
      rw [if_neg (fun h => hlt h.1)] at ih
      subst e
      by_cases h2 : two (v a) = true
      · rw [if_pos h2, if_pos h2, ih, if_pos ⟨by omega, h2⟩]
        simp only [cN, if_pos]
        rw [half_step]; omega
      · rw [if_neg h2, if_neg h2, ih, if_neg (fun h => h2 h.2)]
    · have hc : cN v K (a + 1) = cN v K a := by simp only [cN]; rw [if_neg e]
      rw [hc]
      have e3 : (if v a < K + 1 ∧ two (v a) = true then cN v (v a) a else 0) = if v a < K ∧ two (v a) = true then cN v (v a) a else 0 := by
        by_cases h2 : v a < K ∧ two (v a) = true
        · rw [if_pos h2, if_pos ⟨by omega, h2.2⟩]
        · rw [if_neg h2, if_neg (fun h' => h2 ⟨by omega, h'.2⟩)]
      rw [e3, ih]
      split <;> omega
/-- the masks of a line. -/
def lv (m : List Int) (S u : Int) (k : Nat) : Nat := (nth m (lcN S u k)).toNat
theorem lv_lt {m : List Int} {S u : Int} {s : Int} (hm : mvd m s = true) (k : Nat) : lv m S u k < 32 := by
  have := mvd_nth hm (lcN S u k)
  unfold lv; omega
theorem lv_int {m : List Int} {S u : Int} {s : Int} (hm : mvd m s = true) (k : Nat) : nth m (lcN S u k) = (lv m S u k : Nat) := by
  have := mvd_nth hm (lcN S u k)
  unfold lv; omega
theorem lv_even {m : List Int} {S u : Int} {s : Int} (hm : mvd m s = true) (k : Nat) : lv m S u k % 2 = 0 := by
  obtain ⟨h0, h1, h2⟩ := mvd_nth hm (lcN S u k)
  rw [Int.tmod_eq_emod_of_nonneg h0] at h2
  unfold lv; omega
theorem mv_two {M : Nat} (h : M < 32) (he : M % 2 = 0) : (maskVals (M : Int)).length = 2 ↔ two M = true := by
  have e : maskVals (M : Int) = bitsTo M 4 := by
    simp only [maskVals]
    rw [if_pos (by simp only [mvOk, inr, Bool.and_eq_true, decide_eq_true_eq, beq_iff_eq]; exact ⟨⟨by omega, by omega⟩, by rw [Int.tmod_eq_emod_of_nonneg (by omega)]; omega⟩), Int.toNat_natCast]
  rw [e, ← ones_bits M h he, two, beq_iff_eq]
theorem cond_is {m : List Int} {S u s : Int} (hm : mvd m s = true) (a b : Nat) : (nth m (lcN S u a) = nth m (lcN S u b) ∧ (maskVals (nth m (lcN S u a))).length = 2) ↔ (lv m S u a = lv m S u b ∧ two (lv m S u a) = true) := by
  rw [lv_int hm a, lv_int hm b, mv_two (lv_lt hm a) (lv_even hm a)]
  constructor
  · rintro ⟨h1, h2⟩; exact ⟨by omega, h2⟩
  · rintro ⟨h1, h2⟩; exact ⟨by omega, h2⟩
theorem prB_is {m : List Int} {S u s : Int} (hm : mvd m s = true) (a : Nat) : ∀ b, prB m S u a b = if two (lv m S u a) = true then cN (lv m S u) (lv m S u a) b else 0 := by
  intro b
  induction b with
  | zero => simp [prB, cN]
  | succ b ih =>
    simp only [prB, cN]
    by_cases h2 : two (lv m S u a) = true
    · rw [if_pos h2] at ih ⊢
      by_cases e : lv m S u b = lv m S u a
      · rw [if_pos ((cond_is hm a b).2 ⟨e.symm, h2⟩), if_pos e, ih]
      · rw [if_neg (fun h => e ((cond_is hm a b).1 h).1.symm), if_neg e, ih]
    · rw [if_neg h2] at ih ⊢
      rw [if_neg (fun h => h2 ((cond_is hm a b).1 h).2), ih]
theorem prA_is {m : List Int} {S u s : Int} (hm : mvd m s = true) : ∀ n, prA m S u n = prF (fun x => cN (lv m S u) x n) 32 := by
  intro n
  induction n with
  | zero =>
    have : ∀ K, prF (fun x => cN (lv m S u) x 0) K = 0 := fun K => by
      induction K with
      | zero => rfl
      | succ K ih => simp only [prF, cN] at *; split <;> omega
    rw [this]; rfl
  | succ n ih =>
    simp only [prA]
    rw [prF_step, ih, prB_is hm]
    have := lv_lt (S := S) (u := u) hm n
    by_cases h2 : two (lv m S u n) = true
    · rw [if_pos h2, if_pos ⟨this, h2⟩]
    · rw [if_neg h2, if_neg (fun h => h2 h.2)]

/-! what a line takes away. -/
theorem an_or : ∀ x, x < 32 → ∀ y, y < 32 → ∀ z, z < 32 → bits .andNot .i64 (bits .andNot .i64 (x : Nat) (y : Nat)) (z : Nat) = bits .andNot .i64 (x : Nat) ((y ||| z : Nat) : Int) := by decide +kernel
theorem an_zero : ∀ x, x < 32 → bits .andNot .i64 (x : Nat) 0 = (x : Nat) := by decide +kernel
theorem lc_inj {s u : Nat} (hs : s ∈ [2, 3, 4]) {i j : Nat} (hi : i < s) (hj : j < s) (h : lcN s u i = lcN s u j) : i = j := by
  simp only [lcN] at h
  simp at hs
  by_cases hx : (u : Int) < (s : Int)
  · rw [lineAt_row hx, lineAt_row hx] at h
    rcases hs with rfl | rfl | rfl <;> omega
  · rw [lineAt_col hx, lineAt_col hx] at h
    rcases hs with rfl | rfl | rfl <;> omega
theorem pIn_nth {m o : List Int} {s u a b : Nat} (hs : s ∈ [2, 3, 4]) (hu : u < 2 * s) (hl : o.length = s * s) {k : Nat} (hk : k < s) (K : Nat) (hK : K ≤ s) :
    nth (pIn m s u a b o K) (lcN s u k) = if k < K ∧ (k ≠ a ∧ k ≠ b) then bits .andNot .i64 (nth o (lcN s u k)) (nth m (lcN s u a)) else nth o (lcN s u k) := by
  induction K with
  | zero => simp [pIn]
  | succ K ih =>
    have ih := ih (by omega)
    simp only [pIn]
    have hp : lcN s u K < s * s := line_at hs hu K (by omega)
    by_cases e : k = K
    · subst e
      rw [if_neg (fun h => absurd h.1 (by omega))] at ih
      by_cases hc : k ≠ a ∧ k ≠ b
      · rw [if_pos hc, if_pos ⟨by omega, hc⟩, nth_set (by rw [pIn_len, hl]; exact hp), if_pos rfl, ih]
      · rw [if_neg hc, if_neg (fun h => hc h.2), ih]
    · have hne : lcN s u K ≠ lcN s u k := fun h => e (lc_inj hs hk (by omega) h.symm)
      have h2 : nth (if K ≠ a ∧ K ≠ b then (pIn m s u a b o K).set (lcN s u K) (bits .andNot .i64 (nth (pIn m s u a b o K) (lcN s u K)) (nth m (lcN s u a))) else pIn m s u a b o K) (lcN s u k) = nth (pIn m s u a b o K) (lcN s u k) := by
        split
        · rw [nth_set (by rw [pIn_len, hl]; exact hp), if_neg hne]
        · rfl
      rw [h2, ih]
      by_cases hc : k < K ∧ (k ≠ a ∧ k ≠ b)
      · rw [if_pos hc, if_pos ⟨by omega, hc.2⟩]
      · rw [if_neg hc, if_neg (fun h => hc ⟨by omega, h.2⟩)]
theorem pIn_off {m o : List Int} {s u a b : Nat} (hs : s ∈ [2, 3, 4]) (hu : u < 2 * s) (hl : o.length = s * s) {p : Nat} (hp : ∀ k, k < s → lcN s u k ≠ p) (K : Nat) (hK : K ≤ s) : nth (pIn m s u a b o K) p = nth o p := by
  induction K with
  | zero => rfl
  | succ K ih =>
    simp only [pIn]
    split
    · rw [nth_set (by rw [pIn_len, hl]; exact line_at hs hu K (by omega)), if_neg (hp K (by omega)), ih (by omega)]
    · exact ih (by omega)
theorem pB_nth {m o : List Int} {s u a : Nat} (hs : s ∈ [2, 3, 4]) (hm : mvd m s = true) (hu : u < 2 * s) (hl : o.length = s * s) {k X : Nat} (hk : k < s) (hX : X < 32) (ho : nth o (lcN s u k) = (X : Nat)) (b : Nat) :
    nth (pB m s s u a o b) (lcN s u k) = bits .andNot .i64 (X : Nat) ((tB (lv m s u) k a b : Nat) : Int) := by
  induction b with
  | zero => simp only [pB, tB]; rw [ho]; exact (an_zero X hX).symm
  | succ b ih =>
    simp only [pB, tB]
    by_cases hc : lv m s u a = lv m s u b ∧ two (lv m s u a) = true
    · rw [if_pos ((cond_is hm a b).2 hc), pIn_nth hs hu (by rw [pB_len, hl]) hk s (Nat.le_refl _), ih]
      by_cases hk2 : k ≠ a ∧ k ≠ b
      · rw [if_pos ⟨hk, hk2⟩, if_pos ⟨hc, hk2⟩, lv_int hm a]
        exact an_or X hX _ (tB_lt (lv_lt hm a) b) _ (lv_lt hm a)
      · rw [if_neg (fun h => hk2 h.2), if_neg (fun h => hk2 h.2)]
    · rw [if_neg (fun h => hc ((cond_is hm a b).1 h)), if_neg (fun h => hc h.1), ih]
theorem pB_off {m o : List Int} {s u a : Nat} (hs : s ∈ [2, 3, 4]) (hu : u < 2 * s) (hl : o.length = s * s) {p : Nat} (hp : ∀ k, k < s → lcN s u k ≠ p) (b : Nat) : nth (pB m s s u a o b) p = nth o p := by
  induction b with
  | zero => rfl
  | succ b ih =>
    simp only [pB]
    split
    · rw [pIn_off hs hu (by rw [pB_len, hl]) hp s (Nat.le_refl _), ih]
    · exact ih
theorem anN_lt : ∀ x, x < 32 → ∀ y, y < 32 → ∃ z, z < 32 ∧ bits .andNot .i64 (x : Nat) (y : Nat) = (z : Nat) := fun x hx y hy => by
  obtain ⟨q1, q2, _⟩ := an_key x hx y hy
  exact ⟨(bits .andNot .i64 (x : Nat) (y : Nat)).toNat, by omega, by omega⟩
theorem pA_nth {m o : List Int} {s u : Nat} (hs : s ∈ [2, 3, 4]) (hm : mvd m s = true) (hu : u < 2 * s) (hl : o.length = s * s) {k X : Nat} (hk : k < s) (hX : X < 32) (ho : nth o (lcN s u k) = (X : Nat)) (a : Nat) :
    nth (pA m s s u o a) (lcN s u k) = bits .andNot .i64 (X : Nat) ((tA (lv m s u) k a : Nat) : Int) := by
  induction a with
  | zero => simp only [pA, tA]; rw [ho]; exact (an_zero X hX).symm
  | succ a ih =>
    simp only [pA, tA]
    have hA : tA (lv m s u) k a < 32 := tA_lt a fun i _ => lv_lt hm i
    obtain ⟨z, hz, ez⟩ := anN_lt X hX _ hA
    rw [pB_nth hs hm hu (by rw [pA_len, hl]) hk hz (by rw [ih, ez]) a, ← ez]
    exact an_or X hX _ hA _ (tB_lt (lv_lt hm a) a)
theorem pA_off {m o : List Int} {s u : Nat} (hs : s ∈ [2, 3, 4]) (hu : u < 2 * s) (hl : o.length = s * s) {p : Nat} (hp : ∀ k, k < s → lcN s u k ≠ p) (a : Nat) : nth (pA m s s u o a) p = nth o p := by
  induction a with
  | zero => rfl
  | succ a ih => simp only [pA]; rw [pB_off hs hu (by rw [pA_len, hl]) hp a, ih]
/-- the program's way over a line, cell by cell. -/
def gL (m : List Int) (S u : Int) (C : Nat → Nat) (o : List Int) : Nat → List Int
  | 0 => o
  | k + 1 => (gL m S u C o k).set (lcN S u k) (bits .andNot .i64 (nth (gL m S u C o k) (lcN S u k)) ((tkF C (lv m S u k) 32 : Nat) : Int))
theorem gL_len (m : List Int) (S u : Int) (C : Nat → Nat) (o : List Int) (k : Nat) : (gL m S u C o k).length = o.length := by
  induction k with
  | zero => rfl
  | succ k ih => simp only [gL]; rw [List.length_set, ih]
theorem gL_nth {m o : List Int} {s u : Nat} {C : Nat → Nat} (hs : s ∈ [2, 3, 4]) (hu : u < 2 * s) (hl : o.length = s * s) {k : Nat} (hk : k < s) (K : Nat) (hK : K ≤ s) :
    nth (gL m s u C o K) (lcN s u k) = if k < K then bits .andNot .i64 (nth o (lcN s u k)) ((tkF C (lv m s u k) 32 : Nat) : Int) else nth o (lcN s u k) := by
  induction K with
  | zero => simp [gL]
  | succ K ih =>
    have ih := ih (by omega)
    simp only [gL]
    rw [nth_set (by rw [gL_len, hl]; exact line_at hs hu K (by omega))]
    by_cases e : k = K
    · subst e
      rw [if_neg (by omega)] at ih
      rw [if_pos rfl, if_pos (by omega), ih]
    · rw [if_neg (fun h => e (lc_inj hs hk (by omega) h.symm)), ih]
      by_cases h : k < K
      · rw [if_pos h, if_pos (by omega)]
      · rw [if_neg h, if_neg (by omega)]
theorem gL_off {m o : List Int} {s u : Nat} {C : Nat → Nat} (hs : s ∈ [2, 3, 4]) (hu : u < 2 * s) (hl : o.length = s * s) {p : Nat} (hp : ∀ k, k < s → lcN s u k ≠ p) (K : Nat) (hK : K ≤ s) : nth (gL m s u C o K) p = nth o p := by
  induction K with
  | zero => rfl
  | succ K ih => simp only [gL]; rw [nth_set (by rw [gL_len, hl]; exact line_at hs hu K (by omega)), if_neg (hp K (by omega)), ih (by omega)]
theorem gL_is {m o : List Int} {s u : Nat} (hs : s ∈ [2, 3, 4]) (hm : mvd m s = true) (hu : u < 2 * s) (ho : Sub o m) : gL m s u (fun x => cN (lv m s u) x s) o s = pA m s s u o s := by
  have hln := len_of hs hm
  have hl : o.length = s * s := by rw [ho.1, hln]
  apply ext_nth
  · rw [gL_len, pA_len]
  · intro p hp
    rw [gL_len, hl] at hp
    by_cases h : ∃ k, k < s ∧ lcN s u k = p
    · obtain ⟨k, hk, rfl⟩ := h
      obtain ⟨⟨x0, x1, _⟩, _⟩ := ho.at_ hm (k := lcN s u k) (by rw [hln]; exact hp)
      obtain ⟨X, hX⟩ := Int.eq_ofNat_of_zero_le x0
      rw [gL_nth hs hu hl hk s (Nat.le_refl _), if_pos hk, pA_nth hs hm hu hl hk (by omega) hX s, hX, tk_is hk (fun i _ => lv_lt hm i)]
    · have hp' : ∀ k, k < s → lcN s u k ≠ p := fun k hk e => h ⟨k, hk, e⟩
      rw [gL_off hs hu hl hp' s (Nat.le_refl _), pA_off hs hu hl hp' s]
def gU (m : List Int) (N : Nat) : Nat → List Int
  | 0 => m
  | u + 1 => gL m N u (fun x => cN (lv m N u) x N) (gU m N u) N
theorem gU_is {m : List Int} {s : Nat} (hs : s ∈ [2, 3, 4]) (hm : mvd m s = true) : ∀ u, u ≤ 2 * s → gU m s u = pU m s s u := by
  intro u
  induction u with
  | zero => intro _; rfl
  | succ u ih =>
    intro hu
    simp only [gU, pU]
    rw [ih (by omega)]
    exact gL_is hs hm (by omega) (pU_sub hm u)
end Go.Proofs.YtgejahkdiciplaaDoor
set_option maxRecDepth 8000
namespace Go.Proofs.YtgejahkdiciplaaDoor
open Go.ChangeShapes Go.WideShapes Go.ChangeAt Go.RowKit
/-! the first technique of the program: a queue of cells with one value, each cleared out of its row and its column: it is the reference's. -/
def cIn (S u i : Nat) (x : Int) (o : List Int) : Nat → List Int
  | 0 => o
  | k + 1 => if lcN S u k ≠ i then (cIn S u i x o k).set (lcN S u k) (bits .andNot .i64 (nth (cIn S u i x o k) (lcN S u k)) x) else cIn S u i x o k
def clQ (S : Nat) (o : List Int) (p : Nat × Nat) : List Int := cIn S (S + p.1 % S) p.1 (2 ^ p.2) (cIn S (p.1 / S) p.1 (2 ^ p.2) o S) S
def sQ (m : List Int) : Nat → List (Nat × Nat)
  | 0 => []
  | k + 1 => if oneOf (maskVals (nth m k)) = 0 then sQ m k else sQ m k ++ [(k, (oneOf (maskVals (nth m k))).toNat)]
theorem cIn_len (S u i : Nat) (x : Int) (o : List Int) (k : Nat) : (cIn S u i x o k).length = o.length := by
  induction k with
  | zero => rfl
  | succ k ih =>
    simp only [cIn]
    split
    · rw [List.length_set, ih]
    · exact ih
theorem clQ_len (S : Nat) (o : List Int) (p : Nat × Nat) : (clQ S o p).length = o.length := by unfold clQ; rw [cIn_len, cIn_len]
theorem sQ_len (m : List Int) (k : Nat) : (sQ m k).length ≤ k := by
  induction k with
  | zero => exact Nat.le_refl _
  | succ k ih =>
    simp only [sQ]
    split
    · omega
    · simp; omega
def oneP (M : Nat) : Bool := if (bitsTo M 4).length = 1 then (oneOf (bitsTo M 4) == 1 && M == 2) || (oneOf (bitsTo M 4) == 2 && M == 4) || (oneOf (bitsTo M 4) == 3 && M == 8) || (oneOf (bitsTo M 4) == 4 && M == 16) else oneOf (bitsTo M 4) == 0
theorem oneP_all : ∀ M, M < 32 → M % 2 = 0 → oneP M = true := by decide +kernel
theorem mv_bits {M : Nat} (h : M < 32) (he : M % 2 = 0) : maskVals (M : Int) = bitsTo M 4 := by
  simp only [maskVals]
  rw [if_pos (by simp only [mvOk, inr, Bool.and_eq_true, decide_eq_true_eq, beq_iff_eq]; exact ⟨⟨by omega, by omega⟩, by rw [Int.tmod_eq_emod_of_nonneg (by omega)]; omega⟩), Int.toNat_natCast]
/-- a mask with one value is that value's; the others have none. -/
theorem one_at {m : List Int} {s : Int} (hm : mvd m s = true) (k : Nat) : ((maskVals (nth m k)).length = 1 ∧ ∃ v : Nat, 1 ≤ v ∧ v ≤ 4 ∧ oneOf (maskVals (nth m k)) = v ∧ nth m k = 2 ^ v) ∨ ((maskVals (nth m k)).length ≠ 1 ∧ oneOf (maskVals (nth m k)) = 0) := by
  obtain ⟨x0, x1, x2⟩ := mvd_nth hm k
  obtain ⟨M, hM⟩ := Int.eq_ofNat_of_zero_le x0
  have he : M % 2 = 0 := by rw [hM, Int.tmod_eq_emod_of_nonneg (by omega)] at x2; omega
  have h := oneP_all M (by omega) he
  rw [hM, mv_bits (by omega) he]
  unfold oneP at h
  split at h
  · next hl =>
    refine .inl ⟨hl, ?_⟩
    simp only [Bool.or_eq_true, Bool.and_eq_true, beq_iff_eq] at h
    rcases h with ((⟨h1, h2⟩ | ⟨h1, h2⟩) | ⟨h1, h2⟩) | ⟨h1, h2⟩
    · exact ⟨1, by omega, by omega, h1, by rw [h2]; decide⟩
    · exact ⟨2, by omega, by omega, h1, by rw [h2]; decide⟩
    · exact ⟨3, by omega, by omega, h1, by rw [h2]; decide⟩
    · exact ⟨4, by omega, by omega, h1, by rw [h2]; decide⟩
  · next hl => exact .inr ⟨hl, beq_iff_eq.1 h⟩
theorem sQ_in {m : List Int} {s : Int} (hm : mvd m s = true) (k : Nat) : ∀ p ∈ sQ m k, p.1 < k ∧ 1 ≤ p.2 ∧ p.2 ≤ 4 := by
  induction k with
  | zero => intro p hp; simp [sQ] at hp
  | succ k ih =>
    intro p hp
    simp only [sQ] at hp
    split at hp
    · have := ih p hp; omega
    · next hn =>
      rcases List.mem_append.1 hp with h | h
      · have := ih p h; omega
      · rw [List.mem_singleton] at h; subst h
        rcases one_at hm k with ⟨_, v, h1, h2, h3, _⟩ | ⟨_, h0⟩
        · rw [h3]; simp; omega
        · exact absurd h0 hn
def lineHas (S u p : Nat) : Nat → Bool
  | 0 => false
  | k + 1 => lineHas S u p k || lcN S u k == p
def hasP (s : Nat) : Bool := (List.range (s * s)).all fun i => (List.range (s * s)).all fun p => lineHas s (i / s) p s == (p / s == i / s) && lineHas s (s + i % s) p s == (p % s == i % s)
theorem hasP_all : hasP 2 = true ∧ hasP 3 = true ∧ hasP 4 = true := by decide +kernel
theorem has_at {s : Nat} (hs : s ∈ [2, 3, 4]) {i p : Nat} (hi : i < s * s) (hp : p < s * s) : lineHas s (i / s) p s = (p / s == i / s) ∧ lineHas s (s + i % s) p s = (p % s == i % s) := by
  have h : hasP s = true := by
    simp at hs
    rcases hs with rfl | rfl | rfl
    · exact hasP_all.1
    · exact hasP_all.2.1
    · exact hasP_all.2.2
  unfold hasP at h
  have := List.all_eq_true.1 (List.all_eq_true.1 h i (List.mem_range.2 hi)) p (List.mem_range.2 hp)
  rw [Bool.and_eq_true, beq_iff_eq, beq_iff_eq] at this
  exact this
theorem cIn_nth {o : List Int} {s u i : Nat} {x : Int} (hs : s ∈ [2, 3, 4]) (hu : u < 2 * s) (hl : o.length = s * s) (p : Nat) (K : Nat) (hK : K ≤ s) :
    nth (cIn s u i x o K) p = if lineHas s u p K = true ∧ p ≠ i then bits .andNot .i64 (nth o p) x else nth o p := by
  induction K with
  | zero => simp [cIn, lineHas]
  | succ K ih =>
    have ih := ih (by omega)
    simp only [cIn, lineHas, Bool.or_eq_true, beq_iff_eq]
    have hp : lcN s u K < s * s := line_at hs hu K (by omega)
    by_cases e : lcN s u K = p
    · have hno : lineHas s u p K = false := by
        have hall : ∀ j, j ≤ K → lineHas s u p j = false := by
          intro j
          induction j with
          | zero => intro _; rfl
          | succ j ihj =>
            intro hj
            simp only [lineHas, Bool.or_eq_false_iff, beq_eq_false_iff_ne]
            refine ⟨ihj (by omega), fun e2 => ?_⟩
            have := lc_inj hs (show j < s by omega) (show K < s by omega) (e2.trans e.symm)
            omega
        exact hall K (Nat.le_refl _)
      rw [if_neg (fun h => by rw [hno] at h; cases h.1)] at ih
      by_cases hi : p = i
      · rw [if_neg (by rw [e]; exact fun h => h hi), if_neg (fun h => h.2 hi), ih]
      · rw [if_pos (by rw [e]; exact hi), if_pos ⟨.inr e, hi⟩, nth_set (by rw [cIn_len, hl]; exact hp), if_pos e, e, ih]
    · have h2 : nth (if lcN s u K ≠ i then (cIn s u i x o K).set (lcN s u K) (bits .andNot .i64 (nth (cIn s u i x o K) (lcN s u K)) x) else cIn s u i x o K) p = nth (cIn s u i x o K) p := by
        split
        · rw [nth_set (by rw [cIn_len, hl]; exact hp), if_neg e]
        · rfl
      rw [h2, ih]
      by_cases hc : lineHas s u p K = true ∧ p ≠ i
      · rw [if_pos hc, if_pos ⟨.inl hc.1, hc.2⟩]
      · rw [if_neg hc, if_neg (fun h => hc ⟨h.1.resolve_right e, h.2⟩)]
theorem nsIn_nth {m o : List Int} {s i : Nat} {p : Nat} (K : Nat) (hK : K ≤ o.length) : nth (nsIn m s i o K) p = if p < K ∧ seesB s p i = true then bits .andNot .i64 (nth o p) (nth m i) else nth o p := by
  induction K with
  | zero => simp [nsIn]
  | succ K ih =>
    have ih := ih (by omega)
    simp only [nsIn]
    by_cases e : K = p
    · subst e
      rw [if_neg (fun h => absurd h.1 (by omega))] at ih
      by_cases hc : seesB s K i = true
      · rw [if_pos hc, if_pos ⟨by omega, hc⟩, nth_set (by rw [nsIn_len]; omega), if_pos rfl, ih]
      · rw [if_neg hc, if_neg (fun h => hc h.2), ih]
    · have h2 : nth (if seesB s K i = true then (nsIn m s i o K).set K (bits .andNot .i64 (nth (nsIn m s i o K) K) (nth m i)) else nsIn m s i o K) p = nth (nsIn m s i o K) p := by
        split
        · rw [nth_set (by rw [nsIn_len]; omega), if_neg e]
        · rfl
      rw [h2, ih]
      by_cases hc : p < K ∧ seesB s p i = true
      · rw [if_pos hc, if_pos ⟨by omega, hc.2⟩]
      · rw [if_neg hc, if_neg (fun h => hc ⟨by omega, h.2⟩)]
theorem div_eq_of {s i p : Nat} (h1 : p / s = i / s) (h2 : p % s = i % s) : p = i := by
  have a := Nat.div_add_mod p s
  have b := Nat.div_add_mod i s
  rw [h1, h2] at a
  omega
theorem clQ_is {m o : List Int} {s i v : Nat} (hs : s ∈ [2, 3, 4]) (hl : o.length = s * s) (hi : i < s * s) (hx : nth m i = 2 ^ v) : clQ s o (i, v) = nsIn m s i o (s * s) := by
  have hs0 : 0 < s := by simp at hs; omega
  have hr : i / s < 2 * s := by have : i / s < s := Nat.div_lt_of_lt_mul hi; omega
  have hc : s + i % s < 2 * s := by have := Nat.mod_lt i hs0; omega
  apply ext_nth
  · rw [clQ_len, nsIn_len]
  · intro p hp
    rw [clQ_len, hl] at hp
    obtain ⟨e1, e2⟩ := has_at hs hi hp
    rw [nsIn_nth _ (by rw [hl]; exact Nat.le_refl _), hx]
    unfold clQ
    simp only
    rw [cIn_nth hs hc (by rw [cIn_len, hl]) p s (Nat.le_refl _), cIn_nth hs hr hl p s (Nat.le_refl _), e1, e2]
    simp only [seesB, Bool.and_eq_true, Bool.or_eq_true, beq_iff_eq, bne_iff_ne]
    by_cases hpi : p = i
    · rw [if_neg (fun h => h.2 hpi), if_neg (fun h => h.2 hpi), if_neg (fun h => h.2.1 hpi)]
    · by_cases h1 : p / s = i / s
      · have h2 : ¬ p % s = i % s := fun h2 => hpi (div_eq_of h1 h2)
        rw [if_neg (fun h => h2 h.1), if_pos ⟨h1, hpi⟩, if_pos ⟨hp, hpi, .inl h1⟩]
      · by_cases h2 : p % s = i % s
        · rw [if_pos ⟨h2, hpi⟩, if_neg (fun h => h1 h.1), if_pos ⟨hp, hpi, .inr h2⟩]
        · rw [if_neg (fun h => h2 h.1), if_neg (fun h => h1 h.1), if_neg (fun h => h.2.2.elim h1 h2)]
theorem sQ_fold {m : List Int} {s : Nat} (hs : s ∈ [2, 3, 4]) (hm : mvd m s = true) (k : Nat) (hk : k ≤ s * s) : (sQ m k).foldl (clQ s) m = nsTo m s (s * s) k := by
  induction k with
  | zero => rfl
  | succ k ih =>
    have ih := ih (by omega)
    simp only [sQ, nsTo]
    rcases one_at hm k with ⟨hl, v, _, _, hv, hx⟩ | ⟨hl, h0⟩
    · rw [if_pos hl, hv, if_neg (by omega), List.foldl_append, ih, Int.toNat_natCast]
      exact clQ_is hs (by rw [nsTo_len]; exact len_of hs hm) (by omega) hx
    · rw [if_neg hl, if_pos h0, ih]
end Go.Proofs.YtgejahkdiciplaaDoor
namespace Go.Proofs.YtgejahkdiciplaaDoor
open Go.ChangeShapes Go.WideShapes Go.ChangeAt Go.RowKit

/-- a whole array read at an operation that is guarded, and wanted. -/
theorem wpList_load_row_w {P : Program} {ops : Array Oper} {rest : List Oper} {o : Oper} {a : Act} {w : World} {Q : Exit → Act → World → Prop} (hw : Region.wanted o (yielded ops a.tmps) = true) (ty : TypeId) (x : Operand) (ho : o.op = .load ty x)
    (g : Nat) (hx : a.eval x = .pointer (some ⟨g, 0, none⟩)) (t : TypeId) (cs : Array Value) (fr : Nat × Nat) (d : TypeDesc) (hg : w.heap[g]? = some (.cells cs t fr))
    (hu : P.underlying ty = some d) (hd : (match d with | .struct _ | .array _ _ => true | _ => false) = true) (hi : (P.info? ty).map (·.size) = some cs.size)
    (h : wpList P ops Q rest (a.put o.dst (.agg cs)) w) : wpList P ops Q (o :: rest) a w :=
  wpList_step fun K hK => by simp only [hw, if_true]; exact wp_load_row ty x ho g hx t cs fr d hg hu hd hi (hK _ _ h)
/-- the cells of the program's masks, one a line, and its size. -/
def mcells (M : Nat → Nat) (s : Int) : Array Value := #[.int .i64 (M 0), .int .i64 (M 1), .int .i64 (M 2), .int .i64 (M 3), .int .i64 (M 4), .int .i64 (M 5), .int .i64 (M 6), .int .i64 (M 7), .int .i64 s]
theorem mcells_size (M : Nat → Nat) (s : Int) : (mcells M s).size = 9 := rfl
theorem mcell_at (M : Nat → Nat) (s : Int) {l : Nat} (hl : l < 8) : (mcells M s)[l]? = some (.int .i64 (M l)) := by
  have : l = 0 ∨ l = 1 ∨ l = 2 ∨ l = 3 ∨ l = 4 ∨ l = 5 ∨ l = 6 ∨ l = 7 := by omega
  rcases this with rfl | rfl | rfl | rfl | rfl | rfl | rfl | rfl <;> rfl
theorem mbox_cell (M : Nat → Nat) (s : Int) (w : World) {l : Nat} (hl : l < 8) : (w.alloc (.cells (mcells M s) 80)).cell? ⟨w.heap.size, l, none⟩ = some (.int .i64 (M l)) :=
  (cell_of_row _ _ l _ _ (0, 0) (heap_alloc_new w _)).trans (mcell_at M s hl)
theorem mbox_size (M : Nat → Nat) (s : Int) (w : World) : (w.alloc (.cells (mcells M s) 80)).cell? ⟨w.heap.size, 8, none⟩ = some (.int .i64 s) :=
  (cell_of_row _ _ 8 _ _ (0, 0) (heap_alloc_new w _)).trans rfl
theorem linesThrough_any (s cell : Int) (w : World) (h2 : 2 ≤ s) (h4 : s ≤ 4) (c0 : 0 ≤ cell) (c1 : cell < 16) :
    Calls Tryd.prog 98 #[.int .i64 s, .int .i64 cell] w fun e w' => e = .returned (.tuple #[.int .i64 (cell / s), .int .i64 (s + cell % s)]) ∧ Below w.heap.size w w' := by
  have q0 : 0 ≤ cell / s := Int.ediv_nonneg c0 (by omega)
  have q1 : cell / s ≤ cell := Int.ediv_le_self _ c0
  have r0 : 0 ≤ cell % s := Int.emod_nonneg _ (by omega)
  have r1 : cell % s < s := Int.emod_lt_of_pos _ (by omega)
  have e1 : cell.tmod s = cell % s := Int.tmod_eq_emod_of_nonneg c0
  have e2 : cell.tdiv s = cell / s := Int.tdiv_eq_ediv_of_nonneg c0
  have e3 : IntKind.i64.wrap (cell / s) = cell / s := IntWalk.i64_in _ (by omega)
  have e4 : IntKind.i64.wrap (s + cell % s) = s + cell % s := IntWalk.i64_in _ (by omega)
  have hz : (s == 0) = false := by simp; omega
  go_enter Tryd.func98, Tryd.ntmps98
  go_wp2
  go_quiet (fail)
  go_wp2
  go_ret2
  exact ⟨rfl, below_drewN (Below.refl _ _) _⟩

theorem or_pow (a v : Nat) (ha : a < 32) (hv : v ≤ 4) : bits .or .i64 (a : Int) (wrap64 (2 ^ v)) = ((a ||| 2 ^ v : Nat) : Int) := by
  have hlt : 2 ^ v < 2 ^ 5 := Nat.pow_lt_pow_right (by omega) (by omega)
  rw [pow_int]
  generalize 2 ^ v = p at *
  rw [IntWalk.wrap64_in _ ⟨by omega, by omega⟩, i64_or_nat _ _ (by omega) (by omega)]
theorem or_lt (a v : Nat) (ha : a < 32) (hv : v ≤ 4) : a ||| 2 ^ v < 32 :=
  Nat.or_lt_two_pow (n := 5) ha (Nat.pow_lt_pow_right (by omega) (by omega))
theorem has_any (M : Nat → Nat) (s : Int) (l v : Nat) (w : World) (hl : l < 8) (v4 : v ≤ 4) (hm : M l < 32) :
    Calls Tryd.prog 129 #[.agg (mcells M s), .int .i64 l, .int .i64 v] w fun e w' => e = .returned (.bool ((M l).testBit v)) ∧ Below w.heap.size w w' := by
  have hc := mbox_cell M s w hl
  have hl8 : (l : Int) < 8 := by omega
  have ha := Lib.hid (and_pow (M l) v hm v4)
  go_enter Tryd.func129, Tryd.ntmps129
  go_wp2
  go_quiet (fail)
  go_wp2
  go_ret
  exact ⟨by rw [← ha.out]; rfl, below_drewN ((Below.refl _ _).alloc (Nat.le_refl _) _) _⟩

def mput (M : Nat → Nat) (l v : Nat) : Nat → Nat := fun j => if j = l then M j ||| 2 ^ v else M j
theorem mput_lt {M : Nat → Nat} {l v : Nat} (hm : ∀ l, l < 8 → M l < 32) (hv : v ≤ 4) : ∀ j, j < 8 → mput M l v j < 32 := fun j hj => by
  unfold mput
  split
  · exact or_lt _ _ (hm j hj) hv
  · exact hm j hj
theorem mcells_set (M : Nat → Nat) (s : Int) {l v : Nat} (hl : l < 8) : (mcells M s).setIfInBounds l (.int .i64 ((M l ||| 2 ^ v : Nat) : Int)) = mcells (mput M l v) s := by
  have : l = 0 ∨ l = 1 ∨ l = 2 ∨ l = 3 ∨ l = 4 ∨ l = 5 ∨ l = 6 ∨ l = 7 := by omega
  rcases this with rfl | rfl | rfl | rfl | rfl | rfl | rfl | rfl <;> rfl
/-- the masks lie in block g. -/
def MBox (w : World) (g : Nat) (M : Nat → Nat) (s : Int) : Prop := w.heap[g]? = some (.cells (mcells M s) 80)
theorem MBox.cell {w : World} {g : Nat} {M : Nat → Nat} {s : Int} (h : MBox w g M s) {l : Nat} (hl : l < 8) : w.cell? ⟨g, l, none⟩ = some (.int .i64 (M l)) :=
  (cell_of_row _ _ l _ _ (0, 0) h).trans (mcell_at M s hl)
theorem MBox.size_ {w : World} {g : Nat} {M : Nat → Nat} {s : Int} (h : MBox w g M s) : w.cell? ⟨g, 8, none⟩ = some (.int .i64 s) :=
  (cell_of_row _ _ 8 _ _ (0, 0) h).trans rfl
theorem MBox.frozen {w : World} {g : Nat} {M : Nat → Nat} {s : Int} (h : MBox w g M s) (l : Nat) : w.frozen? ⟨g, l, none⟩ = false := by
  unfold World.frozen?
  rw [show w.heap[g]? = _ from h]
  simp
theorem MBox.set {w : World} {g : Nat} {M : Nat → Nat} {s : Int} (h : MBox w g M s) {l v : Nat} (hl : l < 8) : MBox (w.setCell ⟨g, l, none⟩ (.int .i64 ((M l ||| 2 ^ v : Nat) : Int))) g (mput M l v) s := by
  unfold MBox
  rw [heap_setCell_same w g l _ _ _ h, ← mcells_set M s hl]
theorem MBox.below {w w' : World} {g B : Nat} {M : Nat → Nat} {s : Int} (h : MBox w g M s) (hg : g < B) (hb : Below B w w') : MBox w' g M s := (hb.block g hg).trans h
theorem MBox.other {w : World} {g g' k : Nat} {v : Value} {M : Nat → Nat} {s : Int} (h : MBox w g M s) (hne : g ≠ g') : MBox (w.setCell ⟨g', k, none⟩ v) g M s := (heap_setCell_other w _ g v hne).trans h
theorem MBox.stored {w : World} {g : Nat} {M M' : Nat → Nat} {s s' : Int} (h : MBox w g M s) : MBox (w.setRow g (mcells M' s')) g M' s' := setRow_heap w g _ _ _ _ h
theorem setRow_below {B g : Nat} {w w' : World} {cs : Array Value} (h : Below B w w') (hg : B ≤ g) : Below B w (w'.setRow g cs) :=
  h.trans ⟨rfl, rfl, rfl, by simp, fun k hk => by unfold World.setRow; simp only [Array.getElem?_modify]; rw [if_neg (by omega)]⟩
theorem mone (M : Nat → Nat) (s : Int) : (mcells M s).all (·.oneCell') = true := by simp [mcells, Value.oneCell']
theorem linesThrough_rc (s : Int) (cell r c : Nat) (w : World) (h2 : 2 ≤ s) (h4 : s ≤ 4) (c1 : cell < 16) (hr : (cell : Int) / s = (r : Int)) (hc : s + (cell : Int) % s = (c : Int)) :
    Calls Tryd.prog 98 #[.int .i64 s, .int .i64 cell] w fun e w' => e = .returned (.tuple #[.int .i64 r, .int .i64 c]) ∧ Below w.heap.size w w' := by
  rw [← hr, ← hc]
  exact linesThrough_any s cell w h2 h4 (by omega) (by omega)
theorem with_any (M : Nat → Nat) (s : Int) (cell r c v : Nat) (w : World) (h2 : 2 ≤ s) (h4 : s ≤ 4) (hr : (cell : Int) / s = (r : Int)) (hc : s + (cell : Int) % s = (c : Int)) (r8 : r < 8) (c8 : c < 8) (c2 : cell < 16) (v4 : v ≤ 4) (hm : ∀ l, l < 8 → M l < 32) :
    Calls Tryd.prog 104 #[.agg (mcells M s), .int .i64 cell, .int .i64 v] w fun e w' => e = .returned (.agg (mcells (mput (mput M r v) c v) s)) ∧ Below w.heap.size w w' := by
  have hg0 : ∀ o, ((w.alloc (.cells (mcells M s) 80)).alloc o).heap[w.heap.size]? = some (.cells (mcells M s) 80) := fun o => by rw [heap_alloc_old _ _ (by simp)]; exact heap_alloc_new w _
  have hz0 : ∀ u : World, MBox (u.alloc (.cells #[.int .i64 0, .int .i64 0, .int .i64 0, .int .i64 0, .int .i64 0, .int .i64 0, .int .i64 0, .int .i64 0, .int .i64 0] 80)) u.heap.size (fun _ => 0) 0 := fun u => heap_alloc_new u _
  have Hz0 := Lib.hid hz0; clear hz0
  have hi9 : (Tryd.prog.info? 80).map (·.size) = some (mcells M s).size := by rw [mcells_size]; kernel_rfl
  have Hg0 := Lib.hid hg0; clear hg0
  have Hi9 := Lib.hid hi9; clear hi9
  have Hr := Lib.hid hr; clear hr
  have Hc := Lib.hid hc; clear hc
  go_enter Tryd.func104, Tryd.ntmps104
  have hs8 : ∀ o, ((w.alloc (.cells (mcells M s) 80)).alloc o).cell? ⟨w.heap.size, 8, none⟩ = some (.int .i64 s) := fun o => MBox.size_ (Hg0.out o)
  go_wp2_with (go_at_call 98; refine (linesThrough_rc s cell r c _ h2 h4 c2 Hr.out Hc.out).mono ?_; rintro e w1 ⟨rfl, hb1⟩)
  have hx1 : MBox w1 w.heap.size M s := MBox.below (Hg0.out _) (by simp; omega) hb1
  have hy1 : MBox w1 (w.heap.size + 1) (fun _ => 0) 0 := MBox.below (by have := Hz0.out (w.alloc (.cells (mcells M s) 80)); rwa [World.size_alloc] at this) (by simp) hb1
  have hsz1 : w.heap.size + 2 ≤ w1.heap.size := by have := hb1.size; simp at this; omega
  have hB1 : Below w.heap.size w w1 := (((Below.refl _ _).alloc (Nat.le_refl _) _).alloc (by simp) _).trans (hb1.mono (by simp; omega))
  have hk1 := hx1.cell r8
  have hf1 := hx1.frozen r
  have hr8 : (r : Int) < 8 := by omega
  have hc8 : (c : Int) < 8 := by omega
  have ho1 := or_pow (M r) v (hm r r8) v4
  go_region
  go_wp2
  obtain ⟨w2, hw2⟩ : ∃ w2, w2 = (w1.setCell ⟨w.heap.size, r, none⟩ (.int .i64 ((M r ||| 2 ^ v : Nat) : Int))).drew := ⟨_, rfl⟩
  rw [← hw2]
  have hx2 : MBox w2 w.heap.size (mput M r v) s := by rw [hw2]; exact hx1.set r8
  have hy2 : MBox w2 (w.heap.size + 1) (fun _ => 0) 0 := by rw [hw2]; exact hy1.other (by omega)
  have hsz2 : w.heap.size + 2 ≤ w2.heap.size := by rw [hw2]; simp; omega
  have hB2 : Below w.heap.size w w2 := by rw [hw2]; exact below_drewN (hB1.setCell (Nat.le_refl _) _) 1
  clear hw2 hk1 hf1 ho1
  have hk2 := hx2.cell c8
  have hf2 := hx2.frozen c
  have ho2 := or_pow (mput M r v c) v (mput_lt hm v4 c c8) v4
  have hx3 := hx2.set (v := v) c8
  have hsz3 : w.heap.size + 1 < ((w2.setCell ⟨w.heap.size, c, none⟩ (.int .i64 ((mput M r v c ||| 2 ^ v : Nat) : Int))).drew).heap.size := by simp; omega
  have hB3 := below_drewN (Below.setCell (p := (⟨w.heap.size, c, none⟩ : Addr)) hB2 (Nat.le_refl _) (.int .i64 ((mput M r v c ||| 2 ^ v : Nat) : Int))) 1
  have Hx3 := Lib.hid hx3; clear hx3
  have hy3 := hy2.other (k := c) (v := (.int .i64 ((mput M r v c ||| 2 ^ v : Nat) : Int))) (show w.heap.size + 1 ≠ w.heap.size by omega)
  have Hy3 := Lib.hid hy3; clear hy3
  have Hi9' : Hid ((Tryd.prog.info? 80).map (·.size) = some (mcells (mput (mput M r v) c v) s).size) := Hi9
  go_region
  go_wp2_with (first | (refine wpList_load_row rfl 80 _ rfl w.heap.size rfl 80 (mcells (mput (mput M r v) c v) s) (0, 0) _ Hx3.out Tryd.underlying80 rfl Hi9'.out ?_) | (refine wpList_store_row rfl 80 _ _ rfl (w.heap.size + 1) (mcells (mput (mput M r v) c v) s) rfl rfl 80 (mcells (fun _ => 0) 0) Hy3.out Hi9'.out rfl (mone _ _) ?_))
  refine bodyPost_ret (v := .agg (mcells (mput (mput M r v) c v) s)) (results_cell_row (by rfl) _ _ (w.heap.size + 1) 80 _ (0, 0) _ rfl (MBox.stored Hy3.out) Tryd.underlying80 rfl Hi9'.out) rfl ⟨rfl, setRow_below hB3 (by omega)⟩

theorem meets_any (M : Nat → Nat) (s : Int) (cell r c v : Nat) (w : World) (h2 : 2 ≤ s) (h4 : s ≤ 4) (hr : (cell : Int) / s = (r : Int)) (hc : s + (cell : Int) % s = (c : Int)) (r8 : r < 8) (c8 : c < 8) (c2 : cell < 16) (v4 : v ≤ 4) (hm : ∀ l, l < 8 → M l < 32) :
    Calls Tryd.prog 103 #[.agg (mcells M s), .int .i64 cell, .int .i64 v] w fun e w' => e = .returned (.bool ((M r).testBit v || (M c).testBit v)) ∧ Below w.heap.size w w' := by
  have hi9 : (Tryd.prog.info? 80).map (·.size) = some (mcells M s).size := by rw [mcells_size]; kernel_rfl
  have Hi9 := Lib.hid hi9; clear hi9
  have Hr := Lib.hid hr; clear hr
  have Hc := Lib.hid hc; clear hc
  have Hm1 := Lib.hid (hm r r8)
  have Hm2 := Lib.hid (hm c c8)
  have Hg0 := Lib.hid (heap_alloc_new w (.cells (mcells M s) 80))
  have hB0 : Below w.heap.size w (w.alloc (.cells (mcells M s) 80)) := (Below.refl _ _).alloc (Nat.le_refl _) _
  have hs8 := MBox.size_ Hg0.out
  cases hbr : (M r).testBit v
  all_goals
    go_enter Tryd.func103, Tryd.ntmps103
    go_wp2_with (first | (refine wpList_load_row rfl 80 _ rfl w.heap.size rfl 80 (mcells M s) (0, 0) _ hx1.out Tryd.underlying80 rfl Hi9.out ?_) | (go_at_call 98; refine (linesThrough_rc s cell r c _ h2 h4 c2 Hr.out Hc.out).mono ?_; rintro e w1 ⟨rfl, hb1⟩; have hx1 := Lib.hid (MBox.below Hg0.out (by simp) hb1); have hB1 := step hB0 hb1; clear hb1))
    refine (has_any M s r v _ r8 v4 Hm1.out).mono ?_
    rintro e w2 ⟨rfl, hb2⟩
    have hx2 := Lib.hid (MBox.below hx1.out (by have := hB1.size; have := hx1.out; exact (Array.getElem?_eq_some_iff.1 this).1) hb2)
    have hB2 := step hB1 hb2
    clear hb2
    go_wp2_with (first | (refine wpList_load_row_w rfl 80 _ rfl w.heap.size rfl 80 (mcells M s) (0, 0) _ hx2.out Tryd.underlying80 rfl Hi9.out ?_) | (go_at_call 129; refine (has_any M s c v _ c8 v4 Hm2.out).mono ?_; rintro e w3 ⟨rfl, hb3⟩; have hB3 := step hB2 hb3; clear hb3))
    go_ret
    exact ⟨rfl, by assumption⟩
end Go.Proofs.YtgejahkdiciplaaDoor
namespace Go.Proofs.YtgejahkdiciplaaDoor
open Go.ChangeShapes Go.WideShapes Go.ChangeAt Go.RowKit

/-- push_int, and where the new slice lies: where the old one lay, or in a block of its own. -/
theorem push_int_at {w : World} {ops : Array Oper} {rest : List Oper} {o : Oper} {a : Act} {Q : Exit → Act → World → Prop} (hgd : o.guard = none) (s x : Operand)
    (ho : o.op = .call { callee := .builtin .append, args := #[s, x], argTypes := #[23, 23] })
    (lo : Nat) (A : Option Addr) (n c : Nat) (xs : List Int) (v : Int) (hs : a.eval s = .slice A n c) (hx : a.eval x = .slice (some ⟨w.heap.size, 0, none⟩) 1 1) (hown : Ow w lo A n c xs) (hn : n ≤ 1099511627776) (hlo : lo ≤ w.heap.size)
    (h : ∀ A' c' w', Ow w' lo A' (n + 1) c' (xs ++ [v]) → (w.alloc (.cells #[.int .i64 v] 3)).grownBy w' (Value.slice A n c).ownBlock → (∀ g, (Value.slice A' (n + 1) c').ownBlock = some g → (Value.slice A n c).ownBlock = some g ∨ w.heap.size < g) → wpList Tryd.prog ops Q rest (a.put o.dst (.slice A' (n + 1) c')) w') :
    wpList Tryd.prog ops Q (o :: rest) a (w.alloc (.cells #[.int .i64 v] 3)) := by
  obtain ⟨i0, hi, hz0, hz1, hz2⟩ := info_parts int_info
  refine Go.wpList_append_own_at (P := Tryd.prog) _ hgd s x 23 ho lo 3 i0 (.int .i64 0) 1 8 Tryd.underlying23 hi hz0 hz1 hz2 rfl (by decide) _ n (vals xs) hs (World.ownsRow.alloc hown _) ⟨w.heap.size, 0, none⟩ 1 1 [.int .i64 v] hx rfl ?_ ?_ (by simp only [maxLen]; omega) (by omega) (by simp; omega) ?_
  · intro j u hj
    match j, hj with
    | 0, hj =>
      simp at hj
      subst hj
      simp [Addr.add]
  · intro u hu
    simp at hu
    subst hu
    rfl
  · intro v' w' h2 h3 _ h5
    obtain ⟨g, cap, hv, _, _⟩ := World.ownsRow.form h2 (by omega)
    subst hv
    refine h _ _ _ (by unfold Ow; rw [vals_append]; exact h2) h3 (fun g' hg' => ?_)
    rcases h5 with h5 | h5
    · left; rw [← h5]; exact hg'
    · right
      rw [h5] at hg'
      simp at hg'
      omega
theorem Ow.kept_ne {w w' : World} {lo : Nat} {A A' : Option Addr} {n c n' c' : Nat} {xs : List Int} (h : Ow w lo A n c xs) (hg : w.grownBy w' (Value.slice A' n' c').ownBlock) (hne : ∀ g, (Value.slice A n c).ownBlock = some g → (Value.slice A' n' c').ownBlock ≠ some g) : Ow w' lo A n c xs := by
  refine World.ownsRow.kept h hg ?_
  cases e : (Value.slice A n c).ownBlock with
  | none => exact .inl rfl
  | some g => exact .inr (fun he => hne g e he.symm)
end Go.Proofs.YtgejahkdiciplaaDoor
namespace Go.Proofs.YtgejahkdiciplaaDoor
open Go.ChangeShapes Go.WideShapes Go.ChangeAt Go.RowKit

theorem gv_okAll {xs : List Int} {size : Int} {n : Nat} (hg : gv xs size = true) (hl : xs.length = n) : okAll xs size n := fun k hk => gv_nth hg (by rw [hl]; exact hk)

def sqOfG (size : Int) (k : Nat) : Int := ((k : Int) / size + (k : Int)) % size + 1
def sqOfL (size : Int) : List Int := if inr size 2 4 = true then mapTo (sqOfG size) (size * size).toNat else []

def missTo (has : Int → Bool) : Nat → List Int
  | 0 => []
  | v + 1 => missTo has v ++ (if has ((v : Int) + 1) = true then [] else [(v : Int) + 1])
def missL (xs : List Int) (size line : Int) : List Int := if (gv xs size && lineOk size line) = true then missTo (hasTo (lineV xs size line) size.toNat) size.toNat else []
theorem missTo_length (has : Int → Bool) (v : Nat) : (missTo has v).length ≤ v := by
  induction v with
  | zero => simp [missTo]
  | succ v ih => simp only [missTo, List.length_append]; split <;> simp <;> omega
theorem missL_length (xs : List Int) (size line : Int) : (missL xs size line).length ≤ 4 := by
  unfold missL
  split
  · next h =>
    simp only [Bool.and_eq_true] at h
    have := gv_size h.1
    have := missTo_length (hasTo (lineV xs size line) size.toNat) size.toNat
    omega
  · simp
end Go.Proofs.YtgejahkdiciplaaDoor
namespace Go.Proofs.YtgejahkdiciplaaDoor
open Go.ChangeShapes Go.WideShapes Go.ChangeAt Go.RowKit

/-- the program's masks behind the first k cells. -/
def lmask (xs : List Int) (s : Nat) : Nat → (Nat → Nat)
  | 0 => fun _ => 0
  | k + 1 => if nth xs k = 0 then lmask xs s k else mput (mput (lmask xs s k) (k / s) (nth xs k).toNat) (s + k % s) (nth xs k).toNat
def twice (xs : List Int) (s : Nat) : Nat → Bool
  | 0 => false
  | k + 1 => if nth xs k = 0 then twice xs s k else twice xs s k || ((lmask xs s k (k / s)).testBit (nth xs k).toNat || (lmask xs s k (s + k % s)).testBit (nth xs k).toNat)
/-- a cell lies in a line. -/
def onL (s l i : Nat) : Bool := i / s == l || s + i % s == l
theorem lmask_lt {xs : List Int} {s n : Nat} (hs : (s : Int) ≤ 4) (hok : okAll xs s n) : ∀ k, k ≤ n → ∀ l, l < 8 → lmask xs s k l < 32 := by
  intro k
  induction k with
  | zero => intro _ l _; simp [lmask]
  | succ k ih =>
    intro hk l hl
    have hv := hok k (by omega)
    simp only [lmask]
    split
    · exact ih (by omega) l hl
    · exact mput_lt (mput_lt (ih (by omega)) (by omega)) (by omega) l hl
theorem mput_test (M : Nat → Nat) (l u j v : Nat) : (mput M l u j).testBit v = ((M j).testBit v || (j == l && u == v)) := by
  unfold mput
  by_cases h : j = l
  · rw [if_pos h, Nat.testBit_or, Nat.testBit_two_pow]
    subst h
    rw [Bool.eq_iff_iff]
    simp
  · rw [if_neg h]
    simp [h]
theorem lmask_test {xs : List Int} {s n : Nat} (hok : okAll xs s n) (l v : Nat) : ∀ k, k ≤ n → ((lmask xs s k l).testBit v = true ↔ 0 < v ∧ ∃ i, i < k ∧ onL s l i = true ∧ nth xs i = (v : Int)) := by
  intro k
  induction k with
  | zero => intro _; simp [lmask]
  | succ k ih =>
    intro hk
    have hv := hok k (by omega)
    have ih := ih (by omega)
    simp only [lmask]
    by_cases hz : nth xs k = 0
    · rw [if_pos hz, ih]
      constructor
      · rintro ⟨h0, i, hi, h1, h2⟩; exact ⟨h0, i, by omega, h1, h2⟩
      · rintro ⟨h0, i, hi, h1, h2⟩
        have : i ≠ k := by rintro rfl; omega
        exact ⟨h0, i, by omega, h1, h2⟩
    · rw [if_neg hz, mput_test, mput_test, Bool.or_eq_true, Bool.or_eq_true, ih]
      simp only [Bool.and_eq_true, beq_iff_eq]
      constructor
      · rintro ((⟨h0, i, hi, h1, h2⟩ | ⟨h1, h2⟩) | ⟨h1, h2⟩)
        · exact ⟨h0, i, by omega, h1, h2⟩
        · exact ⟨by omega, k, by omega, by simp [onL, h1], by omega⟩
        · exact ⟨by omega, k, by omega, by simp [onL, h1], by omega⟩
      · rintro ⟨h0, i, hi, h1, h2⟩
        by_cases e : i = k
        · subst e
          simp only [onL, Bool.or_eq_true, beq_iff_eq] at h1
          rcases h1 with h1 | h1
          · exact .inl (.inr ⟨h1.symm, by omega⟩)
          · exact .inr ⟨h1.symm, by omega⟩
        · exact .inl (.inl ⟨h0, i, by omega, h1, h2⟩)
theorem onL_adj : ∀ s ∈ [2, 3, 4], ∀ i, i < s * s → ∀ j, j < s * s → adj s i j = (i != j && (onL s (j / s) i || onL s (s + j % s) i)) := by decide +kernel
theorem twice_iff {xs : List Int} {s n : Nat} (hs : s ∈ [2, 3, 4]) (hn : n = s * s) (hok : okAll xs s n) : ∀ k, k ≤ n → (twice xs s k = true ↔ ∃ i j, i < j ∧ j < k ∧ adj s i j = true ∧ nth xs i = nth xs j ∧ 0 < nth xs j) := by
  intro k
  induction k with
  | zero => intro _; simp [twice]
  | succ k ih =>
    intro hk
    have hv := hok k (by omega)
    have ih := ih (by omega)
    simp only [twice]
    by_cases hz : nth xs k = 0
    · rw [if_pos hz, ih]
      constructor
      · rintro ⟨i, j, h1, h2, h3, h4, h5⟩; exact ⟨i, j, h1, by omega, h3, h4, h5⟩
      · rintro ⟨i, j, h1, h2, h3, h4, h5⟩
        have : j ≠ k := by rintro rfl; omega
        exact ⟨i, j, h1, by omega, h3, h4, h5⟩
    · rw [if_neg hz, Bool.or_eq_true, Bool.or_eq_true, ih, lmask_test hok _ _ k (by omega), lmask_test hok _ _ k (by omega)]
      constructor
      · rintro (⟨i, j, h1, h2, h3⟩ | (⟨h0, i, hi, h1, h2⟩ | ⟨h0, i, hi, h1, h2⟩))
        · exact ⟨i, j, h1, by omega, h3⟩
        · refine ⟨i, k, hi, by omega, ?_, by omega, by omega⟩
          rw [onL_adj s hs i (by omega) k (by omega), h1]
          simp; omega
        · refine ⟨i, k, hi, by omega, ?_, by omega, by omega⟩
          rw [onL_adj s hs i (by omega) k (by omega), h1]
          simp; omega
      · rintro ⟨i, j, h1, h2, h3, h4, h5⟩
        by_cases e : j = k
        · subst e
          rw [onL_adj s hs i (by omega) j (by omega)] at h3
          simp only [Bool.and_eq_true, Bool.or_eq_true] at h3
          rcases h3.2 with h | h
          · exact .inr (.inl ⟨by omega, i, h1, h, by omega⟩)
          · exact .inr (.inr ⟨by omega, i, h1, h, by omega⟩)
        · exact .inl ⟨i, j, h1, by omega, h3, h4, h5⟩
theorem adj_symm : ∀ s ∈ [2, 3, 4], ∀ i, i < s * s → ∀ j, j < s * s → adj s i j = adj s j i ∧ (adj s i j = true → i ≠ j) := by decide +kernel
theorem twice_clash {xs : List Int} {s n : Nat} (hs : s ∈ [2, 3, 4]) (hn : n = s * s) (hok : okAll xs s n) : twice xs s n = clash xs s := by
  rw [Bool.eq_iff_iff, clash_iff hs, twice_iff hs hn hok n (Nat.le_refl _)]
  constructor
  · rintro ⟨i, j, h1, h2, h3, h4, h5⟩; exact ⟨i, j, by omega, by omega, h3, h4, h5⟩
  · rintro ⟨i, j, h1, h2, h3, h4, h5⟩
    have hne := (adj_symm s hs i h1 j h2).2 h3
    rcases Nat.lt_or_ge i j with h | h
    · exact ⟨i, j, h, by omega, h3, h4, h5⟩
    · exact ⟨j, i, by omega, by omega, by rw [← (adj_symm s hs i h1 j h2).1]; exact h3, h4.symm, by omega⟩
def onLine (s l i : Nat) : Bool := (List.range s).any fun a => (lineAt (s : Nat) (l : Nat) a).toNat == i
theorem onL_line : ∀ s ∈ [2, 3, 4], ∀ l, l < 2 * s → ∀ i, i < s * s → onL s l i = onLine s l i := by decide +kernel
theorem line_lt : ∀ s ∈ [2, 3, 4], ∀ l, l < 2 * s → ∀ a, a < s → (lineAt (s : Nat) (l : Nat) a).toNat < s * s := by decide +kernel
theorem lmask_has {xs : List Int} {s n : Nat} (hs : s ∈ [2, 3, 4]) (hn : n = s * s) (hok : okAll xs s n) {l v : Nat} (hl : l < 2 * s) (hv : 0 < v) : (lmask xs s n l).testBit v = hasTo (lineV xs s l) s (v : Int) := by
  rw [Bool.eq_iff_iff, lmask_test hok l v n (Nat.le_refl _), hasTo_iff]
  constructor
  · rintro ⟨_, i, hi, h1, h2⟩
    rw [onL_line s hs l hl i (by omega)] at h1
    simp only [onLine, List.any_eq_true, List.mem_range, beq_iff_eq] at h1
    obtain ⟨a, ha, e⟩ := h1
    exact ⟨a, ha, by unfold lineV; rw [e]; exact h2⟩
  · rintro ⟨a, ha, h⟩
    have hlt := line_lt s hs l hl a ha
    refine ⟨hv, _, by omega, ?_, h⟩
    rw [onL_line s hs l hl _ hlt]
    simp only [onLine, List.any_eq_true, List.mem_range, beq_iff_eq]
    exact ⟨a, ha, rfl⟩
theorem full_bits : ∀ M, M < 32 → ∀ s ∈ [2, 3, 4], (M = 2 ^ (s + 1) - 2 ↔ ∀ v, v < 5 → M.testBit v = (Nat.blt 0 v && Nat.ble v s)) := by decide +kernel
theorem lmask_zero {xs : List Int} {s n : Nat} (hok : okAll xs s n) (l : Nat) {v : Nat} (hv : v = 0 ∨ s < v) : (lmask xs s n l).testBit v = false := by
  cases h : (lmask xs s n l).testBit v
  · rfl
  · rw [lmask_test hok l v n (Nat.le_refl _)] at h
    obtain ⟨h0, i, hi, _, h2⟩ := h
    have := hok i hi
    omega
theorem lmask_full {xs : List Int} {s n : Nat} (hs : s ∈ [2, 3, 4]) (hn : n = s * s) (hok : okAll xs s n) {l : Nat} (hl : l < 2 * s) : lmask xs s n l = 2 ^ (s + 1) - 2 ↔ ∀ v, 1 ≤ v → v ≤ s → hasTo (lineV xs s l) s (v : Int) = true := by
  have hs4 : s ≤ 4 := by simp at hs; omega
  rw [full_bits _ (lmask_lt (by omega) hok n (Nat.le_refl _) l (by omega)) s hs]
  constructor
  · intro h v h1 h2
    rw [← lmask_has hs hn hok hl (by omega), h v (by omega)]
    simp [Nat.blt_eq]; omega
  · intro h v h5
    by_cases hv : v = 0 ∨ s < v
    · rw [lmask_zero hok l hv]
      rcases hv with rfl | hv
      · rfl
      · have : Nat.ble v s = false := by
          cases e : Nat.ble v s
          · rfl
          · have := Nat.le_of_ble_eq_true e; omega
        rw [this, Bool.and_false]
    · rw [lmask_has hs hn hok hl (by omega), h v (by omega) (by omega)]
      have h1 : Nat.blt 0 v = true := by rw [Nat.blt_eq]; omega
      have h2 : Nat.ble v s = true := Nat.ble_eq_true_of_le (by omega)
      rw [h1, h2]; rfl
/-- where every value of 1..s stands among s values of 0..s, none is 0 and no two are equal. -/
def hasN (L : List Nat) (v : Nat) : Bool := L.contains v
def revB (L : List Nat) (s : Nat) : Bool := (List.range s).any (fun v => !L.contains (v + 1)) || (L.all (fun a => a != 0) && decide L.Nodup)
theorem rev2 : ∀ a, a < 3 → ∀ b, b < 3 → revB [a, b] 2 = true := by decide +kernel
theorem rev3 : ∀ a, a < 4 → ∀ b, b < 4 → ∀ c, c < 4 → revB [a, b, c] 3 = true := by decide +kernel
theorem rev4 : ∀ a, a < 5 → ∀ b, b < 5 → ∀ c, c < 5 → ∀ d, d < 5 → revB [a, b, c, d] 4 = true := by decide +kernel
theorem rev_all {f : Nat → Int} {s : Nat} (hs : s ∈ [2, 3, 4]) (hf : ∀ i, i < s → 0 ≤ f i ∧ f i ≤ s) : revB ((List.range s).map fun i => (f i).toNat) s = true := by
  simp at hs
  rcases hs with rfl | rfl | rfl
  · exact rev2 _ (by have := hf 0 (by omega); show (f 0).toNat < 3; omega) _ (by have := hf 1 (by omega); show (f 1).toNat < 3; omega)
  · exact rev3 _ (by have := hf 0 (by omega); show (f 0).toNat < 4; omega) _ (by have := hf 1 (by omega); show (f 1).toNat < 4; omega) _ (by have := hf 2 (by omega); show (f 2).toNat < 4; omega)
  · exact rev4 _ (by have := hf 0 (by omega); show (f 0).toNat < 5; omega) _ (by have := hf 1 (by omega); show (f 1).toNat < 5; omega) _ (by have := hf 2 (by omega); show (f 2).toNat < 5; omega) _ (by have := hf 3 (by omega); show (f 3).toNat < 5; omega)
theorem rev {f : Nat → Int} {s : Nat} (hs : s ∈ [2, 3, 4]) (hf : ∀ i, i < s → 0 ≤ f i ∧ f i ≤ s) (hall : ∀ v : Nat, 1 ≤ v → v ≤ s → hasTo f s (v : Int) = true) : dupTo f s = false ∧ ∀ i, i < s → f i ≠ 0 := by
  have h := rev_all hs hf
  simp only [revB, Bool.or_eq_true, Bool.and_eq_true, List.any_eq_true, List.mem_range, List.all_eq_true, decide_eq_true_eq] at h
  rcases h with ⟨v, hv, h⟩ | ⟨h0, hd⟩
  · exfalso
    have := hall (v + 1) (by omega) (by omega)
    rw [hasTo_iff] at this
    obtain ⟨i, hi, e⟩ := this
    have hm : (v + 1) ∈ (List.range s).map fun i => (f i).toNat := List.mem_map.2 ⟨i, List.mem_range.2 hi, by omega⟩
    have := List.contains_iff_mem.2 hm
    rw [this] at h
    simp at h
  · refine ⟨?_, fun i hi e => ?_⟩
    · cases hc : dupTo f s
      · rfl
      · rw [dupTo_iff] at hc
        obtain ⟨i, j, hij, hj, he, _⟩ := hc
        have := List.pairwise_map.1 hd
        rw [List.pairwise_iff_getElem] at this
        have h9 := this i j (by simp; omega) (by simp; omega) hij
        simp only [List.getElem_range] at h9
        omega
    · have := h0 (f i).toNat (List.mem_map.2 ⟨i, List.mem_range.2 hi, rfl⟩)
      rw [e] at this
      simp at this
theorem row_of : ∀ s ∈ [2, 3, 4], ∀ k, k < s * s → k / s < 2 * s ∧ k % s < s ∧ (lineAt (s : Nat) ((k / s : Nat) : Int) (k % s)).toNat = k := by decide +kernel
theorem solved_masks {xs : List Int} {s n : Nat} (hs : s ∈ [2, 3, 4]) (hn : n = s * s) (hl : xs.length = n) (hg : gv xs s = true) (hok : okAll xs s n) : sqSolved xs s = true ↔ ∀ l, l < 2 * s → lmask xs s n l = 2 ^ (s + 1) - 2 := by
  have hf : ∀ l, l < 2 * s → ∀ i, i < s → 0 ≤ lineV xs s l i ∧ lineV xs s l i ≤ s := fun l hl' i hi => hok _ (by rw [hn]; exact line_lt s hs l hl' i hi)
  rw [solved_iff hl]
  constructor
  · rintro ⟨_, hc, hz⟩ l hl'
    rw [lmask_full hs hn hok hl']
    intro v v1 v2
    refine pig hs (fun i hi => ?_) ?_ (by omega) (by omega)
    · have h1 := hf l hl' i hi
      have h2 := hz (lineAt (s : Nat) (l : Nat) i).toNat (by rw [hn]; exact line_lt s hs l hl' i hi)
      unfold lineV at *
      omega
    · cases hd : dupTo (lineV xs s l) s
      · rfl
      · have : clash xs s = true := clash_at (l := l) (by omega) (by rw [Int.toNat_natCast]; exact hd)
        rw [hc] at this; cases this
  · intro h
    have key : ∀ l, l < 2 * s → dupTo (lineV xs s l) s = false ∧ ∀ i, i < s → lineV xs s l i ≠ 0 := fun l hl' => rev hs (hf l hl') (fun v v1 v2 => (lmask_full hs hn hok hl').1 (h l hl') v v1 v2)
    refine ⟨hg, ?_, fun k hk => ?_⟩
    · cases hc : clash xs s
      · rfl
      · rw [clash, clashTo_iff] at hc
        obtain ⟨l, hl', hd⟩ := hc
        rw [Int.toNat_natCast, (key l (by omega)).1] at hd
        cases hd
    · obtain ⟨h1, h2, h3⟩ := row_of s hs k (by omega)
      have := (key _ h1).2 _ h2
      unfold lineV at this
      rw [h3] at this
      exact this
end Go.Proofs.YtgejahkdiciplaaDoor
namespace Go.Proofs.YtgejahkdiciplaaDoor
open Go.ChangeShapes Go.WideShapes Go.ChangeAt Go.RowKit

theorem results_cell_tmp {P : Program} {fn : Func} {p q : Tmp} {ty : TypeId} (h : fn.results = #[.cell p ty, .tmp q]) (tmps : Array Value) (w : World) (g : Nat) (t : TypeId) (cs : Array Value) (fr : Nat × Nat) (d : TypeDesc) (b : Value)
    (hp : tmps.getD p undef = .pointer (some ⟨g, 0, none⟩)) (hq : tmps.getD q undef = b) (hg : w.heap[g]? = some (.cells cs t fr))
    (hu : P.underlying ty = some d) (hd : (match d with | .struct _ | .array _ _ => true | _ => false) = true) (hi : (P.info? ty).map (·.size) = some cs.size) :
    (results fn tmps).run P w = .ok (.tuple #[.agg cs, b]) w := by
  have hp' : tmps[p]?.getD undef = .pointer (some ⟨g, 0, none⟩) := by simpa using hp
  have hq' : tmps[q]?.getD undef = b := by simpa using hq
  simp [results, h, hp', hq', asAddr, run_loadVar_row w g t ty cs fr d hg hu hd hi]
theorem MBox.lt {w : World} {g : Nat} {M : Nat → Nat} {s : Int} (h : MBox w g M s) : g < w.heap.size := (Array.getElem?_eq_some_iff.1 h).1
theorem MBox.row_other {w : World} {g g' : Nat} {cs : Array Value} {M : Nat → Nat} {s : Int} (h : MBox w g M s) (hne : g ≠ g') : MBox (w.setRow g' cs) g M s := by
  unfold MBox World.setRow
  simp only [Array.getElem?_modify]
  rw [if_neg (fun e => hne e.symm)]
  exact h
theorem lmask_z {xs : List Int} {s k : Nat} (h : nth xs k = 0) : lmask xs s (k + 1) = lmask xs s k ∧ twice xs s (k + 1) = twice xs s k := by simp [lmask, twice, h]
theorem lmask_nz {xs : List Int} {s k v : Nat} (h : nth xs k = (v : Int)) (hv : v ≠ 0) : lmask xs s (k + 1) = mput (mput (lmask xs s k) (k / s) v) (s + k % s) v ∧ twice xs s (k + 1) = (twice xs s k || ((lmask xs s k (k / s)).testBit v || (lmask xs s k (s + k % s)).testBit v)) := by
  have h0 : nth xs k ≠ 0 := by omega
  have e : (nth xs k).toNat = v := by omega
  simp only [lmask, twice]
  rw [if_neg h0, if_neg h0, e]
  exact ⟨rfl, rfl⟩
theorem rc_lt : ∀ s ∈ [2, 3, 4], ∀ k, k < s * s → k / s < 8 ∧ s + k % s < 8 := by decide +kernel

theorem lines_any (A : Option Addr) (c n B s : Nat) (xs : List Int) (w : World) (h : Rd w B A n xs) (hB : B ≤ w.heap.size) (hs : s ∈ [2, 3, 4]) (hn : n = s * s) (hok : Hid (okAll xs s n)) :
    Calls Tryd.prog 72 #[.agg #[.slice A n c, .int .i64 s]] w fun e w' => e = .returned (.tuple #[.agg (mcells (lmask xs s n) s), .bool (twice xs s n)]) ∧ Below w.heap.size w w' := by
  have hs2 : 2 ≤ s := by simp at hs; omega
  have hs4 : s ≤ 4 := by simp at hs; omega
  have hn16 : n ≤ 16 := by simp at hs; rcases hs with rfl | rfl | rfl <;> omega
  have Hn := Lib.hid hn; clear hn
  have hi9 : ∀ M : Nat → Nat, (Tryd.prog.info? 80).map (·.size) = some (mcells M s).size := fun M => by rw [mcells_size]; kernel_rfl
  have Hi9 := Lib.hid hi9; clear hi9
  have hone : ∀ M : Nat → Nat, (mcells M s).all (·.oneCell') = true := fun M => mone M s
  have Hone := Lib.hid hone; clear hone
  go_enter Tryd.func72, Tryd.ntmps72
  go_wp2
  go_loopw [5, 14] (fun t i wr => ∃ k : Nat, k ≤ n ∧ i = .int .i64 k ∧ t = .bool (twice xs s k) ∧ Hid (MBox wr (w.heap.size + 1 + 1) (lmask xs s k) s) ∧ Hid (MBox wr (w.heap.size + 1) (fun _ => 0) 0) ∧ Below w.heap.size w wr) (fun _ i _ => n - (intOf i).toNat)
  case atStart =>
    refine ⟨0, Nat.zero_le _, rfl, rfl, Lib.hid ?_, Lib.hid ?_, (((Below.refl _ _).alloc (Nat.le_refl _) _).alloc (by simp) _).alloc (by simp; omega) _⟩
    · have := heap_alloc_new ((w.alloc (Obj.cells #[Value.slice A n c, Value.int IntKind.i64 ↑s] 59)).alloc (Obj.cells (mcells (fun _ => 0) 0) 80)) (.cells (mcells (fun _ => 0) s) 80)
      simp only [World.size_alloc] at this
      exact this
    · have := heap_alloc_new (w.alloc (Obj.cells #[Value.slice A n c, Value.int IntKind.i64 ↑s] 59)) (.cells (mcells (fun _ => 0) 0) 80)
      simp only [World.size_alloc] at this
      exact (heap_alloc_old _ _ (by simp)).trans this
  case round =>
    obtain ⟨k, hk, rfl, rfl, hx, hy, hB0⟩ := hrel
    by_cases hlt : k < n
    · obtain ⟨b, off, rfl, hbB, hck⟩ := (h.below (hB0.mono hB)).at_ hlt
      obtain ⟨x0, x4⟩ := hok.out k hlt
      obtain ⟨v, hv⟩ := Int.eq_ofNat_of_zero_le x0
      have hv4 : v ≤ 4 := by omega
      obtain ⟨hr8, hc8⟩ := rc_lt s hs k (by have := Hn.out; omega)
      have Hr : Hid ((k : Int) / (s : Int) = ((k / s : Nat) : Int)) := Lib.hid (by simp)
      have Hc : Hid ((s : Int) + (k : Int) % (s : Int) = ((s + k % s : Nat) : Int)) := Lib.hid (by simp)
      have Hm := Lib.hid (lmask_lt (xs := xs) (by omega : (s : Int) ≤ 4) hok.out k hk)
      by_cases hz : v = 0
      · subst hz
        obtain ⟨e1, e2⟩ := lmask_z (s := s) hv
        have E1 := Lib.hid e1; have E2 := Lib.hid e2; clear e1 e2
        go_wp2
        go_roundw
        case rel => exact ⟨k + 1, by omega, by go_num, by rw [E2.out], by rw [E1.out]; exact hx, hy, hB0⟩
        case measure => simp [intOf]; omega
      · obtain ⟨e1, e2⟩ := lmask_nz (s := s) hv hz
        have E1 := Lib.hid e1; have E2 := Lib.hid e2; clear e1 e2
        have hz1 : ((v : Int) == 0) = false := by simp; omega
        cases ht : twice xs s k
        · go_wp2_with (first | (refine wpList_load_row_w rfl 80 _ rfl (w.heap.size + 1 + 1) rfl 80 (mcells (lmask xs s k) s) (0, 0) _ hx.out Tryd.underlying80 rfl (Hi9.out _) ?_) | (go_at_call 103; refine (meets_any (lmask xs s k) s k (k / s) (s + k % s) v _ (by omega) (by omega) Hr.out Hc.out hr8 hc8 (by omega) hv4 Hm.out).mono ?_; rintro e w1 ⟨rfl, hb1⟩; have hx1 := Lib.hid (MBox.below hx.out hx.out.lt hb1); have hy1 := Lib.hid (MBox.below hy.out hy.out.lt hb1); have hB1 := step hB0 hb1; clear hb1) | (refine wpList_load_row rfl 80 _ rfl (w.heap.size + 1 + 1) rfl 80 (mcells (lmask xs s k) s) (0, 0) _ hx1.out Tryd.underlying80 rfl (Hi9.out _) ?_) | (go_at_call 104; refine (with_any (lmask xs s k) s k (k / s) (s + k % s) v _ (by omega) (by omega) Hr.out Hc.out hr8 hc8 (by omega) hv4 Hm.out).mono ?_; rintro e w2 ⟨rfl, hb2⟩; have hx2 := Lib.hid (MBox.below hx1.out hx1.out.lt hb2); have hy2 := Lib.hid (MBox.below hy1.out hy1.out.lt hb2); have hB2 := step hB1 hb2; clear hb2) | (refine wpList_store_row rfl 80 _ _ rfl (w.heap.size + 1 + 1) (mcells (mput (mput (lmask xs s k) (k / s) v) (s + k % s) v) s) rfl rfl 80 (mcells (lmask xs s k) s) hx2.out (Hi9.out _) rfl (Hone.out _) ?_))
          have hxe := Lib.hid (MBox.stored (M' := mput (mput (lmask xs s k) (k / s) v) (s + k % s) v) (s' := s) hx2.out)
          have hye := Lib.hid (MBox.row_other (cs := mcells (mput (mput (lmask xs s k) (k / s) v) (s + k % s) v) s) hy2.out (show w.heap.size + 1 ≠ w.heap.size + 1 + 1 by omega))
          have hBe := setRow_below (g := w.heap.size + 1 + 1) (cs := mcells (mput (mput (lmask xs s k) (k / s) v) (s + k % s) v) s) hB2 (by omega)
          rw [ht] at E2
          go_roundw
          case rel => exact ⟨k + 1, by omega, by go_num, by rw [E2.out]; rfl, by rw [E1.out]; exact hxe, hye, hBe⟩
          case measure => simp [intOf]; omega
        · go_wp2_with (first | (refine wpList_load_row rfl 80 _ rfl (w.heap.size + 1 + 1) rfl 80 (mcells (lmask xs s k) s) (0, 0) _ hx.out Tryd.underlying80 rfl (Hi9.out _) ?_) | (go_at_call 104; refine (with_any (lmask xs s k) s k (k / s) (s + k % s) v _ (by omega) (by omega) Hr.out Hc.out hr8 hc8 (by omega) hv4 Hm.out).mono ?_; rintro e w2 ⟨rfl, hb2⟩; have hx2 := Lib.hid (MBox.below hx.out hx.out.lt hb2); have hy2 := Lib.hid (MBox.below hy.out hy.out.lt hb2); have hB2 := step hB0 hb2; clear hb2) | (refine wpList_store_row rfl 80 _ _ rfl (w.heap.size + 1 + 1) (mcells (mput (mput (lmask xs s k) (k / s) v) (s + k % s) v) s) rfl rfl 80 (mcells (lmask xs s k) s) hx2.out (Hi9.out _) rfl (Hone.out _) ?_))
          have hxe := Lib.hid (MBox.stored (M' := mput (mput (lmask xs s k) (k / s) v) (s + k % s) v) (s' := s) hx2.out)
          have hye := Lib.hid (MBox.row_other (cs := mcells (mput (mput (lmask xs s k) (k / s) v) (s + k % s) v) s) hy2.out (show w.heap.size + 1 ≠ w.heap.size + 1 + 1 by omega))
          have hBe := setRow_below (g := w.heap.size + 1 + 1) (cs := mcells (mput (mput (lmask xs s k) (k / s) v) (s + k % s) v) s) hB2 (by omega)
          rw [ht] at E2
          go_roundw
          case rel => exact ⟨k + 1, by omega, by go_num, by rw [E2.out]; rfl, by rw [E1.out]; exact hxe, hye, hBe⟩
          case measure => simp [intOf]; omega
    · obtain rfl : k = n := by omega
      have hxf := Lib.hid (MBox.stored (M' := lmask xs s k) (s' := s) hy.out)
      have hBe := setRow_below (g := w.heap.size + 1) (cs := mcells (lmask xs s k) s) hB0 (by omega)
      go_wp2_with (first | (refine wpList_load_row rfl 80 _ rfl (w.heap.size + 1 + 1) rfl 80 (mcells (lmask xs s k) s) (0, 0) _ hx.out Tryd.underlying80 rfl (Hi9.out _) ?_) | (refine wpList_store_row rfl 80 _ _ rfl (w.heap.size + 1) (mcells (lmask xs s k) s) rfl rfl 80 (mcells (fun _ => 0) 0) hy.out (Hi9.out _) rfl (Hone.out _) ?_))
      refine bodyPost_ret (v := .tuple #[.agg (mcells (lmask xs s k) s), .bool (twice xs s k)]) (results_cell_tmp (by rfl) _ _ (w.heap.size + 1) 80 _ (0, 0) _ _ rfl rfl hxf.out Tryd.underlying80 rfl (Hi9.out _)) rfl ⟨rfl, hBe⟩
end Go.Proofs.YtgejahkdiciplaaDoor
set_option maxRecDepth 8000
namespace Go.Proofs.YtgejahkdiciplaaDoor
open Go.ChangeShapes Go.WideShapes Go.ChangeAt Go.RowKit
/-! the first technique of the program. -/
theorem line_inS {s u : Nat} (hs : s ∈ [2, 3, 4]) (hu : u < 2 * s) : ∀ j, j < s → ∃ q : Nat, lineAt s u j = (q : Int) ∧ lcN s u j = q ∧ q < s * s := by
  intro j hj
  have h := line_at hs hu j hj
  have h0 : 0 ≤ lineAt s u j := by
    simp at hs
    by_cases hx : (u : Int) < (s : Int)
    · rw [lineAt_row hx]
      rcases hs with rfl | rfl | rfl <;> omega
    · rw [lineAt_col hx]
      rcases hs with rfl | rfl | rfl <;> omega
  exact ⟨(lineAt s u j).toNat, by omega, rfl, h⟩
theorem lineCells_lineS {f : Nat} {s u : Nat} {w : World} (hs : s ∈ [2, 3, 4]) (hu : u < 2 * s) (h : Calls Tryd.prog f #[.int .i64 s, .int .i64 u] w (RetSl w (lineL s u))) :
    Calls Tryd.prog f #[.int .i64 s, .int .i64 u] w fun e w'' => ∃ A3 c3, e = .returned (.slice A3 s c3) ∧ Ow w'' w.heap.size A3 s c3 (lineTo s u s) ∧ Below w.heap.size w w'' := by
  refine h.mono ?_
  rintro e w'' ⟨A3, c3, rfl, ho3, hb3⟩
  have e1 : lineL s u = lineTo s u s := by
    have : lineOk s u = true := by simp [lineOk, inr]; simp at hs; omega
    simp [lineL, this]
  rw [e1, lineTo_length] at ho3
  rw [e1, lineTo_length]
  exact ⟨A3, c3, rfl, ho3, hb3⟩
set_option maxHeartbeats 1000000 in
theorem singlesIn_any (A : Option Addr) (c n B : Nat) (m : List Int) (s : Int) (w : World) (h : Rd w B A n m) (hBm : B ≤ w.heap.size) (hv : mvd m s = true) (hT : Tz w) :
    Calls Tryd.prog 65 #[.slice A n c] w fun e w' => ∃ A' c', e = .returned (.slice A' (sQ m n).length c') ∧ OwF w' w.heap.size A' (sQ m n).length c' (sQ m n) ∧ Below w.heap.size w w' := by
  have hlen := h.1
  obtain ⟨_, _, hn16, _⟩ := mvd_at hv
  rw [hlen] at hn16
  have Hv := Lib.hid hv
  clear hv hlen
  go_enter Tryd.func65, Tryd.ntmps65
  go_wp2
  go_loopw [3, 9] (fun qv i wr => ∃ (u k : Nat) (A' : Option Addr) (c' : Nat), u ≤ n ∧ i = .int .i64 u ∧ qv = .slice A' k c' ∧ Hid ((sQ m u).length = k) ∧ OwF wr w.heap.size A' k c' (sQ m u) ∧ Below w.heap.size w wr) (fun _ i _ => n - (intOf i).toNat)
  case atStart => exact ⟨0, 0, none, 0, Nat.zero_le _, rfl, rfl, Lib.hid rfl, World.ownsRow_nil _ _ _ _, Below.refl _ _⟩
  case round =>
    obtain ⟨u, k, A', c', hu, rfl, rfl, hk, ho, hb⟩ := hrel
    by_cases hlt : u < n
    · have hltI : (u : Int) < (n : Int) := by omega
      obtain ⟨b, off, rfl, hbB, hck⟩ := (h.below (hb.mono hBm)).at_ hlt
      have hsw := hb.size
      have hTr := hT.below hT.lt hb
      have hk16 : k ≤ 16 := by have := hk.out; have := sQ_len m u; omega
      have hk11 : k ≤ 1099511627776 := by omega
      obtain ⟨x0, x1, x2⟩ := mvd_nth Hv.out u
      obtain ⟨M, hM⟩ := Int.eq_ofNat_of_zero_le x0
      have hm2 : M % 2 = 0 := by rw [hM, Int.tmod_eq_emod_of_nonneg (by omega)] at x2; omega
      have hM32 : M < 32 := by omega
      have Hone := Lib.hid (fun w hT => onlyValue_any M hM32 hm2 w hT)
      rw [show oneOf (bitsTo M 4) = oneOf (maskVals (nth m u)) by rw [hM, mv_bits hM32 hm2]] at Hone
      rw [hM] at hck
      have Hs : Hid (sQ m (u + 1) = if oneOf (maskVals (nth m u)) = 0 then sQ m u else sQ m u ++ [(u, (oneOf (maskVals (nth m u))).toNat)]) := Lib.hid rfl
      rcases one_at Hv.out u with ⟨_, v, v1, v4, hov, _⟩ | ⟨_, h0⟩
      · rw [hov] at Hone Hs
        have hne : ((v : Int) != 0) = true := by simp; omega
        obtain ⟨L, hL⟩ : ∃ L, sQ m u = L := ⟨_, rfl⟩
        have Hs' := Lib.hid (show sQ m (u + 1) = L ++ [(u, v)] by rw [Hs.out, if_neg (by omega), hL]; simp)
        have hk' := Lib.hid (show L.length = k by rw [← hL]; exact hk.out)
        rw [hL] at ho
        have HO := Lib.hid ho
        clear x0 x1 x2 hM hm2 hov Hs hL ho hk
        go_wp2_with (first
          | (go_at_call 51; refine (Hone.out _ hTr).mono ?_; rintro e w' ⟨rfl, rfl⟩; have ho5 := HO.out)
          | (at_builtin; refine push_found rfl (.tmp 18) (.tmp 22) rfl w.heap.size A' k c' _ u v rfl rfl ho5 hk11 hsw ?_; intro A4 c4 w4 ho4 hg4))
        have hb4 : Below w.heap.size w w4 := (hb.alloc hsw _).grown hg4 (by simp; omega) (fun j hj => (World.ownsRow.lt HO.out j hj).1)
        go_roundw
        case rel => exact ⟨u + 1, k + 1, A4, c4, by omega, by go_num, rfl, Lib.hid (by rw [Hs'.out, List.length_append, hk'.out]; rfl), by rw [Hs'.out]; exact ho4, hb4⟩
        case measure => simp [intOf]; omega
      · rw [h0] at Hone Hs
        have Hs' := Lib.hid (show sQ m (u + 1) = sQ m u by rw [Hs.out, if_pos rfl])
        clear x0 x1 x2 hM hm2 h0 Hs
        go_wp2_with (go_at_call 51; refine (Hone.out _ hTr).mono ?_; rintro e w' ⟨rfl, rfl⟩)
        go_roundw
        case rel => exact ⟨u + 1, k, A', c', by omega, by go_num, rfl, Lib.hid (by rw [Hs'.out]; exact hk.out), by rw [Hs'.out]; exact ho, hb⟩
        case measure => simp [intOf]; omega
    · obtain rfl : u = n := by omega
      go_wp2
      go_ret
      rw [hk.out]
      exact ⟨_, _, rfl, ho, hb⟩
/-- the grid behind the first lines of two. -/
def clTo (S : Nat) (o : List Int) (k v : Nat) : Nat → List Int
  | 0 => o
  | 1 => cIn S (k / S) k (2 ^ v) o S
  | _ => clQ S o (k, v)
def lnAt (S k : Nat) : Nat → Nat
  | 0 => k / S
  | _ => S + k % S
theorem clTo_len (S : Nat) (o : List Int) (k v j : Nat) : (clTo S o k v j).length = o.length := by
  unfold clTo
  split
  · rfl
  · exact cIn_len _ _ _ _ _ _
  · exact clQ_len _ _ _
theorem clTo_step {S : Nat} {o : List Int} {k v j : Nat} (hj : j < 2) : clTo S o k v (j + 1) = cIn S (lnAt S k j) k (2 ^ v) (clTo S o k v j) S := by
  have : j = 0 ∨ j = 1 := by omega
  rcases this with rfl | rfl <;> rfl
set_option maxHeartbeats 2000000 in
theorem clearLines_any (g n cc lo s k v : Nat) (o : List Int) (w : World) (ho : Ow w lo (some ⟨g, 0, none⟩) n cc o) (hs : s ∈ [2, 3, 4]) (hn : n = s * s) (hk : k < n) (hv1 : 1 ≤ v) (hv4 : v ≤ 4) :
    Calls Tryd.prog 66 #[.slice (some ⟨g, 0, none⟩) n cc, .int .i64 s, .agg #[.int .i64 k, .int .i64 v]] w fun e w' => e = .returned (.tuple #[]) ∧ Ow w' lo (some ⟨g, 0, none⟩) n cc (clQ s o (k, v)) ∧ w.grownBy w' (some g) := by
  have hs2 : 2 ≤ s := by simp at hs; omega
  have hs4 : s ≤ 4 := by simp at hs; omega
  have hk16 : k < 16 := by simp at hs; rcases hs with rfl | rfl | rfl <;> omega
  have hgw := ho.own_hi g rfl
  obtain ⟨hr8, hc8⟩ := rc_lt s hs k (by rw [← hn]; exact hk)
  have Hln : Hid (∀ j, lnAt s k j < 2 * s) := Lib.hid (fun j => by
    have hs0 : 0 < s := by omega
    unfold lnAt
    split
    · have : k / s < s := Nat.div_lt_of_lt_mul (by rw [← hn]; exact hk); omega
    · have := Nat.mod_lt k hs0; omega)
  have Hs := Lib.hid hs
  have Hn := Lib.hid hn
  have Hr : Hid ((k : Int) / (s : Int) = ((k / s : Nat) : Int)) := Lib.hid (by simp)
  have Hc : Hid ((s : Int) + (k : Int) % (s : Int) = ((s + k % s : Nat) : Int)) := Lib.hid (by simp)
  obtain ⟨r, hr⟩ : ∃ r, r = k / s := ⟨_, rfl⟩
  obtain ⟨q, hq⟩ : ∃ q, q = s + k % s := ⟨_, rfl⟩
  have Hr' := Lib.hid (show lnAt s k 0 = r from hr.symm)
  have Hq' := Lib.hid (show lnAt s k 1 = q from hq.symm)
  rw [← hr] at Hr hr8
  rw [← hq] at Hc hc8
  have hx0 : (w.alloc (.cells #[.int .i64 (k : Int), .int .i64 (v : Int)] 72)).cell? ⟨w.heap.size, 0, none⟩ = some (.int .i64 k) := cell_of_row _ _ 0 _ _ (0, 0) (heap_alloc_new w _)
  have hx1 : (w.alloc (.cells #[.int .i64 (k : Int), .int .i64 (v : Int)] 72)).cell? ⟨w.heap.size, 1, none⟩ = some (.int .i64 v) := cell_of_row _ _ 1 _ _ (0, 0) (heap_alloc_new w _)
  have hs0 : w.heap.size < (w.alloc (.cells #[.int .i64 (k : Int), .int .i64 (v : Int)] 72)).heap.size := by simp
  have hb0 : Below w.heap.size w (w.alloc (.cells #[.int .i64 (k : Int), .int .i64 (v : Int)] 72)) := (Below.refl _ _).alloc (Nat.le_refl _) _
  have hw2 : wrap64 ((2 : Int) ^ v) = 2 ^ v := by
    obtain ⟨r, rfl⟩ : ∃ r, v = r + 1 := ⟨v - 1, by omega⟩
    exact pow_wrap5 (by omega)
  have hv64 : v < 64 := by omega
  clear hr hq hs hn
  go_enter Tryd.func66, Tryd.ntmps66
  go_wp2_with (go_at_call 98; refine (linesThrough_rc s k r q _ (by omega) (by omega) hk16 Hr.out Hc.out).mono ?_; rintro e w1 ⟨rfl, hb1⟩)
  have hy0 := (hb1.cell (p := ⟨w.heap.size, 0, none⟩) hs0).trans hx0
  have hy1 := (hb1.cell (p := ⟨w.heap.size, 1, none⟩) hs0).trans hx1
  have hw1 : w.heap.size < w1.heap.size := Nat.lt_of_lt_of_le hs0 hb1.size
  have hbA := step hb0 hb1
  obtain ⟨W, hW⟩ : ∃ W, w1.alloc (.cells #[.int .i64 (r : Int), .int .i64 (q : Int)] 3) = W := ⟨_, rfl⟩
  have hz0 : W.cell? ⟨w1.heap.size, 0, none⟩ = some (.int .i64 r) := by rw [← hW]; exact cell_of_row _ _ 0 _ _ (0, 0) (heap_alloc_new w1 _)
  have hz1 : W.cell? ⟨w1.heap.size, 1, none⟩ = some (.int .i64 q) := by rw [← hW]; exact cell_of_row _ _ 1 _ _ (0, 0) (heap_alloc_new w1 _)
  have hbW : Below w1.heap.size w1 W := by rw [← hW]; exact (Below.refl _ _).alloc (Nat.le_refl _) _
  have hsW : w1.heap.size < W.heap.size := by rw [← hW]; simp
  have hb2 := step hbA hbW
  have hoW := ho.below hb2
  have hq0 := (hbW.cell (p := ⟨w.heap.size, 0, none⟩) hw1).trans hy0
  have hq1 := (hbW.cell (p := ⟨w.heap.size, 1, none⟩) hw1).trans hy1
  obtain ⟨L, hL⟩ : ∃ L, w1.heap.size = L := ⟨_, rfl⟩
  have HW := Lib.hid hW
  rw [hL] at hz0 hz1 hsW hw1
  have HS : Hid (∀ wr, W.grownBy wr (some g) → wr.cell? ⟨w.heap.size, 0, none⟩ = some (.int .i64 k) ∧ wr.cell? ⟨w.heap.size, 1, none⟩ = some (.int .i64 v) ∧ wr.cell? ⟨L, 0, none⟩ = some (.int .i64 r) ∧ wr.cell? ⟨L, 1, none⟩ = some (.int .i64 q)) := Lib.hid (fun wr hg =>
    ⟨(hg.cell_far ⟨w.heap.size, 0, none⟩ (by show w.heap.size < _; omega) (fun e => by injection e with e; dsimp only at e; omega)).trans hq0, (hg.cell_far ⟨w.heap.size, 1, none⟩ (by show w.heap.size < _; omega) (fun e => by injection e with e; dsimp only at e; omega)).trans hq1,
     (hg.cell_far ⟨L, 0, none⟩ (by show L < _; omega) (fun e => by injection e with e; dsimp only at e; omega)).trans hz0, (hg.cell_far ⟨L, 1, none⟩ (by show L < _; omega) (fun e => by injection e with e; dsimp only at e; omega)).trans hz1⟩)
  have hgr2 : w.grownBy W (some g) := ⟨hb2.os, hb2.tape, hb2.output, hb2.size, fun j hj _ => hb2.block j hj⟩
  have HG2 := Lib.hid hgr2
  clear hW hx0 hx1 hy0 hy1 hz0 hz1 hq0 hq1 hb0 hb1 hbA hbW hb2 hgr2 ho
  rw [HW.out, hL]
  go_loopw [23] (fun i wr => ∃ j : Nat, j ≤ 2 ∧ i = .int .i64 j ∧ Ow wr lo (some ⟨g, 0, none⟩) n cc (clTo s o k v j) ∧ W.grownBy wr (some g)) (fun i _ => 2 - (intOf i).toNat)
  case atStart => exact ⟨0, Nat.zero_le _, rfl, hoW, World.grownBy.refl _ _⟩
  case round =>
    obtain ⟨j, hj, rfl, ho, hg⟩ := hrel
    by_cases hlt : j < 2
    · have hltI : (j : Int) < 2 := by omega
      have hline : wr.cell? ⟨L, j, none⟩ = some (.int .i64 (lnAt s k j : Nat)) := by
        obtain ⟨_, _, c0, c1⟩ := HS.out wr hg
        have : j = 0 ∨ j = 1 := by omega
        rcases this with rfl | rfl
        · rw [Hr'.out]; exact c0
        · rw [Hq'.out]; exact c1
      obtain ⟨u, hu⟩ : ∃ u, lnAt s k j = u := ⟨_, rfl⟩
      have hu2 : u < 2 * s := by rw [← hu]; exact Hln.out j
      have Hst := Lib.hid (clTo_step (S := s) (o := o) (k := k) (v := v) hlt)
      rw [hu] at hline Hst
      obtain ⟨oj, hoj⟩ : ∃ oj, clTo s o k v j = oj := ⟨_, rfl⟩
      rw [hoj] at ho Hst
      have HLc := Lib.hid (lineCells_lineS Hs.out hu2 (implLineCells s u wr ⟨by omega, by omega⟩))
      have hat := Lib.hid (line_inS Hs.out hu2)
      rw [← Hn.out] at hat
      have hgwr := ho.own_hi g rfl
      clear hu hoj
      go_wp2_with (go_at_call 99; refine HLc.out.mono ?_; rintro e w3 ⟨A3, c3, rfl, ho3, hb3⟩)
      have hoA := ho.below hb3
      have hgA : W.grownBy w3 (some g) := hg.trans ⟨hb3.os, hb3.tape, hb3.output, hb3.size, fun j hj _ => hb3.block j hj⟩
      have ho3' := ho3.mono (show g + 1 ≤ wr.heap.size from hgwr)
      clear ho ho3 hg hb3
      go_loopw [31] (fun i wr => ∃ t : Nat, t ≤ s ∧ i = .int .i64 t ∧ Ow wr lo (some ⟨g, 0, none⟩) n cc (cIn s u k (2 ^ v) oj t) ∧ Ow wr (g + 1) A3 s c3 (lineTo s u s) ∧ W.grownBy wr (some g)) (fun i _ => s - (intOf i).toNat)
      case atStart => exact ⟨0, Nat.zero_le _, rfl, hoA, ho3', hgA⟩
      case round =>
        clear hoA ho3' hgA hline
        obtain ⟨t, ht, rfl, ho, hoL, hg⟩ := hrel
        by_cases hts : t < s
        · have htI : (t : Int) < (s : Int) := by omega
          obtain ⟨p, hp, hpc, hpn⟩ := hat.out t hts
          obtain ⟨g3, rfl, _, _⟩ := hoL.form (by omega)
          obtain ⟨hcl, _⟩ := hoL.cell hts
          rw [lineTo_nth hts, hp] at hcl
          obtain ⟨d0, d1, _, _⟩ := HS.out wr hg
          obtain ⟨ot, hot⟩ : ∃ ot, cIn s u k (2 ^ v) oj t = ot := ⟨_, rfl⟩
          have Hs1 := Lib.hid (show cIn s u k (2 ^ v) oj (t + 1) = if p ≠ k then ot.set p (bits .andNot .i64 (nth ot p) (2 ^ v)) else ot by simp only [cIn]; rw [hpc, hot])
          rw [hot] at ho
          clear hp hpc hot
          by_cases hpk : p = k
          · have hne : ((p : Int) != (k : Int)) = false := by simp; omega
            have Hs1' := Lib.hid (show cIn s u k (2 ^ v) oj (t + 1) = ot by rw [Hs1.out, if_neg (by simpa using hpk)])
            clear hpk Hs1
            go_wp2
            go_roundw
            case rel => exact ⟨t + 1, by omega, by go_num, by rw [Hs1'.out]; exact ho, hoL, hg⟩
            case measure => simp [intOf]; omega
          · have hne : ((p : Int) != (k : Int)) = true := by simp; omega
            obtain ⟨hcn, hfn⟩ := ho.cell hpn
            have hpI : (p : Int) < (n : Int) := by omega
            obtain ⟨z, hz⟩ : ∃ z, bits .andNot .i64 (nth ot p) (2 ^ v) = z := ⟨_, rfl⟩
            have Hs1' := Lib.hid (show cIn s u k (2 ^ v) oj (t + 1) = ot.set p z by rw [Hs1.out, if_pos hpk, hz])
            have Hz := Lib.hid hz
            have hput := Lib.hid (ho.putN p z)
            have hLp := Lib.hid (hoL.far (w' := wr.setCell ⟨g, p, none⟩ (.int .i64 z)) grown_set (fun b hb e => by have h1 := hoL.own_lo b hb; injection e with e; omega))
            have hgp := Lib.hid (hg.trans (grown_set (w := wr) (G := g) (i := p) (v := (.int .i64 z))))
            clear hpk Hs1 hz
            go_wp2
            go_region
            rw [Hz.out]
            go_wp2
            go_roundw
            case rel => exact ⟨t + 1, by omega, by go_num, by rw [Hs1'.out]; exact hput.out, hLp.out, grown_drew hgp.out⟩
            case measure => simp [intOf]; omega
        · obtain rfl : t = s := by omega
          go_wp2
          go_roundw
          case rel => exact ⟨j + 1, by omega, by go_num, by rw [Hst.out]; exact ho, hg⟩
          case measure => simp [intOf]; omega
    · have hj2 : j = 2 := by omega
      have hjI : ¬ (j : Int) < 2 := by omega
      have ho' := Lib.hid (show Ow wr lo (some ⟨g, 0, none⟩) n cc (clQ s o (k, v)) by rw [hj2] at ho; exact ho)
      clear hj2 hlt ho
      go_wp2
      go_end0
      exact ⟨rfl, ho'.out, HG2.out.trans hg⟩
set_option maxHeartbeats 2000000 in
theorem implNarrowSingles (A : Option Addr) (c n B : Nat) (m : List Int) (size : Int) (w : World) (h : Rd w B A n m) (hm64 : B64 m) (hT : Tz w) (hBm : B ≤ w.heap.size) (hm : n ≤ 1099511627776) (hsb : -9223372036854775808 ≤ size ∧ size ≤ 9223372036854775807) :
    Calls Tryd.prog 27 #[.slice A n c, .int .i64 size] w (RetSl w (nsL m size n)) := by
  have hlen := Lib.hid h.1
  have HV := Lib.hid (implMasksValid A c n B m size w h hm64 hBm hm hsb)
  cases hv : mvd m size
  · have HL := Lib.hid (show nsL m size n = [] by simp [nsL, hv])
    go_enter Tryd.func27, Tryd.ntmps27
    go_wp2_with (go_at_call 24; refine HV.out.mono ?_; rintro e w1 ⟨rfl, hb1⟩; rw [hv])
    go_ret
    rw [HL.out]
    exact ⟨_, _, rfl, Ow.nil_ _ _, hb1⟩
  · obtain ⟨⟨s2, s4⟩, hsq, hn16, hrng⟩ := mvd_at hv
    obtain ⟨s, rfl⟩ := Int.eq_ofNat_of_zero_le (by omega : 0 ≤ size)
    have hs : s ∈ [2, 3, 4] := by simp; omega
    have hn : n = s * s := by rw [← hlen.out]; exact len_of hs hv
    have hn0 : 0 < n := by
      simp at hs
      rcases hs with rfl | rfl | rfl <;> omega
    have HCl := Lib.hid (fun w' (hb : Below w.heap.size w w') => clone_any A n c B m w' (h.below (hb.mono hBm)) (Nat.le_trans hBm hb.size) hn0 hm)
    have HHi := Lib.hid (fun w' (hb : Below w.heap.size w w') => singlesIn_any A c n B m s w' (h.below (hb.mono hBm)) (Nat.le_trans hBm hb.size) hv (hT.below hT.lt hb))
    have Hin := Lib.hid (sQ_in hv n)
    have HQ := sQ_len m n
    have HF := Lib.hid (show nsL m s n = (sQ m n).foldl (clQ s) m by
      rw [hn, sQ_fold hs hv (s * s) (Nat.le_refl _)]; simp [nsL, hv])
    have Hs := Lib.hid hs
    have Hn := Lib.hid hn
    obtain ⟨q, hq⟩ : ∃ q, q = sQ m n := ⟨_, rfl⟩
    rw [← hq] at HHi Hin HQ HF
    obtain ⟨K, hK⟩ : ∃ K, K = q.length := ⟨_, rfl⟩
    rw [← hK] at HHi HQ
    have HK := Lib.hid hK
    clear hrng hsq hq hK hn hs hn16
    go_enter Tryd.func27, Tryd.ntmps27
    go_wp2_with (first
      | (go_at_call 24; refine HV.out.mono ?_; rintro e w1 ⟨rfl, hb1⟩; rw [hv])
      | (go_at_call 63; refine (HCl.out _ hb1).mono ?_; rintro e w2 ⟨Ac, cc, rfl, ho2, hb2⟩; have hb12 := step hb1 hb2)
      | (go_at_call 65; refine (HHi.out _ hb12).mono ?_; rintro e w3 ⟨Aq, cq, rfl, hoq, hb3⟩))
    have hb13 := step hb12 hb3
    have ho3 := (ho2.mono hb1.size).below hb3
    obtain ⟨g, rfl, hgl, hgw⟩ := ho3.form hn0
    have hoq' : OwF w3 (g + 1) Aq K cq q := World.ownsRow.mono hoq (show g + 1 ≤ w2.heap.size from (ho2.mono hb1.size).own_hi g rfl)
    go_loopw [17] (fun i wr => ∃ k : Nat, k ≤ K ∧ i = .int .i64 k ∧ Ow wr w.heap.size (some ⟨g, 0, none⟩) n cc ((q.take k).foldl (clQ s) m) ∧ OwF wr (g + 1) Aq K cq q ∧ Below w.heap.size w wr) (fun i _ => K - (intOf i).toNat)
    case atStart => exact ⟨0, Nat.zero_le _, rfl, ho3, hoq', hb13⟩
    case round =>
      clear ho3 hoq hoq' hb13 hb12 hb1 hb2 hb3 ho2
      obtain ⟨k, hk, rfl, ho, hof, hb⟩ := hrel
      by_cases hlt : k < K
      · obtain ⟨gq, rfl, hgq, hcx, hcy⟩ := hof.cells hlt
        have hkq : k < q.length := by rw [← HK.out]; exact hlt
        have hmem : q.getD k (0, 0) ∈ q := by
          rw [List.getD_eq_getElem?_getD, List.getElem?_eq_getElem hkq]; exact List.getElem_mem _
        obtain ⟨hx, hy1, hy4⟩ := Hin.out _ hmem
        have HT := Lib.hid (show (q.take (k + 1)).foldl (clQ s) m = clQ s ((q.take k).foldl (clQ s) m) ((q.getD k (0, 0)).1, (q.getD k (0, 0)).2) by
          rw [List.take_add_one, List.getElem?_eq_getElem hkq]
          simp only [Option.toList_some, List.foldl_append, List.foldl_cons, List.foldl_nil, List.getD_eq_getElem?_getD, List.getElem?_eq_getElem hkq, Option.getD_some])
        obtain ⟨x, hxe⟩ : ∃ x, x = (q.getD k (0, 0)).1 := ⟨_, rfl⟩
        obtain ⟨y, hye⟩ : ∃ y, y = (q.getD k (0, 0)).2 := ⟨_, rfl⟩
        rw [← hxe] at hcx hx HT
        rw [← hye] at hcy hy1 hy4 HT
        obtain ⟨o, hoe⟩ : ∃ o, o = (q.take k).foldl (clQ s) m := ⟨_, rfl⟩
        rw [← hoe] at ho HT
        clear hxe hye hmem hoe
        have hgr := ho.own_hi g rfl
        have hgl2 := ho.own_lo g rfl
        obtain ⟨W, hW⟩ : ∃ W, wr.alloc (.cells #[.int .i64 (x : Int), .int .i64 (y : Int)] 72) = W := ⟨_, rfl⟩
        have hoW : Ow W w.heap.size (some ⟨g, 0, none⟩) n cc o := by rw [← hW]; exact World.ownsRow.alloc ho _
        have hofW : OwF W (g + 1) (some ⟨gq, 0, none⟩) K cq q := by rw [← hW]; exact World.ownsRow.alloc hof _
        have hbW : Below w.heap.size w W := by rw [← hW]; exact hb.alloc hb.size _
        have hz0 : W.cell? ⟨wr.heap.size, 0, none⟩ = some (.int .i64 (x : Int)) := by rw [← hW]; exact cell_of_row _ _ 0 _ _ (0, 0) (heap_alloc_new wr _)
        have hz1 : W.cell? ⟨wr.heap.size, 1, none⟩ = some (.int .i64 (y : Int)) := by rw [← hW]; exact cell_of_row _ _ 1 _ _ (0, 0) (heap_alloc_new wr _)
        have HCL := Lib.hid (clearLines_any g n cc w.heap.size s x y o W hoW Hs.out Hn.out hx hy1 hy4)
        have HW := Lib.hid hW
        clear hW
        go_wp2_with (go_at_call 66; rw [HW.out]; refine HCL.out.mono ?_; rintro e w5 ⟨rfl, ho5, hg5⟩)
        have hof5 : OwF w5 (g + 1) (some ⟨gq, 0, none⟩) K cq q := World.ownsRow.kept hofW hg5 (.inr (fun e => by
          have h1 := (World.ownsRow.lt hofW g e).1; omega))
        have hb5 : Below w.heap.size w w5 := hbW.grown hg5 hbW.size (fun j hj => by injection hj with hj; omega)
        go_roundw
        case rel => exact ⟨k + 1, by omega, by go_num, by rw [HT.out]; exact ho5, hof5, hb5⟩
        case measure => simp [intOf]; omega
      · obtain rfl : k = K := by omega
        rw [show q.take k = q by rw [HK.out]; exact List.take_length] at ho
        go_wp2
        go_ret
        rw [HF.out]
        exact retSl_mk ho hb
end Go.Proofs.YtgejahkdiciplaaDoor
namespace Go.Proofs.YtgejahkdiciplaaDoor
open Go.ChangeShapes Go.WideShapes Go.ChangeAt Go.RowKit

theorem okTo3_iff {xs : List Int} {s : Int} {k : Nat} {v : Int} (m : Nat) : okTo3 xs s k v m = true ↔ ∀ j, j < m → ok3 xs s k v j = true := by
  induction m with
  | zero => simp [okTo3]
  | succ m ih =>
    rw [okTo3, Bool.and_eq_true, ih]
    constructor
    · rintro ⟨h1, h2⟩ j hj
      by_cases e : j = m
      · subst e; exact h2
      · exact h1 j (by omega)
    · intro h
      exact ⟨fun j hj => h j (by omega), h m (by omega)⟩
/-- the cells of the row and the column of k are those that are adjacent to it, and k. -/
def seen3 (s k i : Nat) : Bool := (List.range s).any fun j => ((rIx (s : Nat) k j).toNat == i) || ((cIx (s : Nat) k j).toNat == i)
theorem seen_adj : ∀ s ∈ [2, 3, 4], ∀ k, k < s * s → ∀ i, i < s * s → adj s i k = true → seen3 s k i = true := by decide +kernel
def adjSeen (s k j : Nat) : Bool := ((rIx (s : Nat) k j == (k : Int)) || (adj s (rIx (s : Nat) k j).toNat k && Nat.blt (rIx (s : Nat) k j).toNat (s * s))) && ((cIx (s : Nat) k j == (k : Int)) || (adj s (cIx (s : Nat) k j).toNat k && Nat.blt (cIx (s : Nat) k j).toNat (s * s)))
theorem adj_seen : ∀ s ∈ [2, 3, 4], ∀ k, k < s * s → ∀ j, j < s → adjSeen s k j = true := by decide +kernel
theorem ix_nn : ∀ s ∈ [2, 3, 4], ∀ k, k < s * s → ∀ j, j < s → ((rIx (s : Nat) k j).toNat : Int) = rIx (s : Nat) k j ∧ ((cIx (s : Nat) k j).toNat : Int) = cIx (s : Nat) k j := by decide +kernel
theorem adj_ne (s i j : Nat) : (adj s i j = true → i ≠ j) ∧ True := ⟨fun h => by simp only [adj, Bool.and_eq_true, bne_iff_ne] at h; exact h.1, trivial⟩
theorem adj_sym : ∀ s ∈ [2, 3, 4], ∀ i, i < s * s → ∀ j, j < s * s → adj s i j = adj s j i := by decide +kernel
theorem ok3_adj {xs : List Int} {s k : Nat} (hs : s ∈ [2, 3, 4]) (hk : k < s * s) (v : Int) : okTo3 xs s k v s = true ↔ ∀ i, i < s * s → adj s i k = true → nth xs i ≠ v := by
  rw [okTo3_iff]
  constructor
  · intro h i hi ha he
    have := seen_adj s hs k hk i hi ha
    simp only [seen3, List.any_eq_true, List.mem_range, Bool.or_eq_true, beq_iff_eq] at this
    obtain ⟨j, hj, hor⟩ := this
    have ho := h j hj
    obtain ⟨n1, n2⟩ := ix_nn s hs k hk j hj
    have hne := ((adj_ne s i k).1 ha)
    simp only [ok3, Bool.and_eq_true, Bool.or_eq_true, beq_iff_eq, bne_iff_ne] at ho
    rcases hor with e | e
    · rcases ho.1 with h1 | h1
      · omega
      · rw [e] at h1; exact h1 he
    · rcases ho.2 with h1 | h1
      · omega
      · rw [e] at h1; exact h1 he
  · intro h j hj
    have := adj_seen s hs k hk j hj
    simp only [adjSeen, Bool.and_eq_true, Bool.or_eq_true, beq_iff_eq, Nat.blt_eq] at this
    simp only [ok3, Bool.and_eq_true, Bool.or_eq_true, beq_iff_eq, bne_iff_ne]
    refine ⟨?_, ?_⟩
    · rcases this.1 with e | ⟨e1, e2⟩
      · exact .inl e
      · exact .inr (h _ e2 e1)
    · rcases this.2 with e | ⟨e1, e2⟩
      · exact .inl e
      · exact .inr (h _ e2 e1)
theorem candTo_test (xs : List Int) (s : Int) (k u : Nat) : ∀ v, (candTo xs s k v).testBit u = true ↔ 1 ≤ u ∧ u ≤ v ∧ okTo3 xs s k (u : Int) s.toNat = true := by
  intro v
  induction v with
  | zero => simp [candTo]; omega
  | succ v ih =>
    have hc : ((v : Int) + 1) = ((v + 1 : Nat) : Int) := by omega
    simp only [candTo]
    split
    · next h =>
      rw [hc] at h
      rw [Nat.testBit_or, Bool.or_eq_true, ih, Nat.testBit_two_pow, decide_eq_true_eq]
      constructor
      · rintro (⟨h1, h2, h3⟩ | rfl)
        · exact ⟨h1, by omega, h3⟩
        · exact ⟨by omega, Nat.le_refl _, h⟩
      · rintro ⟨h1, h2, h3⟩
        by_cases e : u = v + 1
        · exact .inr e.symm
        · exact .inl ⟨h1, by omega, h3⟩
    · next h =>
      rw [hc] at h
      rw [ih]
      constructor
      · rintro ⟨h1, h2, h3⟩; exact ⟨h1, by omega, h3⟩
      · rintro ⟨h1, h2, h3⟩
        refine ⟨h1, ?_, h3⟩
        by_cases e : u = v + 1
        · subst e; exact absurd h3 h
        · omega
/-- with a value in an empty cell a fitting grid fits exactly if the value is a candidate. -/
theorem clash_cand {xs : List Int} {s n k v : Nat} (hs : s ∈ [2, 3, 4]) (hn : n = s * s) (hl : xs.length = n) (hc : clash xs s = false) (hk : k < n) (v1 : 1 ≤ v) (v2 : v ≤ s) : clash (xs.set k (v : Int)) s = !((candTo xs s k s).testBit v) := by
  have hT : (candTo xs s k s).testBit v = true ↔ okTo3 xs s k (v : Int) s = true := by
    rw [candTo_test, Int.toNat_natCast]
    exact ⟨fun h => h.2.2, fun h => ⟨v1, v2, h⟩⟩
  rw [ok3_adj hs (by omega)] at hT
  have key : clash (xs.set k (v : Int)) s = true ↔ ¬ ∀ i, i < s * s → adj s i k = true → nth xs i ≠ (v : Int) := by
    rw [clash_iff hs]
    constructor
    · rintro ⟨i, j, hi, hj, ha, he, hp⟩ hall
      rw [nth_set (by omega), nth_set (by omega)] at he
      rw [nth_set (by omega)] at hp
      have hij := (adj_ne s i j).1 ha
      by_cases ek : k = j
      · subst ek
        rw [if_pos rfl, if_neg (fun h => hij h.symm)] at he
        exact hall i hi ha he
      · rw [if_neg ek] at he hp
        by_cases ei : k = i
        · subst ei
          rw [if_pos rfl] at he
          exact hall j hj ((adj_sym s hs k hi j hj).symm.trans ha) he.symm
        · rw [if_neg ei] at he
          have := (clash_iff (xs := xs) hs).2 ⟨i, j, hi, hj, ha, he, hp⟩
          rw [hc] at this; cases this
    · intro h
      simp only [Classical.not_forall, Classical.not_not] at h
      obtain ⟨i, hi, ha, he⟩ := h
      have hik := (adj_ne s i k).1 ha
      refine ⟨i, k, hi, by omega, ha, ?_, ?_⟩
      · rw [nth_set (by omega), nth_set (by omega), if_pos rfl, if_neg (fun h => hik h.symm)]; exact he
      · rw [nth_set (by omega), if_pos rfl]; omega
  cases hb : (candTo xs s k s).testBit v
  · rw [hb] at hT
    have : clash (xs.set k (v : Int)) s = true := key.2 (fun h => by have := hT.2 h; cases this)
    rw [this]; rfl
  · rw [hb] at hT
    cases hcc : clash (xs.set k (v : Int)) s
    · rfl
    · exact absurd (hT.1 rfl) (key.1 hcc)
theorem candN_lt {xs : List Int} {s n : Nat} (hs4 : s ≤ 4) (hok : okAll xs s n) {k : Nat} (hk : k < n) : candN xs s k < 32 := by
  unfold candN
  split
  · have := hok k hk
    exact Nat.pow_lt_pow_right (n := 5) (by omega) (by omega)
  · exact candTo_lt _ _ _ _ (by omega)
theorem candN_test {xs : List Int} {s n : Nat} (hok : okAll xs s n) {k : Nat} (hk : k < n) {u : Nat} (h : (candN xs s k).testBit u = true) : 1 ≤ u ∧ u ≤ s := by
  have hv := hok k hk
  unfold candN at h
  split at h
  · rw [Nat.testBit_two_pow, decide_eq_true_eq] at h
    omega
  · rw [candTo_test, Int.toNat_natCast] at h
    exact ⟨h.1, h.2.1⟩
theorem even_bits : ∀ M, M < 32 → ∀ s ∈ [2, 3, 4], ((∀ u, u < 5 → M.testBit u = true → 1 ≤ u ∧ u ≤ s) → M ≤ 2 ^ (s + 1) - 2 ∧ M % 2 = 0) := by decide +kernel
theorem cand_mask {xs : List Int} {s n : Nat} (hs : s ∈ [2, 3, 4]) (hok : okAll xs s n) {k : Nat} (hk : k < n) : candN xs s k ≤ 2 ^ (s + 1) - 2 ∧ candN xs s k % 2 = 0 :=
  even_bits _ (candN_lt (by simp at hs; omega) hok hk) s hs (fun _ _ h => candN_test hok hk h)
theorem cand_valid {xs : List Int} {size : Int} (hg : gv xs size = true) : mvd (candL xs size) size = true := by
  obtain ⟨s, rfl, hs, hl⟩ := size_nat hg
  have hok : okAll xs s (s * s) := fun k hk => gv_nth hg (by rw [hl]; exact hk)
  have hL : candL xs s = mapTo (candG xs s) (s * s) := by simp [candL, hg, hl]
  obtain ⟨h2, h4⟩ := gv_size hg
  rw [hL]
  have h1 : inr (s : Int) 2 4 = true := by simp [inr, h2, h4]
  have h3 : (mapTo (candG xs s) (s * s)).all (mkOk (2 ^ ((s : Int).toNat + 1) - 2)) = true := by
    refine allTo_all (n := s * s) (fun j hj => ?_) (mapTo_length _ _)
    rw [mapTo_nth hj]
    obtain ⟨m1, m2⟩ := cand_mask hs hok hj
    have hp : ((2 : Int) ^ (s + 1) - 2) = ((2 ^ (s + 1) - 2 : Nat) : Int) := by
      simp at hs
      rcases hs with rfl | rfl | rfl <;> rfl
    simp only [mkOk, candG, Int.toNat_natCast, Bool.and_eq_true, beq_iff_eq]
    rw [hp, Int.tmod_eq_emod_of_nonneg (Int.natCast_nonneg _)]
    refine ⟨by simp only [inr, decide_eq_true_eq]; omega, by omega⟩
  simp only [mvd, h1, h3, mapTo_length, Bool.true_and, Bool.and_true, beq_iff_eq]
  simp
theorem mvd_b64 {xs : List Int} {size : Int} (h : mvd xs size = true) : B64 xs := b64_of rfl fun k hk => by
  have := (mvd_at h).2.2.2 k hk
  omega
theorem candL_b64 (xs : List Int) (size : Int) : B64 (candL xs size) := by
  cases hg : gv xs size
  · have : candL xs size = [] := by simp [candL, hg]
    rw [this]
    exact fun k => by simp [nth]
  · exact mvd_b64 (cand_valid hg)
theorem back_turn : ∀ s ∈ [2, 3, 4], ∀ k, k < s * s → backIx s (turnIx s k) = k := by decide +kernel
theorem cand_turn {xs : List Int} {size : Int} {n k : Nat} (hg : gv xs size = true) (hl : xs.length = n) (hk : k < n) : nth (candL (turnL xs size) size) k = candG xs size (turnIx size k) := by
  have hgt : gv (turnL xs size) size = true := (turn_all hg hl).valid
  have htl : (turnL xs size).length = n := (turn_all hg hl).len
  obtain ⟨s, rfl, hs, hls⟩ := size_nat hg
  obtain rfl : n = s * s := by omega
  have hL : candL (turnL xs s) s = mapTo (candG (turnL xs s) s) (s * s) := by simp [candL, hgt, htl]
  rw [hL, mapTo_nth hk]
  have hpm := turnL_pm hg hl
  have hat : ∀ i, i < s * s → nth (turnL xs s) i = nth xs (turnIx s i) := fun i hi => by rw [hpm, pm_nth hi]
  have htk := turn_lt s hs k hk
  simp only [candG, candN]
  rw [hat k hk]
  split
  · rfl
  · congr 1
    apply Nat.eq_of_testBit_eq
    intro u
    rw [Bool.eq_iff_iff, candTo_test, candTo_test, Int.toNat_natCast, ok3_adj hs hk, ok3_adj hs htk]
    constructor
    · rintro ⟨h1, h2, h3⟩
      refine ⟨h1, h2, fun i hi ha => ?_⟩
      have hb := turn_back s hs i hi
      have hbk := turn_back s hs (turnIx s k) htk
      have := h3 (backIx s i) hb.1 (by
        have h9 := (turn_adj s hs i hi (turnIx s k) htk ha).2
        rwa [back_turn s hs k hk] at h9)
      rw [hat _ hb.1, hb.2] at this
      exact this
    · rintro ⟨h1, h2, h3⟩
      refine ⟨h1, h2, fun i hi ha => ?_⟩
      rw [hat i hi]
      exact h3 _ (turn_lt s hs i hi) (turn_adj s hs i hi k hk ha).1
end Go.Proofs.YtgejahkdiciplaaDoor
set_option maxRecDepth 8000
namespace Go.Proofs.YtgejahkdiciplaaDoor
open Go.ChangeShapes Go.WideShapes Go.ChangeAt Go.RowKit
/-! the first technique loses no solved grid, and keeps within. -/
theorem nsIn_wi {m o : List Int} {s : Int} {S i : Nat} (hm : mvd m s = true) (hs : Sub o m) (h : Wi o m) (k : Nat) : Wi (nsIn m S i o k) m := by
  induction k with
  | zero => exact h
  | succ k ih =>
    simp only [nsIn]
    split
    · exact ih.anput (nsIn_sub hm hs k) hm ⟨(mvd_nth hm i).1, (mvd_nth hm i).2.1⟩ k
    · exact ih
theorem nsTo_wi {m : List Int} {s : Int} {S n : Nat} (hm : mvd m s = true) (i : Nat) : Wi (nsTo m S n i) m := by
  induction i with
  | zero => exact Wi.refl hm
  | succ i ih =>
    simp only [nsTo]
    split
    · exact nsIn_wi hm (nsTo_sub hm i) ih n
    · exact ih
theorem ns_wi {m : List Int} {s : Int} (hm : mvd m s = true) (n : Nat) : Wi (nsL m s n) m := by
  unfold nsL; rw [if_pos hm]; exact nsTo_wi hm n
theorem pow_bit (v t : Nat) (h : ((2 : Nat) ^ v).testBit t = true) : v = t := by
  rw [Nat.testBit_two_pow, decide_eq_true_eq] at h; exact h
theorem nsIn_in {m g o : List Int} {s i : Nat} (hs : s ∈ [2, 3, 4]) (hm : mvd m s = true) (hsb : Sub o m) (hl : g.length = s * s) (hg : sqSolved g s = true) (hi : i < s * s) (hone : (maskVals (nth m i)).length = 1) (hin : inMask m g i = true) (ho : ∀ k, k < s * s → inMask o g k = true) (K : Nat) (hK : K ≤ s * s) : ∀ k, k < s * s → inMask (nsIn m s i o K) g k = true := by
  obtain ⟨hgv, hcl, hnz⟩ := (solved_iff hl).1 hg
  have hg4 : ∀ k, k < s * s → 0 ≤ nth g k ∧ (nth g k).toNat < 5 := fun k hk => by
    obtain ⟨q0, q1⟩ := gv_nth hgv (k := k) (by omega)
    have := gv_size hgv
    omega
  obtain ⟨v, v1, v4, hx⟩ : ∃ v : Nat, 1 ≤ v ∧ v ≤ 4 ∧ nth m i = 2 ^ v := by
    rcases one_at hm i with ⟨_, v, a, b, _, d⟩ | ⟨h, _⟩
    · exact ⟨v, a, b, d⟩
    · exact absurd hone h
  have hxN : nth m i = ((2 ^ v : Nat) : Int) := by rw [hx]; simp
  have hlt : 2 ^ v < 32 := by
    have : (2 : Nat) ^ v < 2 ^ 5 := Nat.pow_lt_pow_right (by omega) (by omega)
    omega
  have hgi : (nth g i).toNat = v := by
    unfold inMask at hin
    rw [hxN, Int.toNat_natCast] at hin
    exact (pow_bit _ _ hin).symm
  intro k hk
  have hln := len_of hs hm
  have hlo : o.length = s * s := by rw [hsb.1, hln]
  have h0 := ho k hk
  unfold inMask at h0 ⊢
  rw [nsIn_nth K (by omega)]
  by_cases hc : k < K ∧ seesB s k i = true
  · rw [if_pos hc]
    obtain ⟨⟨x0, x1, _⟩, _⟩ := hsb.at_ hm (k := k) (by rw [hln]; exact hk)
    obtain ⟨x, hxx⟩ := Int.eq_ofNat_of_zero_le x0
    rw [hxx] at h0 ⊢
    rw [Int.toNat_natCast] at h0
    rw [hxN, an_bit x (by omega) (2 ^ v) hlt _ (hg4 k hk).2, h0, Bool.true_and, Bool.not_eq_true']
    cases e : (2 ^ v).testBit (nth g k).toNat
    · rfl
    · have e1 := pow_bit _ _ e
      have hadj : adj s k i = true := by simpa [seesB, adj] using hc.2
      have : clash g s = true := (clash_iff hs).2 ⟨k, i, hk, hi, hadj, by have := hg4 k hk; have := hg4 i hi; omega, by have := hnz i hi; have := hg4 i hi; omega⟩
      rw [hcl] at this; cases this
  · rw [if_neg hc]; exact h0
theorem nsTo_in {m g : List Int} {s : Nat} (hs : s ∈ [2, 3, 4]) (hm : mvd m s = true) (hl : g.length = s * s) (hg : sqSolved g s = true) (hin : ∀ k, k < s * s → inMask m g k = true) (i : Nat) (hi : i ≤ s * s) : ∀ k, k < s * s → inMask (nsTo m s (s * s) i) g k = true := by
  induction i with
  | zero => exact hin
  | succ i ih =>
    simp only [nsTo]
    split
    · next h1 => exact nsIn_in hs hm (nsTo_sub hm i) hl hg (by omega) h1 (hin i (by omega)) (ih (by omega)) _ (Nat.le_refl _)
    · exact ih (by omega)
theorem ns_keeps {m g : List Int} {s : Int} {n : Nat} (hn : m.length = n) (hm : mvd m s = true) (hg : sqSolved g s = true) (h : mhB m s g = true) : mhB (nsL m s n) s g = true := by
  obtain ⟨⟨s2, s4⟩, _, _, _⟩ := mvd_at hm
  obtain ⟨t, rfl⟩ : ∃ t : Nat, s = t := ⟨s.toNat, by omega⟩
  have hs : t ∈ [2, 3, 4] := by simp; omega
  have hnt : n = t * t := by rw [← hn]; exact len_of hs hm
  simp only [mhB, Bool.and_eq_true, List.all_eq_true, List.mem_range] at h ⊢
  obtain ⟨⟨_, hgv⟩, hin⟩ := h
  have hlg := gv_len hgv
  have hln : g.length = t * t := by
    simp at hs
    rcases hs with rfl | rfl | rfl <;> omega
  refine ⟨⟨(ns_sub hm n).mvd_ hm, hgv⟩, ?_⟩
  rw [hln] at hin ⊢
  have := nsTo_in hs hm hln hg hin (t * t) (Nat.le_refl _)
  unfold nsL
  rw [if_pos hm, Int.toNat_natCast, hnt]
  exact this
theorem ns_b64 {m : List Int} {s : Int} {n : Nat} (hm : mvd m s = true) : B64 (nsL m s n) := fun k => by
  by_cases hk : k < m.length
  · obtain ⟨⟨x0, x1, _⟩, _⟩ := (ns_sub hm n).at_ hm hk
    omega
  · rw [show nth (nsL m s n) k = 0 by
      have := (ns_sub hm n).1
      simp [nth, List.getD_eq_getElem?_getD, List.getElem?_eq_none (show (nsL m s n).length ≤ k by omega)]]
    omega
theorem nsL_len16 {m : List Int} {s : Int} {n : Nat} : (nsL m s n).length ≤ 16 := by
  by_cases hv : mvd m s = true
  · have := (ns_sub hv n).1; have := (mvd_at hv).2.2.1; omega
  · simp [nsL, hv]
/-! counts of values. -/
def lenOk (a b : Nat) : Bool := !(bits .andNot .i64 (a : Nat) (b : Nat) == 0) || Nat.ble (bitsTo a 4).length (bitsTo b 4).length
theorem len_key : ∀ a, a < 32 → ∀ b, b < 32 → lenOk a b = true := by decide +kernel
theorem mv_bits' {m : List Int} {s : Int} (hm : mvd m s = true) (k : Nat) : ∃ M : Nat, nth m k = (M : Int) ∧ M < 32 ∧ maskVals (nth m k) = bitsTo M 4 := by
  obtain ⟨x0, x1, x2⟩ := mvd_nth hm k
  obtain ⟨M, hM⟩ := Int.eq_ofNat_of_zero_le x0
  have hm2 : M % 2 = 0 := by rw [hM, Int.tmod_eq_emod_of_nonneg (by omega)] at x2; omega
  exact ⟨M, hM, by omega, by rw [hM, mv_bits (by omega) hm2]⟩
theorem mcTo_mono {a b : List Int} {s : Int} (ha : mvd a s = true) (hb : mvd b s = true) (hw : Wi a b) (k : Nat) (hk : k ≤ b.length) : mcTo a k ≤ mcTo b k := by
  induction k with
  | zero => exact Nat.le_refl _
  | succ k ih =>
    have ih := ih (by omega)
    simp only [mcTo]
    obtain ⟨A, hA, hA32, eA⟩ := mv_bits' ha k
    obtain ⟨B, hB, hB32, eB⟩ := mv_bits' hb k
    have h1 := hw k (by omega)
    rw [hA, hB] at h1
    have h2 := len_key A hA32 B hB32
    unfold lenOk at h2
    rw [h1] at h2
    have h3 : (bitsTo A 4).length ≤ (bitsTo B 4).length := Nat.le_of_ble_eq_true (by simpa using h2)
    rw [eA, eB]
    omega
def lenS (s : Nat) : Bool := (List.range 32).all fun M => Nat.blt (2 ^ (s + 1) - 2) M || Nat.ble (bitsTo M 4).length s
theorem lenS_all : lenS 2 = true ∧ lenS 3 = true ∧ lenS 4 = true := by decide +kernel
theorem mcTo_cube {m : List Int} {s : Nat} (hs : s ∈ [2, 3, 4]) (hm : mvd m s = true) (k : Nat) (hk : k ≤ m.length) : mcTo m k ≤ s * k := by
  induction k with
  | zero => exact Nat.zero_le _
  | succ k ih =>
    have ih := ih (by omega)
    simp only [mcTo]
    obtain ⟨M, hM, hM32, eM⟩ := mv_bits' hm k
    have hb : M ≤ 2 ^ (s + 1) - 2 := by
      simp only [mvd, Bool.and_eq_true, List.all_eq_true] at hm
      have h1 := hm.2 m[k] (List.getElem_mem (by omega))
      simp only [mkOk, Bool.and_eq_true] at h1
      obtain ⟨_, y2⟩ := inr_t h1.1
      have e : nth m k = m[k] := by simp [nth, List.getD_eq_getElem?_getD, show k < m.length by omega]
      rw [← e, hM, Int.toNat_natCast] at y2
      have e2 : ((2 : Int) ^ (s + 1) - 2) = ((2 ^ (s + 1) - 2 : Nat) : Int) := by
        simp at hs
        rcases hs with rfl | rfl | rfl <;> decide
      rw [e2] at y2
      omega
    have h : lenS s = true := by
      simp at hs
      rcases hs with rfl | rfl | rfl
      · exact lenS_all.1
      · exact lenS_all.2.1
      · exact lenS_all.2.2
    have h2 := List.all_eq_true.1 h M (List.mem_range.2 hM32)
    rw [Bool.or_eq_true] at h2
    have h3 : (bitsTo M 4).length ≤ s := by
      rcases h2 with h2 | h2
      · have := Nat.le_of_ble_eq_true h2; omega
      · exact Nat.le_of_ble_eq_true h2
    rw [eM, Nat.mul_succ]
    omega
end Go.Proofs.YtgejahkdiciplaaDoor
set_option maxRecDepth 8000
namespace Go.Proofs.YtgejahkdiciplaaDoor
open Go.ChangeShapes Go.WideShapes Go.ChangeAt Go.RowKit
theorem implMasksCount (A : Option Addr) (c n B : Nat) (m : List Int) (s : Int) (w : World) (h : Rd w B A n m) (hm64 : B64 m) (hB : B ≤ w.heap.size) (hm : n ≤ 1099511627776) (hsb : -9223372036854775808 ≤ s ∧ s ≤ 9223372036854775807) :
    Calls Tryd.prog 33 #[.slice A n c, .int .i64 s] w fun e w' => e = .returned (.int .i64 (mcI m s)) ∧ Below w.heap.size w w' := by
  have hlen := Lib.hid h.1
  have HV := Lib.hid (implMasksValid A c n B m s w h hm64 hB hm hsb)
  cases hv : mvd m s
  · have HL := Lib.hid (show mcI m s = -1 by simp [mcI, hv])
    go_enter Tryd.func33, Tryd.ntmps33
    go_wp2_with (go_at_call 24; refine HV.out.mono ?_; rintro e w1 ⟨rfl, hb1⟩; rw [hv])
    go_ret
    exact ⟨by rw [HL.out]; rfl, hb1⟩
  · have HL := Lib.hid (show mcI m s = (mcTo m n : Nat) by rw [mcI, if_pos hv, hlen.out])
    obtain ⟨_, _, hn16, hrng⟩ := mvd_at hv
    rw [hlen.out] at hn16 hrng
    have Hrng := Lib.hid hrng
    clear hrng
    go_enter Tryd.func33, Tryd.ntmps33
    go_wp2_with (go_at_call 24; refine HV.out.mono ?_; rintro e w1 ⟨rfl, hb1⟩; rw [hv])
    go_loop [5, 14] (fun q i => ∃ k : Nat, k ≤ n ∧ i = .int .i64 k ∧ q = .int .i64 (mcTo m k : Nat)) (fun _ i => n - (intOf i).toNat)
    case atStart => exact ⟨0, Nat.zero_le _, rfl, rfl⟩
    case round =>
      obtain ⟨k, hk, rfl, rfl⟩ := hrel
      have hle := mcTo_le m k
      by_cases hlt : k < n
      · obtain ⟨b, off, rfl, hbB, hck⟩ := (h.below (hb1.mono hB)).at_ hlt
        obtain ⟨x0, x1, x2⟩ := Hrng.out k hlt
        obtain ⟨M, hM⟩ := Int.eq_ofNat_of_zero_le x0
        have hm2 : M % 2 = 0 := by rw [hM, Int.tmod_eq_emod_of_nonneg (by omega)] at x2; omega
        have hM32 : M < 32 := by omega
        have Ho := Lib.hid (fun w' => ones_any M hM32 hm2 w')
        rw [ones_bits M hM32 hm2] at Ho
        have Hs := Lib.hid (show mcTo m (k + 1) = mcTo m k + (bitsTo M 4).length by
          simp only [mcTo, maskVals]
          rw [if_pos (by simp only [mvOk, inr, Bool.and_eq_true, decide_eq_true_eq, beq_iff_eq]; exact ⟨⟨x0, x1⟩, x2⟩), hM, Int.toNat_natCast])
        have hl4 := bitsTo_length M 4
        obtain ⟨l, hl⟩ : ∃ l, (bitsTo M 4).length = l := ⟨_, rfl⟩
        rw [hl] at Hs hl4 Ho
        rw [hM] at hck
        clear x0 x1 x2 hl hM hm2
        go_wp2_with (go_at_call 71; refine (Ho.out _).mono ?_; rintro e w3 ⟨rfl, rfl⟩)
        go_round
        case rel => exact ⟨k + 1, by omega, by go_num, by rw [Hs.out]; simp⟩
        case measure => simp [intOf]; omega
      · obtain rfl : k = n := by omega
        go_wp2
        go_ret
        exact ⟨by rw [HL.out]; rfl, hb1⟩
end Go.Proofs.YtgejahkdiciplaaDoor
set_option maxRecDepth 8000
namespace Go.Proofs.YtgejahkdiciplaaDoor
open Go.ChangeShapes Go.WideShapes Go.ChangeAt Go.RowKit
theorem exactNarrowSingles_walk (A : Option Addr) (c n : Nat) (xs : List Int) (size : Int) (w : World) (h : Rd w w.heap.size A n xs) (hx64 : B64 xs) (b_size : -9223372036854775808 ≤ size ∧ size ≤ 9223372036854775807) (hT : Tz w) :
    Calls Tryd.prog 11 #[.slice A n c, .int .i64 size] w fun e w' => e = .returned (.bool true) ∧ Below w.heap.size w w' := by
  by_cases hn : n ≤ 1048576
  · have hlen : (nsL xs size n).length ≤ 1099511627776 := by have := nsL_len16 (m := xs) (s := size) (n := n); omega
    have hsame := same_refl (nsL xs size n)
    have hsamex := same_refl xs
    go_enter Tryd.func11, Tryd.ntmps11
    go_wp2_with fail
    refine (toIntS_any _ _ _ _ _ _ h (Nat.le_refl _) (by omega)).mono ?_
    rintro e wa ⟨rfl, hoa, hba⟩
    go_wp2_with fail
    refine (specNarrowSingles _ _ _ _ _ _ _ hoa.rd (Nat.le_refl _) (by omega) b_size (Lib.hid (fun k _ => hx64 k))).mono ?_
    rintro e w1 ⟨A0, c0, rfl, ho0, hb1⟩
    have hr0 := ho0.rd
    have hw1 := step hba hb1
    go_wp2_with fail
    refine (toIntS_any _ _ _ _ _ _ (h.below hw1) hw1.size (by omega)).mono ?_
    rintro e w2 ⟨rfl, hox, hb2⟩
    have hrx := hox.rd
    go_wp2_with fail
    refine (implNarrowSingles _ _ _ _ _ _ _ hox.rd hx64 (hT.below hT.lt (step hw1 hb2)) (Nat.le_refl _) (by omega) b_size).mono ?_
    rintro e w3 ⟨A1, c1, rfl, hog, hb3⟩
    have hrg := hog.rd
    have h13 := step hb2 hb3
    go_wp2_with fail
    refine (eqIntS_any _ _ _ _ _ _ _ _ _ _ _ hog.rd (hr0.below h13) (by omega)).mono ?_
    rintro e w4 ⟨rfl, hb4⟩
    have h14 := step h13 hb4
    have hw4 := step hw1 h14
    go_wp2_with fail
    refine (toIntS_any _ _ _ _ _ _ (h.below hw4) hw4.size (by omega)).mono ?_
    rintro e w5 ⟨rfl, hoy, hb5⟩
    go_wp2_with fail
    refine (eqIntS_any _ _ _ _ _ _ _ _ _ _ _ (hrx.below (step (step hb3 hb4) hb5)) hoy.rd (by omega)).mono ?_
    rintro e w6 ⟨rfl, hb6⟩
    have h36 := step (step hb4 hb5) hb6
    have h26 := step hb3 h36
    have h16 := step hb2 h26
    go_wp2_with fail
    refine (markIntS_any _ _ _ _ _ _ _ (hox.below h26) (by omega) (by omega) (by omega)).mono ?_
    rintro e w7 ⟨rfl, _, hg7⟩
    have h17 := h16.trans (below_own hg7 hox.own_lo h16.size)
    have hog7 := (hog.below h36).kept hg7 hox.own_hi
    clear hg7
    go_wp2_with fail
    refine (eqIntS_any _ _ _ _ _ _ _ _ _ _ _ hog7.rd (hr0.below h17) (by omega)).mono ?_
    rintro e w8 ⟨rfl, hb8⟩
    have h18 := step h17 hb8
    have hog8 := hog7.below hb8
    go_wp2_with fail
    refine (markIntS_any _ _ _ _ _ _ _ hog8 (by omega) (by omega) (by omega)).mono ?_
    rintro e w9 ⟨rfl, hog9, hg9⟩
    rw [marked_all] at hog9
    have h19 := h18.trans (below_own hg9 (fun g hg => Nat.le_trans hb2.size (hog8.own_lo g hg)) h18.size)
    clear hg9
    go_wp2_with fail
    refine (heldIntS_seq _ _ _ _ _ _ hog9.rd (by omega) (by omega) (by omega)).mono ?_
    rintro e w9' ⟨rfl, rfl⟩
    have hw9 := step hw1 h19
    go_wp2_with fail
    refine (toIntS_any _ _ _ _ _ _ (h.below hw9) hw9.size (by omega)).mono ?_
    rintro e w10 ⟨rfl, hoz, hb10⟩
    go_wp2_with fail
    refine (implNarrowSingles _ _ _ _ _ _ _ hoz.rd hx64 (hT.below hT.lt (step hw9 hb10)) (Nat.le_refl _) (by omega) b_size).mono ?_
    rintro e w11 ⟨A2, c2, rfl, hoh, hb11⟩
    have h1b := step (step h19 hb10) hb11
    go_wp2_with fail
    refine (eqIntS_any _ _ _ _ _ _ _ _ _ _ _ hoh.rd (hr0.below h1b) (by omega)).mono ?_
    rintro e w12 ⟨rfl, hb12⟩
    have h1c := step h1b hb12
    have hwc := step hw1 h1c
    go_wp2_with fail
    refine (heldIntS_seq _ _ _ _ _ _ (((hog9.below hb10).below hb11).below hb12).rd (by omega) (by omega) (by omega)).mono ?_
    rintro e w12' ⟨rfl, rfl⟩
    go_wp2
    go_ret
    exact ⟨rfl, hwc⟩
  · go_enter Tryd.func11, Tryd.ntmps11
    go_wp2
    go_ret
    exact ⟨rfl, Below.refl _ _⟩
set_option maxHeartbeats 4000000 in
theorem narrowSingles_walk (A : Option Addr) (c n : Nat) (bs : List Int) (w : World) (h : Code_ w A n c bs) (hT : Tz w) :
    Calls Tryd.prog 5 #[.slice A n c] w fun e w' => e = .returned (.bool true) ∧ Below w.heap.size w w' := by
  by_cases hn : n ≤ 1048576
  · go_enter Tryd.func5, Tryd.ntmps5
    go_wp2_with fail
    refine (draw_DrawNarrowSingles _ _ _ _ _ h).mono ?_
    rintro e w1 ⟨s, A1, n1, c1, xs, rfl, s1, s5, n16, hnc, hcm, hrd, hsm, hlo, hb1⟩
    have hlen := hrd.1
    have hx64 := Lib.hid (smallM_b64 hsm.out hlen)
    have hsb : -9223372036854775808 ≤ s ∧ s ≤ 9223372036854775807 := by omega
    have hln : (nsL xs s n1).length ≤ 16 := by
      by_cases hv : mvd xs s = true
      · have := (ns_sub hv n1).1; omega
      · simp [nsL, hv]
    obtain ⟨nl, hnl⟩ : ∃ nl, (nsL xs s n1).length = nl := ⟨_, rfl⟩
    rw [hnl] at hln
    have Hnl := Lib.hid hnl
    go_wp2_with fail
    refine (implNarrowSingles A1 c1 n1 _ xs s w1 hrd hx64.out (hT.below hT.lt hb1) (Nat.le_refl _) (by omega) hsb).mono ?_
    rintro e w2 ⟨A2, c2, rfl, ho2, hb2⟩
    rw [Hnl.out] at ho2 ⊢
    have h02 := step hb1 hb2
    go_wp2_with fail
    refine (specNarrowSingles A1 c1 n1 _ xs s w2 (hrd.below hb2) hb2.size (by omega) hsb (Lib.hid (fun k _ => hx64.out k))).mono ?_
    rintro e w3 ⟨A3, c3, rfl, ho3, hb3⟩
    rw [Hnl.out] at ho3 ⊢
    have h03 := step h02 hb3
    have h13 := step hb2 hb3
    have hr2 := ho2.rd.below hb3
    go_wp2_with fail
    refine (sameInts_any _ _ _ _ _ _ _ _ _ _ _ hr2 ho3.rd (by omega)).mono ?_
    rintro e w4 ⟨rfl, hb4⟩
    rw [show same (nsL xs s n1) (nsL xs s n1) = true by simp [same]]
    have h04 := step h03 hb4
    have h14 := step h13 hb4
    have hr4 := hrd.below h14
    have hx4 := hr2.below (hb4.mono hb3.size)
    have hB4 := h14.size
    have HV := Lib.hid (specMasksValid A1 c1 n1 _ xs s w4 hr4 hB4 (by omega) hsb)
    cases hv : mvd xs s
    · have hz : nl = 0 := by rw [← Hnl.out]; simp [nsL, hv]
      subst hz
      go_wp2_with (first
        | (go_at_call 29; refine HV.out.mono ?_; rintro e w5 ⟨rfl, hb5⟩; rw [hv]; have h05 := step h04 hb5)
        | (go_at_call 16; (with_reducible refine (alive_any _).mono ?_); rintro e w6 ⟨rfl, hb6⟩))
      go_ret
      exact ⟨rfl, step h05 hb6⟩
    · obtain ⟨⟨s2, s4⟩, hl, _, _⟩ := mvd_at hv
      have hne : n1 = nl := by rw [← Hnl.out, (ns_sub hv n1).1, hlen]
      subst hne
      have Hwi := Lib.hid (ns_wi hv n1)
      have Hkp := Lib.hid (fun (q : Nat) (hq : sqSolved (sqn s q) s = true) (hh : mhB xs s (sqn s q) = true) => ns_keeps hlen hv hq hh)
      have h64 := Lib.hid (ns_b64 (n := n1) hv)
      clear hl hsm
      go_wp2_with (first
        | (go_at_call 29; refine HV.out.mono ?_; rintro e w5 ⟨rfl, hb5⟩; rw [hv]; have h05 := step h04 hb5; have h15 := step h14 hb5; have hr5 := hr4.below (hb5.mono hB4); have hx5 := hx4.below (hb5.mono (Nat.le_trans hb3.size hb4.size)))
        | (go_at_call 30; refine (within_any A2 A1 c2 c1 n1 n1 _ _ (nsL xs s n1) xs _ hx5 hr5 rfl Hwi (by omega)).mono ?_; rintro e w6 ⟨rfl, hb6⟩; have h06 := step h05 hb6; have h16 := step h15 hb6; have hr6 := hr5.below (hb6.mono h15.size); have hx6 := hx5.below (hb6.mono (Nat.le_trans (Nat.le_trans hb3.size hb4.size) hb5.size)))
        | (go_at_call 31; refine (keeps_any A1 A2 c1 c2 n1 n1 w1.heap.size w2.heap.size xs (nsL xs s n1) s _ hr6 hx6 h16.size (Nat.le_trans (Nat.le_trans (Nat.le_trans hb3.size hb4.size) hb5.size) hb6.size) (by omega) (by omega) h64.out s2 s4 Hkp).mono ?_; rintro e w7 ⟨rfl, hb7⟩))
      go_ret
      exact ⟨rfl, step h06 hb7⟩
  · go_enter Tryd.func5, Tryd.ntmps5
    go_wp2
    go_ret
    exact ⟨rfl, Below.refl _ _⟩
end Go.Proofs.YtgejahkdiciplaaDoor
set_option maxRecDepth 8000
namespace Go.Proofs.YtgejahkdiciplaaDoor
open Go.ChangeShapes Go.WideShapes Go.ChangeAt Go.RowKit
set_option maxHeartbeats 4000000 in
theorem masksCount_walk (A : Option Addr) (c n : Nat) (bs : List Int) (w : World) (h : Code_ w A n c bs) (hT : Tz w) :
    Calls Tryd.prog 6 #[.slice A n c] w fun e w' => e = .returned (.bool true) ∧ Below w.heap.size w w' := by
  by_cases hn : n ≤ 1048576
  · go_enter Tryd.func6, Tryd.ntmps6
    go_wp2_with fail
    refine (draw_DrawMasksCount _ _ _ _ _ h).mono ?_
    rintro e w1 ⟨s, A1, n1, c1, xs, rfl, s1, s5, n16, hnc, hcm, hrd, hsm, hlo, hb1⟩
    have hlen := hrd.1
    have hx64 := Lib.hid (smallM_b64 hsm.out hlen)
    have hsb : -9223372036854775808 ≤ s ∧ s ≤ 9223372036854775807 := by omega
    go_wp2_with fail
    refine (implMasksCount A1 c1 n1 _ xs s w1 hrd hx64.out (Nat.le_refl _) (by omega) hsb).mono ?_
    rintro e w2 ⟨rfl, hb2⟩
    have h02 := step hb1 hb2
    go_wp2_with fail
    refine (specMasksCount A1 c1 n1 _ xs s w2 (hrd.below hb2) hb2.size (by omega) hsb).mono ?_
    rintro e w3 ⟨rfl, hb3⟩
    have h03 := step h02 hb3
    have h13 := step hb2 hb3
    have hne : (mcI xs s != mcI xs s) = false := by simp
    cases hv : mvd xs s
    · have hz : mcI xs s = -1 := by simp [mcI, hv]
      rw [hz] at hne ⊢
      go_wp2_with (go_at_call 16; (with_reducible refine (alive_any _).mono ?_); rintro e w6 ⟨rfl, hb6⟩)
      go_ret
      exact ⟨rfl, step h03 hb6⟩
    · obtain ⟨⟨s2, s4⟩, _, _, _⟩ := mvd_at hv
      have hs3 : s = 2 ∨ s = 3 ∨ s = 4 := by omega
      have Hv := Lib.hid hv
      have hr3 := hrd.below h13
      have HNs := Lib.hid (implNarrowSingles A1 c1 n1 w1.heap.size xs s w3 hr3 hx64.out (hT.below hT.lt h03) h13.size (by omega) hsb)
      have hns := (ns_sub hv n1).1
      rw [hlen] at hns
      have Hmc := Lib.hid (mcTo_mono ((ns_sub hv n1).mvd_ hv) hv (ns_wi hv n1) n1 (by omega))
      have Hmv := Lib.hid ((ns_sub hv n1).mvd_ hv)
      have h64 := Lib.hid (ns_b64 (n := n1) hv)
      have HL := Lib.hid (show mcI xs s = (mcTo xs n1 : Nat) by rw [mcI, if_pos hv, hlen])
      have HL2 := Lib.hid (show mcI (nsL xs s n1) s = (mcTo (nsL xs s n1) n1 : Nat) by rw [mcI, if_pos Hmv.out, hns])
      have Hns := Lib.hid hns
      clear s2 s4 s1 s5 hsm hv hns
      rw [HL.out] at hne ⊢
      rcases hs3 with rfl | rfl | rfl
      · have hc := mcTo_cube (s := 2) (by simp) Hv.out n1 (by omega)
        have hn1 : n1 = 4 := by rw [← hlen]; exact len_of (s := 2) (by simp) Hv.out
        have hle := Hmc.out
        obtain ⟨p, hp⟩ : ∃ p, mcTo xs n1 = p := ⟨_, rfl⟩
        obtain ⟨q, hq⟩ : ∃ q, mcTo (nsL xs 2 n1) n1 = q := ⟨_, rfl⟩
        have HC := Lib.hid (fun w' A2 c2 (hr : Rd w' w'.heap.size A2 n1 (nsL xs 2 n1)) => (show Calls Tryd.prog 33 #[.slice A2 n1 c2, .int .i64 2] w' (fun e w'' => e = .returned (.int .i64 (q : Nat)) ∧ Below w'.heap.size w' w'') by
          have := implMasksCount A2 c2 n1 w'.heap.size (nsL xs 2 n1) 2 w' hr h64.out (Nat.le_refl _) (by omega) hsb
          rw [HL2.out, hq] at this
          exact this))
        rw [hp] at hc hle hne ⊢
        rw [hq] at hle
        have hp0 : ¬ ((p : Int) < 0) := by omega
        have hpI : (p : Int) ≤ 8 := by rw [hn1] at hc; omega
        have hqI : (q : Int) ≤ (p : Int) := by omega
        clear hp hq hc hle hn1
        go_wp2_with (first
          | (go_at_call 27; refine HNs.out.mono ?_; rintro e w5 ⟨A5, c5, rfl, ho5, hb5⟩; rw [Hns.out] at ho5 ⊢; have h05 := step h03 hb5; have hr5 := ho5.rd)
          | (go_at_call 33; refine (HC.out _ _ _ hr5).mono ?_; rintro e w6 ⟨rfl, hb6⟩))
        go_ret
        exact ⟨rfl, step h05 hb6⟩
      · have hc := mcTo_cube (s := 3) (by simp) Hv.out n1 (by omega)
        have hn1 : n1 = 9 := by rw [← hlen]; exact len_of (s := 3) (by simp) Hv.out
        have hle := Hmc.out
        obtain ⟨p, hp⟩ : ∃ p, mcTo xs n1 = p := ⟨_, rfl⟩
        obtain ⟨q, hq⟩ : ∃ q, mcTo (nsL xs 3 n1) n1 = q := ⟨_, rfl⟩
        have HC := Lib.hid (fun w' A2 c2 (hr : Rd w' w'.heap.size A2 n1 (nsL xs 3 n1)) => (show Calls Tryd.prog 33 #[.slice A2 n1 c2, .int .i64 3] w' (fun e w'' => e = .returned (.int .i64 (q : Nat)) ∧ Below w'.heap.size w' w'') by
          have := implMasksCount A2 c2 n1 w'.heap.size (nsL xs 3 n1) 3 w' hr h64.out (Nat.le_refl _) (by omega) hsb
          rw [HL2.out, hq] at this
          exact this))
        rw [hp] at hc hle hne ⊢
        rw [hq] at hle
        have hp0 : ¬ ((p : Int) < 0) := by omega
        have hpI : (p : Int) ≤ 27 := by rw [hn1] at hc; omega
        have hqI : (q : Int) ≤ (p : Int) := by omega
        clear hp hq hc hle hn1
        go_wp2_with (first
          | (go_at_call 27; refine HNs.out.mono ?_; rintro e w5 ⟨A5, c5, rfl, ho5, hb5⟩; rw [Hns.out] at ho5 ⊢; have h05 := step h03 hb5; have hr5 := ho5.rd)
          | (go_at_call 33; refine (HC.out _ _ _ hr5).mono ?_; rintro e w6 ⟨rfl, hb6⟩))
        go_ret
        exact ⟨rfl, step h05 hb6⟩
      · have hc := mcTo_cube (s := 4) (by simp) Hv.out n1 (by omega)
        have hn1 : n1 = 16 := by rw [← hlen]; exact len_of (s := 4) (by simp) Hv.out
        have hle := Hmc.out
        obtain ⟨p, hp⟩ : ∃ p, mcTo xs n1 = p := ⟨_, rfl⟩
        obtain ⟨q, hq⟩ : ∃ q, mcTo (nsL xs 4 n1) n1 = q := ⟨_, rfl⟩
        have HC := Lib.hid (fun w' A2 c2 (hr : Rd w' w'.heap.size A2 n1 (nsL xs 4 n1)) => (show Calls Tryd.prog 33 #[.slice A2 n1 c2, .int .i64 4] w' (fun e w'' => e = .returned (.int .i64 (q : Nat)) ∧ Below w'.heap.size w' w'') by
          have := implMasksCount A2 c2 n1 w'.heap.size (nsL xs 4 n1) 4 w' hr h64.out (Nat.le_refl _) (by omega) hsb
          rw [HL2.out, hq] at this
          exact this))
        rw [hp] at hc hle hne ⊢
        rw [hq] at hle
        have hp0 : ¬ ((p : Int) < 0) := by omega
        have hpI : (p : Int) ≤ 64 := by rw [hn1] at hc; omega
        have hqI : (q : Int) ≤ (p : Int) := by omega
        clear hp hq hc hle hn1
        go_wp2_with (first
          | (go_at_call 27; refine HNs.out.mono ?_; rintro e w5 ⟨A5, c5, rfl, ho5, hb5⟩; rw [Hns.out] at ho5 ⊢; have h05 := step h03 hb5; have hr5 := ho5.rd)
          | (go_at_call 33; refine (HC.out _ _ _ hr5).mono ?_; rintro e w6 ⟨rfl, hb6⟩))
        go_ret
        exact ⟨rfl, step h05 hb6⟩
  · go_enter Tryd.func6, Tryd.ntmps6
    go_wp2
    go_ret
    exact ⟨rfl, Below.refl _ _⟩
end Go.Proofs.YtgejahkdiciplaaDoor
