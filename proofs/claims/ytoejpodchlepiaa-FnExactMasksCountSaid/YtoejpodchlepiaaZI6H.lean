import Derived.Test.YtoejpodchlepiaaZI6A
import Derived.Test.YtoejpodchlepiaaZNh
import Derived.Test.YtoejpodchlepiaaZPuzA
import Derived.Lib.SliceRun
import Derived.Test.YtoejpodchlepiaaOnes
import Derived.Test.YtoejpodchlepiaaI3V
import Derived.Test.YtoejpodchlepiaaSixC
set_option maxRecDepth 8000
namespace Go.Proofs.Ytoejpodchlepiaa
open Go.ChangeShapes Go.WideShapes Go.ChangeAt Go.RowKit
/-! the second technique of the program: a queue of cells. -/
theorem hC_mono (m : List Int) (S u : Int) (v : Nat) {k k' : Nat} (h : k ≤ k') : hC m S u v k ≤ hC m S u v k' := by
  induction h with
  | refl => exact Nat.le_refl _
  | step _ ih => simp only [hC]; split <;> omega
/-- what a line's values leave in the queue: cells and values. -/
def qV (m : List Int) (S : Int) (N : Nat) (u : Int) : Nat → List (Nat × Nat)
  | 0 => []
  | r + 1 => if hC m S u (r + 1) N = 1 then qV m S N u r ++ [(hL m S u (r + 1) N, r + 1)] else qV m S N u r
def qU (m : List Int) (S : Int) (N : Nat) : Nat → List (Nat × Nat)
  | 0 => []
  | u + 1 => qU m S N u ++ qV m S N u N
def keepQ (o : List Int) (p : Nat × Nat) : List Int := o.set p.1 (bits .and .i64 (nth o p.1) (2 ^ p.2))
theorem qV_fold (m : List Int) (S : Int) (N : Nat) (u : Int) (o : List Int) (r : Nat) : (qV m S N u r).foldl keepQ o = hVs m S N u o r := by
  induction r with
  | zero => rfl
  | succ r ih =>
    simp only [qV, hVs]
    split
    · rw [List.foldl_append, ih]; rfl
    · exact ih
theorem qU_fold (m : List Int) (S : Int) (N u : Nat) : (qU m S N u).foldl keepQ m = hU m S N u := by
  induction u with
  | zero => rfl
  | succ u ih => simp only [qU, hU]; rw [List.foldl_append, ih, qV_fold]
theorem qV_len (m : List Int) (S : Int) (N : Nat) (u : Int) (r : Nat) : (qV m S N u r).length ≤ r := by
  induction r with
  | zero => exact Nat.le_refl _
  | succ r ih =>
    simp only [qV]
    split
    · simp; omega
    · omega
theorem qU_len (m : List Int) (S : Int) (N u : Nat) : (qU m S N u).length ≤ u * N := by
  induction u with
  | zero => simp [qU]
  | succ u ih => simp only [qU, List.length_append]; have := qV_len m S N u N; rw [Nat.succ_mul]; omega
theorem qV_in {m : List Int} {S u : Int} {N n : Nat} (hat : ∀ j, j < N → (lineAt S u j).toNat < n) (h0 : 0 < n) (r : Nat) : ∀ p ∈ qV m S N u r, p.1 < n ∧ 1 ≤ p.2 ∧ p.2 ≤ r := by
  induction r with
  | zero => intro p hp; simp [qV] at hp
  | succ r ih =>
    intro p hp
    simp only [qV] at hp
    split at hp
    · rcases List.mem_append.1 hp with h | h
      · have := ih p h; omega
      · rw [List.mem_singleton] at h; subst h
        exact ⟨hL_lt hat h0, by simp, by simp⟩
    · have := ih p hp; omega
theorem qU_in {m : List Int} {S : Int} {N n U : Nat} (hat : ∀ u : Nat, u < U → ∀ j, j < N → (lineAt S u j).toNat < n) (h0 : 0 < n) (u : Nat) (hu : u ≤ U) : ∀ p ∈ qU m S N u, p.1 < n ∧ 1 ≤ p.2 ∧ p.2 ≤ N := by
  induction u with
  | zero => intro p hp; simp [qU] at hp
  | succ u ih =>
    intro p hp
    simp only [qU] at hp
    rcases List.mem_append.1 hp with h | h
    · exact ih (by omega) p h
    · exact qV_in (hat u (by omega)) h0 N p h
/-- a queue of the call's own. -/
def fl (q : List (Nat × Nat)) : List Value := q.flatMap (fun p => [.int .i64 (p.1 : Int), .int .i64 (p.2 : Int)])
theorem fl_len (q : List (Nat × Nat)) : (fl q).length = q.length * 2 := by
  induction q with
  | nil => rfl
  | cons a q ih =>
    have : fl (a :: q) = [.int .i64 (a.1 : Int), .int .i64 (a.2 : Int)] ++ fl q := rfl
    rw [this, List.length_append, ih, List.length_cons]; simp; omega
theorem fl_app (q q' : List (Nat × Nat)) : fl (q ++ q') = fl q ++ fl q' := by simp [fl]
theorem fl_get {q : List (Nat × Nat)} {k : Nat} (h : k < q.length) : (fl q)[k * 2]? = some (.int .i64 (q[k].1 : Int)) ∧ (fl q)[k * 2 + 1]? = some (.int .i64 (q[k].2 : Int)) := by
  induction q generalizing k with
  | nil => simp at h
  | cons a q ih =>
    have e : fl (a :: q) = .int .i64 (a.1 : Int) :: .int .i64 (a.2 : Int) :: fl q := rfl
    rw [e]
    cases k with
    | zero => simp
    | succ k =>
      have h' : k < q.length := by simpa using h
      rw [show (k + 1) * 2 = k * 2 + 1 + 1 by omega]
      simpa using ih h'
def OwF (w : World) (lo : Nat) (A : Option Addr) (n c : Nat) (q : List (Nat × Nat)) : Prop := w.ownsRow lo 90 2 (.slice A n c) n (fl q)
theorem OwF.below {w w' : World} {lo n c : Nat} {A : Option Addr} {q : List (Nat × Nat)} (h : OwF w lo A n c q) (hb : Below w.heap.size w w') : OwF w' lo A n c q :=
  World.ownsRow.kept h (row := none) ⟨hb.os, hb.tape, hb.output, hb.size, fun k hk _ => hb.block k hk⟩ (by
    cases e : (Value.slice A n c).ownBlock
    · exact .inl rfl
    · exact .inr (by simp))
theorem found_info : (Try.prog.info? 90).map (fun i => (i.zero, i.size, i.bytes)) = some (some (.agg #[.int .i64 0, .int .i64 0]), 2, 16) := by kernel_rfl
/-- 'queue = append(queue, foundCell{cell, value})'. -/
theorem push_found {w : World} {ops : Array Oper} {rest : List Oper} {o : Oper} {a : Act} {Q : Exit → Act → World → Prop} (hgd : o.guard = none) (s x : Operand)
    (ho : o.op = .call { callee := .builtin .append, args := #[s, x], argTypes := #[87, 87] })
    (lo : Nat) (A : Option Addr) (n c : Nat) (q : List (Nat × Nat)) (p v : Nat) (hs : a.eval s = .slice A n c) (hx : a.eval x = .slice (some ⟨w.heap.size, 0, none⟩) 1 1) (hown : OwF w lo A n c q) (hn : n ≤ 1099511627776) (hlo : lo ≤ w.heap.size)
    (h : ∀ A' c' w', OwF w' lo A' (n + 1) c' (q ++ [(p, v)]) → (w.alloc (.cells #[.int .i64 (p : Int), .int .i64 (v : Int)] 90)).grownBy w' (Value.slice A n c).ownBlock → wpList Try.prog ops Q rest (a.put o.dst (.slice A' (n + 1) c')) w') :
    wpList Try.prog ops Q (o :: rest) a (w.alloc (.cells #[.int .i64 (p : Int), .int .i64 (v : Int)] 90)) := by
  obtain ⟨i0, hi, hz0, hz1, hz2⟩ := info_parts found_info
  refine wpList_append_own (P := Try.prog) _ hgd s x 87 ho lo 90 i0 (.agg #[.int .i64 0, .int .i64 0]) 2 16 Try.underlying87 hi hz0 hz1 hz2 rfl (by decide) _ n (fl q) hs (World.ownsRow.alloc hown _) ⟨w.heap.size, 0, none⟩ 1 1 [.int .i64 (p : Int), .int .i64 (v : Int)] hx rfl ?_ ?_ (by simp only [maxLen]; omega) (by omega) (by simp; omega) ?_
  · intro j u hj
    match j, hj with
    | 0, hj =>
      simp at hj
      subst hj
      simp [Addr.add]
    | 1, hj =>
      simp at hj
      subst hj
      simp [Addr.add]
  · intro u hu
    simp at hu
    rcases hu with rfl | rfl <;> rfl
  · intro v' w' h2 h3 _
    obtain ⟨g, cap, hv, _, _⟩ := World.ownsRow.form h2 (by omega)
    subst hv
    exact h _ _ _ (by unfold OwF; rw [fl_app]; exact h2) h3
set_option maxHeartbeats 1000000 in
theorem onlyPlace_any (A : Option Addr) (c n B : Nat) (m : List Int) (Ac : Option Addr) (cc N Bc : Nat) (S u : Int) (v : Nat) (w : World) (h : Rd w B A n m) (hc : Rd w Bc Ac N (lineTo S u N)) (hBm : B ≤ w.heap.size) (hBc : Bc ≤ w.heap.size) (hN : N ≤ 4) (hat : Hid (∀ j, j < N → ∃ q : Nat, lineAt S u j = (q : Int) ∧ q < n)) (hrng : Hid (∀ k, k < n → 0 ≤ nth m k ∧ nth m k ≤ 30)) (hv : v ≤ 4) :
    Calls Try.prog 123 #[.slice A n c, .slice Ac N cc, .int .i64 v] w fun e w' => (∃ p : Nat, e = .returned (.tuple #[.int .i64 p, .bool (hC m S u v N == 1)]) ∧ (hC m S u v N = 1 → p = hL m S u v N)) ∧ Below w.heap.size w w' := by
  go_enter Try.func123, Try.ntmps123
  go_wp2
  go_loopw [8, 9, 14] (fun pl fo i wr => ∃ k p : Nat, k ≤ N ∧ i = .int .i64 k ∧ hC m S u v k ≤ 1 ∧ pl = .int .i64 p ∧ fo = .bool (hC m S u v k == 1) ∧ Hid (hC m S u v k = 1 → p = hL m S u v k) ∧ Below w.heap.size w wr) (fun _ _ i _ => N - (intOf i).toNat)
  case atStart => exact ⟨0, 0, Nat.zero_le _, rfl, Nat.zero_le _, rfl, rfl, Lib.hid (fun h => by simp [hC] at h), Below.refl _ _⟩
  case round =>
    obtain ⟨k, p, hk, rfl, hle, rfl, rfl, hp, hb⟩ := hrel
    by_cases hlt : k < N
    · obtain ⟨q, hq, hqn⟩ := hat.out k hlt
      obtain ⟨b, off, rfl, hbB, hck⟩ := (hc.below (hb.mono hBc)).at_ hlt
      rw [show nth (lineTo S u N) k = (q : Int) by rw [← hq]; simp [lineTo, nth, List.getD_eq_getElem?_getD, hlt]] at hck
      obtain ⟨b', off', rfl, hbB', hcm⟩ := (h.below (hb.mono hBm)).at_ hqn
      obtain ⟨x0, x1⟩ := hrng.out q hqn
      obtain ⟨M, hM⟩ := Int.eq_ofNat_of_zero_le x0
      rw [hM] at hcm x1
      have hsh := and_pow0 M v (by omega) hv
      have hbit : hB m S u v k = M.testBit v := by simp only [hB, hq, Int.toNat_natCast]; rw [hM]; simp
      have hvs : v < 64 := by omega
      cases hh : M.testBit v
      · rw [hh] at hsh hbit
        have H1 := Lib.hid (show hC m S u v (k + 1) = hC m S u v k by simp [hC, hbit])
        have H2 := Lib.hid (show hL m S u v (k + 1) = hL m S u v k by simp [hL, hbit])
        clear hh hbit hM hq x0
        go_wp2
        go_quiet (fail)
        go_wp2
        go_roundw
        case rel => exact ⟨k + 1, p, by omega, by go_num, by rw [H1.out]; exact hle, rfl, by rw [H1.out], Lib.hid (by rw [H1.out, H2.out]; exact hp.out), below_drewN hb _⟩
        case measure => simp [intOf]; omega
      · rw [hh] at hsh hbit
        have H1 := Lib.hid (show hC m S u v (k + 1) = hC m S u v k + 1 by simp [hC, hbit])
        have H2 := Lib.hid (show hL m S u v (k + 1) = q by simp [hL, hbit, hq])
        clear hh hbit hM hq x0
        by_cases h1 : hC m S u v k = 1
        · have Hf := Lib.hid (show hC m S u v N ≠ 1 by have := hC_mono m S u v (show k + 1 ≤ N by omega); rw [H1.out] at this; omega)
          have f1 : (hC m S u v k == 1) = true := by simp [h1]
          rw [f1]
          clear h1 f1
          go_wp2
          go_quiet (fail)
          go_wp2
          go_ret2
          exact ⟨⟨0, by rw [show (hC m S u v N == 1) = false by simp [Hf.out]]; rfl, fun h => absurd h Hf.out⟩, below_drewN hb _⟩
        · have h0 := Lib.hid (show hC m S u v k = 0 by omega)
          have f1 : (hC m S u v k == 1) = false := by simp [h1]
          rw [f1]
          clear h1 f1
          go_wp2
          go_quiet (fail)
          go_wp2
          go_roundw
          case rel => exact ⟨k + 1, q, by omega, by go_num, by rw [H1.out, h0.out]; exact Nat.le_refl _, rfl, by rw [H1.out, h0.out]; rfl, Lib.hid (fun _ => H2.out.symm), below_drewN hb _⟩
          case measure => simp [intOf]; omega
    · obtain rfl : k = N := by omega
      obtain ⟨bb, hbb⟩ : ∃ bb, (hC m S u v k == 1) = bb := ⟨_, rfl⟩
      rw [hbb]
      go_wp2
      go_ret2
      exact ⟨⟨p, by rw [hbb]; rfl, hp.out⟩, hb⟩
theorem qV_step {m : List Int} {S u : Int} {N v : Nat} (h : 1 ≤ v) : qV m S N u v = if hC m S u v N = 1 then qV m S N u (v - 1) ++ [(hL m S u v N, v)] else qV m S N u (v - 1) := by
  obtain ⟨r, rfl⟩ : ∃ r, v = r + 1 := ⟨v - 1, by omega⟩
  rfl
theorem line_in {s u : Nat} (hs : s ∈ [2, 3, 4]) (hu : u < 2 * s) : ∀ j, j < s → ∃ q : Nat, lineAt s u j = (q : Int) ∧ q < s * s := by
  intro j hj
  simp at hs
  by_cases hx : (u : Int) < (s : Int)
  · rw [lineAt_row hx]
    refine ⟨u * s + j, by simp, ?_⟩
    rcases hs with rfl | rfl | rfl <;> omega
  · rw [lineAt_col hx]
    refine ⟨j * s + u - s, ?_, ?_⟩
    · rcases hs with rfl | rfl | rfl <;> omega
    · rcases hs with rfl | rfl | rfl <;> omega
set_option maxHeartbeats 2000000 in
theorem hiddenIn_any (A : Option Addr) (c n B : Nat) (m : List Int) (s : Nat) (w : World) (h : Rd w B A n m) (hBm : B ≤ w.heap.size) (hs : s ∈ [2, 3, 4]) (hn : n = s * s) (hrng : Hid (∀ k, k < n → 0 ≤ nth m k ∧ nth m k ≤ 30)) :
    Calls Try.prog 96 #[.slice A n c, .int .i64 s] w fun e w' => ∃ A' c', e = .returned (.slice A' (qU m s s (2 * s)).length c') ∧ OwF w' w.heap.size A' (qU m s s (2 * s)).length c' (qU m s s (2 * s)) ∧ Below w.heap.size w w' := by
  have hs2 : 2 ≤ s := by simp at hs; omega
  have hs4 : s ≤ 4 := by simp at hs; omega
  have Hs := Lib.hid hs
  have Hn := Lib.hid hn
  obtain ⟨T, hT⟩ : ∃ T, T = 2 * s := ⟨_, rfl⟩
  rw [← hT]
  have HT := Lib.hid hT
  have hT8 : T ≤ 8 := by omega
  clear hs hn hT
  go_enter Try.func96, Try.ntmps96
  go_wp2
  go_loopw [5, 13] (fun qv i wr => ∃ (u k : Nat) (A' : Option Addr) (c' : Nat), u ≤ T ∧ i = .int .i64 u ∧ qv = .slice A' k c' ∧ Hid ((qU m s s u).length = k) ∧ OwF wr w.heap.size A' k c' (qU m s s u) ∧ Below w.heap.size w wr) (fun _ i _ => T - (intOf i).toNat)
  case atStart => exact ⟨0, 0, none, 0, Nat.zero_le _, rfl, rfl, Lib.hid rfl, World.ownsRow_nil _ _ _ _, Below.refl _ _⟩
  case round =>
    obtain ⟨u, k, A', c', hu, rfl, rfl, hk, ho, hb⟩ := hrel
    by_cases hlt : u < T
    · have hltI : (u : Int) < 2 * (s : Int) := by have := HT.out; omega
      have HLc : Hid (Calls Try.prog 122 #[.int .i64 s, .int .i64 u] wr fun e w'' => ∃ A3 c3, e = .returned (.slice A3 s c3) ∧ Ow w'' wr.heap.size A3 s c3 (lineTo s u s) ∧ Below wr.heap.size wr w'') := Lib.hid ((implLineCells s u wr ⟨by omega, by omega⟩).mono (by
          rintro e w'' ⟨A3, c3, rfl, ho3, hb3⟩
          have e1 : lineL s u = lineTo s u s := by
            have : lineOk s u = true := by have := HT.out; simp [lineOk, inr]; omega
            simp [lineL, this]
          rw [e1, lineTo_length] at ho3
          rw [e1, lineTo_length]
          exact ⟨A3, c3, rfl, ho3, hb3⟩))
      have hat := Lib.hid (show ∀ j, j < s → ∃ q : Nat, lineAt s u j = (q : Int) ∧ q < n by rw [Hn.out]; exact line_in Hs.out (by have := HT.out; omega))
      have hsw := hb.size
      go_wp2_with (go_at_call 122; refine HLc.out.mono ?_; rintro e w3 ⟨A3, c3, rfl, ho3, hb3⟩)
      have hoq := ho.below hb3
      have hbq := hb.trans (hb3.mono hsw)
      have ho3' := ho3.mono hsw
      go_loopw [5, 8] (fun qv i wr => ∃ (v k : Nat) (A' : Option Addr) (c' : Nat), 1 ≤ v ∧ v ≤ s + 1 ∧ i = .int .i64 v ∧ qv = .slice A' k c' ∧ Hid ((qU m s s u ++ qV m s s u (v - 1)).length = k) ∧ OwF wr w.heap.size A' k c' (qU m s s u ++ qV m s s u (v - 1)) ∧ Ow wr w.heap.size A3 s c3 (lineTo s u s) ∧ Below w.heap.size w wr) (fun _ i _ => s + 1 - (intOf i).toNat)
      case atStart => exact ⟨1, k, A', c', by omega, by omega, rfl, rfl, Lib.hid (by simp only [Nat.sub_self, qV, List.append_nil]; exact hk.out), by simp only [Nat.sub_self, qV, List.append_nil]; exact hoq, ho3', hbq⟩
      case round =>
        clear ho hoq hbq ho3 ho3' hb3 hb HLc hk
        obtain ⟨v, k, A', c', hv1, hv2, rfl, rfl, hk, ho, ho3, hb⟩ := hrel
        have hsw := hb.size
        by_cases hvs : v ≤ s
        · have hvI : (v : Int) ≤ (s : Int) := by omega
          have HOP := Lib.hid (onlyPlace_any A c n B m A3 c3 s wr.heap.size s u v wr (h.below (hb.mono hBm)) ho3.rd (Nat.le_trans hBm hb.size) (Nat.le_refl _) hs4 hat hrng (by omega))
          have hk8 : k ≤ 1099511627776 := by
            have q1 := hk.out
            have q2 := qU_len m s s u
            have q3 := qV_len m s s u (v - 1)
            have q4 : u * s ≤ 8 * 4 := Nat.mul_le_mul (by omega) hs4
            rw [List.length_append] at q1
            omega
          by_cases h1 : hC m s u v s = 1
          · have f1 : (hC m s u v s == 1) = true := by simp [h1]
            have HQ := Lib.hid (show qV m s s u v = qV m s s u (v - 1) ++ [(hL m s u v s, v)] by rw [qV_step hv1, if_pos h1])
            have H1 := Lib.hid h1
            clear h1
            go_wp2_with (first
              | (go_at_call 123; refine HOP.out.mono ?_; rintro e w3 ⟨⟨p, rfl, hp⟩, hb3⟩; rw [f1]; have ho5 := ho.below hb3; have hp' := Lib.hid (hp H1.out); clear hp; have hs3 := Nat.le_trans hsw hb3.size)
              | (at_builtin; refine push_found rfl (.tmp 32) (.tmp 36) rfl w.heap.size A' k c' _ p v rfl rfl ho5 hk8 hs3 ?_; intro A5 c5 w5 ho6 hg6))
            have ho36 := ow_own (World.ownsRow.alloc (ho3.below hb3) _) (World.ownsRow.alloc ho5 _) (by decide) hg6
            have hb6 : Below w.heap.size w w5 := ((hb.trans (hb3.mono hsw)).alloc hs3 _).grown hg6 (by simp; omega) (fun g hg => (World.ownsRow.lt ho5 g hg).1)
            go_roundw
            case rel => exact ⟨v + 1, k + 1, A5, c5, by omega, by omega, by go_num, rfl, Lib.hid (by rw [Nat.add_sub_cancel, HQ.out, ← List.append_assoc, List.length_append, hk.out]; rfl), by rw [Nat.add_sub_cancel, HQ.out, ← List.append_assoc, ← hp'.out]; exact ho6, ho36, hb6⟩
            case measure => simp [intOf]; omega
          · have f1 : (hC m s u v s == 1) = false := by simp [h1]
            have HQ := Lib.hid (show qV m s s u v = qV m s s u (v - 1) by rw [qV_step hv1, if_neg h1])
            clear h1
            go_wp2_with (go_at_call 123; refine HOP.out.mono ?_; rintro e w3 ⟨⟨p, rfl, _⟩, hb3⟩; rw [f1])
            go_roundw
            case rel => exact ⟨v + 1, k, A', c', by omega, by omega, by go_num, rfl, Lib.hid (by rw [Nat.add_sub_cancel, HQ.out]; exact hk.out), by rw [Nat.add_sub_cancel, HQ.out]; exact ho.below hb3, ho3.below hb3, step hb hb3⟩
            case measure => simp [intOf]; omega
        · obtain rfl : v = s + 1 := by omega
          have hvI : ((s + 1 : Nat) : Int) = (s : Int) + 1 := by simp
          rw [Nat.add_sub_cancel] at hk ho
          go_wp2
          go_roundw
          case rel => exact ⟨u + 1, k, A', c', by omega, by go_num, rfl, hk, ho, hb⟩
          case measure => simp [intOf]; omega
    · have hltI : ¬ (u : Int) < 2 * (s : Int) := by have := HT.out; omega
      obtain rfl : u = T := by omega
      go_wp2
      go_ret
      rw [hk.out]
      exact ⟨_, _, rfl, ho, hb⟩
theorem clone_any (A : Option Addr) (n c B : Nat) (xs : List Int) (w : World) (h : Rd w B A n xs) (hB : B ≤ w.heap.size) (hn : 0 < n) (hm : n ≤ 1099511627776) :
    Calls Try.prog 95 #[.slice A n c] w fun e w' => ∃ A' c', e = .returned (.slice A' n c') ∧ Ow w' w.heap.size A' n c' xs ∧ Below w.heap.size w w' := by
  obtain ⟨b, off, rfl, _, _⟩ := h.at_ hn
  have hb0 : Below w.heap.size w (w.alloc (.cells #[] 3)) := (Below.refl _ _).alloc (Nat.le_refl _) _
  have HO := Lib.hid (Ow.made0 w w.heap.size (Nat.le_refl _))
  have HR := Lib.hid (h.below (hb0.mono hB))
  have hsO : w.heap.size ≤ (w.alloc (.cells #[] 3)).heap.size := by simp
  have hcmp := fun w' => Lib.run_eql_slice_nil (P := Try.prog) w' 23 3 (some ⟨b, off, none⟩) n c 0 0 Try.underlying23
  go_enter Try.func95, Try.ntmps95
  go_wp2_with (at_builtin; (refine push_new rfl (.tmp 5) (.tmp 6) rfl w.heap.size (some ⟨w.heap.size, 0, none⟩) (some ⟨b, off, none⟩) n c B xs rfl rfl HO.out HR.out hm hsO ?_); intro A1 c1 w1 ho1 hg1; have hb1 := hb0.grown hg1 hb0.size (fun k hk => HO.out.own_lo k hk))
  go_ret
  exact ⟨_, _, rfl, ho1, hb1⟩
theorem OwF.set {w : World} {lo lo' g n c n' c' j : Nat} {A : Option Addr} {q : List (Nat × Nat)} {xs : List Int} (h : OwF w lo A n c q) (ho : Ow w lo' (some ⟨g, 0, none⟩) n' c' xs) (v : Value) : OwF (w.setCell ⟨g, j, none⟩ v) lo A n c q := by
  refine World.ownsRow.kept h (row := some g) grown_set ?_
  rcases h.2 with ⟨e1, _⟩ | ⟨g1, cap1, cur1, e1, _, hr1, _⟩
  · rw [e1]; exact .inl rfl
  · refine .inr (fun e2 => ?_)
    rw [e1] at e2
    have e3 : g1 = g := by simpa [Value.ownBlock] using e2
    subst e3
    rcases ho.2 with ⟨e4, _⟩ | ⟨g2, cap2, cur2, e4, _, hr2, _⟩
    · cases e4
    · injection e4 with e4 _ _
      injection e4 with e4
      injection e4 with e4 _ _
      subst e4
      rw [hr1] at hr2
      injection hr2 with hr2
      injection hr2 with _ h2 _
      exact absurd h2 (by decide)
theorem OwF.cells {w : World} {lo n c : Nat} {A : Option Addr} {q : List (Nat × Nat)} (h : OwF w lo A n c q) {k : Nat} (hk : k < n) : ∃ g, A = some ⟨g, 0, none⟩ ∧ g < w.heap.size ∧ w.cell? ⟨g, k * 2, none⟩ = some (.int .i64 ((q.getD k (0, 0)).1 : Int)) ∧ w.cell? ⟨g, k * 2 + 1, none⟩ = some (.int .i64 ((q.getD k (0, 0)).2 : Int)) := by
  obtain ⟨g, cap, hv, _, hg⟩ := World.ownsRow.form h (by omega)
  injection hv with hA _ _
  subst hA
  have hl := h.1
  rw [fl_len] at hl
  have hkq : k < q.length := by omega
  have e := fl_get hkq
  have hd : q.getD k (0, 0) = q[k] := by simp [List.getD_eq_getElem?_getD, hkq]
  refine ⟨g, rfl, hg, ?_, ?_⟩
  · rw [hd, World.ownsRow.cellAt h (k * 2) (by omega)]; exact e.1
  · rw [hd, World.ownsRow.cellAt h (k * 2 + 1) (by omega)]; exact e.2
set_option maxHeartbeats 2000000 in
theorem implNarrowHidden (A : Option Addr) (c n B : Nat) (m : List Int) (size : Int) (w : World) (h : Rd w B A n m) (hm64 : B64 m) (hBm : B ≤ w.heap.size) (hm : n ≤ 1099511627776) (hsb : -9223372036854775808 ≤ size ∧ size ≤ 9223372036854775807) :
    Calls Try.prog 47 #[.slice A n c, .int .i64 size] w (RetSl w (nhL m size)) := by
  have hlen := Lib.hid h.1
  have HV := Lib.hid (implMasksValid A c n B m size w h hm64 hBm hm hsb)
  cases hv : mvd m size
  · have HL := Lib.hid (show nhL m size = [] by simp [nhL, hv])
    go_enter Try.func47, Try.ntmps47
    go_wp2_with (go_at_call 65; refine HV.out.mono ?_; rintro e w1 ⟨rfl, hb1⟩; rw [hv])
    go_ret
    rw [HL.out]
    exact ⟨_, _, rfl, Ow.nil_ _ _, hb1⟩
  · obtain ⟨⟨s2, s4⟩, hsq, hn16, hrng⟩ := mvd_at hv
    rw [hlen.out] at hsq hn16 hrng
    obtain ⟨s, rfl⟩ := Int.eq_ofNat_of_zero_le (by omega : 0 ≤ size)
    have hs : s ∈ [2, 3, 4] := by simp; omega
    have hn : n = s * s := by
      have : (n : Int) = ((s * s : Nat) : Int) := by simpa using hsq
      omega
    have hn0 : 0 < n := by
      simp at hs
      rcases hs with rfl | rfl | rfl <;> omega
    have Hrng := Lib.hid (fun k (hk : k < n) => (⟨(hrng k hk).1, (hrng k hk).2.1⟩ : 0 ≤ nth m k ∧ nth m k ≤ 30))
    have HCl := Lib.hid (fun w' (hb : Below w.heap.size w w') => clone_any A n c B m w' (h.below (hb.mono hBm)) (Nat.le_trans hBm hb.size) hn0 hm)
    have HHi := Lib.hid (fun w' (hb : Below w.heap.size w w') => hiddenIn_any A c n B m s w' (h.below (hb.mono hBm)) (Nat.le_trans hBm hb.size) hs hn Hrng)
    have Hin := Lib.hid (qU_in (m := m) (S := s) (N := s) (n := n) (U := 2 * s) (fun u hu j hj => by
      obtain ⟨q, hq, hqn⟩ := line_in hs hu j hj
      rw [hq, hn]; simpa using hqn) hn0 (2 * s) (Nat.le_refl _))
    have HQ8 := Lib.hid (show (qU m s s (2 * s)).length ≤ 32 by have := qU_len m s s (2 * s); have : 2 * s * s ≤ 8 * 4 := Nat.mul_le_mul (by omega) (by omega); omega)
    have HF := Lib.hid (show nhL m s = (qU m s s (2 * s)).foldl keepQ m by rw [qU_fold]; simp [nhL, hv])
    have hs4' : s ≤ 4 := by omega
    obtain ⟨q, hq⟩ : ∃ q, q = qU m s s (2 * s) := ⟨_, rfl⟩
    rw [← hq] at HHi Hin HQ8 HF
    obtain ⟨K, hK⟩ : ∃ K, K = q.length := ⟨_, rfl⟩
    rw [← hK] at HHi HQ8
    have HK := Lib.hid hK
    have hK32 := HQ8.out
    clear hrng hsq hq hK hn hs
    go_enter Try.func47, Try.ntmps47
    go_wp2_with (first
      | (go_at_call 65; refine HV.out.mono ?_; rintro e w1 ⟨rfl, hb1⟩; rw [hv])
      | (go_at_call 95; refine (HCl.out _ hb1).mono ?_; rintro e w2 ⟨Ac, cc, rfl, ho2, hb2⟩; have hb12 := step hb1 hb2)
      | (go_at_call 96; refine (HHi.out _ hb12).mono ?_; rintro e w3 ⟨Aq, cq, rfl, hoq, hb3⟩))
    have hb13 := step hb12 hb3
    have ho3 := (ho2.mono hb1.size).below hb3
    have hoq' : OwF w3 w.heap.size Aq K cq q := World.ownsRow.mono hoq hb12.size
    obtain ⟨g, rfl, hgl, hgw⟩ := ho3.form hn0
    go_loopw [18] (fun i wr => ∃ k : Nat, k ≤ K ∧ i = .int .i64 k ∧ Ow wr w.heap.size (some ⟨g, 0, none⟩) n cc ((q.take k).foldl keepQ m) ∧ OwF wr w.heap.size Aq K cq q ∧ Below w.heap.size w wr) (fun i _ => K - (intOf i).toNat)
    case atStart => exact ⟨0, Nat.zero_le _, rfl, ho3, hoq', hb13⟩
    case round =>
      clear ho3 hoq hoq' hb13 hb12 hb1 hb2 hb3 ho2
      obtain ⟨k, hk, rfl, ho, hof, hb⟩ := hrel
      by_cases hlt : k < K
      · obtain ⟨gq, rfl, hgq, hcx, hcy⟩ := hof.cells hlt
        have hkq : k < q.length := by rw [← HK.out]; exact hlt
        have hmem : q.getD k (0, 0) ∈ q := by
          rw [List.getD_eq_getElem?_getD, List.getElem?_eq_getElem hkq]; exact List.getElem_mem _
        obtain ⟨hx, hy1, hy4⟩ := Hin.out _ hmem
        have HT := Lib.hid (show (q.take (k + 1)).foldl keepQ m = ((q.take k).foldl keepQ m).set (q.getD k (0, 0)).1 (bits .and .i64 (nth ((q.take k).foldl keepQ m) (q.getD k (0, 0)).1) (2 ^ (q.getD k (0, 0)).2)) by
          rw [List.take_add_one, List.getElem?_eq_getElem hkq]
          simp only [Option.toList_some, List.foldl_append, List.foldl_cons, List.foldl_nil, keepQ, List.getD_eq_getElem?_getD, List.getElem?_eq_getElem hkq, Option.getD_some])
        obtain ⟨x, hxe⟩ : ∃ x, x = (q.getD k (0, 0)).1 := ⟨_, rfl⟩
        obtain ⟨y, hye⟩ : ∃ y, y = (q.getD k (0, 0)).2 := ⟨_, rfl⟩
        rw [← hxe] at hcx hx HT
        rw [← hye] at hcy hy1 hy4 HT
        obtain ⟨o, hoe⟩ : ∃ o, o = (q.take k).foldl keepQ m := ⟨_, rfl⟩
        rw [← hoe] at ho HT
        clear hxe hye hmem hoe
        obtain ⟨hcell, hfr⟩ := ho.cell hx
        have hw2 : wrap64 ((2 : Int) ^ y) = 2 ^ y := by
          obtain ⟨r, rfl⟩ : ∃ r, y = r + 1 := ⟨y - 1, by omega⟩
          exact pow_wrap5 (by omega)
        have hy64 : y < 64 := by omega
        have hgr := ho.own_hi g rfl
        obtain ⟨W, hW⟩ : ∃ W, wr.alloc (.cells #[.int .i64 (x : Int), .int .i64 (y : Int)] 90) = W := ⟨_, rfl⟩
        have hoW : Ow W w.heap.size (some ⟨g, 0, none⟩) n cc o := by rw [← hW]; exact World.ownsRow.alloc ho _
        have hofW : OwF W w.heap.size (some ⟨gq, 0, none⟩) K cq q := by rw [← hW]; exact World.ownsRow.alloc hof _
        have hbW : Below w.heap.size w W := by rw [← hW]; exact hb.alloc hb.size _
        have hz0 : W.cell? ⟨wr.heap.size, 0, none⟩ = some (.int .i64 (x : Int)) := by rw [← hW]; exact cell_of_row _ _ 0 _ _ (0, 0) (heap_alloc_new wr _)
        have hz1 : W.cell? ⟨wr.heap.size, 1, none⟩ = some (.int .i64 (y : Int)) := by rw [← hW]; exact cell_of_row _ _ 1 _ _ (0, 0) (heap_alloc_new wr _)
        obtain ⟨hcW, hfW⟩ := hoW.cell hx
        have hput := Lib.hid (hoW.putN x (bits .and .i64 (nth o x) (2 ^ y)))
        have hofp := Lib.hid (hofW.set (j := x) hoW (.int .i64 (bits .and .i64 (nth o x) (2 ^ y))))
        have hbp := Lib.hid (Below.setCell (p := (⟨g, x, none⟩ : Addr)) hbW hgl (.int .i64 (bits .and .i64 (nth o x) (2 ^ y))))
        have HW := Lib.hid hW
        clear hW hofW hoW hbW
        go_wp2
        rw [HW.out]
        go_region
        go_wp2
        go_roundw
        case rel => exact ⟨k + 1, by omega, by go_num, by rw [HT.out]; exact hput.out, hofp.out, below_drewN hbp.out 1⟩
        case measure => simp [intOf]; omega
      · obtain rfl : k = K := by omega
        rw [show q.take k = q by rw [HK.out]; exact List.take_length] at ho
        go_wp2
        go_ret
        rw [HF.out]
        exact retSl_mk ho hb
end Go.Proofs.Ytoejpodchlepiaa
set_option maxRecDepth 8000
namespace Go.Proofs.Ytoejpodchlepiaa
open Go.ChangeShapes Go.WideShapes Go.ChangeAt Go.RowKit
theorem implMasksCount (A : Option Addr) (c n B : Nat) (m : List Int) (s : Int) (w : World) (h : Rd w B A n m) (hm64 : B64 m) (hB : B ≤ w.heap.size) (hm : n ≤ 1099511627776) (hsb : -9223372036854775808 ≤ s ∧ s ≤ 9223372036854775807) :
    Calls Try.prog 49 #[.slice A n c, .int .i64 s] w fun e w' => e = .returned (.int .i64 (mcI m s)) ∧ Below w.heap.size w w' := by
  have hlen := Lib.hid h.1
  have HV := Lib.hid (implMasksValid A c n B m s w h hm64 hB hm hsb)
  cases hv : mvd m s
  · have HL := Lib.hid (show mcI m s = -1 by simp [mcI, hv])
    go_enter Try.func49, Try.ntmps49
    go_wp2_with (go_at_call 65; refine HV.out.mono ?_; rintro e w1 ⟨rfl, hb1⟩; rw [hv])
    go_ret
    exact ⟨by rw [HL.out]; rfl, hb1⟩
  · have HL := Lib.hid (show mcI m s = (mcTo m n : Nat) by rw [mcI, if_pos hv, hlen.out])
    obtain ⟨_, _, hn16, hrng⟩ := mvd_at hv
    rw [hlen.out] at hn16 hrng
    have Hrng := Lib.hid hrng
    clear hrng
    go_enter Try.func49, Try.ntmps49
    go_wp2_with (go_at_call 65; refine HV.out.mono ?_; rintro e w1 ⟨rfl, hb1⟩; rw [hv])
    go_loop [5, 14] (fun q i => ∃ k : Nat, k ≤ n ∧ i = .int .i64 k ∧ q = .int .i64 (mcTo m k : Nat)) (fun _ i => n - (intOf i).toNat)
    case atStart => exact ⟨0, Nat.zero_le _, rfl, rfl⟩
    case round =>
      obtain ⟨k, hk, rfl, rfl⟩ := hrel
      have hle := mcTo_le m k
      by_cases hlt : k < n
      · obtain ⟨b, off, rfl, hbB, hck⟩ := (h.below (hb1.mono hB)).at_ hlt
        obtain ⟨x0, x1, x2⟩ := Hrng.out k hlt
        obtain ⟨M, hM⟩ := Int.eq_ofNat_of_zero_le x0
        have hm2 : M % 2 = 0 := by rw [hM, Int.tmod_eq_emod_of_nonneg (by omega)] at x2; omega
        have hM32 : M < 32 := by omega
        have Ho := Lib.hid (fun w' => ones_any M hM32 hm2 w')
        rw [ones_bits M hM32 hm2] at Ho
        have Hs := Lib.hid (show mcTo m (k + 1) = mcTo m k + (bitsTo M 4).length by
          simp only [mcTo, maskVals]
          rw [if_pos (by simp only [mvOk, inr, Bool.and_eq_true, decide_eq_true_eq, beq_iff_eq]; exact ⟨⟨x0, x1⟩, x2⟩), hM, Int.toNat_natCast])
        have hl4 := bitsTo_length M 4
        obtain ⟨l, hl⟩ : ∃ l, (bitsTo M 4).length = l := ⟨_, rfl⟩
        rw [hl] at Hs hl4 Ho
        rw [hM] at hck
        clear x0 x1 x2 hl hM hm2
        go_wp2_with (go_at_call 98; refine (Ho.out _).mono ?_; rintro e w3 ⟨rfl, rfl⟩)
        go_round
        case rel => exact ⟨k + 1, by omega, by go_num, by rw [Hs.out]; simp⟩
        case measure => simp [intOf]; omega
      · obtain rfl : k = n := by omega
        go_wp2
        go_ret
        exact ⟨by rw [HL.out]; rfl, hb1⟩
end Go.Proofs.Ytoejpodchlepiaa
