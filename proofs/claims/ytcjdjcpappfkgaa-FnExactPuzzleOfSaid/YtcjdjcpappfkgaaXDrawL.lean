import Derived.Test.YtcjdjcpappfkgaaXZero
import Derived.Test.YtcjdjcpappfkgaaC3
import Derived.Test.YtcjdjcpappfkgaaR4P
import Derived.Test.YtcjdjcpappfkgaaC3C
import Derived.Test.YtcjdjcpappfkgaaRF
import Derived.Shelf.RegionOpen
import Derived.Test.YtcjdjcpappfkgaaWz
import Derived.Deep.RegionHeld3
import Derived.Test.YtcjdjcpappfkgaaC1
set_option maxRecDepth 8000
namespace Go.Proofs.Ytcjdjcpappfkgaa
open Go.ChangeShapes Go.WideShapes Go.ChangeAt Go.RowKit
theorem Ow.same {w w' : World} {lo g n c : Nat} {xs : List Int} (h : Ow w lo (some ⟨g, 0, none⟩) n c xs) (e : w'.heap[g]? = w.heap[g]?) : Ow w' lo (some ⟨g, 0, none⟩) n c xs := by
  obtain ⟨h0, h1⟩ := h
  refine ⟨h0, ?_⟩
  rcases h1 with ⟨h1, _⟩ | ⟨g', cap, cur, hv, h2, h3, h4⟩
  · cases h1
  · injection hv with e1 _ e2
    injection e1 with e1
    injection e1 with e1 _ _
    subst e1 e2
    exact .inr ⟨g, c, cur, rfl, h2, e.trans h3, h4⟩
theorem Rd.up {w : World} {B B' n : Nat} {A : Option Addr} {xs : List Int} (h : Rd w B A n xs) (hB : B ≤ B') : Rd w B' A n xs :=
  ⟨h.1, fun hn => by
    obtain ⟨b, off, e, hl, hc⟩ := h.2 hn
    exact ⟨b, off, e, by omega, hc⟩⟩
theorem Below.of_grown {N V : Nat} {X Y : World} (h : X.grownBy Y (some V)) (hN : N ≤ X.heap.size) (hV : N ≤ V) : Below N X Y :=
  (Below.refl N X).grown h hN (fun k e => by cases e; exact hV)
theorem yieldAt_mono {F : Fence} {m : Nat} {P : Program} {l : Nat} {args : Array Value} {w : World} {R R' : Ending → World → Prop} (h : YieldAt F m P l args w R) (hr : ∀ e w', R e w' → R' e w') : YieldAt F m P l args w R' := by
  obtain ⟨fn, tmps, assign, body, hy, hR⟩ := h
  exact ⟨fn, tmps, assign, body, hy, hR.mono hr⟩
/-- what the iterator reads: its two captured variables, and the masks. -/
def WBase (MB RB B : Nat) (k : Int) (A : Option Addr) (nc c : Nat) (v : Int) (Am : Option Addr) (n cm : Nat) (ms : List Int) (X : World) : Prop :=
  X.cell? ⟨MB, 0, none⟩ = some (.slice Am n cm) ∧ X.cell? ⟨RB, 0, none⟩ = some (ofk k (rval k A nc c v)) ∧ Rd X B Am n ms ∧ B ≤ X.heap.size
theorem WBase.below {N MB RB B : Nat} {k : Int} {A : Option Addr} {nc c : Nat} {v : Int} {Am : Option Addr} {n cm : Nat} {ms : List Int} {X Y : World} (h : WBase MB RB B k A nc c v Am n cm ms X) (hb : Below N X Y) (h1 : MB < N) (h2 : RB < N) (h3 : B ≤ N) : WBase MB RB B k A nc c v Am n cm ms Y :=
  ⟨(hb.cell (p := ⟨MB, 0, none⟩) h1).trans h.1, (hb.cell (p := ⟨RB, 0, none⟩) h2).trans h.2.1, h.2.2.1.below (hb.mono h3), Nat.le_trans h.2.2.2 hb.size⟩
set_option maxHeartbeats 1000000 in
theorem ways_seq (MB RB B : Nat) (k : Int) (A : Option Addr) (nc c : Nat) (v : Int) (Am : Option Addr) (n cm : Nat) (ms : List Int) (hn1 : 1 ≤ n) (hn4 : n ≤ 4) (hms : ∀ i, i < n → 0 ≤ nth ms i ∧ nth ms i < 32)
    (hk : k = 1 ∨ k = 2 ∨ k = 3 ∨ k = 4 ∨ k = 5) (h2 : k = 1 ∨ k = 2 ∨ k = 3 ∨ 2 ≤ n) :
    SeqC Try.prog 68 #[.pointer (some ⟨MB, 0, none⟩), .pointer (some ⟨RB, 0, none⟩)] (WBase MB RB B k A nc c v Am n cm ms) ((allW ms n []).filter (holdsB k v)) := by
  intro l J Jx W hJb hJs hY h0
  obtain ⟨w0, w1, w2, w3⟩ := hJb _ _ h0
  have hMB : MB < W.heap.size := cell_lt w0
  have hRB : RB < W.heap.size := cell_lt w1
  have hsml : ∀ ys ∈ allW ms n [], ys.length = n ∧ small4 ys n := fun ys hy => by
    have h1 := allW_len hy
    simp at h1
    refine ⟨h1, fun i hi => ?_⟩
    have := allW_small (vs := []) (by intro i hi; simp at hi) hy i (by simpa using hi)
    omega
  -- tryWays, called in a world with the two blocks that the iterator has laid
  have HT : ∀ (V VB cv : Nat) (X : World), W.heap.size < V → V < VB → n ≤ cv → Below W.heap.size W X → X.cell? ⟨W.heap.size, 0, none⟩ = some (.func (.yield l) #[] #[]) → X.cell? ⟨VB, 0, none⟩ = some (.slice (some ⟨V, 0, none⟩) n cv) →
      (∃ ys0, Ow X W.heap.size (some ⟨V, 0, none⟩) n cv ys0) →
      Calls Try.prog 69 #[.slice Am n cm, .slice (some ⟨V, 0, none⟩) n cv, .int .i64 (0 : Nat), .func (.func 70) #[] #[.pointer (some ⟨RB, 0, none⟩), .pointer (some ⟨VB, 0, none⟩), .pointer (some ⟨W.heap.size, 0, none⟩)]] X
        fun e Y => ∃ bb : Bool, e = .returned (.bool bb) ∧ (J ((allW ms n []).filter (holdsB k v)) Y ∨ Jx Y) := by
    intro V VB cv X hV hVB hcv hbX hyb hvb hys0
    obtain ⟨ys0, hys0⟩ := hys0
    let J' : List (List Int) → World → Prop := fun pre X => J (pre.filter (holdsB k v)) X ∧ X.cell? ⟨W.heap.size, 0, none⟩ = some (.func (.yield l) #[] #[]) ∧ X.cell? ⟨VB, 0, none⟩ = some (.slice (some ⟨V, 0, none⟩) n cv)
    have hsz : ∀ pre X, J' pre X → W.heap.size < X.heap.size ∧ VB < X.heap.size := fun pre X h => ⟨cell_lt h.2.1, cell_lt h.2.2⟩
    have stab : ∀ pre X Y, J' pre X → Below X.heap.size X Y → J' pre Y := fun pre X Y h hb => by
      obtain ⟨s1, s2⟩ := hsz pre X h
      exact ⟨hJs _ _ _ h.1 (hb.mono (by omega)), (hb.cell (p := ⟨W.heap.size, 0, none⟩) s1).trans h.2.1, (hb.cell (p := ⟨VB, 0, none⟩) s2).trans h.2.2⟩
    refine (tryWays_any (J := J') (Jx := Jx) (ms := ms) (n := n) (c := cv) (lo := W.heap.size) (V := V) (cm := cm) (Am := Am) ?hM hms hn4 ?hJ ?hcb n 0 [] ys0 [] X (by omega) rfl ⟨hJs _ _ _ h0 hbX, hyb, hvb⟩ hys0 (fun i hi => absurd hi (by omega)) (fun ys h => h)).mono ?_
    case hM =>
      intro pre X h
      obtain ⟨_, _, b2, _⟩ := hJb _ _ h.1
      exact b2.up (by omega)
    case hJ =>
      intro pre X Y h hg
      obtain ⟨s1, s2⟩ := hsz pre X h
      exact ⟨hJs _ _ _ h.1 (Below.of_grown hg (by omega) (by omega)), (hg.cell_far ⟨W.heap.size, 0, none⟩ s1 (fun e => by injection e with e; dsimp only at e; omega)).trans h.2.1, (hg.cell_far ⟨VB, 0, none⟩ s2 (fun e => by injection e with e; dsimp only at e; omega)).trans h.2.2⟩
    case hcb =>
      intro pre ys X hmem h ho
      obtain ⟨s1, s2⟩ := hsz pre X h
      obtain ⟨hyl, hsm⟩ := hsml ys hmem
      obtain ⟨_, b1, _, _⟩ := hJb _ _ h.1
      have hVX : V < X.heap.size := by obtain ⟨g, e, _, hg⟩ := ho.form (by omega); cases e; exact hg
      refine (wayCb l A c nc k v V n cv RB VB W.heap.size ys X (fun X' bb Y => Mid W.heap.size X' Y ∧ ((bb = true ∧ J (pre.filter (holdsB k v) ++ [ys]) Y) ∨ (bb = false ∧ Jx Y))) hk b1 h.2.2 h.2.1 ho.rd hn4 hcv (Lib.hid hsm) h2 ?_).mono ?_
      · intro hh X' hb
        have h' := stab _ _ _ h hb
        refine yieldAt_mono (hY _ ys X' V n cv h'.1 (List.mem_filter.2 ⟨hmem, hh⟩) (by omega) ((ho.below hb).rd)) ?_
        rintro e Y ⟨hm, (⟨rfl, hj⟩ | ⟨rfl, hx⟩)⟩
        · exact ⟨true, rfl, hm, .inl ⟨rfl, hj⟩⟩
        · exact ⟨false, rfl, hm, .inr ⟨rfl, hx⟩⟩
      · rintro e Y (⟨hh, rfl, hb⟩ | ⟨hh, X', bb, hb, rfl, hm, hR⟩)
        · have h' := stab _ _ _ h hb
          refine .inl ⟨rfl, ⟨?_, h'.2⟩, ho.below hb⟩
          rw [List.filter_append, List.filter_cons_of_neg (by rw [hh]; simp), List.filter_nil, List.append_nil]
          exact h'.1
        · have h' := stab _ _ _ h hb
          obtain ⟨t1, t2⟩ := hsz _ _ h'
          rcases hR with ⟨rfl, hj⟩ | ⟨rfl, hx⟩
          · refine .inl ⟨rfl, ⟨?_, ?_, ?_⟩, (ho.below hb).same (hm.same V (by omega) (Nat.lt_of_lt_of_le hVX hb.size))⟩
            · rw [List.filter_append, List.filter_cons_of_pos hh, List.filter_nil]
              exact hj
            · exact (World.cell?_of_block (a := ⟨W.heap.size, 0, none⟩) (hm.same _ (Nat.le_refl _) t1)).trans h'.2.1
            · exact (World.cell?_of_block (a := ⟨VB, 0, none⟩) (hm.same _ (by show W.heap.size ≤ VB; omega) t2)).trans h'.2.2
          · exact .inr ⟨rfl, hx⟩
    · rintro e Y (⟨rfl, hj, _⟩ | ⟨rfl, hx⟩)
      · exact ⟨true, rfl, .inl (by simpa using hj.1)⟩
      · exact ⟨false, rfl, .inr hx⟩
  show Calls Try.prog 68 #[.func (.yield l) #[] #[], .pointer (some ⟨MB, 0, none⟩), .pointer (some ⟨RB, 0, none⟩)] W _
  obtain ⟨W1, hW1⟩ : ∃ W1, W.alloc (.cells #[.func (.yield l) #[] #[]] 52) = W1 := ⟨_, rfl⟩
  have hbW : Below W.heap.size W W1 := by rw [← hW1]; exact (Below.refl _ _).alloc (Nat.le_refl _) _
  have hs1 : W1.heap.size = W.heap.size + 1 := by rw [← hW1]; simp
  have hy1 : W1.cell? ⟨W.heap.size, 0, none⟩ = some (.func (.yield l) #[] #[]) := by rw [← hW1]; exact cell_of_row _ _ 0 _ _ (0, 0) (heap_alloc_new W _)
  obtain ⟨W2, hW2⟩ : ∃ W2, W1.alloc (.cells (zeroArr n) 3) = W2 := ⟨_, rfl⟩
  have hb2 : Below W1.heap.size W1 W2 := by rw [← hW2]; exact (Below.refl _ _).alloc (Nat.le_refl _) _
  have hs2 : W2.heap.size = W.heap.size + 1 + 1 := by rw [← hW2]; simp [hs1]
  have ho2 : Ow W2 W.heap.size (some ⟨W.heap.size + 1, 0, none⟩) n n (zeros n) := by
    have := zeroArr_ow (n := n) (lo := W.heap.size) (by omega) W1 (by omega)
    rw [hW2, hs1] at this
    exact this
  have m1 := (hbW.cell (p := ⟨MB, 0, none⟩) hMB).trans w0
  have m2 := (hb2.cell (p := ⟨MB, 0, none⟩) (show MB < W1.heap.size by omega)).trans m1
  obtain ⟨W3, hW3⟩ : ∃ W3, W2.alloc (.cells #[.slice (some ⟨W.heap.size + 1, 0, none⟩) n n] 22) = W3 := ⟨_, rfl⟩
  have hb3 : Below W2.heap.size W2 W3 := by rw [← hW3]; exact (Below.refl _ _).alloc (Nat.le_refl _) _
  have m3 := (hb3.cell (p := ⟨MB, 0, none⟩) (show MB < W2.heap.size by omega)).trans m2
  have hv3 : W3.cell? ⟨W.heap.size + 1 + 1, 0, none⟩ = some (.slice (some ⟨W.heap.size + 1, 0, none⟩) n n) := by
    rw [← hW3, ← hs2]; exact cell_of_row _ _ 0 _ _ (0, 0) (heap_alloc_new W2 _)
  have hbW3 : Below W.heap.size W W3 := (hbW.trans (hb2.mono (by omega))).trans (hb3.mono (by omega))
  have hy3 := (hb3.cell (p := ⟨W.heap.size, 0, none⟩) (show W.heap.size < W2.heap.size by omega)).trans ((hb2.cell (p := ⟨W.heap.size, 0, none⟩) (show W.heap.size < W1.heap.size by omega)).trans hy1)
  have HC := Lib.hid (HT (W.heap.size + 1) (W.heap.size + 1 + 1) n W3 (by omega) (by omega) (Nat.le_refl _) hbW3 hy3 hv3 ⟨_, ho2.below hb3⟩)
  have hmk : (Instr.makeSlice 22 (.int .i64 (n : Int)) (.int .i64 (n : Int))).run Try.prog W1 = .ok (.slice (some ⟨W.heap.size + 1, 0, none⟩) n n) W2 := by rw [make_ints (by omega), hW2, hs1]
  clear HT hJb hJs hY hb2 hb3 hbW hbW3 hy3 ho2 hsml m2 w0 w1 w2 w3 hy1
  go_enter Try.func68, Try.ntmps68
  go_wp2_with (go_at_call 69; refine HC.out.mono ?_; rintro e Y ⟨bb, rfl, hYY⟩)

  go_end0
  exact ⟨⟨_, rfl⟩, hYY⟩
end Go.Proofs.Ytcjdjcpappfkgaa
set_option maxRecDepth 8000
namespace Go.Proofs.Ytcjdjcpappfkgaa
open Go.ChangeShapes Go.WideShapes Go.ChangeAt Go.RowKit
theorem waysToHold_any (A : Option Addr) (c n : Nat) (k v : Int) (Am : Option Addr) (n2 cm : Nat) (w : World) (hk : k = 1 ∨ k = 2 ∨ k = 3 ∨ k = 4 ∨ k = 5) :
    Calls Try.prog 62 #[.agg #[.int .i64 k, .slice A n c, .int .i64 v], .slice Am n2 cm] w fun e w' =>
      ∃ MB RB, e = .returned (.func (.func 68) #[] #[.pointer (some ⟨MB, 0, none⟩), .pointer (some ⟨RB, 0, none⟩)]) ∧ w'.cell? ⟨MB, 0, none⟩ = some (.slice Am n2 cm) ∧ w'.cell? ⟨RB, 0, none⟩ = some (ofk k (rval k A n c v)) ∧ Below w.heap.size w w' := by
  have hx0 := rbox_new w k A n c v 44
  have hb0 : Below w.heap.size w (w.alloc (.cells #[.int .i64 k, .slice A n c, .int .i64 v] 44)) := (Below.refl _ _).alloc (Nat.le_refl _) _
  have hs0 : (w.alloc (.cells #[.int .i64 k, .slice A n c, .int .i64 v] 44)).heap.size = w.heap.size + 1 := by simp
  obtain ⟨W1, hW1⟩ : ∃ W1, (w.alloc (.cells #[.int .i64 k, .slice A n c, .int .i64 v] 44)).alloc (.cells #[.slice Am n2 cm] 22) = W1 := ⟨_, rfl⟩
  have hb1 : Below w.heap.size w W1 := by rw [← hW1]; exact hb0.alloc hb0.size _
  have hs1 : W1.heap.size = w.heap.size + 1 + 1 := by rw [← hW1]; simp
  have hx1 : RBox W1 w.heap.size k A n c v := by
    rw [← hW1]
    exact hx0.below (by simp) ((Below.refl _ _).alloc (Nat.le_refl _) _)
  have hm1 : W1.cell? ⟨w.heap.size + 1, 0, none⟩ = some (.slice Am n2 cm) := by
    rw [← hW1, ← hs0]; exact cell_of_row _ _ 0 _ _ (0, 0) (heap_alloc_new _ _)
  obtain ⟨a0, a1, a2⟩ := id hx1
  obtain ⟨x, hx⟩ : ∃ x, rval k A n c v = x := ⟨_, rfl⟩
  obtain ⟨T, hT⟩ : ∃ T, ofk k (rval k A n c v) = .iface T x := by
    rw [hx]
    rcases hk with rfl | rfl | rfl | rfl | rfl <;> exact ⟨_, rfl⟩
  have HK := ofKind_any A c n k v W1
  rw [hT] at HK ⊢
  have HK := Lib.hid HK
  clear hx hT
  have Hs := Lib.hid hs1
  clear hs1 hs0 hb0
  go_enter Try.func62, Try.ntmps62
  go_wp2_with (go_at_call 58; refine HK.out.mono ?_; rintro e w3 ⟨rfl, hb3⟩; have hm3 := (hb3.cell (p := ⟨w.heap.size + 1, 0, none⟩) (show w.heap.size + 1 < _ by rw [Hs.out]; omega)).trans hm1)
  go_ret
  have hb4 : Below w3.heap.size w3 (w3.alloc (.cells #[.iface T x] 69)) := (Below.refl _ _).alloc (Nat.le_refl _) _
  exact ⟨w.heap.size + 1, w3.heap.size, rfl, (hb4.cell (p := ⟨w.heap.size + 1, 0, none⟩) (cell_lt hm3)).trans hm3, cell_of_row _ _ 0 _ _ (0, 0) (heap_alloc_new _ _), step (step hb1 hb3) hb4⟩
end Go.Proofs.Ytcjdjcpappfkgaa
namespace Go.Proofs.Ytcjdjcpappfkgaa
open Go.ChangeShapes Go.WideShapes Go.ChangeAt Go.RowKit

theorem subset_and (a m : Nat) (ha : a < 2 ^ 64) (hm : m < 2 ^ 64) (h : a &&& (2 ^ 64 - (m + 1)) = 0) : a = a &&& m := by
  apply Nat.eq_of_testBit_eq
  intro i
  rw [Nat.testBit_and]
  cases hai : a.testBit i
  · rfl
  · have hi : i < 64 := by
      rcases Nat.lt_or_ge i 64 with h | h
      · exact h
      · have := Nat.testBit_lt_two_pow (Nat.lt_of_lt_of_le ha (Nat.pow_le_pow_right (by decide) h))
        rw [hai] at this; cases this
    have h2 := congrArg (fun z => z.testBit i) h
    simp only [Nat.testBit_and, hai, Nat.testBit_two_pow_sub_succ hm, hi, Nat.zero_testBit, decide_true, Bool.true_and, Bool.not_eq_false'] at h2
    rw [h2]; rfl
theorem small_and : ∀ s, s < 5 → ∀ a, a < 32 → a ≤ 2 ^ (s + 1) - 2 → a % 2 = 0 → a &&& (18446744073709551616 - (2 ^ (s + 1) - 2 + 1)) = 0 := by decide +kernel
theorem even_and : ∀ s, s < 5 → ∀ a, a % 2 = 1 → a &&& (2 ^ (s + 1) - 2) ≠ a := by
  intro s hs a ha h
  have h0 := congrArg (fun z => z.testBit 0) h
  have e : (2 ^ (s + 1) - 2).testBit 0 = false := by
    have : s = 0 ∨ s = 1 ∨ s = 2 ∨ s = 3 ∨ s = 4 := by omega
    rcases this with rfl | rfl | rfl | rfl | rfl <;> rfl
  simp only [Nat.testBit_and, e, Bool.and_false] at h0
  rw [Nat.testBit_zero] at h0
  simp [ha] at h0
theorem andNot_ok (x : Int) (s : Nat) (hs : s ≤ 4) (hx : -9223372036854775808 ≤ x ∧ x ≤ 9223372036854775807) :
    (bits .andNot .i64 x ((2 ^ (s + 1) - 2 : Nat) : Int) == 0) = mkOk ((2 : Int) ^ (s + 1) - 2) x := by
  have hp : (2 : Int) ^ (s + 1) - 2 = ((2 ^ (s + 1) - 2 : Nat) : Int) := by
    have : s = 0 ∨ s = 1 ∨ s = 2 ∨ s = 3 ∨ s = 4 := by omega
    rcases this with rfl | rfl | rfl | rfl | rfl <;> rfl
  have hm30 : 2 ^ (s + 1) - 2 ≤ 30 := by
    have : s = 0 ∨ s = 1 ∨ s = 2 ∨ s = 3 ∨ s = 4 := by omega
    rcases this with rfl | rfl | rfl | rfl | rfl <;> decide
  rw [hp]
  have hsa := small_and s (by omega)
  have hev := even_and s (by omega)
  generalize 2 ^ (s + 1) - 2 = m at *
  have hmm : (BitVec.ofInt 64 (m : Int)).toNat = m := ofInt_i64 m (by omega)
  have hb : bits .andNot .i64 x (m : Int) = IntKind.i64.wrap (((BitVec.ofInt 64 x).toNat &&& (2 ^ 64 - (m + 1)) : Nat) : Int) := by
    show IntKind.i64.wrap ((BitVec.ofInt 64 x &&& ~~~BitVec.ofInt 64 (m : Int)).toNat : Int) = _
    rw [BitVec.toNat_and, BitVec.toNat_not, hmm]
    congr 3
    omega
  have hA : (BitVec.ofInt 64 x).toNat < 2 ^ 64 := (BitVec.ofInt 64 x).isLt
  have hAx : ((BitVec.ofInt 64 x).toNat : Int) = x % 2 ^ 64 := by
    rw [BitVec.toNat_ofInt]; exact Int.toNat_of_nonneg (Int.emod_nonneg _ (by decide))
  rw [hb]
  generalize (BitVec.ofInt 64 x).toNat = a at *
  have hlt : a &&& (2 ^ 64 - (m + 1)) < 2 ^ 64 := Nat.and_lt_two_pow _ (by omega)
  have hw : (IntKind.i64.wrap ((a &&& (2 ^ 64 - (m + 1)) : Nat) : Int) == 0) = (a &&& (2 ^ 64 - (m + 1)) == 0) := by
    rw [IntKind.wrap_i64]
    rw [Bool.eq_iff_iff, beq_iff_eq, beq_iff_eq]
    generalize a &&& (2 ^ 64 - (m + 1)) = y at *
    omega
  rw [hw, Bool.eq_iff_iff, beq_iff_eq]
  simp only [mkOk, inr, Bool.and_eq_true, decide_eq_true_eq, beq_iff_eq]
  constructor
  · intro h
    have e := subset_and a m hA (by omega) h
    have hle : a ≤ m := by rw [e]; exact Nat.and_le_right
    have h2 : a % 2 = 0 := by
      rcases Nat.mod_two_eq_zero_or_one a with h' | h'
      · exact h'
      · exact absurd e.symm (hev a h')
    have hxa : x = a := by omega
    refine ⟨⟨by omega, by omega⟩, ?_⟩
    rw [Int.tmod_eq_emod_of_nonneg (by omega)]; omega
  · rintro ⟨⟨h1, h2⟩, h3⟩
    rw [Int.tmod_eq_emod_of_nonneg h1] at h3
    exact hsa a (by omega) (by omega) (by omega)
theorem allValues_any (s : Nat) (hs : s ∈ [2, 3, 4]) (w : World) :
    Calls Try.prog 71 #[.int .i64 s] w fun e w' => e = .returned (.int .i64 ((2 ^ (s + 1) - 2 : Nat) : Int)) ∧ w = w' := by
  simp only [List.mem_cons, List.not_mem_nil, or_false] at hs
  rcases hs with rfl | rfl | rfl
  all_goals
    go_enter Try.func71, Try.ntmps71
    go_wp2
    go_ret
    exact ⟨rfl, rfl⟩
end Go.Proofs.Ytcjdjcpappfkgaa
set_option maxRecDepth 8000
namespace Go.Proofs.Ytcjdjcpappfkgaa
open Go.ChangeShapes Go.WideShapes Go.ChangeAt Go.RowKit
theorem emN_lt {vs : List Int} {s j : Nat} (hs : s ∈ [2, 3, 4]) (h0 : 0 ≤ nth vs j) (h4 : nth vs j ≤ 4) : emN vs s j < 32 := by
  unfold emN
  split
  · have := (all_even s hs).2; omega
  · have : (nth vs j).toNat < 5 := by omega
    exact Nat.pow_lt_pow_right (n := 5) (by omega) this
theorem emL_len_ {vs : List Int} {s n : Nat} (h : vs.length = n) : (emL vs s).length = n := by unfold emL; rw [mapTo_length, h]
theorem emL_at {vs : List Int} {s n k : Nat} (hl : vs.length = n) (hk : k < n) : nth (emL vs s) k = ((emN vs s k : Nat) : Int) := by
  unfold emL
  rw [mapTo_nth (by omega)]
  simp [emG]
theorem openMasks_any (A : Option Addr) (c n B : Nat) (vs : List Int) (s : Nat) (w : World) (h : Rd w B A n vs) (hB : B ≤ w.heap.size) (n16 : n ≤ 16) (hs : s ∈ [2, 3, 4]) (hsm : ∀ i, i < n → 0 ≤ nth vs i ∧ nth vs i ≤ 4) :
    Calls Try.prog 63 #[.slice A n c, .int .i64 s] w (RetSl w (emL vs s)) := by
  obtain ⟨i0, hi, hz0, hz1, hz2⟩ := info_parts int_info
  have hlen := h.1
  have Hpm := Lib.hid (fun k (hk : k < n) => emL_at (s := s) hlen hk)
  have Hsm := Lib.hid hsm
  have HAV := Lib.hid (fun w' => allValues_any s hs w')
  have Hall : Hid (∀ k, k < n → nth vs k = 0 → ((2 ^ (s + 1) - 2 : Nat) : Int) = nth (emL vs s) k) := Lib.hid (fun k hk hz => by rw [Hpm.out k hk]; unfold emN; rw [if_pos hz])
  have Hl := Lib.hid (emL_len_ (s := s) hlen)
  clear hlen hsm
  obtain ⟨av, hav⟩ : ∃ av, av = 2 ^ (s + 1) - 2 := ⟨_, rfl⟩
  rw [← hav] at HAV Hall
  clear hav
  go_enter Try.func63, Try.ntmps63
  go_wp2_with (refine wpList_make_full _ rfl (.tmp 9) (.tmp 9) 22 rfl w.heap.size 3 i0 (.int .i64 0) 1 Try.underlying22 hi hz0 hz1 .i64 .i64 n n n rfl rfl rfl rfl (by rw [hz2]; omega) (by simp only [maxLen]; omega) (Nat.le_refl _) ?_; intro w1 hown hgr)
  have ho1 := made_part (emL vs s) hown
  have hb1 := made_below hgr (Nat.le_refl w.heap.size)
  clear hown hgr hz0 hz1 hz2 hi
  go_loopw [13] (fun i wr => ∃ k : Nat, k ≤ n ∧ i = .int .i64 k ∧ Ow wr w.heap.size (some ⟨w.heap.size, 0, none⟩) n n (part (emL vs s) k n) ∧ Below w.heap.size w wr) (fun i _ => n - (intOf i).toNat)
  case atStart => exact ⟨0, Nat.zero_le _, rfl, ho1, hb1⟩
  case round =>
    obtain ⟨k, hk, rfl, ho, hb⟩ := hrel
    by_cases hlt : k < n
    · obtain ⟨b, off, rfl, hbB, hck⟩ := (h.below (hb.mono hB)).at_ hlt
      obtain ⟨x0, x4⟩ := Hsm.out k hlt
      obtain ⟨v, hv⟩ := Int.eq_ofNat_of_zero_le x0
      rw [hv] at hck x4
      have hst := (World.ownsRow.stored ho k (.int .i64 (nth (emL vs s) k))).1
      rw [part_set] at hst
      have Hst := Lib.hid hst; clear hst
      obtain ⟨hold, hfr⟩ := ho.cell hlt
      by_cases hz : v = 0
      · subst hz
        have Hg := Lib.hid (Hall.out k hlt (by rw [hv]; rfl))
        clear hv x0 x4
        go_wp2_with (go_at_call 71; refine (HAV.out _).mono ?_; rintro e w' ⟨rfl, rfl⟩; rw [Hg.out])
        go_roundw
        case rel => exact ⟨k + 1, by omega, by go_num, Hst.out, hb.setCell (p := (⟨w.heap.size, k, none⟩ : Addr)) (Nat.le_refl _) _⟩
        case measure => simp [intOf]; omega
      · have Hg := Lib.hid (show ((2 ^ v : Nat) : Int) = nth (emL vs s) k by
          rw [Hpm.out k hlt]; unfold emN; rw [hv, if_neg (by omega), Int.toNat_natCast])
        have hz1 : ((v : Int) == 0) = false := by simp; omega
        have Hpw := Lib.hid (two_pow_nat v (by omega))
        clear hz hv
        go_wp2
        go_roundw
        case rel => exact ⟨k + 1, by omega, by go_num, by rw [show (wrap64 (2 ^ v)) = nth (emL vs s) k from Hpw.out.trans Hg.out]; exact Hst.out, hb.setCell (p := (⟨w.heap.size, k, none⟩ : Addr)) (Nat.le_refl _) _⟩
        case measure => simp [intOf]; omega
    · obtain rfl : k = n := by omega
      have hp : part (emL vs s) k k = emL vs s := part_all' Hl.out
      rw [hp] at ho
      go_wp2
      go_ret
      exact retSl_mk ho hb
end Go.Proofs.Ytcjdjcpappfkgaa
set_option maxRecDepth 8000
namespace Go.Proofs.Ytcjdjcpappfkgaa
open Go.ChangeShapes Go.WideShapes Go.ChangeAt Go.RowKit
/-- range_own where the statement's assignment is empty: the slot of what came has it. -/
theorem range_skip {P : Program} (m : Nat) {g : Operand} {p : Nat} {body : Code} {Q : Exit → Act → World → Prop} {a : Act} {w : World}
    {gf : Nat} {lb : Array Value} (hg : a.eval g = .func (.func gf) #[] lb) (eg : ∀ args w, (callFunc gf args).run P w = .ok (.enter gf args) w)
    {Base : World → Prop} {ways : List (List Int)} (hseq : SeqC P gf lb Base ways)
    (I : List (List Int) → World → Prop) (Ix : Code → World → Prop) (hIb : ∀ pre X, I pre X → Base X)
    (hI : ∀ pre X Y, I pre X → Below w.heap.size X Y → I pre Y) (hIx : ∀ c X Y, Ix c X → Below w.heap.size X Y → Ix c Y) (h0 : I [] w)
    (hbody : ∀ (l : Nat) (pre : List (List Int)) (x : List Int) (X : World) (b n c : Nat), I pre X → x ∈ ways → w.heap.size ≤ b → Rd X X.heap.size (some ⟨b, 0, none⟩) n x →
      body.wpIn (Fence.wide.inRound l) m P (midPost w.heap.size I Ix (pre ++ [x]) X) { tmps := a.tmps.setIfInBounds p (.slice (some ⟨b, 0, none⟩) n c), defers := [] } X)
    (hdone : ∀ (D : Nat) (W : World), w.heap.size ≤ D → I ways W → W.heap[D]? = some (.deferred (some [])) → Q .normal { a with defers := { target := .collected D, args := #[] } :: a.defers } W)
    (hstop : ∀ (D : Nat) (c : Code) (W : World), w.heap.size ≤ D → Ix c W → W.heap[D]? = some (.deferred (some [])) → c.wpIn Fence.wide m P Q { a with defers := { target := .collected D, args := #[] } :: a.defers } W) :
    (Code.rangeFunc g #[p] .skip body).wpIn Fence.wide m P Q a w :=
  range_own m hg eg rfl hseq I Ix hIb hI hIx h0 (fun v => { tmps := a.tmps.setIfInBounds p v, defers := [] }) (fun l v W K hK => by
    refine wpIn_skip ?_
    simpa [Exit.then] using hK) hbody hdone hstop
/-- range_own where the statement's assignment copies what came from slot p into slot q. -/
theorem range_two {P : Program} (m : Nat) {g : Operand} {p q : Nat} {assign body : Code} {Q : Exit → Act → World → Prop} {a : Act} {w : World}
    {gf : Nat} {lb : Array Value} (hg : a.eval g = .func (.func gf) #[] lb) (eg : ∀ args w, (callFunc gf args).run P w = .ok (.enter gf args) w)
    {Base : World → Prop} {ways : List (List Int)} (hseq : SeqC P gf lb Base ways)
    (I : List (List Int) → World → Prop) (Ix : Code → World → Prop) (hIb : ∀ pre X, I pre X → Base X)
    (hI : ∀ pre X Y, I pre X → Below w.heap.size X Y → I pre Y) (hIx : ∀ c X Y, Ix c X → Below w.heap.size X Y → Ix c Y) (h0 : I [] w)
    (hassign : ∀ (l : Nat) (v : Value) (W : World) (K : Act → World → Prop), K { tmps := (a.tmps.setIfInBounds p v).setIfInBounds q v, defers := [] } W →
      assign.wpIn (Fence.wide.inRound l) m P (Exit.then K (fun _ _ _ => False)) { tmps := a.tmps.setIfInBounds p v, defers := [] } W)
    (hbody : ∀ (l : Nat) (pre : List (List Int)) (x : List Int) (X : World) (b n c : Nat), I pre X → x ∈ ways → w.heap.size ≤ b → Rd X X.heap.size (some ⟨b, 0, none⟩) n x →
      body.wpIn (Fence.wide.inRound l) m P (midPost w.heap.size I Ix (pre ++ [x]) X) { tmps := (a.tmps.setIfInBounds p (.slice (some ⟨b, 0, none⟩) n c)).setIfInBounds q (.slice (some ⟨b, 0, none⟩) n c), defers := [] } X)
    (hdone : ∀ (D : Nat) (W : World), w.heap.size ≤ D → I ways W → W.heap[D]? = some (.deferred (some [])) → Q .normal { a with defers := { target := .collected D, args := #[] } :: a.defers } W)
    (hstop : ∀ (D : Nat) (c : Code) (W : World), w.heap.size ≤ D → Ix c W → W.heap[D]? = some (.deferred (some [])) → c.wpIn Fence.wide m P Q { a with defers := { target := .collected D, args := #[] } :: a.defers } W) :
    (Code.rangeFunc g #[p] assign body).wpIn Fence.wide m P Q a w :=
  range_own m hg eg rfl hseq I Ix hIb hI hIx h0 (fun v => { tmps := (a.tmps.setIfInBounds p v).setIfInBounds q v, defers := [] }) (fun l v W K hK => by
    simpa using hassign l v W K hK) hbody hdone hstop
end Go.Proofs.Ytcjdjcpappfkgaa
set_option maxRecDepth 8000
namespace Go.Proofs.Ytcjdjcpappfkgaa
open Go.ChangeShapes Go.WideShapes Go.ChangeAt Go.RowKit Go.Shelf
attribute [local go_sem] Oper.semAt_some
theorem part_put (xs : List Int) (k n : Nat) (hk : k < n) : (part xs k n).set k (nth xs k) = part xs (k + 1) n := by
  apply ext_nth (by simp [part_length])
  intro j hj
  rw [List.length_set, part_length] at hj
  rw [part_nth _ _ _ _ hj]
  by_cases e : j = k
  · subst e; rw [nth_set_same (by rw [part_length]; exact hk), if_pos (by omega)]
  · rw [nth_set_ne (fun e' => e e'.symm), part_nth _ _ _ _ hj]
    by_cases h : j < k
    · rw [if_pos h, if_pos (by omega)]
    · rw [if_neg h, if_neg (by omega)]
theorem part_zero_ (xs : List Int) (n : Nat) : part xs 0 n = zeros n := by
  apply ext_nth (by simp [part_length, zeros])
  intro j hj
  rw [part_length] at hj
  rw [part_nth _ _ _ _ hj, if_neg (by omega)]
  simp [zeros, nth, List.getD_eq_getElem?_getD, hj]
set_option maxHeartbeats 1000000 in
theorem possible_any (A : Option Addr) (c nc : Nat) (k v : Int) (Av : Option Addr) (cv n B : Nat) (vs : List Int) (s : Nat) (w : World) (hv : Rd w B Av n vs) (hB : B ≤ w.heap.size) (n1 : 1 ≤ n) (n4 : n ≤ 4) (hs : s ∈ [2, 3, 4]) (hsm : ∀ i, i < n → 0 ≤ nth vs i ∧ nth vs i ≤ 4)
    (hk : k = 1 ∨ k = 2 ∨ k = 3 ∨ k = 4 ∨ k = 5) (h2 : k = 1 ∨ k = 2 ∨ k = 3 ∨ 2 ≤ n) :
    Calls Try.prog 54 #[.agg #[.int .i64 k, .slice A nc c, .int .i64 v], .slice Av n cv, .int .i64 s] w fun e w' => e = .returned (.bool (!((allW (emL vs s) n []).filter (holdsB k v)).isEmpty)) ∧ Below w.heap.size w w' := by
  have hlen := hv.1
  have hpm : ∀ i, i < n → nth (emL vs s) i = ((emN vs s i : Nat) : Int) := fun i hi => by
    unfold emL
    rw [mapTo_nth (by omega)]
    simp [emG]
  have hms : ∀ i, i < n → 0 ≤ nth (emL vs s) i ∧ nth (emL vs s) i < 32 := fun i hi => by
    have := emN_lt (j := i) hs (hsm i hi).1 (hsm i hi).2
    rw [hpm i hi]; omega
  obtain ⟨W1, hW1⟩ : ∃ W1, w.alloc (.cells #[.int .i64 k, .slice A nc c, .int .i64 v] 44) = W1 := ⟨_, rfl⟩
  have hx1 := rbox_new w k A nc c v 44
  rw [hW1] at hx1
  have hb1 : Below w.heap.size w W1 := by rw [← hW1]; exact (Below.refl _ _).alloc (Nat.le_refl _) _
  have hs1 : W1.heap.size = w.heap.size + 1 := by rw [← hW1]; simp
  obtain ⟨W2, hW2⟩ : ∃ W2, W1.alloc (.cells #[.bool false] 4) = W2 := ⟨_, rfl⟩
  have hb2 : Below W1.heap.size W1 W2 := by rw [← hW2]; exact (Below.refl _ _).alloc (Nat.le_refl _) _
  have hs2 : W2.heap.size = w.heap.size + 1 + 1 := by rw [← hW2]; simp [hs1]
  have hx2 := hx1.below (by omega) hb2
  have hc2 : W2.heap[w.heap.size + 1]? = some (.cells #[.bool false] 4) := by rw [← hW2, ← hs1]; exact heap_alloc_new _ _
  have hbW2 : Below w.heap.size w W2 := hb1.trans (hb2.mono (by omega))
  have HB2 := Lib.hid hbW2
  have HX2 := Lib.hid hx2
  have HC2 := Lib.hid hc2
  have HOM := Lib.hid (fun (w' : World) (hb : Below w.heap.size w w') => openMasks_any Av cv n B vs s w' (hv.below (hb.mono hB)) (Nat.le_trans hB hb.size) (by omega) hs hsm)
  have Hel := Lib.hid (emL_len_ (s := s) hlen)
  have HV := Lib.hid (fun (w' : World) (hb : Below w.heap.size w w') => hv.below (hb.mono hB))
  have HPM := Lib.hid hpm
  have HMS := Lib.hid hms
  have HLEN := Lib.hid hlen
  have HSM := Lib.hid hsm
  have HS2 := Lib.hid hs2
  clear hbW2 hx2 hc2 hx1 hb1 hb2 hpm hms hlen hsm
  refine (callsIn_wide (n := 9)).1 ?_
  refine callsIn_of_wp_marks Try.func54 rfl trivial ?_ rfl
  simp only [Try.ntmps54, List.size_toArray, List.length_cons, List.length_nil, Nat.reduceAdd, Nat.reduceSub, Array.replicate_succ, Array.replicate_zero, List.push_toArray, List.append_toArray, List.nil_append, List.cons_append]
  have hmx : Try.prog.follows .mixedOrders = true := by kernel_rfl
  obtain ⟨x0, x1, x2⟩ := id HX2.out
  gi_wp2
  first | (gi_region_with_o (first
    | ((try refine ⟨trivial, ?_⟩); gi_at_call 63; refine (callsIn_wide.2 (HOM.out _ (by first | exact HB2.out | exact HB2.out.drew))).mono ?_; rintro e w3 ⟨A3, c3, rfl, ho3, hb3⟩; rw [Hel.out] at ho3 ⊢; have hb3' : Below W2.heap.size W2 w3 := (by first | exact hb3 | exact ((Below.refl _ _).drew).trans hb3); obtain ⟨y0, y1, y2⟩ := HX2.out.below (by rw [HS2.out]; omega) hb3')
    | ((try refine ⟨trivial, ?_⟩); gi_at_call 62; refine (callsIn_wide.2 (waysToHold_any A c nc k v A3 n c3 _ hk)).mono ?_; rintro e w5 ⟨MB, RB, rfl, hmb, hrb, hb5⟩))) | fail
  all_goals
    gi_wp2
    have hbw : Below w.heap.size w w3 := step HB2.out hb3'
    have hl5 : w.heap.size + 1 < w5.heap.size := by have := hb5.size; have := hb3'.size; omega
    have hrow5 : w5.heap[w.heap.size + 1]? = some (.cells #[.bool false] 4) := (hb5.block _ (by have := hb3'.size; omega)).trans ((hb3'.block _ (by omega)).trans HC2.out)
    have hbase : WBase MB RB w5.heap.size k A nc c v A3 n c3 (emL vs s) w5 := ⟨hmb, hrb, ?mask, Nat.le_refl _⟩
    case mask =>
      have h5 := (ho3.below hb5).rd
      exact ⟨emL_len_ HLEN.out, fun hn => by
        obtain ⟨b, off, e, hl, hc⟩ := h5.2 hn
        exact ⟨b, off, e, cell_lt (hc 0 hn), hc⟩⟩
    have hMB := cell_lt hmb
    have hRB := cell_lt hrb
    have HBW := Lib.hid (hbw.trans (hb5.mono (by have := hbw.size; omega)))
    refine range_skip 9 (by rfl) (enters_of Try.func68 (by kernel_rfl) rfl) (ways_seq MB RB w5.heap.size k A nc c v A3 n c3 (emL vs s) n1 n4 HMS.out hk h2)
      (fun pre X => pre = [] ∧ WBase MB RB w5.heap.size k A nc c v A3 n c3 (emL vs s) X ∧ X.heap[w.heap.size + 1]? = some (.cells #[.bool false] 4) ∧ Below w.heap.size w X)
      (fun cc X => cc = .ret ∧ ((allW (emL vs s) n []).filter (holdsB k v)).isEmpty = false ∧ X.heap[w.heap.size + 1]? = some (.cells #[.bool true] 4) ∧ Below w.heap.size w X)
      (fun pre X h => h.2.1)
      (fun pre X Y h hb => ⟨h.1, h.2.1.below hb (by omega) (by omega) (by omega), (hb.block _ hl5).trans h.2.2.1, h.2.2.2.trans (hb.mono (by omega))⟩)
      (fun cc X Y h hb => ⟨h.1, h.2.1, (hb.block _ hl5).trans h.2.2.1, h.2.2.2.trans (hb.mono (by omega))⟩)
      ⟨rfl, hbase, hrow5, HBW.out⟩ ?body ?done ?stop
    case body =>
      rintro l pre x X b n' c' ⟨rfl, hbX, hrX, hBX⟩ hx hbb hrd
      have hne : ((allW (emL vs s) n []).filter (holdsB k v)).isEmpty = false := by
        cases e : (allW (emL vs s) n []).filter (holdsB k v)
        · rw [e] at hx; cases hx
        · rfl
      clear hx
      simp only [List.setIfInBounds_toArray, List.set_cons_zero, List.set_cons_succ]
      have hcX := cell_of_row _ _ 0 _ _ (0, 0) hrX
      have hfX := frozen_of_row _ _ 0 _ _ hrX
      gi_wp2
      exact ⟨Mid.setCell _ _ _ _ _ hl5, rfl, heap_setCell_same X (w.heap.size + 1) 0 _ _ (.bool true) hrX, hBX.setCell (p := ⟨w.heap.size + 1, 0, none⟩) (by show w.heap.size ≤ w.heap.size + 1; omega) _⟩
    case done =>
      rintro D W hD ⟨he, hbX, hrX, hBX⟩ hK
      have hcX := cell_of_row _ _ 0 _ _ (0, 0) hrX
      have hfX := frozen_of_row _ _ 0 _ _ hrX
      gi_wp2
      have hK2 : (W.setCell ⟨w.heap.size + 1, 0, none⟩ (.bool false)).heap[D]? = some (.deferred (some [])) := (heap_setCell_other W ⟨w.heap.size + 1, 0, none⟩ D _ (fun e => by dsimp only at e; omega)).trans hK
      refine ⟨by simp, .inl ⟨_, _, rfl, run_takeDeferred hK2, ?_⟩⟩
      have hrow6 := (World.putObj_heap_other (o := .deferred none) (by omega : w.heap.size + 1 ≠ D)).trans (heap_setCell_same W (w.heap.size + 1) 0 _ _ (.bool false) hrX)
      have hc6 := cell_of_row _ _ 0 _ _ (0, 0) hrow6
      refine ⟨.bool false, ?_, rfl, (hBX.setCell (p := ⟨w.heap.size + 1, 0, none⟩) (by show w.heap.size ≤ w.heap.size + 1; omega) _).trans (below_put _ (by omega) hK2)⟩
      simp at hc6
      simp [results, Try.f54, go_sem, hc6]
    case stop =>
      rintro D cc W hD ⟨rfl, hne, hrX, hBX⟩ hK
      gi_wp2
      refine ⟨by simp, .inl ⟨_, _, rfl, run_takeDeferred hK, ?_⟩⟩
      have hrow6 := (World.putObj_heap_other (o := .deferred none) (by omega : w.heap.size + 1 ≠ D)).trans hrX
      have hc6 := cell_of_row _ _ 0 _ _ (0, 0) hrow6
      refine ⟨.bool true, ?_, rfl, hBX.trans (below_put _ (by omega) hK)⟩
      simp at hc6
      simp [results, Try.f54, go_sem, hc6]
end Go.Proofs.Ytcjdjcpappfkgaa
set_option maxRecDepth 8000
namespace Go.Proofs.Ytcjdjcpappfkgaa
open Go.ChangeShapes Go.WideShapes Go.ChangeAt Go.RowKit
end Go.Proofs.Ytcjdjcpappfkgaa
set_option maxRecDepth 8000
namespace Go.Proofs.Ytcjdjcpappfkgaa
open Go.ChangeShapes Go.WideShapes Go.ChangeAt Go.RowKit

/-- the code that a law of draws takes. -/
def Code_ (w : World) (A : Option Addr) (n c : Nat) (bs : List Int) : Prop := RdB w w.heap.size A n bs ∧ n ≤ c ∧ c ≤ 9223372036854775807
theorem code_of_row {w : World} {a : Option Addr} {len cap : Nat} {zs : List Int} (h : IsRow .u8 w a len cap zs) : Code_ w a len cap (zs.take len) := by
  refine ⟨rdB_of_row h, ?_⟩
  rcases h with ⟨rfl, rfl, rfl, rfl⟩ | ⟨x, rfl, hl, hm, _⟩
  · omega
  · simp only [maxLen] at hm; omega






end Go.Proofs.Ytcjdjcpappfkgaa
