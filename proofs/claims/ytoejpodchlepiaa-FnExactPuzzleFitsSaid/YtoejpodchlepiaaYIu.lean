import Derived.Test.YtoejpodchlepiaaYClash
import Derived.Test.YtoejpodchlepiaaYCb
set_option maxRecDepth 8000
namespace Go.Proofs.Ytoejpodchlepiaa
open Go.ChangeShapes Go.WideShapes Go.ChangeAt Go.RowKit

def zeroArr (n : Nat) : Array Value := madeCells #[.int .i64 0] n
theorem make_ints {n : Nat} (hn : n ≤ 1099511627776) (w : World) : (Instr.makeSlice 23 (.int .i64 (n : Int)) (.int .i64 (n : Int))).run Try.prog w = .ok (.slice (some ⟨w.heap.size, 0, none⟩) n n) (w.alloc (.cells (zeroArr n) 3)) := by
  obtain ⟨i0, hi, hz0, hz1, hz2⟩ := info_parts int_info
  have hr := run_make (P := Try.prog) w 23 3 i0 (.int .i64 0) Try.underlying23 hi hz0 .i64 .i64 (n : Int) (n : Int) (by omega) (Int.le_refl _) (by rw [hz2]; omega) (by omega)
  rw [hz1, Int.toNat_natCast, Nat.mul_one] at hr
  exact hr
theorem zeroArr_ow {n lo : Nat} (hn : n ≤ 1099511627776) (w : World) (hlo : lo ≤ w.heap.size) : Ow (w.alloc (.cells (zeroArr n) 3)) lo (some ⟨w.heap.size, 0, none⟩) n n (zeros n) := by
  have hs : (zeroArr n).size = n * 1 := by simp [zeroArr, madeCells]
  have h := World.ownsRow_lit (e := 3) (size := 1) w (zeroArr n) n hlo (by simp only [maxLen]; omega) hs
  unfold Ow
  have e : (zeroArr n).toList = vals (zeros n) := by
    rw [zeroArr, toList_madeCells_one]
    simp [vals, zeros]
  rw [← e]
  exact h
end Go.Proofs.Ytoejpodchlepiaa
set_option maxRecDepth 8000
namespace Go.Proofs.Ytoejpodchlepiaa
open Go.ChangeShapes Go.WideShapes Go.ChangeAt Go.RowKit
theorem Ow.same {w w' : World} {lo g n c : Nat} {xs : List Int} (h : Ow w lo (some ⟨g, 0, none⟩) n c xs) (e : w'.heap[g]? = w.heap[g]?) : Ow w' lo (some ⟨g, 0, none⟩) n c xs := by
  obtain ⟨h0, h1⟩ := h
  refine ⟨h0, ?_⟩
  rcases h1 with ⟨h1, _⟩ | ⟨g', cap, cur, hv, h2, h3, h4⟩
  · cases h1
  · injection hv with e1 _ e2
    injection e1 with e1
    injection e1 with e1 _ _
    subst e1 e2
    exact .inr ⟨g, c, cur, rfl, h2, e.trans h3, h4⟩
theorem Rd.up {w : World} {B B' n : Nat} {A : Option Addr} {xs : List Int} (h : Rd w B A n xs) (hB : B ≤ B') : Rd w B' A n xs :=
  ⟨h.1, fun hn => by
    obtain ⟨b, off, e, hl, hc⟩ := h.2 hn
    exact ⟨b, off, e, by omega, hc⟩⟩
theorem Below.of_grown {N V : Nat} {X Y : World} (h : X.grownBy Y (some V)) (hN : N ≤ X.heap.size) (hV : N ≤ V) : Below N X Y :=
  (Below.refl N X).grown h hN (fun k e => by cases e; exact hV)
theorem yieldAt_mono {F : Fence} {m : Nat} {P : Program} {l : Nat} {args : Array Value} {w : World} {R R' : Ending → World → Prop} (h : YieldAt F m P l args w R) (hr : ∀ e w', R e w' → R' e w') : YieldAt F m P l args w R' := by
  obtain ⟨fn, tmps, assign, body, hy, hR⟩ := h
  exact ⟨fn, tmps, assign, body, hy, hR.mono hr⟩
/-- what the iterator reads: its two captured variables, and the masks. -/
def WBase (MB RB B : Nat) (k : Int) (A : Option Addr) (nc c : Nat) (v : Int) (Am : Option Addr) (n cm : Nat) (ms : List Int) (X : World) : Prop :=
  X.cell? ⟨MB, 0, none⟩ = some (.slice Am n cm) ∧ X.cell? ⟨RB, 0, none⟩ = some (ofk k (rval k A nc c v)) ∧ Rd X B Am n ms ∧ B ≤ X.heap.size
theorem WBase.below {N MB RB B : Nat} {k : Int} {A : Option Addr} {nc c : Nat} {v : Int} {Am : Option Addr} {n cm : Nat} {ms : List Int} {X Y : World} (h : WBase MB RB B k A nc c v Am n cm ms X) (hb : Below N X Y) (h1 : MB < N) (h2 : RB < N) (h3 : B ≤ N) : WBase MB RB B k A nc c v Am n cm ms Y :=
  ⟨(hb.cell (p := ⟨MB, 0, none⟩) h1).trans h.1, (hb.cell (p := ⟨RB, 0, none⟩) h2).trans h.2.1, h.2.2.1.below (hb.mono h3), Nat.le_trans h.2.2.2 hb.size⟩
set_option maxHeartbeats 1000000 in
theorem ways_seq (MB RB B : Nat) (k : Int) (A : Option Addr) (nc c : Nat) (v : Int) (Am : Option Addr) (n cm : Nat) (ms : List Int) (hn1 : 1 ≤ n) (hn4 : n ≤ 4) (hms : ∀ i, i < n → 0 ≤ nth ms i ∧ nth ms i < 32)
    (hk : k = 1 ∨ k = 2 ∨ k = 3 ∨ k = 4 ∨ k = 5) (h2 : k = 1 ∨ k = 2 ∨ k = 3 ∨ 2 ≤ n) :
    SeqC Try.prog 134 #[.pointer (some ⟨MB, 0, none⟩), .pointer (some ⟨RB, 0, none⟩)] (WBase MB RB B k A nc c v Am n cm ms) ((allW ms n []).filter (holdsB k v)) := by
  intro l J Jx W hJb hJs hY h0
  obtain ⟨w0, w1, w2, w3⟩ := hJb _ _ h0
  have hMB : MB < W.heap.size := cell_lt w0
  have hRB : RB < W.heap.size := cell_lt w1
  have hsml : ∀ ys ∈ allW ms n [], ys.length = n ∧ small4 ys n := fun ys hy => by
    have h1 := allW_len hy
    simp at h1
    refine ⟨h1, fun i hi => ?_⟩
    have := allW_small (vs := []) (by intro i hi; simp at hi) hy i (by simpa using hi)
    omega
  -- tryWays, called in a world with the two blocks that the iterator has laid
  have HT : ∀ (V VB cv : Nat) (X : World), W.heap.size < V → V < VB → n ≤ cv → Below W.heap.size W X → X.cell? ⟨W.heap.size, 0, none⟩ = some (.func (.yield l) #[] #[]) → X.cell? ⟨VB, 0, none⟩ = some (.slice (some ⟨V, 0, none⟩) n cv) →
      (∃ ys0, Ow X W.heap.size (some ⟨V, 0, none⟩) n cv ys0) →
      Calls Try.prog 135 #[.slice Am n cm, .slice (some ⟨V, 0, none⟩) n cv, .int .i64 (0 : Nat), .func (.func 136) #[] #[.pointer (some ⟨RB, 0, none⟩), .pointer (some ⟨VB, 0, none⟩), .pointer (some ⟨W.heap.size, 0, none⟩)]] X
        fun e Y => ∃ bb : Bool, e = .returned (.bool bb) ∧ (J ((allW ms n []).filter (holdsB k v)) Y ∨ Jx Y) := by
    intro V VB cv X hV hVB hcv hbX hyb hvb hys0
    obtain ⟨ys0, hys0⟩ := hys0
    let J' : List (List Int) → World → Prop := fun pre X => J (pre.filter (holdsB k v)) X ∧ X.cell? ⟨W.heap.size, 0, none⟩ = some (.func (.yield l) #[] #[]) ∧ X.cell? ⟨VB, 0, none⟩ = some (.slice (some ⟨V, 0, none⟩) n cv)
    have hsz : ∀ pre X, J' pre X → W.heap.size < X.heap.size ∧ VB < X.heap.size := fun pre X h => ⟨cell_lt h.2.1, cell_lt h.2.2⟩
    have stab : ∀ pre X Y, J' pre X → Below X.heap.size X Y → J' pre Y := fun pre X Y h hb => by
      obtain ⟨s1, s2⟩ := hsz pre X h
      exact ⟨hJs _ _ _ h.1 (hb.mono (by omega)), (hb.cell (p := ⟨W.heap.size, 0, none⟩) s1).trans h.2.1, (hb.cell (p := ⟨VB, 0, none⟩) s2).trans h.2.2⟩
    refine (tryWays_any (J := J') (Jx := Jx) (ms := ms) (n := n) (c := cv) (lo := W.heap.size) (V := V) (cm := cm) (Am := Am) ?hM hms hn4 ?hJ ?hcb n 0 [] ys0 [] X (by omega) rfl ⟨hJs _ _ _ h0 hbX, hyb, hvb⟩ hys0 (fun i hi => absurd hi (by omega)) (fun ys h => h)).mono ?_
    case hM =>
      intro pre X h
      obtain ⟨_, _, b2, _⟩ := hJb _ _ h.1
      exact b2.up (by omega)
    case hJ =>
      intro pre X Y h hg
      obtain ⟨s1, s2⟩ := hsz pre X h
      exact ⟨hJs _ _ _ h.1 (Below.of_grown hg (by omega) (by omega)), (hg.cell_far ⟨W.heap.size, 0, none⟩ s1 (fun e => by injection e with e; dsimp only at e; omega)).trans h.2.1, (hg.cell_far ⟨VB, 0, none⟩ s2 (fun e => by injection e with e; dsimp only at e; omega)).trans h.2.2⟩
    case hcb =>
      intro pre ys X hmem h ho
      obtain ⟨s1, s2⟩ := hsz pre X h
      obtain ⟨hyl, hsm⟩ := hsml ys hmem
      obtain ⟨_, b1, _, _⟩ := hJb _ _ h.1
      have hVX : V < X.heap.size := by obtain ⟨g, e, _, hg⟩ := ho.form (by omega); cases e; exact hg
      refine (wayCb l A c nc k v V n cv RB VB W.heap.size ys X (fun X' bb Y => Mid W.heap.size X' Y ∧ ((bb = true ∧ J (pre.filter (holdsB k v) ++ [ys]) Y) ∨ (bb = false ∧ Jx Y))) hk b1 h.2.2 h.2.1 ho.rd hn4 hcv (Lib.hid hsm) h2 ?_).mono ?_
      · intro hh X' hb
        have h' := stab _ _ _ h hb
        refine yieldAt_mono (hY _ ys X' V n cv h'.1 (List.mem_filter.2 ⟨hmem, hh⟩) (by omega) ((ho.below hb).rd)) ?_
        rintro e Y ⟨hm, (⟨rfl, hj⟩ | ⟨rfl, hx⟩)⟩
        · exact ⟨true, rfl, hm, .inl ⟨rfl, hj⟩⟩
        · exact ⟨false, rfl, hm, .inr ⟨rfl, hx⟩⟩
      · rintro e Y (⟨hh, rfl, hb⟩ | ⟨hh, X', bb, hb, rfl, hm, hR⟩)
        · have h' := stab _ _ _ h hb
          refine .inl ⟨rfl, ⟨?_, h'.2⟩, ho.below hb⟩
          rw [List.filter_append, List.filter_cons_of_neg (by rw [hh]; simp), List.filter_nil, List.append_nil]
          exact h'.1
        · have h' := stab _ _ _ h hb
          obtain ⟨t1, t2⟩ := hsz _ _ h'
          rcases hR with ⟨rfl, hj⟩ | ⟨rfl, hx⟩
          · refine .inl ⟨rfl, ⟨?_, ?_, ?_⟩, (ho.below hb).same (hm.same V (by omega) (Nat.lt_of_lt_of_le hVX hb.size))⟩
            · rw [List.filter_append, List.filter_cons_of_pos hh, List.filter_nil]
              exact hj
            · exact (World.cell?_of_block (a := ⟨W.heap.size, 0, none⟩) (hm.same _ (Nat.le_refl _) t1)).trans h'.2.1
            · exact (World.cell?_of_block (a := ⟨VB, 0, none⟩) (hm.same _ (by show W.heap.size ≤ VB; omega) t2)).trans h'.2.2
          · exact .inr ⟨rfl, hx⟩
    · rintro e Y (⟨rfl, hj, _⟩ | ⟨rfl, hx⟩)
      · exact ⟨true, rfl, .inl (by simpa using hj.1)⟩
      · exact ⟨false, rfl, .inr hx⟩
  show Calls Try.prog 134 #[.func (.yield l) #[] #[], .pointer (some ⟨MB, 0, none⟩), .pointer (some ⟨RB, 0, none⟩)] W _
  obtain ⟨W1, hW1⟩ : ∃ W1, W.alloc (.cells #[.func (.yield l) #[] #[]] 75) = W1 := ⟨_, rfl⟩
  have hbW : Below W.heap.size W W1 := by rw [← hW1]; exact (Below.refl _ _).alloc (Nat.le_refl _) _
  have hs1 : W1.heap.size = W.heap.size + 1 := by rw [← hW1]; simp
  have hy1 : W1.cell? ⟨W.heap.size, 0, none⟩ = some (.func (.yield l) #[] #[]) := by rw [← hW1]; exact cell_of_row _ _ 0 _ _ (0, 0) (heap_alloc_new W _)
  obtain ⟨W2, hW2⟩ : ∃ W2, W1.alloc (.cells (zeroArr n) 3) = W2 := ⟨_, rfl⟩
  have hb2 : Below W1.heap.size W1 W2 := by rw [← hW2]; exact (Below.refl _ _).alloc (Nat.le_refl _) _
  have hs2 : W2.heap.size = W.heap.size + 1 + 1 := by rw [← hW2]; simp [hs1]
  have ho2 : Ow W2 W.heap.size (some ⟨W.heap.size + 1, 0, none⟩) n n (zeros n) := by
    have := zeroArr_ow (n := n) (lo := W.heap.size) (by omega) W1 (by omega)
    rw [hW2, hs1] at this
    exact this
  have m1 := (hbW.cell (p := ⟨MB, 0, none⟩) hMB).trans w0
  have m2 := (hb2.cell (p := ⟨MB, 0, none⟩) (show MB < W1.heap.size by omega)).trans m1
  obtain ⟨W3, hW3⟩ : ∃ W3, W2.alloc (.cells #[.slice (some ⟨W.heap.size + 1, 0, none⟩) n n] 23) = W3 := ⟨_, rfl⟩
  have hb3 : Below W2.heap.size W2 W3 := by rw [← hW3]; exact (Below.refl _ _).alloc (Nat.le_refl _) _
  have m3 := (hb3.cell (p := ⟨MB, 0, none⟩) (show MB < W2.heap.size by omega)).trans m2
  have hv3 : W3.cell? ⟨W.heap.size + 1 + 1, 0, none⟩ = some (.slice (some ⟨W.heap.size + 1, 0, none⟩) n n) := by
    rw [← hW3, ← hs2]; exact cell_of_row _ _ 0 _ _ (0, 0) (heap_alloc_new W2 _)
  have hbW3 : Below W.heap.size W W3 := (hbW.trans (hb2.mono (by omega))).trans (hb3.mono (by omega))
  have hy3 := (hb3.cell (p := ⟨W.heap.size, 0, none⟩) (show W.heap.size < W2.heap.size by omega)).trans ((hb2.cell (p := ⟨W.heap.size, 0, none⟩) (show W.heap.size < W1.heap.size by omega)).trans hy1)
  have HC := Lib.hid (HT (W.heap.size + 1) (W.heap.size + 1 + 1) n W3 (by omega) (by omega) (Nat.le_refl _) hbW3 hy3 hv3 ⟨_, ho2.below hb3⟩)
  have hmk : (Instr.makeSlice 23 (.int .i64 (n : Int)) (.int .i64 (n : Int))).run Try.prog W1 = .ok (.slice (some ⟨W.heap.size + 1, 0, none⟩) n n) W2 := by rw [make_ints (by omega), hW2, hs1]
  clear HT hJb hJs hY hb2 hb3 hbW hbW3 hy3 ho2 hsml m2 w0 w1 w2 w3 hy1
  go_enter Try.func134, Try.ntmps134
  go_wp2_with (go_at_call 135; refine HC.out.mono ?_; rintro e Y ⟨bb, rfl, hYY⟩)

  go_end0
  exact ⟨⟨_, rfl⟩, hYY⟩
end Go.Proofs.Ytoejpodchlepiaa
set_option maxRecDepth 8000
namespace Go.Proofs.Ytoejpodchlepiaa
open Go.ChangeShapes Go.WideShapes Go.ChangeAt Go.RowKit
theorem waysToHold_any (A : Option Addr) (c n : Nat) (k v : Int) (Am : Option Addr) (n2 cm : Nat) (w : World) (hk : k = 1 ∨ k = 2 ∨ k = 3 ∨ k = 4 ∨ k = 5) :
    Calls Try.prog 116 #[.agg #[.int .i64 k, .slice A n c, .int .i64 v], .slice Am n2 cm] w fun e w' =>
      ∃ MB RB, e = .returned (.func (.func 134) #[] #[.pointer (some ⟨MB, 0, none⟩), .pointer (some ⟨RB, 0, none⟩)]) ∧ w'.cell? ⟨MB, 0, none⟩ = some (.slice Am n2 cm) ∧ w'.cell? ⟨RB, 0, none⟩ = some (ofk k (rval k A n c v)) ∧ Below w.heap.size w w' := by
  have hx0 := rbox_new w k A n c v 25
  have hb0 : Below w.heap.size w (w.alloc (.cells #[.int .i64 k, .slice A n c, .int .i64 v] 25)) := (Below.refl _ _).alloc (Nat.le_refl _) _
  have hs0 : (w.alloc (.cells #[.int .i64 k, .slice A n c, .int .i64 v] 25)).heap.size = w.heap.size + 1 := by simp
  obtain ⟨W1, hW1⟩ : ∃ W1, (w.alloc (.cells #[.int .i64 k, .slice A n c, .int .i64 v] 25)).alloc (.cells #[.slice Am n2 cm] 23) = W1 := ⟨_, rfl⟩
  have hb1 : Below w.heap.size w W1 := by rw [← hW1]; exact hb0.alloc hb0.size _
  have hs1 : W1.heap.size = w.heap.size + 1 + 1 := by rw [← hW1]; simp
  have hx1 : RBox W1 w.heap.size k A n c v := by
    rw [← hW1]
    exact hx0.below (by simp) ((Below.refl _ _).alloc (Nat.le_refl _) _)
  have hm1 : W1.cell? ⟨w.heap.size + 1, 0, none⟩ = some (.slice Am n2 cm) := by
    rw [← hW1, ← hs0]; exact cell_of_row _ _ 0 _ _ (0, 0) (heap_alloc_new _ _)
  obtain ⟨a0, a1, a2⟩ := id hx1
  obtain ⟨x, hx⟩ : ∃ x, rval k A n c v = x := ⟨_, rfl⟩
  obtain ⟨T, hT⟩ : ∃ T, ofk k (rval k A n c v) = .iface T x := by
    rw [hx]
    rcases hk with rfl | rfl | rfl | rfl | rfl <;> exact ⟨_, rfl⟩
  have HK := ofKind_any A c n k v W1
  rw [hT] at HK ⊢
  have HK := Lib.hid HK
  clear hx hT
  have Hs := Lib.hid hs1
  clear hs1 hs0 hb0
  go_enter Try.func116, Try.ntmps116
  go_wp2_with (go_at_call 77; refine HK.out.mono ?_; rintro e w3 ⟨rfl, hb3⟩; have hm3 := (hb3.cell (p := ⟨w.heap.size + 1, 0, none⟩) (show w.heap.size + 1 < _ by rw [Hs.out]; omega)).trans hm1)
  go_ret
  have hb4 : Below w3.heap.size w3 (w3.alloc (.cells #[.iface T x] 73)) := (Below.refl _ _).alloc (Nat.le_refl _) _
  exact ⟨w.heap.size + 1, w3.heap.size, rfl, (hb4.cell (p := ⟨w.heap.size + 1, 0, none⟩) (cell_lt hm3)).trans hm3, cell_of_row _ _ 0 _ _ (0, 0) (heap_alloc_new _ _), step (step hb1 hb3) hb4⟩
end Go.Proofs.Ytoejpodchlepiaa
