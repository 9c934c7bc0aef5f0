import Derived.Test.YtlnmioijgclndaaMt
namespace Go.Proofs.Ytlnmioijgclndaa
open Go.ChangeShapes Go.WideShapes Go.ChangeAt Go.RowKit

theorem results_cell_tmp {P : Program} {fn : Func} {p q : Tmp} {ty : TypeId} (h : fn.results = #[.cell p ty, .tmp q]) (tmps : Array Value) (w : World) (g : Nat) (t : TypeId) (cs : Array Value) (fr : Nat × Nat) (d : TypeDesc) (b : Value)
    (hp : tmps.getD p undef = .pointer (some ⟨g, 0, none⟩)) (hq : tmps.getD q undef = b) (hg : w.heap[g]? = some (.cells cs t fr))
    (hu : P.underlying ty = some d) (hd : (match d with | .struct _ | .array _ _ => true | _ => false) = true) (hi : (P.info? ty).map (·.size) = some cs.size) :
    (results fn tmps).run P w = .ok (.tuple #[.agg cs, b]) w := by
  have hp' : tmps[p]?.getD undef = .pointer (some ⟨g, 0, none⟩) := by simpa using hp
  have hq' : tmps[q]?.getD undef = b := by simpa using hq
  simp [results, h, hp', hq', asAddr, run_loadVar_row w g t ty cs fr d hg hu hd hi]
theorem MBox.lt {w : World} {g : Nat} {M : Nat → Nat} {s : Int} (h : MBox w g M s) : g < w.heap.size := (Array.getElem?_eq_some_iff.1 h).1
theorem MBox.row_other {w : World} {g g' : Nat} {cs : Array Value} {M : Nat → Nat} {s : Int} (h : MBox w g M s) (hne : g ≠ g') : MBox (w.setRow g' cs) g M s := by
  unfold MBox World.setRow
  simp only [Array.getElem?_modify]
  rw [if_neg (fun e => hne e.symm)]
  exact h
theorem lmask_z {xs : List Int} {s k : Nat} (h : nth xs k = 0) : lmask xs s (k + 1) = lmask xs s k ∧ twice xs s (k + 1) = twice xs s k := by simp [lmask, twice, h]
theorem lmask_nz {xs : List Int} {s k v : Nat} (h : nth xs k = (v : Int)) (hv : v ≠ 0) : lmask xs s (k + 1) = mput (mput (lmask xs s k) (k / s) v) (s + k % s) v ∧ twice xs s (k + 1) = (twice xs s k || ((lmask xs s k (k / s)).testBit v || (lmask xs s k (s + k % s)).testBit v)) := by
  have h0 : nth xs k ≠ 0 := by omega
  have e : (nth xs k).toNat = v := by omega
  simp only [lmask, twice]
  rw [if_neg h0, if_neg h0, e]
  exact ⟨rfl, rfl⟩
theorem rc_lt : ∀ s ∈ [2, 3, 4], ∀ k, k < s * s → k / s < 8 ∧ s + k % s < 8 := by decide +kernel

theorem lines_any (A : Option Addr) (c n B s : Nat) (xs : List Int) (w : World) (h : Rd w B A n xs) (hB : B ≤ w.heap.size) (hs : s ∈ [2, 3, 4]) (hn : n = s * s) (hok : Hid (okAll xs s n)) :
    Calls Try.prog 57 #[.agg #[.slice A n c, .int .i64 s]] w fun e w' => e = .returned (.tuple #[.agg (mcells (lmask xs s n) s), .bool (twice xs s n)]) ∧ Below w.heap.size w w' := by
  have hs2 : 2 ≤ s := by simp at hs; omega
  have hs4 : s ≤ 4 := by simp at hs; omega
  have hn16 : n ≤ 16 := by simp at hs; rcases hs with rfl | rfl | rfl <;> omega
  have Hn := Lib.hid hn; clear hn
  have hi9 : ∀ M : Nat → Nat, (Try.prog.info? 51).map (·.size) = some (mcells M s).size := fun M => by rw [mcells_size]; kernel_rfl
  have Hi9 := Lib.hid hi9; clear hi9
  have hone : ∀ M : Nat → Nat, (mcells M s).all (·.oneCell') = true := fun M => mone M s
  have Hone := Lib.hid hone; clear hone
  go_enter Try.func57, Try.ntmps57
  go_wp2
  go_loopw [5, 14] (fun t i wr => ∃ k : Nat, k ≤ n ∧ i = .int .i64 k ∧ t = .bool (twice xs s k) ∧ Hid (MBox wr (w.heap.size + 1 + 1) (lmask xs s k) s) ∧ Hid (MBox wr (w.heap.size + 1) (fun _ => 0) 0) ∧ Below w.heap.size w wr) (fun _ i _ => n - (intOf i).toNat)
  case atStart =>
    refine ⟨0, Nat.zero_le _, rfl, rfl, Lib.hid ?_, Lib.hid ?_, (((Below.refl _ _).alloc (Nat.le_refl _) _).alloc (by simp) _).alloc (by simp; omega) _⟩
    · have := heap_alloc_new ((w.alloc (Obj.cells #[Value.slice A n c, Value.int IntKind.i64 ↑s] 45)).alloc (Obj.cells (mcells (fun _ => 0) 0) 51)) (.cells (mcells (fun _ => 0) s) 51)
      simp only [World.size_alloc] at this
      exact this
    · have := heap_alloc_new (w.alloc (Obj.cells #[Value.slice A n c, Value.int IntKind.i64 ↑s] 45)) (.cells (mcells (fun _ => 0) 0) 51)
      simp only [World.size_alloc] at this
      exact (heap_alloc_old _ _ (by simp)).trans this
  case round =>
    obtain ⟨k, hk, rfl, rfl, hx, hy, hB0⟩ := hrel
    by_cases hlt : k < n
    · obtain ⟨b, off, rfl, hbB, hck⟩ := (h.below (hB0.mono hB)).at_ hlt
      obtain ⟨x0, x4⟩ := hok.out k hlt
      obtain ⟨v, hv⟩ := Int.eq_ofNat_of_zero_le x0
      have hv4 : v ≤ 4 := by omega
      obtain ⟨hr8, hc8⟩ := rc_lt s hs k (by have := Hn.out; omega)
      have Hr : Hid ((k : Int) / (s : Int) = ((k / s : Nat) : Int)) := Lib.hid (by simp)
      have Hc : Hid ((s : Int) + (k : Int) % (s : Int) = ((s + k % s : Nat) : Int)) := Lib.hid (by simp)
      have Hm := Lib.hid (lmask_lt (xs := xs) (by omega : (s : Int) ≤ 4) hok.out k hk)
      by_cases hz : v = 0
      · subst hz
        obtain ⟨e1, e2⟩ := lmask_z (s := s) hv
        have E1 := Lib.hid e1; have E2 := Lib.hid e2; clear e1 e2
        go_wp2
        go_roundw
        case rel => exact ⟨k + 1, by omega, by go_num, by rw [E2.out], by rw [E1.out]; exact hx, hy, hB0⟩
        case measure => simp [intOf]; omega
      · obtain ⟨e1, e2⟩ := lmask_nz (s := s) hv hz
        have E1 := Lib.hid e1; have E2 := Lib.hid e2; clear e1 e2
        have hz1 : ((v : Int) == 0) = false := by simp; omega
        cases ht : twice xs s k
        · go_wp2_with (first | (refine wpList_load_row_w rfl 51 _ rfl (w.heap.size + 1 + 1) rfl 51 (mcells (lmask xs s k) s) (0, 0) _ hx.out Try.underlying51 rfl (Hi9.out _) ?_) | (go_at_call 81; refine (meets_any (lmask xs s k) s k (k / s) (s + k % s) v _ (by omega) (by omega) Hr.out Hc.out hr8 hc8 (by omega) hv4 Hm.out).mono ?_; rintro e w1 ⟨rfl, hb1⟩; have hx1 := Lib.hid (MBox.below hx.out hx.out.lt hb1); have hy1 := Lib.hid (MBox.below hy.out hy.out.lt hb1); have hB1 := step hB0 hb1; clear hb1) | (refine wpList_load_row rfl 51 _ rfl (w.heap.size + 1 + 1) rfl 51 (mcells (lmask xs s k) s) (0, 0) _ hx1.out Try.underlying51 rfl (Hi9.out _) ?_) | (go_at_call 82; refine (with_any (lmask xs s k) s k (k / s) (s + k % s) v _ (by omega) (by omega) Hr.out Hc.out hr8 hc8 (by omega) hv4 Hm.out).mono ?_; rintro e w2 ⟨rfl, hb2⟩; have hx2 := Lib.hid (MBox.below hx1.out hx1.out.lt hb2); have hy2 := Lib.hid (MBox.below hy1.out hy1.out.lt hb2); have hB2 := step hB1 hb2; clear hb2) | (refine wpList_store_row rfl 51 _ _ rfl (w.heap.size + 1 + 1) (mcells (mput (mput (lmask xs s k) (k / s) v) (s + k % s) v) s) rfl rfl 51 (mcells (lmask xs s k) s) hx2.out (Hi9.out _) rfl (Hone.out _) ?_))
          have hxe := Lib.hid (MBox.stored (M' := mput (mput (lmask xs s k) (k / s) v) (s + k % s) v) (s' := s) hx2.out)
          have hye := Lib.hid (MBox.row_other (cs := mcells (mput (mput (lmask xs s k) (k / s) v) (s + k % s) v) s) hy2.out (show w.heap.size + 1 ≠ w.heap.size + 1 + 1 by omega))
          have hBe := setRow_below (g := w.heap.size + 1 + 1) (cs := mcells (mput (mput (lmask xs s k) (k / s) v) (s + k % s) v) s) hB2 (by omega)
          rw [ht] at E2
          go_roundw
          case rel => exact ⟨k + 1, by omega, by go_num, by rw [E2.out]; rfl, by rw [E1.out]; exact hxe, hye, hBe⟩
          case measure => simp [intOf]; omega
        · go_wp2_with (first | (refine wpList_load_row rfl 51 _ rfl (w.heap.size + 1 + 1) rfl 51 (mcells (lmask xs s k) s) (0, 0) _ hx.out Try.underlying51 rfl (Hi9.out _) ?_) | (go_at_call 82; refine (with_any (lmask xs s k) s k (k / s) (s + k % s) v _ (by omega) (by omega) Hr.out Hc.out hr8 hc8 (by omega) hv4 Hm.out).mono ?_; rintro e w2 ⟨rfl, hb2⟩; have hx2 := Lib.hid (MBox.below hx.out hx.out.lt hb2); have hy2 := Lib.hid (MBox.below hy.out hy.out.lt hb2); have hB2 := step hB0 hb2; clear hb2) | (refine wpList_store_row rfl 51 _ _ rfl (w.heap.size + 1 + 1) (mcells (mput (mput (lmask xs s k) (k / s) v) (s + k % s) v) s) rfl rfl 51 (mcells (lmask xs s k) s) hx2.out (Hi9.out _) rfl (Hone.out _) ?_))
          have hxe := Lib.hid (MBox.stored (M' := mput (mput (lmask xs s k) (k / s) v) (s + k % s) v) (s' := s) hx2.out)
          have hye := Lib.hid (MBox.row_other (cs := mcells (mput (mput (lmask xs s k) (k / s) v) (s + k % s) v) s) hy2.out (show w.heap.size + 1 ≠ w.heap.size + 1 + 1 by omega))
          have hBe := setRow_below (g := w.heap.size + 1 + 1) (cs := mcells (mput (mput (lmask xs s k) (k / s) v) (s + k % s) v) s) hB2 (by omega)
          rw [ht] at E2
          go_roundw
          case rel => exact ⟨k + 1, by omega, by go_num, by rw [E2.out]; rfl, by rw [E1.out]; exact hxe, hye, hBe⟩
          case measure => simp [intOf]; omega
    · obtain rfl : k = n := by omega
      have hxf := Lib.hid (MBox.stored (M' := lmask xs s k) (s' := s) hy.out)
      have hBe := setRow_below (g := w.heap.size + 1) (cs := mcells (lmask xs s k) s) hB0 (by omega)
      go_wp2_with (first | (refine wpList_load_row rfl 51 _ rfl (w.heap.size + 1 + 1) rfl 51 (mcells (lmask xs s k) s) (0, 0) _ hx.out Try.underlying51 rfl (Hi9.out _) ?_) | (refine wpList_store_row rfl 51 _ _ rfl (w.heap.size + 1) (mcells (lmask xs s k) s) rfl rfl 51 (mcells (fun _ => 0) 0) hy.out (Hi9.out _) rfl (Hone.out _) ?_))
      refine bodyPost_ret (v := .tuple #[.agg (mcells (lmask xs s k) s), .bool (twice xs s k)]) (results_cell_tmp (by rfl) _ _ (w.heap.size + 1) 51 _ (0, 0) _ _ rfl rfl hxf.out Try.underlying51 rfl (Hi9.out _)) rfl ⟨rfl, hBe⟩
end Go.Proofs.Ytlnmioijgclndaa
