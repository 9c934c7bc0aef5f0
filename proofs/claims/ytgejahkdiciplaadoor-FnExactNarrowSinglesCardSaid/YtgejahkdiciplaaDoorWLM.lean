import Derived.Test.YtgejahkdiciplaaDoorWPuzB
import Derived.Test.YtgejahkdiciplaaDoorWNa
import Derived.Deep.RegionWith
import Derived.Deep.CutRange
import Derived.Deep.CutBlock
set_option maxRecDepth 8000
namespace Go.Proofs.YtgejahkdiciplaaDoor
open Go.ChangeShapes Go.WideShapes Go.ChangeAt Go.RowKit
/-! the draw of masks. -/
def smallM (xs : List Int) (n : Nat) : Prop := ∀ k, k < n → -4 ≤ nth xs k ∧ nth xs k ≤ 64
theorem smallM_push {xs : List Int} {n : Nat} {x : Int} (h : smallM xs n) (hl : xs.length = n) (hx : 0 ≤ x ∧ x ≤ 64) : smallM (xs ++ [x]) (n + 1) := fun k hk => by
  rw [nth_push hl]
  split
  · exact h k (by assumption)
  · split
    · omega
    · omega
theorem smallM_b64 {xs : List Int} {n : Nat} (h : smallM xs n) (hl : xs.length = n) : B64 xs := b64_of hl fun k hk => by have := h k hk; omega
/-- what the values of a drawn mask's region are, in the order of the text. -/
def MkG (lo G : Nat) (A : Option Addr) (u c : Nat) (xs : List Int) (s q : Int) : Nat → Value → World → Prop
  | 0, v, _ => v = .slice A u c
  | 1, v, _ => v = .pointer (some ⟨G, 0, none⟩)
  | 2, v, _ => v = .int .i64 s
  | 3, v, _ => v = .int .i64 q
  | 4, v, _ => ∃ x, v = .int .i64 x ∧ 0 ≤ x ∧ x < q
  | 5, v, _ => ∃ x, v = .int .i64 x ∧ 0 ≤ x ∧ x ≤ 64
  | 6, v, _ => v = .int .i64 s
  | 7, v, _ => v = .int .i64 (s + 1)
  | 8, v, _ => v = .int .i64 (q + q)
  | 9, v, _ => v = .int .i64 (q + q - 2)
  | 10, v, _ => v = .pointer (some ⟨G, 0, none⟩)
  | 11, v, _ => v = .int .i64 s
  | 12, v, _ => ∃ x, v = .int .i64 x ∧ 0 ≤ x ∧ x < s
  | 13, v, _ => ∃ x, v = .int .i64 x ∧ 1 ≤ x ∧ x ≤ 4
  | 14, v, _ => ∃ x, v = .int .i64 x ∧ 0 ≤ x ∧ x ≤ 64
  | 15, v, w => ∃ b x y z, v = .slice (some ⟨b, 0, none⟩) 3 3 ∧ w.heap[b]? = some (.cells #[.int .i64 x, .int .i64 y, .int .i64 z] 3) ∧ (0 ≤ x ∧ x ≤ 64) ∧ (0 ≤ y ∧ y ≤ 64) ∧ (0 ≤ z ∧ z ≤ 64) ∧ b ≠ G ∧ (Value.slice A u c).ownBlock ≠ some b
  | 16, v, _ => v = .pointer (some ⟨G, 0, none⟩)
  | 17, v, _ => ∃ x, v = .int .i64 x ∧ 0 ≤ x ∧ x < 3
  | 18, v, w => ∃ b i x y z, v = .pointer (some ⟨b, i, none⟩) ∧ i < 3 ∧ w.heap[b]? = some (.cells #[.int .i64 x, .int .i64 y, .int .i64 z] 3) ∧ (0 ≤ x ∧ x ≤ 64) ∧ (0 ≤ y ∧ y ≤ 64) ∧ (0 ≤ z ∧ z ≤ 64) ∧ b ≠ G ∧ (Value.slice A u c).ownBlock ≠ some b
  | 19, v, _ => ∃ x, v = .int .i64 x ∧ 0 ≤ x ∧ x ≤ 64
  | 20, v, w => ∃ b x, v = .slice (some ⟨b, 0, none⟩) 1 1 ∧ w.heap[b]? = some (.cells #[.int .i64 x] 3) ∧ (0 ≤ x ∧ x ≤ 64) ∧ b ≠ G ∧ (Value.slice A u c).ownBlock ≠ some b
  | 21, v, w => ∃ A' c' x, v = .slice A' (u + 1) c' ∧ Ow w lo A' (u + 1) c' (xs ++ [x]) ∧ 0 ≤ x ∧ x ≤ 64
  | _, _, _ => True
def MkEff (G u c : Nat) (A : Option Addr) (i : Nat) (w w' : World) : Prop := if i = 21 then w.grownBy w' (Value.slice A u c).ownBlock else w.grownBy w' (some G)
theorem mkG_eff {lo G u c : Nat} {A : Option Addr} {xs : List Int} {s q : Int} (hG : G < lo) (j i : Nat) (v : Value) (w w' : World) (hji : j ≠ i) (h : MkEff G u c A i w w') (hg : MkG lo G A u c xs s q j v w) : MkG lo G A u c xs s q j v w' := by
  unfold MkEff at h
  have hblk : ∀ (b : Nat) (o : Obj), w.heap[b]? = some o → b ≠ G → (Value.slice A u c).ownBlock ≠ some b → w'.heap[b]? = some o := fun b o hb h1 h2 => by
    by_cases hi : i = 21
    · rw [if_pos hi] at h
      exact (h.block b (Array.getElem?_eq_some_iff.1 hb).1 (fun e => h2 e.symm)).trans hb
    · rw [if_neg hi] at h
      exact (h.block b (Array.getElem?_eq_some_iff.1 hb).1 (fun e => h1 (Option.some.inj e))).trans hb
  match j, hg with
  | 0, hg => exact hg
  | 1, hg => exact hg
  | 2, hg => exact hg
  | 3, hg => exact hg
  | 4, hg => exact hg
  | 5, hg => exact hg
  | 6, hg => exact hg
  | 7, hg => exact hg
  | 8, hg => exact hg
  | 9, hg => exact hg
  | 10, hg => exact hg
  | 11, hg => exact hg
  | 12, hg => exact hg
  | 13, hg => exact hg
  | 14, hg => exact hg
  | 15, ⟨b, x, y, z, e, hb, hx, hy, hz, h1, h2⟩ => exact ⟨b, x, y, z, e, hblk b _ hb h1 h2, hx, hy, hz, h1, h2⟩
  | 16, hg => exact hg
  | 17, hg => exact hg
  | 18, ⟨b, k, x, y, z, e, hk, hb, hx, hy, hz, h1, h2⟩ => exact ⟨b, k, x, y, z, e, hk, hblk b _ hb h1 h2, hx, hy, hz, h1, h2⟩
  | 19, hg => exact hg
  | 20, ⟨b, x, e, hb, hx, h1, h2⟩ => exact ⟨b, x, e, hblk b _ hb h1 h2, hx, h1, h2⟩
  | 21, ⟨A', c', x, e, ho, hx⟩ =>
    rw [if_neg (fun e => hji e.symm)] at h
    exact ⟨A', c', x, e, ho.keptG h hG, hx⟩
  | _ + 22, hg => exact hg
def MkRel (w0 : World) (B G P' : Nat) (w w' : World) : Prop := w.heap.size ≤ w'.heap.size ∧ (w0.grownBy w (some G) → w0.grownBy w' (some G)) ∧ (w0.heap.size ≤ w.heap.size → Rdr w B G P' → Rdr w' B G P')
theorem mkRel_refl {w0 : World} {B G P' : Nat} (w : World) : MkRel w0 B G P' w w := ⟨Nat.le_refl _, fun h => h, fun _ h => h⟩
theorem mkRel_trans {w0 : World} {B G P' : Nat} {w w' w'' : World} (h : MkRel w0 B G P' w w') (h' : MkRel w0 B G P' w' w'') : MkRel w0 B G P' w w'' :=
  ⟨Nat.le_trans h.1 h'.1, fun x => h'.2.1 (h.2.1 x), fun hs x => h'.2.2 (Nat.le_trans hs h.1) (h.2.2 hs x)⟩
theorem mkRel_grown {w0 : World} {B G P' : Nat} {w w' : World} (hg : w.grownBy w' (some G)) (hr : Rdr w B G P' → Rdr w' B G P') : MkRel w0 B G P' w w' := ⟨hg.size, fun x => x.trans hg, fun _ x => hr x⟩
theorem mkRel_own {w0 : World} {B G P' u c lo : Nat} {A : Option Addr} {xs : List Int} {w w' : World} (hG : G < w0.heap.size) (hB : B ≤ w0.heap.size) (hlo : w0.heap.size ≤ lo) (ho : Ow w lo A u c xs) (hg : w.grownBy w' (Value.slice A u c).ownBlock) : MkRel w0 B G P' w w' :=
  ⟨hg.size, fun x => grown_own x ho hlo hg, fun hs x => x.belowN (below_ownR ho hlo hs hg) hG hB⟩
/-- what holds until an operation is done. -/
def MkC (lo B G P u c : Nat) (A : Option Addr) (xs : List Int) (j : Nat) (w : World) : Prop := (j = 4 → Rdr w B G P) ∧ (j = 12 → Rdr w B G (P + 1)) ∧ (j = 17 → Rdr w B G (P + 2)) ∧ (j = 21 → Ow w lo A u c xs)
theorem mkC_grown {lo B G P u c : Nat} {A : Option Addr} {xs : List Int} {j : Nat} {w w' : World} (hG : G < lo) (h : MkC lo B G P u c A xs j w) (hg : w.grownBy w' (some G)) (hr : ∀ p, Rdr w B G p → Rdr w' B G p) : MkC lo B G P u c A xs j w' :=
  ⟨fun e => hr _ (h.1 e), fun e => hr _ (h.2.1 e), fun e => hr _ (h.2.2.1 e), fun e => (h.2.2.2 e).keptG hg hG⟩
theorem lit_get {w : World} {b i : Nat} {x y z : Int} (h : w.heap[b]? = some (.cells #[.int .i64 x, .int .i64 y, .int .i64 z] 3)) (hi : i < 3) (hx : 0 ≤ x ∧ x ≤ 64) (hy : 0 ≤ y ∧ y ≤ 64) (hz : 0 ≤ z ∧ z ≤ 64) : ∃ t, w.cell? ⟨b, i, none⟩ = some (.int .i64 t) ∧ 0 ≤ t ∧ t ≤ 64 := by
  rw [cell_of_row w b i _ _ (0, 0) h]
  have : i = 0 ∨ i = 1 ∨ i = 2 := by omega
  rcases this with rfl | rfl | rfl
  · exact ⟨x, rfl, hx⟩
  · exact ⟨y, rfl, hy⟩
  · exact ⟨z, rfl, hz⟩
theorem ow_cap {w : World} {lo : Nat} {A : Option Addr} {n c : Nat} {xs : List Int} (h : Ow w lo A n c xs) (hn : 0 < n) : n ≤ c ∧ c ≤ maxLen := by
  rcases h.2 with ⟨h', h0⟩ | ⟨g, cap, cur, hv, _, _, hnc, hcm, _⟩
  · omega
  · injection hv with _ _ hc
    subst hc
    exact ⟨hnc, hcm⟩
/-- the word between the parts. -/
def MSt (w : World) (B G P : Nat) (s : Int) (A : Option Addr) (n c : Nat) (xs : List Int) (wr : World) : Prop := 2 ≤ s ∧ s ≤ 4 ∧ (n : Int) = s * s ∧ Ow wr w.heap.size A n c xs ∧ Hid (smallM xs n) ∧ Rdr wr B G P ∧ w.grownBy wr (some G)
/-- nothing of a slice is frozen. -/
def Fz (w : World) (A : Option Addr) (n : Nat) : Prop := ∀ b off, A = some ⟨b, off, none⟩ → ∀ k, k < n → w.frozen? ⟨b, off + k, none⟩ = false
theorem Ow.fz {w : World} {lo g n c : Nat} {xs : List Int} (h : Ow w lo (some ⟨g, 0, none⟩) n c xs) : Hid (Fz w (some ⟨g, 0, none⟩) n) := Lib.hid (fun b off e k hk => by
  injection e with e; injection e with e1 e2 _; subst e1 e2; rw [Nat.zero_add]; exact (h.cell hk).2)
theorem Ow.fz1 {w : World} {lo g n c : Nat} {xs : List Int} (h : Ow w lo (some ⟨g, 0, none⟩) n c xs) : Hid (Fz w (some ⟨g, 1, none⟩) (n - 1)) := Lib.hid (fun b off e k hk => by
  injection e with e; injection e with e1 e2 _; subst e1 e2; exact (h.cell (by omega)).2)
def MFin (w : World) (B G P : Nat) (s : Int) (A : Option Addr) (n c : Nat) (xs : List Int) (wr : World) : Prop := -1 ≤ s ∧ s ≤ 5 ∧ n ≤ 16 ∧ n ≤ c ∧ c ≤ 9223372036854775807 ∧ Rd wr wr.heap.size A n xs ∧ Hid (smallM xs n) ∧ (∀ b off, A = some ⟨b, off, none⟩ → w.heap.size ≤ b) ∧ Rdr wr B G P ∧ w.grownBy wr (some G) ∧ Hid (Fz wr A n)
/-- what the values of the bent mask's region are. -/
def StG (G g n c : Nat) (s : Int) : Nat → Value → World → Prop
  | 0, v, _ => v = .slice (some ⟨g, 0, none⟩) n c
  | 1, v, _ => v = .pointer (some ⟨G, 0, none⟩)
  | 2, v, _ => v = .slice (some ⟨g, 0, none⟩) n c
  | 3, v, _ => v = .int .i64 (n : Int)
  | 4, v, _ => ∃ x : Int, v = .int .i64 x ∧ 0 ≤ x ∧ x < (n : Int)
  | 5, v, _ => v = .int .i64 s
  | 6, v, _ => v = .int .i64 (s + 1)
  | 7, v, _ => ∃ x : Int, v = .int .i64 x ∧ -4 ≤ x ∧ x ≤ 64
  | 8, v, w => ∃ b x, v = .slice (some ⟨b, 0, none⟩) 3 3 ∧ w.heap[b]? = some (.cells #[.int .i64 (-2), .int .i64 1, .int .i64 x] 3) ∧ (-4 ≤ x ∧ x ≤ 64) ∧ b ≠ G
  | 9, v, _ => v = .pointer (some ⟨G, 0, none⟩)
  | 10, v, _ => ∃ x : Int, v = .int .i64 x ∧ 0 ≤ x ∧ x < 3
  | 11, v, w => ∃ b i x, v = .pointer (some ⟨b, i, none⟩) ∧ i < 3 ∧ w.heap[b]? = some (.cells #[.int .i64 (-2), .int .i64 1, .int .i64 x] 3) ∧ (-4 ≤ x ∧ x ≤ 64) ∧ b ≠ G
  | 12, v, _ => ∃ x : Int, v = .int .i64 x ∧ -4 ≤ x ∧ x ≤ 64
  | 13, v, _ => ∃ j : Nat, v = .pointer (some ⟨g, j, none⟩) ∧ j < n
  | _, _, _ => True
theorem stG_eff {G g n c : Nat} {s : Int} (j : Nat) (v : Value) (w w' : World) (h : w.grownBy w' (some G)) (hg : StG G g n c s j v w) : StG G g n c s j v w' := by
  have hblk : ∀ (b : Nat) (o : Obj), w.heap[b]? = some o → b ≠ G → w'.heap[b]? = some o := fun b o hb h1 => (h.block b (Array.getElem?_eq_some_iff.1 hb).1 (fun e => h1 (Option.some.inj e))).trans hb
  match j, hg with
  | 0, hg => exact hg
  | 1, hg => exact hg
  | 2, hg => exact hg
  | 3, hg => exact hg
  | 4, hg => exact hg
  | 5, hg => exact hg
  | 6, hg => exact hg
  | 7, hg => exact hg
  | 8, ⟨b, x, e, hb, hx, h1⟩ => exact ⟨b, x, e, hblk b _ hb h1, hx, h1⟩
  | 9, hg => exact hg
  | 10, hg => exact hg
  | 11, ⟨b, k, x, e, hk, hb, hx, h1⟩ => exact ⟨b, k, x, e, hk, hblk b _ hb h1, hx, h1⟩
  | 12, hg => exact hg
  | 13, hg => exact hg
  | _ + 14, hg => exact hg
def StRel (w0 : World) (B G P' : Nat) (w w' : World) : Prop := MkRel w0 B G P' w w' ∧ ∀ A n c xs, Ow w w0.heap.size A n c xs → Ow w' w0.heap.size A n c xs
theorem stRel_grown {w0 : World} {B G P' : Nat} {w w' : World} (hG : G < w0.heap.size) (hg : w.grownBy w' (some G)) (hr : Rdr w B G P' → Rdr w' B G P') : StRel w0 B G P' w w' := ⟨mkRel_grown hg hr, fun _ _ _ _ h => h.keptG hg hG⟩
theorem bent_get {w : World} {b i : Nat} {x : Int} (h : w.heap[b]? = some (.cells #[.int .i64 (-2), .int .i64 1, .int .i64 x] 3)) (hi : i < 3) (hx : -4 ≤ x ∧ x ≤ 64) : ∃ t, w.cell? ⟨b, i, none⟩ = some (.int .i64 t) ∧ -4 ≤ t ∧ t ≤ 64 := by
  rw [cell_of_row w b i _ _ (0, 0) h]
  have : i = 0 ∨ i = 1 ∨ i = 2 := by omega
  rcases this with rfl | rfl | rfl
  · exact ⟨-2, rfl, by decide, by decide⟩
  · exact ⟨1, rfl, by decide, by decide⟩
  · exact ⟨x, rfl, hx⟩
theorem smallM_set {xs : List Int} {n j : Nat} {x : Int} (h : smallM xs n) (hx : -4 ≤ x ∧ x ≤ 64) : smallM (xs.set j x) n := fun k hk => by
  by_cases hj : j < xs.length
  · rw [nth_set hj]
    split
    · exact hx
    · exact h k hk
  · rw [List.set_eq_of_length_le (by omega)]; exact h k hk
theorem start_mvd {s : Int} {gi : List Int} {rs : List RuleM} {n : Nat} (hl : gi.length = n) (hv : pvB s gi rs = true) : (startL s gi rs n).length = n ∧ mvd (startL s gi rs n) s = true := by
  obtain ⟨t, rfl, hs, hn, _, hok⟩ := pv_grid hv hl
  have e : startL t gi rs n = mapTo (startC gi t) n := by simp [startL, hv]
  rw [e]
  refine ⟨mapTo_length _ _, ?_⟩
  simp only [mvd, Bool.and_eq_true, beq_iff_eq, mapTo_length, Int.toNat_natCast]
  refine ⟨⟨by simp at hs; simp [inr]; omega, hn⟩, allTo_all (n := n) (fun k hk => ?_) (mapTo_length _ _)⟩
  rw [mapTo_nth hk]
  obtain ⟨y0, y1⟩ := hok k hk
  unfold startC
  have hk4 : nth gi k = 0 ∨ nth gi k = 1 ∨ nth gi k = 2 ∨ nth gi k = 3 ∨ nth gi k = 4 := by simp at hs; omega
  simp at hs
  rcases hs with rfl | rfl | rfl <;> rcases hk4 with h | h | h | h | h <;> rw [h] at y1 ⊢ <;> first | (exfalso; revert y1; decide) | decide
set_option maxHeartbeats 40000000 in
theorem l20Masks_any (B G P : Nat) (m : Int) (w : World) (h : Rdr w B G P) (hBG : B ≤ G) (hP : P ≤ 40) (hm : m ≤ 1000000) :
    Calls Tryd.prog 49 #[.pointer (some ⟨G, 0, none⟩), .int .i64 m] w (fun e w' => ∃ s A n c xs, e = .returned (.tuple #[.slice A n c, .int .i64 s]) ∧ MFin w B G (P + 900) s A n c xs w') := by
  have hGw := h.lt
  have hBw : B ≤ w.heap.size := by omega
  go_enter Tryd.func49, Tryd.ntmps49
  go_wp2_with fail
  refine (l20Size_any B G P 0 _ h hBG (by omega) (by omega)).mono ?_
  rintro e w1 ⟨s, rfl, ⟨_, _, hs⟩, hr1, hg1⟩
  obtain ⟨hs2, hs4⟩ := hs (by omega)
  clear hs
  obtain ⟨q, N, hsq⟩ : ∃ (q : Int) (N : Nat), (s = 2 ∧ q = 4 ∧ N = 4) ∨ (s = 3 ∧ q = 8 ∧ N = 9) ∨ (s = 4 ∧ q = 16 ∧ N = 16) := by
    have : s = 2 ∨ s = 3 ∨ s = 4 := by omega
    rcases this with rfl | rfl | rfl
    · exact ⟨4, 4, .inl ⟨rfl, rfl, rfl⟩⟩
    · exact ⟨8, 9, .inr (.inl ⟨rfl, rfl, rfl⟩)⟩
    · exact ⟨16, 16, .inr (.inr ⟨rfl, rfl, rfl⟩)⟩
  have hmul : wrap64 (s * s) = (N : Int) := by rcases hsq with ⟨rfl, rfl, rfl⟩ | ⟨rfl, rfl, rfl⟩ | ⟨rfl, rfl, rfl⟩ <;> exact IntWalk.wrap64_in _ ⟨by decide, by decide⟩
  have hN : (N : Int) = s * s := by rcases hsq with ⟨rfl, rfl, rfl⟩ | ⟨rfl, rfl, rfl⟩ | ⟨rfl, rfl, rfl⟩ <;> rfl
  have hN16 : N ≤ 16 ∧ 4 ≤ q ∧ q ≤ 16 := by omega
  have HN := Lib.hid hN
  have Hsq := Lib.hid hsq
  clear hN hsq
  have hl1 := hg1.size
  go_wp2
  have hmade : Ow (w1.alloc (.cells #[] 3)) w.heap.size (some ⟨w1.heap.size, 0, none⟩) 0 0 [] := (Ow.made0 _ _ (Nat.le_refl _)).mono hl1
  have hgm : w.grownBy (w1.alloc (.cells #[] 3)) (some G) := only_alloc hg1 _
  have hrm := hr1.alloc (show B ≤ w1.heap.size by omega) (.cells #[] 3)
  go_loopw [7, 8] (fun mv kv wr => ∃ (u : Nat) (A : Option Addr) (c : Nat) (xs : List Int), u ≤ N ∧ kv = .int .i64 u ∧ mv = .slice A u c ∧ Ow wr w.heap.size A u c xs ∧ Hid (smallM xs u) ∧ Rdr wr B G (P + 2 + 3 * u) ∧ w.grownBy wr (some G)) (fun _ kv _ => N - (intOf kv).toNat)
  case atStart => exact ⟨0, _, _, _, Nat.zero_le _, rfl, rfl, hmade, Lib.hid (fun k hk => absurd hk (by omega)), hrm, hgm⟩
  case round =>
    clear hmade hgm hrm hr1 hg1 hl1
    obtain ⟨u, A, c, xs, hu, rfl, rfl, ho, hsm, hr, hg⟩ := hrel
    by_cases hlt : u < N
    · have hltI : (u : Int) < N := by omega
      go_wp2
      have hlen := ho.len
      have hPb : P + 2 + 3 * u ≤ 1000 := by omega
      refine wp_region_dsA [20, 21, 22, 23, 24, 25, 26, 27, 28, 29, 30, 31, 32, 33, 34, 35, 36, 37, 38, 39, 40, 41] 7 (MkG w.heap.size G A u c xs s q) (MkRel w B G (P + 2 + 3 * u + 3)) (MkEff G u c A) (MkC w.heap.size B G (P + 2 + 3 * u) u c A xs) ?C0 ?refl (fun _ _ h h' => mkRel_trans h h') (by kernel_rfl) (by kernel_rfl) (by simp) (fun j i v w w' hji _ he hg => mkG_eff hGw j i v w w' hji he hg) ?step ?last
      case C0 => exact fun j => ⟨fun _ => hr, fun _ => hr.more (by omega), fun _ => hr.more (by omega), fun _ => ho⟩
      case refl => exact mkRel_grown (grown_drew (World.grownBy.refl wr _)) (fun h => h)
      case step =>
        intro i o a w' K D hD hcl hi hoo hrel hfr hpre hC hK
        have e0 : a.eval (.tmp 0) = .pointer (some ⟨G, 0, none⟩) := hfr 0 (by simp)
        have e6 : a.eval (.tmp 6) = .int .i64 s := hfr 6 (by simp)
        have e7 : a.eval (.tmp 7) = .slice A u c := hfr 7 (by simp)
        have hsW : w.heap.size ≤ w'.heap.size := Nat.le_trans hg.size hrel.1
        have hgw' := hrel.2.1 hg
        have hkeep : ∀ (v : Value), MkG w.heap.size G A u c xs s q i v w' → K (a.put o.dst v) w' := fun v hv => hK v w' (mkRel_refl w') (by unfold MkEff; split <;> exact World.grownBy.refl _ _) (fun j _ _ h => h) hv
        have hi22 : i < 22 := hi
        have : i = 0 ∨ i = 1 ∨ i = 2 ∨ i = 3 ∨ i = 4 ∨ i = 5 ∨ i = 6 ∨ i = 7 ∨ i = 8 ∨ i = 9 ∨ i = 10 ∨ i = 11 ∨ i = 12 ∨ i = 13 ∨ i = 14 ∨ i = 15 ∨ i = 16 ∨ i = 17 ∨ i = 18 ∨ i = 19 ∨ i = 20 ∨ i = 21 := by omega
        rcases this with rfl | rfl | rfl | rfl | rfl | rfl | rfl | rfl | rfl | rfl | rfl | rfl | rfl | rfl | rfl | rfl | rfl | rfl | rfl | rfl | rfl | rfl
        all_goals
          simp only [List.getElem?_toArray, List.getElem?_cons_zero, List.getElem?_cons_succ, Option.some.injEq] at hoo
          subst hoo
        · refine oper_val (v := .slice A u c) (w' := w') ?_ (hkeep _ rfl)
          unfold execOp
          simp only [e7]
          go_simp
        · refine oper_val (v := .pointer (some ⟨G, 0, none⟩)) (w' := w') ?_ (hkeep _ rfl)
          unfold execOp
          simp only [e0]
          go_simp
        · refine oper_val (v := .int .i64 s) (w' := w') ?_ (hkeep _ rfl)
          unfold execOp
          simp only [e6]
          go_simp
        · have p2 : a.eval (.tmp 22) = .int .i64 s := hpre ⟨2, .data⟩ (by simp) rfl
          refine oper_val (v := .int .i64 q) (w' := w') ?_ (hkeep _ rfl)
          rcases Hsq.out with ⟨rfl, rfl, rfl⟩ | ⟨rfl, rfl, rfl⟩ | ⟨rfl, rfl, rfl⟩
          all_goals
            unfold execOp
            simp only [p2]
            go_simp
            exact IntWalk.i64_in _ (by omega)
        · have p1 : a.eval (.tmp 21) = .pointer (some ⟨G, 0, none⟩) := hpre ⟨1, .data⟩ (by simp) rfl
          have p3 : a.eval (.tmp 23) = .int .i64 q := hpre ⟨3, .data⟩ (by simp) rfl
          refine oper_call (f := 81) (args := #[.pointer (some ⟨G, 0, none⟩), .int .i64 q]) ?_ (pick_any B G (P + 2 + 3 * u) q w' (hC.1 rfl) hBG (by omega)) ?_
          · unfold execOp
            go_simp
            exact ⟨by simpa [Act.eval] using p1, by simpa [Act.eval] using p3⟩
          · rintro e w6 ⟨v, rfl, ⟨v0, v1, _⟩, hr6, hg6⟩
            exact ⟨_, rfl, hK _ w6 (mkRel_grown hg6 (fun _ => hr6.more (by omega))) hg6 (fun j hj hd h => ⟨fun e => absurd e hj, fun _ => hr6, fun _ => hr6.more (by omega), fun e => (h.2.2.2 e).keptG hg6 hGw⟩) ⟨v, rfl, v0, v1 (by omega)⟩⟩
        · obtain ⟨x, p4, x0, x1⟩ : ∃ x, a.eval (.tmp 24) = .int .i64 x ∧ 0 ≤ x ∧ x < q := hpre ⟨4, .data⟩ (by simp) rfl
          refine oper_val (v := .int .i64 (x * 2)) (w' := w') ?_ (hkeep _ ⟨_, rfl, by omega, by omega⟩)
          unfold execOp
          simp only [p4]
          go_simp
          exact IntWalk.i64_in _ (by omega)
        · refine oper_val (v := .int .i64 s) (w' := w') ?_ (hkeep _ rfl)
          unfold execOp
          simp only [e6]
          go_simp
        · have p6 : a.eval (.tmp 26) = .int .i64 s := hpre ⟨6, .data⟩ (by simp) rfl
          refine oper_val (v := .int .i64 (s + 1)) (w' := w') ?_ (hkeep _ rfl)
          rcases Hsq.out with ⟨rfl, rfl, rfl⟩ | ⟨rfl, rfl, rfl⟩ | ⟨rfl, rfl, rfl⟩
          all_goals
            unfold execOp
            simp only [p6]
            go_simp
            exact IntWalk.i64_in _ (by omega)
        · have p7 : a.eval (.tmp 27) = .int .i64 (s + 1) := hpre ⟨7, .data⟩ (by simp) rfl
          refine oper_val (v := .int .i64 (q + q)) (w' := w') ?_ (hkeep _ rfl)
          rcases Hsq.out with ⟨rfl, rfl, rfl⟩ | ⟨rfl, rfl, rfl⟩ | ⟨rfl, rfl, rfl⟩
          all_goals
            unfold execOp
            simp only [p7]
            go_simp
            exact IntWalk.i64_in _ (by omega)
        · have p8 : a.eval (.tmp 28) = .int .i64 (q + q) := hpre ⟨8, .data⟩ (by simp) rfl
          refine oper_val (v := .int .i64 (q + q - 2)) (w' := w') ?_ (hkeep _ rfl)
          rcases Hsq.out with ⟨rfl, rfl, rfl⟩ | ⟨rfl, rfl, rfl⟩ | ⟨rfl, rfl, rfl⟩
          all_goals
            unfold execOp
            simp only [p8]
            go_simp
            exact IntWalk.i64_in _ (by omega)
        · refine oper_val (v := .pointer (some ⟨G, 0, none⟩)) (w' := w') ?_ (hkeep _ rfl)
          unfold execOp
          simp only [e0]
          go_simp
        · refine oper_val (v := .int .i64 s) (w' := w') ?_ (hkeep _ rfl)
          unfold execOp
          simp only [e6]
          go_simp
        · have p10 : a.eval (.tmp 30) = .pointer (some ⟨G, 0, none⟩) := hpre ⟨10, .data⟩ (by simp) rfl
          have p11 : a.eval (.tmp 31) = .int .i64 s := hpre ⟨11, .data⟩ (by simp) rfl
          have d4 : D 4 := hD ⟨4, .chain⟩ (by simp) rfl
          refine oper_call (f := 81) (args := #[.pointer (some ⟨G, 0, none⟩), .int .i64 s]) ?_ (pick_any B G (P + 2 + 3 * u + 1) s w' (hC.2.1 rfl) hBG (by omega)) ?_
          · unfold execOp
            go_simp
            exact ⟨by simpa [Act.eval] using p10, by simpa [Act.eval] using p11⟩
          · rintro e w6 ⟨v, rfl, ⟨v0, v1, _⟩, hr6, hg6⟩
            exact ⟨_, rfl, hK _ w6 (mkRel_grown hg6 (fun _ => hr6.more (by omega))) hg6 (fun j hj hd h => ⟨fun e => absurd (by rw [e]; exact d4) hd, fun e => absurd e hj, fun _ => hr6, fun e => (h.2.2.2 e).keptG hg6 hGw⟩) ⟨v, rfl, v0, v1 (by omega)⟩⟩
        · obtain ⟨x, p12, x0, x1⟩ : ∃ x, a.eval (.tmp 32) = .int .i64 x ∧ 0 ≤ x ∧ x < s := hpre ⟨12, .data⟩ (by simp) rfl
          refine oper_val (v := .int .i64 (1 + x)) (w' := w') ?_ (hkeep _ ⟨_, rfl, by omega, by omega⟩)
          unfold execOp
          simp only [p12]
          go_simp
          exact IntWalk.i64_in _ (by omega)
        · obtain ⟨x, p13, x0, x1⟩ : ∃ x, a.eval (.tmp 33) = .int .i64 x ∧ 1 ≤ x ∧ x ≤ 4 := hpre ⟨13, .data⟩ (by simp) rfl
          have hx : x = 1 ∨ x = 2 ∨ x = 3 ∨ x = 4 := by omega
          rcases hx with rfl | rfl | rfl | rfl
          · refine oper_val (v := .int .i64 2) (w' := w') ?_ (hkeep _ ⟨_, rfl, by omega, by omega⟩)
            unfold execOp
            simp only [p13]
            go_simp
            exact IntWalk.i64_in _ (by omega)
          · refine oper_val (v := .int .i64 4) (w' := w') ?_ (hkeep _ ⟨_, rfl, by omega, by omega⟩)
            unfold execOp
            simp only [p13]
            go_simp
            exact IntWalk.i64_in _ (by omega)
          · refine oper_val (v := .int .i64 8) (w' := w') ?_ (hkeep _ ⟨_, rfl, by omega, by omega⟩)
            unfold execOp
            simp only [p13]
            go_simp
            exact IntWalk.i64_in _ (by omega)
          · refine oper_val (v := .int .i64 16) (w' := w') ?_ (hkeep _ ⟨_, rfl, by omega, by omega⟩)
            unfold execOp
            simp only [p13]
            go_simp
            exact IntWalk.i64_in _ (by omega)
        · obtain ⟨x, p5, hx⟩ : ∃ x, a.eval (.tmp 25) = .int .i64 x ∧ 0 ≤ x ∧ x ≤ 64 := hpre ⟨5, .data⟩ (by simp) rfl
          have p9 : a.eval (.tmp 29) = .int .i64 (q + q - 2) := hpre ⟨9, .data⟩ (by simp) rfl
          obtain ⟨z, p14, hz⟩ : ∃ x, a.eval (.tmp 34) = .int .i64 x ∧ 0 ≤ x ∧ x ≤ 64 := hpre ⟨14, .data⟩ (by simp) rfl
          have hgA : w'.grownBy (w'.alloc (.cells #[.int .i64 x, .int .i64 (q + q - 2), .int .i64 z] 3)) (some G) := only_alloc (World.grownBy.refl _ _) _
          have hne : (Value.slice A u c).ownBlock ≠ some w'.heap.size := fun e => by
            have q1 := ho.own_hi _ e
            have q2 := hrel.1
            omega
          refine oper_val (v := .slice (some ⟨w'.heap.size, 0, none⟩) 3 3) (w' := w'.alloc (.cells #[.int .i64 x, .int .i64 (q + q - 2), .int .i64 z] 3)) ?_ (hK _ _ (mkRel_grown hgA (fun h => h.alloc (by omega) _)) hgA (fun j _ _ h => mkC_grown hGw h hgA (fun p h => h.alloc (by omega) _)) ⟨_, x, _, z, rfl, heap_alloc_new _ _, hx, by omega, hz, by omega, hne⟩)
          have p5' : a.tmps[25]?.getD undef = .int .i64 x := by simpa [Act.eval] using p5
          have p9' : a.tmps[29]?.getD undef = .int .i64 (q + q - 2) := by simpa [Act.eval] using p9
          have p14' : a.tmps[34]?.getD undef = .int .i64 z := by simpa [Act.eval] using p14
          unfold execOp
          go_simp
        · refine oper_val (v := .pointer (some ⟨G, 0, none⟩)) (w' := w') ?_ (hkeep _ rfl)
          unfold execOp
          simp only [e0]
          go_simp
        · have p16 : a.eval (.tmp 36) = .pointer (some ⟨G, 0, none⟩) := hpre ⟨16, .data⟩ (by simp) rfl
          have d12 : D 12 := hD ⟨12, .chain⟩ (by simp) rfl
          have d4 : D 4 := hcl 12 _ rfl d12 ⟨4, .chain⟩ (by simp) rfl
          refine oper_call (f := 81) (args := #[.pointer (some ⟨G, 0, none⟩), .int .i64 3]) ?_ (pick_any B G (P + 2 + 3 * u + 2) 3 w' (hC.2.2.1 rfl) hBG (by omega)) ?_
          · unfold execOp
            go_simp
            exact by simpa [Act.eval] using p16
          · rintro e w6 ⟨v, rfl, ⟨v0, v1, _⟩, hr6, hg6⟩
            exact ⟨_, rfl, hK _ w6 (mkRel_grown hg6 (fun _ => hr6.more (by omega))) hg6 (fun j hj hd h => ⟨fun e => absurd (by rw [e]; exact d4) hd, fun e => absurd (by rw [e]; exact d12) hd, fun e => absurd e hj, fun e => (h.2.2.2 e).keptG hg6 hGw⟩) ⟨v, rfl, v0, v1 (by omega)⟩⟩
        · obtain ⟨b, x, y, z, p15, hb, hx, hy, hz, h1, h2⟩ : ∃ b x y z, a.eval (.tmp 35) = .slice (some ⟨b, 0, none⟩) 3 3 ∧ w'.heap[b]? = some (.cells #[.int .i64 x, .int .i64 y, .int .i64 z] 3) ∧ (0 ≤ x ∧ x ≤ 64) ∧ (0 ≤ y ∧ y ≤ 64) ∧ (0 ≤ z ∧ z ≤ 64) ∧ b ≠ G ∧ (Value.slice A u c).ownBlock ≠ some b := hpre ⟨15, .data⟩ (by simp) rfl
          obtain ⟨v, p17, v0, v1⟩ : ∃ x, a.eval (.tmp 37) = .int .i64 x ∧ 0 ≤ x ∧ x < 3 := hpre ⟨17, .data⟩ (by simp) rfl
          obtain ⟨k, rfl⟩ := Int.eq_ofNat_of_zero_le v0
          have hk : k = 0 ∨ k = 1 ∨ k = 2 := by omega
          rcases hk with rfl | rfl | rfl
          · refine oper_val (v := .pointer (some ⟨b, 0, none⟩)) (w' := w') ?_ (hkeep _ ⟨b, 0, x, y, z, rfl, by omega, hb, hx, hy, hz, h1, h2⟩)
            unfold execOp
            simp only [p15, p17]
            go_simp
          · refine oper_val (v := .pointer (some ⟨b, 1, none⟩)) (w' := w') ?_ (hkeep _ ⟨b, 1, x, y, z, rfl, by omega, hb, hx, hy, hz, h1, h2⟩)
            unfold execOp
            simp only [p15, p17]
            go_simp
          · refine oper_val (v := .pointer (some ⟨b, 2, none⟩)) (w' := w') ?_ (hkeep _ ⟨b, 2, x, y, z, rfl, by omega, hb, hx, hy, hz, h1, h2⟩)
            unfold execOp
            simp only [p15, p17]
            go_simp
        · obtain ⟨b, k, x, y, z, p18, hk, hb, hx, hy, hz, h1, h2⟩ : ∃ b i x y z, a.eval (.tmp 38) = .pointer (some ⟨b, i, none⟩) ∧ i < 3 ∧ w'.heap[b]? = some (.cells #[.int .i64 x, .int .i64 y, .int .i64 z] 3) ∧ (0 ≤ x ∧ x ≤ 64) ∧ (0 ≤ y ∧ y ≤ 64) ∧ (0 ≤ z ∧ z ≤ 64) ∧ b ≠ G ∧ (Value.slice A u c).ownBlock ≠ some b := hpre ⟨18, .data⟩ (by simp) rfl
          obtain ⟨t, ht, ht2⟩ := lit_get hb hk hx hy hz
          refine oper_val (v := .int .i64 t) (w' := w') ?_ (hkeep _ ⟨_, rfl, ht2⟩)
          unfold execOp
          simp only [p18]
          go_simp
        · obtain ⟨x, p19, hx⟩ : ∃ x, a.eval (.tmp 39) = .int .i64 x ∧ 0 ≤ x ∧ x ≤ 64 := hpre ⟨19, .data⟩ (by simp) rfl
          have hgA : w'.grownBy (w'.alloc (.cells #[.int .i64 x] 3)) (some G) := only_alloc (World.grownBy.refl _ _) _
          have hne : (Value.slice A u c).ownBlock ≠ some w'.heap.size := fun e => by
            have q1 := ho.own_hi _ e
            have q2 := hrel.1
            omega
          refine oper_val (v := .slice (some ⟨w'.heap.size, 0, none⟩) 1 1) (w' := w'.alloc (.cells #[.int .i64 x] 3)) ?_ (hK _ _ (mkRel_grown hgA (fun h => h.alloc (by omega) _)) hgA (fun j _ _ h => mkC_grown hGw h hgA (fun p h => h.alloc (by omega) _)) ⟨_, x, rfl, heap_alloc_new _ _, hx, by omega, hne⟩)
          have p19' : a.tmps[39]?.getD undef = .int .i64 x := by simpa [Act.eval] using p19
          unfold execOp
          go_simp
        · have p0 : a.eval (.tmp 20) = .slice A u c := hpre ⟨0, .data⟩ (by simp) rfl
          obtain ⟨b, x, p20, hb, hx, h1, h2⟩ : ∃ b x, a.eval (.tmp 40) = .slice (some ⟨b, 0, none⟩) 1 1 ∧ w'.heap[b]? = some (.cells #[.int .i64 x] 3) ∧ (0 ≤ x ∧ x ≤ 64) ∧ b ≠ G ∧ (Value.slice A u c).ownBlock ≠ some b := hpre ⟨20, .data⟩ (by simp) rfl
          have how := hC.2.2.2 rfl
          have hrx : Rd w' w'.heap.size (some ⟨b, 0, none⟩) 1 [x] := ⟨rfl, fun _ => ⟨b, 0, rfl, (Array.getElem?_eq_some_iff.1 hb).1, fun k hk => by
            obtain rfl : k = 0 := by omega
            rw [cell_of_row w' b 0 _ _ (0, 0) hb]; rfl⟩⟩
          obtain ⟨A', c', w7, hrun, q1, q2, _⟩ := run_push_all 23 w.heap.size A u c xs (some ⟨b, 0, none⟩) 1 1 w'.heap.size [x] how hrx (.inl (by omega)) (by omega) (by omega) hsW
          refine oper_val (v := .slice A' (u + 1) c') (w' := w7) ?_ (hK _ w7 (mkRel_own hGw hBw (Nat.le_refl _) how q2) q2 (fun j hj hd h => ⟨fun e => (h.1 e).belowN (below_ownR how (Nat.le_refl _) hsW q2) hGw hBw, fun e => (h.2.1 e).belowN (below_ownR how (Nat.le_refl _) hsW q2) hGw hBw, fun e => (h.2.2.1 e).belowN (below_ownR how (Nat.le_refl _) hsW q2) hGw hBw, fun e => absurd e hj⟩) ⟨A', c', x, rfl, q1, hx⟩)
          unfold execOp
          simp only [resolve, invoke, builtin, Sem.run_bind, Sem.run_pure, Result.andThen_ok, List.map_toArray, List.map_cons, List.map_nil, p0, p20, hrun]
      case last =>
        intro o a w5 hoo hrel hdef htm hfr hpre
        simp only [List.length_cons, List.length_nil, Nat.reduceAdd, List.getElem?_toArray, List.getElem?_cons_zero, List.getElem?_cons_succ, Option.some.injEq] at hoo
        subst hoo
        have g0 : a.tmps.getD 20 undef = .slice A u c := hpre 0 (by simp)
        have g1 : a.tmps.getD 21 undef = .pointer (some ⟨G, 0, none⟩) := hpre 1 (by simp)
        have g2 : a.tmps.getD 22 undef = .int .i64 s := hpre 2 (by simp)
        have g3 : a.tmps.getD 23 undef = .int .i64 q := hpre 3 (by simp)
        obtain ⟨x4, g4, _⟩ : ∃ x, a.tmps.getD 24 undef = .int .i64 x ∧ _ := hpre 4 (by simp)
        obtain ⟨x5, g5, _⟩ : ∃ x, a.tmps.getD 25 undef = .int .i64 x ∧ _ := hpre 5 (by simp)
        have g6 : a.tmps.getD 26 undef = .int .i64 s := hpre 6 (by simp)
        have g7 : a.tmps.getD 27 undef = .int .i64 (s + 1) := hpre 7 (by simp)
        have g8 : a.tmps.getD 28 undef = .int .i64 (q + q) := hpre 8 (by simp)
        have g9 : a.tmps.getD 29 undef = .int .i64 (q + q - 2) := hpre 9 (by simp)
        have g10 : a.tmps.getD 30 undef = .pointer (some ⟨G, 0, none⟩) := hpre 10 (by simp)
        have g11 : a.tmps.getD 31 undef = .int .i64 s := hpre 11 (by simp)
        obtain ⟨x12, g12, _⟩ : ∃ x, a.tmps.getD 32 undef = .int .i64 x ∧ _ := hpre 12 (by simp)
        obtain ⟨x13, g13, _⟩ : ∃ x, a.tmps.getD 33 undef = .int .i64 x ∧ _ := hpre 13 (by simp)
        obtain ⟨x14, g14, _⟩ : ∃ x, a.tmps.getD 34 undef = .int .i64 x ∧ _ := hpre 14 (by simp)
        obtain ⟨b15, _, _, _, g15, _⟩ : ∃ b x y z, a.tmps.getD 35 undef = .slice (some ⟨b, 0, none⟩) 3 3 ∧ w5.heap[b]? = some (.cells #[.int .i64 x, .int .i64 y, .int .i64 z] 3) ∧ _ := hpre 15 (by simp)
        have g16 : a.tmps.getD 36 undef = .pointer (some ⟨G, 0, none⟩) := hpre 16 (by simp)
        obtain ⟨x17, g17, _⟩ : ∃ x, a.tmps.getD 37 undef = .int .i64 x ∧ _ := hpre 17 (by simp)
        obtain ⟨b18, i18, _, _, _, g18, _⟩ : ∃ b i x y z, a.tmps.getD 38 undef = .pointer (some ⟨b, i, none⟩) ∧ i < 3 ∧ w5.heap[b]? = some (.cells #[.int .i64 x, .int .i64 y, .int .i64 z] 3) ∧ _ := hpre 18 (by simp)
        obtain ⟨x19, g19, _⟩ : ∃ x, a.tmps.getD 39 undef = .int .i64 x ∧ _ := hpre 19 (by simp)
        obtain ⟨b20, _, g20, _⟩ : ∃ b x, a.tmps.getD 40 undef = .slice (some ⟨b, 0, none⟩) 1 1 ∧ w5.heap[b]? = some (.cells #[.int .i64 x] 3) ∧ _ := hpre 20 (by simp)
        obtain ⟨A', c', x, g21, ho5, hx5⟩ : ∃ A' c' x, a.tmps.getD 41 undef = .slice A' (u + 1) c' ∧ Ow w5 w.heap.size A' (u + 1) c' (xs ++ [x]) ∧ 0 ≤ x ∧ x ≤ 64 := hpre 21 (by simp)
        have h41 : a.eval (.tmp 41) = .slice A' (u + 1) c' := g21
        have hg5 := hrel.2.1 hg
        have hr5 := hrel.2.2 hg.size (hr.more (by omega))
        refine ⟨.slice A' (u + 1) c', w5, ?_, ?_⟩
        · unfold execOp
          simp only [h41]
          go_simp
        · have key := htm
          simp only [List.foldl_cons, List.foldl_nil, g0, g1, g2, g3, g4, g5, g6, g7, g8, g9, g10, g11, g12, g13, g14, g15, g16, g17, g18, g19, g20, g21, List.setIfInBounds_toArray, List.set_cons_succ, List.set_cons_zero] at key
          clear htm hfr hpre g0 g1 g2 g3 g4 g5 g6 g7 g8 g9 g10 g11 g12 g13 g14 g15 g16 g17 g18 g19 g20 g21 h41
          obtain ⟨tm, df⟩ := a
          dsimp only at key hdef
          subst key hdef
          go_wp2
          refine ⟨⟨u + 1, A', c', xs ++ [x], by omega, by simp, rfl, ho5, Lib.hid (smallM_push hsm.out hlen hx5), by rw [show P + 2 + 3 * (u + 1) = P + 2 + 3 * u + 3 by omega]; exact hr5, hg5⟩, by simp [intOf]; omega⟩
    · obtain rfl : u = N := by omega
      have hst0 : MSt w B G (P + 50) s A u c xs wr := ⟨hs2, hs4, HN.out, ho, hsm, hr.more (by omega), hg⟩
      clear ho hsm hr hg
      go_upto_region 7 with fail
      go_cut [44] from 8 (fun bv wx => ∃ bb : Bool, bv = .bool bb ∧ MSt w B G (P + 51) s A u c xs wx)
      case first =>
        obtain ⟨_, _, hn, ho, hsm, hr, hg⟩ := hst0
        go_wp2_with fail
        refine (pick_any B G (P + 50) 2 _ hr hBG (by omega)).mono ?_
        rintro e w6 ⟨v, rfl, ⟨v0, v1, _⟩, hr6, hg6⟩
        go_wp2
        go_meet
        case rel => exact ⟨_, rfl, hs2, hs4, hn, ho.keptG hg6 hGw, hsm, hr6.more (by omega), hg.trans hg6⟩
      case rest =>
        obtain ⟨bb, rfl, hst1⟩ := hcut
        clear hst0
        go_upto_if 44 with fail
        go_cut [6, 7] from 8 (fun sv mv wx => ∃ s A n c xs, sv = .int .i64 s ∧ mv = .slice A n c ∧ MSt w B G (P + 860) s A n c xs wx)
        case first =>
          obtain ⟨_, _, hn, ho, hsm, hr, hg⟩ := hst1
          cases bb
          · go_wp2
            go_meet
            case rel => first | exact ⟨s, A, u, c, xs, rfl, rfl, hs2, hs4, hn, ho, hsm, hr.more (by omega), hg⟩ | exact ⟨s, A, u, c, xs, by trivial, by trivial, hs2, hs4, hn, ho, hsm, hr.more (by omega), hg⟩
          · clear ho hsm
            go_wp2_with fail
            refine (l20Puzzle_any B G (P + 51) 0 _ hr hBG (by omega) (by omega)).mono ?_
            rintro e w5 ⟨s5, A1, n1, c1, gi, A2, nr, c2, rs, rfl, t2, t4, hrd, hn16, hlo1, hR, hl, hnr, hr5, hg5, hV⟩
            have hv5 := hV (by omega)
            clear hV
            have hg15 := hg.trans hg5
            have hG5 : G < w5.heap.size := hr5.lt
            have hx0 := pbox_new w5 s5 A1 n1 c1 A2 nr c2 34
            have hbA : Below w5.heap.size w5 (w5.alloc (.cells #[.int .i64 s5, .slice A1 n1 c1, .slice A2 nr c2] 34)) := (Below.refl _ _).alloc (Nat.le_refl _) _
            have hsA : (w5.alloc (.cells #[.int .i64 s5, .slice A1 n1 c1, .slice A2 nr c2] 34)).heap.size = w5.heap.size + 1 := by simp
            obtain ⟨z0, z1, z2⟩ := id hx0
            have hrA := hr5.alloc (show B ≤ w5.heap.size by omega) (.cells #[.int .i64 s5, .slice A1 n1 c1, .slice A2 nr c2] 34)
            have hpg : PGs w5 s5 A1 n1 c1 w5.heap.size gi A2 nr c2 w5.heap.size rs := ⟨hrd, Nat.le_refl _, by omega, hR.rd hl, Nat.le_refl _, by omega⟩
            have hpA := hpg.below hbA
            have hgA : w.grownBy (w5.alloc (.cells #[.int .i64 s5, .slice A1 n1 c1, .slice A2 nr c2] 34)) (some G) := only_alloc hg15 _
            obtain ⟨hsl, hsv⟩ := start_mvd hrd.1 hv5
            have Hsl := Lib.hid hsl
            have Hsv := Lib.hid hsv
            have Hv5 := Lib.hid hv5
            have hsb : -9223372036854775808 ≤ s5 ∧ s5 ≤ 9223372036854775807 := by omega
            obtain ⟨W, hW⟩ : ∃ W, w5.alloc (.cells #[.int .i64 s5, .slice A1 n1 c1, .slice A2 nr c2] 34) = W := ⟨_, rfl⟩
            have hxW := hx0
            rw [hW] at hxW hsA hrA hpA hgA
            have HX := Lib.hid (fun w' (hb : Below W.heap.size W w') => hxW.below (show w5.heap.size < W.heap.size by omega) hb)
            have HSM := Lib.hid (fun w' (hb : Below W.heap.size W w') => specStartMasks s5 A1 n1 c1 w5.heap.size gi A2 nr c2 w5.heap.size rs w' (hpA.below hb))
            have HW := Lib.hid hW
            have hGW : G < W.heap.size := by omega
            have hBW : B ≤ W.heap.size := by omega
            have hm1 : n1 ≤ 1099511627776 := by omega
            have hlR : w.heap.size ≤ wc.heap.size := hg.size
            have hRA : OwR W w.heap.size (.slice A2 nr c2) rs nr := by rw [← hW]; exact (hR.mono hlR).below hbA
            have hrdW : Rd W w5.heap.size A1 n1 gi := by rw [← hW]; exact hrd.below (hbA.mono (Nat.le_refl _))
            have hneG : ∀ b off, A1 = some ⟨b, off, none⟩ → b ≠ G := fun b off e e2 => by have := hlo1 b off e; omega
            have HBd := Lib.hid ((Below.refl W.heap.size W).drew)
            have hgW := hgA.size
            clear hW hpg hpA hx0 hbA hr hg hr5 hg5 hR hrd hlo1 hxW
            go_wp2
            rw [HW.out]
            obtain ⟨y0, y1, y2⟩ := HX.out W (Below.refl _ _)
            clear z0 z1 z2
            go_region_with (first
              | (go_at_call 21; (with_reducible refine (HSM.out _ ?hd).mono ?_); (case hd => exact HBd.out); rintro e w6 ⟨A6, c6, rfl, ho6, hb6d⟩; rw [Hsl.out] at ho6 ⊢; have hb6 : Below W.heap.size W w6 := HBd.out.trans hb6d; clear hb6d; obtain ⟨q0, q1, q2⟩ := HX.out _ hb6; have hr6 := hrA.below hb6 hBW; have hR6 := hRA.below hb6; have hrd6 := hrdW.below (hb6.mono (show w5.heap.size ≤ W.heap.size by omega)); have hg6 := grown_low hgA (hb6.mono hgA.size); have hl6 := hb6.size)
              | (go_at_call 81; (with_reducible refine (pick_any B G (P + 851) 2 _ ?hd hBG ?hp).mono ?_); (case hp => omega); (case hd => exact hr6.more (by omega)); rintro e w7 ⟨v7, rfl, ⟨a0, a1, _⟩, hr7, hg7⟩; have ht7 := a1 (by omega); clear a1; have Hwm := Lib.hid (show IntKind.i64.wrap (1 + v7) = 1 + v7 from IntWalk.i64_in _ (by omega)); obtain ⟨p0, p1, p2⟩ : PBox w7 w5.heap.size s5 A1 n1 c1 A2 nr c2 := ⟨(hg7.cell_far ⟨w5.heap.size, 0, none⟩ (by show w5.heap.size < _; omega) (fun e2 => by have e3 : w5.heap.size = G := Option.some.inj e2; omega)).trans q0, (hg7.cell_far ⟨w5.heap.size, 1, none⟩ (by show w5.heap.size < _; omega) (fun e2 => by have e3 : w5.heap.size = G := Option.some.inj e2; omega)).trans q1, (hg7.cell_far ⟨w5.heap.size, 2, none⟩ (by show w5.heap.size < _; omega) (fun e2 => by have e3 : w5.heap.size = G := Option.some.inj e2; omega)).trans q2⟩; have hR7 := hR6.keptL hg7 hGw; have hrd7 := hrd6.grown hg7 hneG (by omega); have ho7 := ho6.keptG hg7 hGW; have hl7 := hg7.size; have HN7 := Lib.hid (specNarrowAll s5 A1 n1 c1 w5.heap.size gi A2 nr c2 w7.heap.size rs A6 c6 n1 w7.heap.size _ (1 + v7) w7 ⟨hrd7, by omega, hm1, hR7.rd hl, Nat.le_refl _, by omega⟩ ho7.rd (Nat.le_refl _) hm1 hsb Hv5.out Hsv.out (by omega) (by omega)))
              | (go_at_call 82; rw [Hwm.out]; (with_reducible refine HN7.out.mono ?_); rintro e w8 ⟨A8, c8, o, r8, rfl, ho8, hmo, hb8⟩))
            all_goals
              have hol := ho8.len
              have hn8 : (n1 : Int) = s5 * s5 := by rw [← hol]; exact (mvd_at hmo).2.1
              have hs8 : Hid (smallM o n1) := Lib.hid (fun k _ => by have := mvd_nth hmo k; omega)
              have hg17 := hg6.trans hg7
              have hfin : MSt w B G (P + 860) s5 A8 n1 c8 o w8 := ⟨t2, t4, hn8, ho8.mono (by omega), hs8, (hr7.below hb8 (by omega)).more (by omega), grown_low hg17 (hb8.mono hg17.size)⟩
              clear hn8 hol
              go_wp2
              go_meet
              case rel => first | exact ⟨s5, A8, n1, c8, o, rfl, rfl, hfin⟩ | exact ⟨s5, A8, n1, c8, o, by trivial, by trivial, hfin⟩
        case rest =>
          clear hst1
          obtain ⟨s, A, n, c, xs, rfl, rfl, hst2⟩ := hcut
          clear hmul Hsq HN hN16 hs2 hs4
          go_upto_region 11 with fail
          go_cut [61] from 8 (fun bv wx => ∃ bb : Bool, bv = .bool bb ∧ MSt w B G (P + 861) s A n c xs wx)
          case first =>
            obtain ⟨s2, s4, hn, ho, hsm, hr, hg⟩ := hst2
            go_wp2_with fail
            refine (odd_any B G (P + 860) m _ hr hBG (by omega) hm).mono ?_
            rintro e w6 ⟨b, rfl, _, hr6, hg6⟩
            go_wp2
            go_meet
            case rel => exact ⟨_, rfl, s2, s4, hn, ho.keptG hg6 hGw, hsm, hr6, hg.trans hg6⟩
          case rest =>
            obtain ⟨bb, rfl, hst3⟩ := hcut
            clear hst2
            go_upto_if 61 with fail
            go_cut [6, 7] from 8 (fun sv mv wx => ∃ s A n c xs, sv = .int .i64 s ∧ mv = .slice A n c ∧ MFin w B G (P + 900) s A n c xs wx)
            case first =>
              obtain ⟨s2, s4, hn, ho, hsm, hr, hg⟩ := hst3
              obtain ⟨q4, q16⟩ := sq_bd s2 s4
              obtain ⟨g, rfl, hgl, hgwr⟩ := ho.form (by omega)
              have hcap := ow_cap ho (by omega)
              unfold maxLen at hcap
              obtain ⟨hcap1, hcap2⟩ := hcap
              cases bb
              · go_wp2
                go_meet
                case rel => first | exact ⟨s, _, n, c, xs, rfl, rfl, by omega, by omega, by omega, hcap1, by omega, ho.rd, hsm, fun b off e => by injection e with e; injection e with e _ _; omega, hr.more (by omega), hg, ho.fz⟩ | exact ⟨s, _, n, c, xs, by trivial, by trivial, by omega, by omega, by omega, hcap1, by omega, ho.rd, hsm, fun b off e => by injection e with e; injection e with e _ _; omega, hr.more (by omega), hg, ho.fz⟩
              · go_wp2_with fail
                refine (pick_any B G (P + 861) 3 _ hr hBG (by omega)).mono ?_
                rintro e w6 ⟨v, rfl, ⟨v0, v1, _⟩, hr6, hg6⟩
                have hv1 := v1 (by omega)
                clear v1
                have ho6 := ho.keptG hg6 hGw
                have hg16 := hg.trans hg6
                have hv : v = 0 ∨ v = 1 ∨ v = 2 := by omega
                clear ho hr hg hg6 v0 hv1
                rcases hv with rfl | rfl | rfl
                · have hPb : P + 862 ≤ 100000 := by omega
                  have hsq : s = 2 ∨ s = 3 ∨ s = 4 := by omega
                  have hn16' : n ≤ 16 := by omega
                  have hn4 : 4 ≤ n := by omega
                  have Hsq := Lib.hid hsq
                  have Hsm := Lib.hid (fun (j : Nat) (x : Int) (hx : -4 ≤ x ∧ x ≤ 64) => Lib.hid (smallM_set (j := j) hsm.out hx))
                  clear hsq hn q4 q16
                  go_wp2
                  refine wp_region_dsS [68, 69, 70, 71, 72, 73, 74, 75, 76, 77, 78, 79, 80, 81] (StG G g n c s) (StRel w B G (P + 864)) (fun _ w w' => w.grownBy w' (some G)) (fun j w' => (j = 4 → Rdr w' B G (P + 862)) ∧ (j = 10 → Rdr w' B G (P + 863))) ?C0 ?refl (fun _ _ h h' => ⟨mkRel_trans h.1 h'.1, fun A n c xs x => h'.2 A n c xs (h.2 A n c xs x)⟩) (by kernel_rfl) (by kernel_rfl) (by simp) (fun j i v w w' _ _ he hg => stG_eff j v w w' he hg) ?step ?last
                  case C0 => exact fun j => ⟨fun _ => hr6, fun _ => hr6.more (by omega)⟩
                  case refl => exact stRel_grown hGw (grown_drew (World.grownBy.refl w6 _)) (fun h => h)
                  case step =>
                    intro i o a w' K D hD hcl hi hoo hrel hfr hpre hC hK
                    have e0 : a.eval (.tmp 0) = .pointer (some ⟨G, 0, none⟩) := hfr 0 (by simp)
                    have e6 : a.eval (.tmp 6) = .int .i64 s := hfr 6 (by simp)
                    have e7 : a.eval (.tmp 7) = .slice (some ⟨g, 0, none⟩) n c := hfr 7 (by simp)
                    have hsW : w.heap.size ≤ w'.heap.size := Nat.le_trans hg16.size hrel.1.1
                    have hkeep : ∀ (v : Value), StG G g n c s i v w' → K (a.put o.dst v) w' := fun v hv => hK v w' (stRel_grown hGw (World.grownBy.refl _ _) (fun h => h)) (World.grownBy.refl _ _) (fun j _ _ h => h) hv
                    have hi14 : i < 14 := hi
                    have : i = 0 ∨ i = 1 ∨ i = 2 ∨ i = 3 ∨ i = 4 ∨ i = 5 ∨ i = 6 ∨ i = 7 ∨ i = 8 ∨ i = 9 ∨ i = 10 ∨ i = 11 ∨ i = 12 ∨ i = 13 := by omega
                    rcases this with rfl | rfl | rfl | rfl | rfl | rfl | rfl | rfl | rfl | rfl | rfl | rfl | rfl | rfl
                    all_goals
                      simp only [List.getElem?_toArray, List.getElem?_cons_zero, List.getElem?_cons_succ, Option.some.injEq] at hoo
                      subst hoo
                    · refine oper_val (v := .slice (some ⟨g, 0, none⟩) n c) (w' := w') ?_ (hkeep _ rfl)
                      unfold execOp
                      simp only [e7]
                      go_simp
                    · refine oper_val (v := .pointer (some ⟨G, 0, none⟩)) (w' := w') ?_ (hkeep _ rfl)
                      unfold execOp
                      simp only [e0]
                      go_simp
                    · refine oper_val (v := .slice (some ⟨g, 0, none⟩) n c) (w' := w') ?_ (hkeep _ rfl)
                      unfold execOp
                      simp only [e7]
                      go_simp
                    · have p2 : a.eval (.tmp 70) = .slice (some ⟨g, 0, none⟩) n c := hpre ⟨2, .data⟩ (by simp) rfl
                      have p2' : a.tmps[70]?.getD undef = .slice (some ⟨g, 0, none⟩) n c := by simpa [Act.eval] using p2
                      refine oper_val (v := .int .i64 (n : Int)) (w' := w') ?_ (hkeep _ rfl)
                      unfold execOp
                      go_simp
                    · have p1 : a.eval (.tmp 69) = .pointer (some ⟨G, 0, none⟩) := hpre ⟨1, .data⟩ (by simp) rfl
                      have p3 : a.eval (.tmp 71) = .int .i64 (n : Int) := hpre ⟨3, .data⟩ (by simp) rfl
                      refine oper_call (f := 81) (args := #[.pointer (some ⟨G, 0, none⟩), .int .i64 (n : Int)]) ?_ (pick_any B G (P + 862) (n : Int) w' (hC.1 rfl) hBG (by omega)) ?_
                      · unfold execOp
                        go_simp
                        exact ⟨by simpa [Act.eval] using p1, by simpa [Act.eval] using p3⟩
                      · rintro e w8 ⟨v, rfl, ⟨v0, v1, _⟩, hr8, hg8⟩
                        exact ⟨_, rfl, hK _ w8 (stRel_grown hGw hg8 (fun _ => hr8.more (by omega))) hg8 (fun j hj hd h => ⟨fun e => absurd e hj, fun _ => hr8⟩) ⟨v, rfl, v0, v1 (by omega)⟩⟩
                    · refine oper_val (v := .int .i64 s) (w' := w') ?_ (hkeep _ rfl)
                      unfold execOp
                      simp only [e6]
                      go_simp
                    · have p5 : a.eval (.tmp 73) = .int .i64 s := hpre ⟨5, .data⟩ (by simp) rfl
                      refine oper_val (v := .int .i64 (s + 1)) (w' := w') ?_ (hkeep _ rfl)
                      unfold execOp
                      simp only [p5]
                      go_simp
                      exact IntWalk.i64_in _ (by omega)
                    · have p6 : a.eval (.tmp 74) = .int .i64 (s + 1) := hpre ⟨6, .data⟩ (by simp) rfl
                      rcases Hsq.out with rfl | rfl | rfl
                      · refine oper_val (v := .int .i64 8) (w' := w') ?_ (hkeep _ ⟨8, rfl, by omega, by omega⟩)
                        unfold execOp
                        simp only [p6]
                        go_simp
                        exact IntWalk.i64_in _ (by omega)
                      · refine oper_val (v := .int .i64 16) (w' := w') ?_ (hkeep _ ⟨16, rfl, by omega, by omega⟩)
                        unfold execOp
                        simp only [p6]
                        go_simp
                        exact IntWalk.i64_in _ (by omega)
                      · refine oper_val (v := .int .i64 32) (w' := w') ?_ (hkeep _ ⟨32, rfl, by omega, by omega⟩)
                        unfold execOp
                        simp only [p6]
                        go_simp
                        exact IntWalk.i64_in _ (by omega)
                    · obtain ⟨x, p7, hx⟩ : ∃ x : Int, a.eval (.tmp 75) = .int .i64 x ∧ -4 ≤ x ∧ x ≤ 64 := hpre ⟨7, .data⟩ (by simp) rfl
                      have hgA : w'.grownBy (w'.alloc (.cells #[.int .i64 (-2), .int .i64 1, .int .i64 x] 3)) (some G) := only_alloc (World.grownBy.refl _ _) _
                      refine oper_val (v := .slice (some ⟨w'.heap.size, 0, none⟩) 3 3) (w' := w'.alloc (.cells #[.int .i64 (-2), .int .i64 1, .int .i64 x] 3)) ?_ (hK _ _ (stRel_grown hGw hgA (fun h => h.alloc (by omega) _)) hgA (fun j _ _ h => ⟨fun e => (h.1 e).alloc (by omega) _, fun e => (h.2 e).alloc (by omega) _⟩) ⟨_, x, rfl, heap_alloc_new _ _, hx, by omega⟩)
                      have p7' : a.tmps[75]?.getD undef = .int .i64 x := by simpa [Act.eval] using p7
                      unfold execOp
                      go_simp
                    · refine oper_val (v := .pointer (some ⟨G, 0, none⟩)) (w' := w') ?_ (hkeep _ rfl)
                      unfold execOp
                      simp only [e0]
                      go_simp
                    · have p9 : a.eval (.tmp 77) = .pointer (some ⟨G, 0, none⟩) := hpre ⟨9, .data⟩ (by simp) rfl
                      have d4 : D 4 := hD ⟨4, .chain⟩ (by simp) rfl
                      refine oper_call (f := 81) (args := #[.pointer (some ⟨G, 0, none⟩), .int .i64 3]) ?_ (pick_any B G (P + 863) 3 w' (hC.2 rfl) hBG (by omega)) ?_
                      · unfold execOp
                        go_simp
                        exact by simpa [Act.eval] using p9
                      · rintro e w8 ⟨v, rfl, ⟨v0, v1, _⟩, hr8, hg8⟩
                        exact ⟨_, rfl, hK _ w8 (stRel_grown hGw hg8 (fun _ => hr8.more (by omega))) hg8 (fun j hj hd h => ⟨fun e => absurd (by rw [e]; exact d4) hd, fun e => absurd e hj⟩) ⟨v, rfl, v0, v1 (by omega)⟩⟩
                    · obtain ⟨b, x, p8, hb, hx, h1⟩ : ∃ b x, a.eval (.tmp 76) = .slice (some ⟨b, 0, none⟩) 3 3 ∧ w'.heap[b]? = some (.cells #[.int .i64 (-2), .int .i64 1, .int .i64 x] 3) ∧ (-4 ≤ x ∧ x ≤ 64) ∧ b ≠ G := hpre ⟨8, .data⟩ (by simp) rfl
                      obtain ⟨v, p10, v0, v1⟩ : ∃ x : Int, a.eval (.tmp 78) = .int .i64 x ∧ 0 ≤ x ∧ x < 3 := hpre ⟨10, .data⟩ (by simp) rfl
                      have hk : v = 0 ∨ v = 1 ∨ v = 2 := by omega
                      rcases hk with rfl | rfl | rfl
                      · refine oper_val (v := .pointer (some ⟨b, 0, none⟩)) (w' := w') ?_ (hkeep _ ⟨b, 0, x, rfl, by omega, hb, hx, h1⟩)
                        unfold execOp
                        simp only [p8, p10]
                        go_simp
                      · refine oper_val (v := .pointer (some ⟨b, 1, none⟩)) (w' := w') ?_ (hkeep _ ⟨b, 1, x, rfl, by omega, hb, hx, h1⟩)
                        unfold execOp
                        simp only [p8, p10]
                        go_simp
                      · refine oper_val (v := .pointer (some ⟨b, 2, none⟩)) (w' := w') ?_ (hkeep _ ⟨b, 2, x, rfl, by omega, hb, hx, h1⟩)
                        unfold execOp
                        simp only [p8, p10]
                        go_simp
                    · obtain ⟨b, k, x, p11, hk, hb, hx, h1⟩ : ∃ b i x, a.eval (.tmp 79) = .pointer (some ⟨b, i, none⟩) ∧ i < 3 ∧ w'.heap[b]? = some (.cells #[.int .i64 (-2), .int .i64 1, .int .i64 x] 3) ∧ (-4 ≤ x ∧ x ≤ 64) ∧ b ≠ G := hpre ⟨11, .data⟩ (by simp) rfl
                      obtain ⟨t, ht, ht2⟩ := bent_get hb hk hx
                      refine oper_val (v := .int .i64 t) (w' := w') ?_ (hkeep _ ⟨_, rfl, ht2⟩)
                      unfold execOp
                      simp only [p11]
                      go_simp
                    · have p0 : a.eval (.tmp 68) = .slice (some ⟨g, 0, none⟩) n c := hpre ⟨0, .data⟩ (by simp) rfl
                      obtain ⟨v, p4, v0, v1⟩ : ∃ x : Int, a.eval (.tmp 72) = .int .i64 x ∧ 0 ≤ x ∧ x < (n : Int) := hpre ⟨4, .data⟩ (by simp) rfl
                      obtain ⟨k, rfl⟩ := Int.eq_ofNat_of_zero_le v0
                      have hkn : k < n := by omega
                      refine oper_val (v := .pointer (some ⟨g, k, none⟩)) (w' := w') ?_ (hkeep _ ⟨k, rfl, hkn⟩)
                      unfold execOp
                      simp only [p0, p4]
                      go_simp
                  case last =>
                    intro o a w5 hoo hrel hdef htm hfr hpre
                    simp only [List.length_cons, List.length_nil, Nat.reduceAdd, List.getElem?_toArray, List.getElem?_cons_zero, List.getElem?_cons_succ, Option.some.injEq] at hoo
                    subst hoo
                    have g0 : a.tmps.getD 68 undef = .slice (some ⟨g, 0, none⟩) n c := hpre 0 (by simp)
                    have g1 : a.tmps.getD 69 undef = .pointer (some ⟨G, 0, none⟩) := hpre 1 (by simp)
                    have g2 : a.tmps.getD 70 undef = .slice (some ⟨g, 0, none⟩) n c := hpre 2 (by simp)
                    have g3 : a.tmps.getD 71 undef = .int .i64 (n : Int) := hpre 3 (by simp)
                    obtain ⟨x4, g4, _⟩ : ∃ x : Int, a.tmps.getD 72 undef = .int .i64 x ∧ _ := hpre 4 (by simp)
                    have g5 : a.tmps.getD 73 undef = .int .i64 s := hpre 5 (by simp)
                    have g6 : a.tmps.getD 74 undef = .int .i64 (s + 1) := hpre 6 (by simp)
                    obtain ⟨x7, g7, _⟩ : ∃ x : Int, a.tmps.getD 75 undef = .int .i64 x ∧ _ := hpre 7 (by simp)
                    obtain ⟨b8, _, g8, _⟩ : ∃ b x, a.tmps.getD 76 undef = .slice (some ⟨b, 0, none⟩) 3 3 ∧ w5.heap[b]? = some (.cells #[.int .i64 (-2), .int .i64 1, .int .i64 x] 3) ∧ _ := hpre 8 (by simp)
                    have g9 : a.tmps.getD 77 undef = .pointer (some ⟨G, 0, none⟩) := hpre 9 (by simp)
                    obtain ⟨x10, g10, _⟩ : ∃ x : Int, a.tmps.getD 78 undef = .int .i64 x ∧ _ := hpre 10 (by simp)
                    obtain ⟨b11, i11, _, g11, _⟩ : ∃ b i x, a.tmps.getD 79 undef = .pointer (some ⟨b, i, none⟩) ∧ i < 3 ∧ w5.heap[b]? = some (.cells #[.int .i64 (-2), .int .i64 1, .int .i64 x] 3) ∧ _ := hpre 11 (by simp)
                    obtain ⟨x, g12, hx⟩ : ∃ x : Int, a.tmps.getD 80 undef = .int .i64 x ∧ -4 ≤ x ∧ x ≤ 64 := hpre 12 (by simp)
                    obtain ⟨j, g13, hj⟩ : ∃ j : Nat, a.tmps.getD 81 undef = .pointer (some ⟨g, j, none⟩) ∧ j < n := hpre 13 (by simp)
                    have h80 : a.eval (.tmp 80) = .int .i64 x := g12
                    have h81 : a.eval (.tmp 81) = .pointer (some ⟨g, j, none⟩) := g13
                    have ho5 := hrel.2 _ _ _ _ ho6
                    have hg5 := hrel.1.2.1 hg16
                    have hr5 := hrel.1.2.2 hg16.size (hr6.more (by omega))
                    obtain ⟨hc5, hf5⟩ := ho5.cell hj
                    have hop := ho5.putN j x
                    have hbp : Below w.heap.size w5 (w5.setCell ⟨g, j, none⟩ (.int .i64 x)) := Below.setCell (p := (⟨g, j, none⟩ : Addr)) (Below.refl _ _) hgl _
                    have hfin : MFin w B G (P + 900) s (some ⟨g, 0, none⟩) n c (xs.set j x) (w5.setCell ⟨g, j, none⟩ (.int .i64 x)) := ⟨by omega, by omega, hn16', hcap1, by omega, hop.rd, Hsm.out j x hx, fun b off e => by injection e with e; injection e with e _ _; omega, (hr5.belowN hbp hGw hBw).more (by omega), grown_low hg5 hbp, hop.fz⟩
                    refine ⟨w5.setCell ⟨g, j, none⟩ (.int .i64 x), ?_, ?_⟩
                    · unfold execOp
                      simp only [h80, h81]
                      go_simp
                    · have key := htm
                      simp only [List.foldl_cons, List.foldl_nil, g0, g1, g2, g3, g4, g5, g6, g7, g8, g9, g10, g11, g12, g13, List.setIfInBounds_toArray, List.set_cons_succ, List.set_cons_zero] at key
                      clear htm hfr hpre g0 g1 g2 g3 g4 g5 g6 g7 g8 g9 g10 g11 g12 g13 h80 h81
                      obtain ⟨tm, df⟩ := a
                      dsimp only at key hdef
                      subst key hdef
                      clear hc5 hf5 hop hbp ho5 hg5 hr5
                      go_wp2
                      go_meet
                      case rel => first | exact ⟨s, _, n, c, _, rfl, rfl, hfin⟩ | exact ⟨s, _, n, c, _, by trivial, by trivial, hfin⟩
                · have hrd := Lib.hid (rd_drop_ ho6.rd (by omega))
                  have hlen := ho6.len
                  have hsm2 : Hid (smallM (xs.drop 1) (n - 1)) := Lib.hid (fun k hk => by
                    have := hsm.out (k + 1) (by omega)
                    have e : nth (xs.drop 1) k = nth xs (k + 1) := by simp [nth, List.getD_eq_getElem?_getD]
                    rw [e]; exact this)
                  have hcI : (1 : Int) < (c : Int) := by omega
                  have hnI : (1 : Int) ≤ (n : Int) := by omega
                  have hfin : MFin w B G (P + 900) s (some ⟨g, 1, none⟩) (n - 1) (c - 1) (xs.drop 1) w6 := ⟨by omega, by omega, by omega, by omega, by omega, hrd.out, hsm2, fun b off e => by injection e with e; injection e with e _ _; omega, hr6.more (by omega), hg16, ho6.fz1⟩
                  clear hn hlen q4 q16
                  go_wp2
                  go_meet
                  case rel => first | exact ⟨s, _, n - 1, c - 1, _, rfl, rfl, hfin⟩ | exact ⟨s, _, n - 1, c - 1, _, by trivial, by trivial, hfin⟩
                · go_wp2_with fail
                  refine (l20Size_any B G _ 1 _ hr6 hBG (by omega) (by omega)).mono ?_
                  rintro e w7 ⟨s7, rfl, ⟨u0, u1, _⟩, hr7, hg7⟩
                  have ho7 := ho6.keptG hg7 hGw
                  have hfin : MFin w B G (P + 900) s7 (some ⟨g, 0, none⟩) n c xs w7 := ⟨u0, u1, by omega, hcap1, by omega, ho7.rd, hsm, fun b off e => by injection e with e; injection e with e _ _; omega, hr7.more (by omega), hg16.trans hg7, ho7.fz⟩
                  clear hn q4 q16
                  go_wp2
                  go_meet
                  case rel => first | exact ⟨s7, _, n, c, _, rfl, rfl, hfin⟩ | exact ⟨s7, _, n, c, _, by trivial, by trivial, hfin⟩
            case rest =>
              obtain ⟨s, A, n, c, xs, rfl, rfl, hfin⟩ := hcut
              go_wp2
              go_ret2
              exact ⟨s, A, n, c, xs, rfl, hfin⟩
end Go.Proofs.YtgejahkdiciplaaDoor
