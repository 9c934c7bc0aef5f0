import Derived.Test.YtchcmgaohcldjaaGreatDoorYPuzB
import Derived.Test.YtchcmgaohcldjaaGreatDoorYMin
import Derived.Test.YtchcmgaohcldjaaGreatDoorYTb
import Derived.Deep.RegionWith
import Derived.Deep.CutRange
import Derived.Deep.CutBlock
import Derived.Test.YtchcmgaohcldjaaGreatDoorYM3
import Derived.Test.YtchcmgaohcldjaaGreatDoorP5S
import Derived.Test.YtchcmgaohcldjaaGreatDoorYU64
import Derived.Test.YtchcmgaohcldjaaGreatDoorYI7
import Derived.Test.YtchcmgaohcldjaaGreatDoorYNr
import Derived.Test.YtchcmgaohcldjaaGreatDoorQ4S
import Derived.Deep.RegionHeld3
import Derived.Deep.RegionLaw
set_option maxRecDepth 8000
namespace Go.Proofs.YtchcmgaohcldjaaGreatDoor
open Go.ChangeShapes Go.WideShapes Go.ChangeAt Go.RowKit
/-! the draw of masks. -/
def smallM (xs : List Int) (n : Nat) : Prop := ∀ k, k < n → -4 ≤ nth xs k ∧ nth xs k ≤ 64
theorem smallM_push {xs : List Int} {n : Nat} {x : Int} (h : smallM xs n) (hl : xs.length = n) (hx : 0 ≤ x ∧ x ≤ 64) : smallM (xs ++ [x]) (n + 1) := fun k hk => by
  rw [nth_push hl]
  split
  · exact h k (by assumption)
  · split
    · omega
    · omega
theorem smallM_b64 {xs : List Int} {n : Nat} (h : smallM xs n) (hl : xs.length = n) : B64 xs := b64_of hl fun k hk => by have := h k hk; omega
/-- what the values of a drawn mask's region are, in the order of the text. -/
def MkG (lo G : Nat) (A : Option Addr) (u c : Nat) (xs : List Int) (s q : Int) : Nat → Value → World → Prop
  | 0, v, _ => v = .slice A u c
  | 1, v, _ => v = .pointer (some ⟨G, 0, none⟩)
  | 2, v, _ => v = .int .i64 s
  | 3, v, _ => v = .int .i64 q
  | 4, v, _ => ∃ x, v = .int .i64 x ∧ 0 ≤ x ∧ x < q
  | 5, v, _ => ∃ x, v = .int .i64 x ∧ 0 ≤ x ∧ x ≤ 64
  | 6, v, _ => v = .int .i64 s
  | 7, v, _ => v = .int .i64 (s + 1)
  | 8, v, _ => v = .int .i64 (q + q)
  | 9, v, _ => v = .int .i64 (q + q - 2)
  | 10, v, _ => v = .pointer (some ⟨G, 0, none⟩)
  | 11, v, _ => v = .int .i64 s
  | 12, v, _ => ∃ x, v = .int .i64 x ∧ 0 ≤ x ∧ x < s
  | 13, v, _ => ∃ x, v = .int .i64 x ∧ 1 ≤ x ∧ x ≤ 4
  | 14, v, _ => ∃ x, v = .int .i64 x ∧ 0 ≤ x ∧ x ≤ 64
  | 15, v, w => ∃ b x y z, v = .slice (some ⟨b, 0, none⟩) 3 3 ∧ w.heap[b]? = some (.cells #[.int .i64 x, .int .i64 y, .int .i64 z] 3) ∧ (0 ≤ x ∧ x ≤ 64) ∧ (0 ≤ y ∧ y ≤ 64) ∧ (0 ≤ z ∧ z ≤ 64) ∧ b ≠ G ∧ (Value.slice A u c).ownBlock ≠ some b
  | 16, v, _ => v = .pointer (some ⟨G, 0, none⟩)
  | 17, v, _ => ∃ x, v = .int .i64 x ∧ 0 ≤ x ∧ x < 3
  | 18, v, w => ∃ b i x y z, v = .pointer (some ⟨b, i, none⟩) ∧ i < 3 ∧ w.heap[b]? = some (.cells #[.int .i64 x, .int .i64 y, .int .i64 z] 3) ∧ (0 ≤ x ∧ x ≤ 64) ∧ (0 ≤ y ∧ y ≤ 64) ∧ (0 ≤ z ∧ z ≤ 64) ∧ b ≠ G ∧ (Value.slice A u c).ownBlock ≠ some b
  | 19, v, _ => ∃ x, v = .int .i64 x ∧ 0 ≤ x ∧ x ≤ 64
  | 20, v, w => ∃ b x, v = .slice (some ⟨b, 0, none⟩) 1 1 ∧ w.heap[b]? = some (.cells #[.int .i64 x] 3) ∧ (0 ≤ x ∧ x ≤ 64) ∧ b ≠ G ∧ (Value.slice A u c).ownBlock ≠ some b
  | 21, v, w => ∃ A' c' x, v = .slice A' (u + 1) c' ∧ Ow w lo A' (u + 1) c' (xs ++ [x]) ∧ 0 ≤ x ∧ x ≤ 64
  | _, _, _ => True
/-- what holds until an operation is done. -/
def MkC (lo B G P u c : Nat) (A : Option Addr) (xs : List Int) (j : Nat) (w : World) : Prop := (j = 4 → Rdr w B G P) ∧ (j = 12 → Rdr w B G (P + 1)) ∧ (j = 17 → Rdr w B G (P + 2)) ∧ (j = 21 → Ow w lo A u c xs)
/-- the word between the parts. -/
def MSt (w : World) (B G P : Nat) (s : Int) (A : Option Addr) (n c : Nat) (xs : List Int) (wr : World) : Prop := 2 ≤ s ∧ s ≤ 4 ∧ (n : Int) = s * s ∧ Ow wr w.heap.size A n c xs ∧ Hid (smallM xs n) ∧ Rdr wr B G P ∧ w.grownBy wr (some G)
/-- nothing of a slice is frozen. -/
def Fz (w : World) (A : Option Addr) (n : Nat) : Prop := ∀ b off, A = some ⟨b, off, none⟩ → ∀ k, k < n → w.frozen? ⟨b, off + k, none⟩ = false
theorem Ow.fz {w : World} {lo g n c : Nat} {xs : List Int} (h : Ow w lo (some ⟨g, 0, none⟩) n c xs) : Hid (Fz w (some ⟨g, 0, none⟩) n) := Lib.hid (fun b off e k hk => by
  injection e with e; injection e with e1 e2 _; subst e1 e2; rw [Nat.zero_add]; exact (h.cell hk).2)
/-- what the values of the bent mask's region are. -/
def StG (G g n c : Nat) (s : Int) : Nat → Value → World → Prop
  | 0, v, _ => v = .slice (some ⟨g, 0, none⟩) n c
  | 1, v, _ => v = .pointer (some ⟨G, 0, none⟩)
  | 2, v, _ => v = .slice (some ⟨g, 0, none⟩) n c
  | 3, v, _ => v = .int .i64 (n : Int)
  | 4, v, _ => ∃ x : Int, v = .int .i64 x ∧ 0 ≤ x ∧ x < (n : Int)
  | 5, v, _ => v = .int .i64 s
  | 6, v, _ => v = .int .i64 (s + 1)
  | 7, v, _ => ∃ x : Int, v = .int .i64 x ∧ -4 ≤ x ∧ x ≤ 64
  | 8, v, w => ∃ b x, v = .slice (some ⟨b, 0, none⟩) 3 3 ∧ w.heap[b]? = some (.cells #[.int .i64 (-2), .int .i64 1, .int .i64 x] 3) ∧ (-4 ≤ x ∧ x ≤ 64) ∧ b ≠ G
  | 9, v, _ => v = .pointer (some ⟨G, 0, none⟩)
  | 10, v, _ => ∃ x : Int, v = .int .i64 x ∧ 0 ≤ x ∧ x < 3
  | 11, v, w => ∃ b i x, v = .pointer (some ⟨b, i, none⟩) ∧ i < 3 ∧ w.heap[b]? = some (.cells #[.int .i64 (-2), .int .i64 1, .int .i64 x] 3) ∧ (-4 ≤ x ∧ x ≤ 64) ∧ b ≠ G
  | 12, v, _ => ∃ x : Int, v = .int .i64 x ∧ -4 ≤ x ∧ x ≤ 64
  | 13, v, _ => ∃ j : Nat, v = .pointer (some ⟨g, j, none⟩) ∧ j < n
  | _, _, _ => True
theorem smallM_set {xs : List Int} {n j : Nat} {x : Int} (h : smallM xs n) (hx : -4 ≤ x ∧ x ≤ 64) : smallM (xs.set j x) n := fun k hk => by
  by_cases hj : j < xs.length
  · rw [nth_set hj]
    split
    · exact hx
    · exact h k hk
  · rw [List.set_eq_of_length_le (by omega)]; exact h k hk
theorem start_mvd {s : Int} {gi : List Int} {rs : List RuleM} {n : Nat} (hl : gi.length = n) (hv : pvB s gi rs = true) : (startL s gi rs n).length = n ∧ mvd (startL s gi rs n) s = true := by
  obtain ⟨t, rfl, hs, hn, _, hok⟩ := pv_grid hv hl
  have e : startL t gi rs n = mapTo (startC gi t) n := by simp [startL, hv]
  rw [e]
  refine ⟨mapTo_length _ _, ?_⟩
  simp only [mvd, Bool.and_eq_true, beq_iff_eq, mapTo_length, Int.toNat_natCast]
  refine ⟨⟨by simp at hs; simp [inr]; omega, hn⟩, allTo_all (n := n) (fun k hk => ?_) (mapTo_length _ _)⟩
  rw [mapTo_nth hk]
  obtain ⟨y0, y1⟩ := hok k hk
  unfold startC
  have hk4 : nth gi k = 0 ∨ nth gi k = 1 ∨ nth gi k = 2 ∨ nth gi k = 3 ∨ nth gi k = 4 := by simp at hs; omega
  simp at hs
  rcases hs with rfl | rfl | rfl <;> rcases hk4 with h | h | h | h | h <;> rw [h] at y1 ⊢ <;> first | (exfalso; revert y1; decide) | decide
set_option maxRecDepth 8000
theorem RdB.alloc_ {w : World} {A : Option Addr} {n : Nat} {bs : List Int} (h : RdB w w.heap.size A n bs) (o : Obj) : RdB (w.alloc o) (w.alloc o).heap.size A n bs := by
  have h' := h.below ((Below.refl w.heap.size w).alloc (Nat.le_refl _) o)
  refine ⟨h'.1, fun hn => ?_, h'.2.2⟩
  obtain ⟨b, off, e, hb, hc⟩ := h'.2.1 hn
  exact ⟨b, off, e, by rw [World.size_alloc]; omega, hc⟩
theorem results_ct {P : Program} {fn : Func} {p q : Tmp} {ty : TypeId} (h : fn.results = #[.cell p ty, .tmp q]) (tmps : Array Value) (w : World) (g : Nat) (t : TypeId) (cs : Array Value) (fr : Nat × Nat) (d : TypeDesc) (b : Value)
    (hp : tmps.getD p undef = .pointer (some ⟨g, 0, none⟩)) (hq : tmps.getD q undef = b) (hg : w.heap[g]? = some (.cells cs t fr))
    (hu : P.underlying ty = some d) (hd : (match d with | .struct _ | .array _ _ => true | _ => false) = true) (hi : (P.info? ty).map (·.size) = some cs.size) :
    (results fn tmps).run P w = .ok (.tuple #[.agg cs, b]) w := by
  have hp' : tmps[p]?.getD undef = .pointer (some ⟨g, 0, none⟩) := by simpa using hp
  have hq' : tmps[q]?.getD undef = b := by simpa using hq
  simp [results, h, hp', hq', asAddr, run_loadVar_row w g t ty cs fr d hg hu hd hi]
set_option maxRecDepth 8000
/-- what a draw of a puzzle hands back. -/
def DrawnP (w : World) (e : Ending) (w' : World) : Prop := ∃ s A1 n c1 gi A2 nr c2 rs, e = .returned (.agg #[.int .i64 s, .slice A1 n c1, .slice A2 nr c2]) ∧ 2 ≤ s ∧ s ≤ 4 ∧ Rd w' w'.heap.size A1 n gi ∧ n ≤ 16 ∧ OwR w' w.heap.size (.slice A2 nr c2) rs nr ∧ rs.length = nr ∧ nr ≤ 100 ∧ Below w.heap.size w w'
theorem rd_keepV {w w' : World} {G B n : Nat} {A : Option Addr} {xs : List Int} (h : Rd w B A n xs) (hB : B ≤ w.heap.size) (hg : w.grownBy w' (some G)) (hne : ∀ b off, A = some ⟨b, off, none⟩ → G < b) : Rd w' B A n xs := by
  refine ⟨h.1, fun hn => ?_⟩
  obtain ⟨b, off, e, hlt, hc⟩ := h.2 hn
  exact ⟨b, off, e, hlt, fun k hk => (grown_at hg _ _ (hne b off e) (by omega)).trans (hc k hk)⟩
/-- without rules a valid puzzle is valid; with a rule of no kind it is not. -/
theorem pv_none {s : Int} {gi : List Int} {rs : List RuleM} (h : pvB s gi rs = true) : pvB s gi [] = true := pv_nil (pv_gv h).1
set_option maxRecDepth 8000
/-- what a draw of a puzzle and masks hands back. -/
def DrewWork (w : World) (B G P : Nat) (e : Ending) (w' : World) : Prop := ∃ s A1 n c1 gi A2 nr c2 rs A k c m, e = .returned (.tuple #[.agg #[.int .i64 s, .slice A1 n c1, .slice A2 nr c2], .slice A k c]) ∧ 2 ≤ s ∧ s ≤ 4 ∧ Rd w' w'.heap.size A1 n gi ∧ n ≤ 16 ∧ (∀ b off, A1 = some ⟨b, off, none⟩ → w.heap.size ≤ b) ∧ OwR w' w.heap.size (.slice A2 nr c2) rs nr ∧ rs.length = nr ∧ nr ≤ 100 ∧ Ow w' w.heap.size A k c m ∧ k ≤ 17 ∧ Hid (smallM m k) ∧ Rdr w' B G P ∧ w.grownBy w' (some G)
/-- the masks, in their own block, between the parts. -/
def WSt (W : World) (B G P N : Nat) (A : Option Addr) (k c : Nat) (m : List Int) (wr : World) : Prop := Ow wr W.heap.size A k c m ∧ k ≤ N ∧ Hid (smallM m k) ∧ Rdr wr B G P ∧ W.grownBy wr (some G)
set_option maxHeartbeats 8000000 in
theorem l20Work_any (B G P : Nat) (w : World) (h : Rdr w B G P) (hBG : B ≤ G) (hP : P ≤ 40) :
    Calls Tryz.prog 67 #[.pointer (some ⟨G, 0, none⟩)] w (DrewWork w B G (P + 900)) := by
  have Hone := Lib.hid puz_one
  have Hi := Lib.hid puz_info
  have hGw0 := h.lt
  have hBw0 : B ≤ w.heap.size := by omega
  have h1 := h.alloc hBw0 (.cells #[.int .i64 0, .slice none 0 0, .slice none 0 0] 26)
  obtain ⟨w0, hW⟩ : ∃ w0, w0 = w.alloc (.cells #[.int .i64 0, .slice none 0 0, .slice none 0 0] 26) := ⟨_, rfl⟩
  rw [← hW] at h1
  have hs0 : w0.heap.size = w.heap.size + 1 := by rw [hW]; simp
  have hb00 : Below w.heap.size w w0 := by rw [hW]; exact (Below.refl _ _).alloc (Nat.le_refl _) _
  have hR0 : w0.heap[w.heap.size]? = some (.cells #[.int .i64 0, .slice none 0 0, .slice none 0 0] 26) := by rw [hW]; exact heap_alloc_new w _
  have HW := Lib.hid hW
  clear hW
  go_enter Tryz.func67, Tryz.ntmps67
  go_wp2_with fail
  rw [← HW.out]
  refine (l20Puzzle_any B G P 14 w0 h1 hBG (by omega) (by omega)).mono ?_
  rintro e w5 ⟨s5, A1, n1, c1, gi, A2, nr, c2, rs, rfl, t2, t4, hrd, hn16, hlo1, hR, hl, hnr, hr5, hg5, _⟩
  have hG5 : G < w5.heap.size := hr5.lt
  have h05 := hg5.size
  have hx0 := pbox_new w5 s5 A1 n1 c1 A2 nr c2 26
  have hbA : Below w5.heap.size w5 (w5.alloc (.cells #[.int .i64 s5, .slice A1 n1 c1, .slice A2 nr c2] 26)) := (Below.refl _ _).alloc (Nat.le_refl _) _
  have hsA : (w5.alloc (.cells #[.int .i64 s5, .slice A1 n1 c1, .slice A2 nr c2] 26)).heap.size = w5.heap.size + 1 := by simp
  have hrA := hr5.alloc (show B ≤ w5.heap.size by omega) (.cells #[.int .i64 s5, .slice A1 n1 c1, .slice A2 nr c2] 26)
  have hgA : w0.grownBy (w5.alloc (.cells #[.int .i64 s5, .slice A1 n1 c1, .slice A2 nr c2] 26)) (some G) := only_alloc hg5 _
  obtain ⟨W, hW⟩ : ∃ W, w5.alloc (.cells #[.int .i64 s5, .slice A1 n1 c1, .slice A2 nr c2] 26) = W := ⟨_, rfl⟩
  rw [hW] at hx0 hsA hrA hgA
  have hneG : ∀ b off, A1 = some ⟨b, off, none⟩ → G < b := fun b off e => by have := hlo1 b off e; omega
  have hRA : OwR W w0.heap.size (.slice A2 nr c2) rs nr := by rw [← hW]; exact hR.below hbA
  have hrdW : Rd W w5.heap.size A1 n1 gi := by rw [← hW]; exact hrd.below (hbA.mono (Nat.le_refl _))
  have hGW : G < W.heap.size := by omega
  have HPB := Lib.hid (fun wr (hg : W.grownBy wr (some G)) => (⟨(hg.cell_far ⟨w5.heap.size, 0, none⟩ (by show w5.heap.size < _; omega) (fun e2 => by have e3 : w5.heap.size = G := Option.some.inj e2; omega)).trans hx0.1, (hg.cell_far ⟨w5.heap.size, 1, none⟩ (by show w5.heap.size < _; omega) (fun e2 => by have e3 : w5.heap.size = G := Option.some.inj e2; omega)).trans hx0.2.1, (hg.cell_far ⟨w5.heap.size, 2, none⟩ (by show w5.heap.size < _; omega) (fun e2 => by have e3 : w5.heap.size = G := Option.some.inj e2; omega)).trans hx0.2.2⟩ : PBox wr w5.heap.size s5 A1 n1 c1 A2 nr c2))
  have HRd := Lib.hid (fun wr (hg : W.grownBy wr (some G)) => rd_keepV hrdW (by omega) hg hneG)
  have HPG := Lib.hid (fun wr (hg : W.grownBy wr (some G)) => (⟨(rd_keepV hrdW (by omega) hg hneG).more (by have := hg.size; omega), Nat.le_refl _, by omega, (hRA.keptL hg (by omega)).rd hl, Nat.le_refl _, by omega⟩ : PGs wr s5 A1 n1 c1 wr.heap.size gi A2 nr c2 wr.heap.size rs))
  have HSM := Lib.hid (specStartMasks s5 A1 n1 c1 W.heap.size gi A2 nr c2 W.heap.size rs W (HPG.out W (World.grownBy.refl _ _)))
  have HR0 := Lib.hid ((hgA.block w.heap.size (by omega) (fun e => by have := Option.some.inj e; omega)).trans hR0)
  have HW2 := Lib.hid hW
  have HFin := Lib.hid (And.intro hrdW (And.intro hRA (And.intro hgA (And.intro hb00 (And.intro hlo1 hneG)))))
  obtain ⟨z0, z1, z2⟩ := id hx0
  have hsb : -9223372036854775808 ≤ s5 ∧ s5 ≤ 9223372036854775807 := by omega
  have hstart : (startL s5 gi rs n1).length ≤ 16 ∧ smallM (startL s5 gi rs n1) (startL s5 gi rs n1).length ∧ (0 < (startL s5 gi rs n1).length → pvB s5 gi rs = true) := by
    by_cases hv : pvB s5 gi rs = true
    · obtain ⟨h1, h2⟩ := start_mvd hrd.1 hv
      exact ⟨by omega, fun k _ => by have := mvd_nth h2 k; omega, fun _ => hv⟩
    · have e : startL s5 gi rs n1 = [] := by simp [startL, hv]
      rw [e]
      exact ⟨by simp, fun k hk => absurd hk (by simp), fun h => absurd h (by simp)⟩
  obtain ⟨k0, hk0⟩ : ∃ k0, k0 = (startL s5 gi rs n1).length := ⟨_, rfl⟩
  rw [← hk0] at hstart
  have Hk0 := Lib.hid hk0.symm
  have Hgl := Lib.hid hrd.1
  have hsW : w5.heap.size < W.heap.size := by omega
  clear hsA hs0
  have hs0 : w.heap.size < w0.heap.size := (Array.getElem?_eq_some_iff.1 hR0).1
  have hr0 := hrA
  clear hW hx0 hbA h hg5 hR hrd hk0 h1 hR0 hb00 hRA hrdW hgA hlo1 hneG hrA
  go_upto_region 2 with fail
  rw [HW2.out]
  go_upto_region 3 with (go_at_call 54; refine HSM.out.mono ?_; rintro e w6 ⟨A6, c6, rfl, ho6, hb6⟩; rw [Hk0.out] at ho6 ⊢)
  have hst0 : WSt W B G (P + 850) 16 A6 k0 c6 (startL s5 gi rs n1) w6 := ⟨ho6, hstart.1, Lib.hid hstart.2.1, (hr0.below hb6 (by omega)).more (by omega), grown_of_below hb6⟩
  obtain ⟨_, _, hpos⟩ := hstart
  clear ho6 hb6 z0 z1 z2 hr0
  go_cut [17] from 6 (fun bv wx => ∃ bb : Bool, bv = .bool bb ∧ (bb = true → 0 < k0) ∧ WSt W B G (P + 851) 16 A6 k0 c6 (startL s5 gi rs n1) wx)
  case first =>
    obtain ⟨ho, hk, hsm, hr, hg⟩ := hst0
    go_wp2_with fail
    refine (pick_any B G (P + 850) 2 _ hr hBG (by omega)).mono ?_
    rintro e w7 ⟨v, rfl, ⟨v0, v1, _⟩, hr7, hg7⟩
    have hv : v = 0 ∨ v = 1 := by have := v1 (by omega); omega
    have ho7 := ho.keptG hg7 hGW
    have hg17 := hg.trans hg7
    have hr7' := hr7.more (show P + 850 + 1 ≤ P + 851 by omega)
    clear v1 v0 ho hr hg hg7 hr7
    rcases hv with rfl | rfl
    · by_cases h0 : 0 < k0
      · have h0I : (0 : Int) < (k0 : Int) := by omega
        go_wp2
        go_meet
        case rel => first | exact ⟨true, rfl, fun _ => h0, ho7, hk, hsm, hr7', hg17⟩ | exact ⟨true, by simp [h0], fun _ => h0, ho7, hk, hsm, hr7', hg17⟩
      · obtain rfl : k0 = 0 := by omega
        go_wp2
        go_meet
        case rel => exact ⟨false, rfl, fun h => (by cases h), ho7, hk, hsm, hr7', hg17⟩
    · go_wp2
      go_meet
      case rel => exact ⟨false, rfl, fun h => (by cases h), ho7, hk, hsm, hr7', hg17⟩
  case rest =>
  obtain ⟨bb, rfl, hbb, hst1⟩ := hcut
  clear hst0
  go_upto_if 17 with fail
  go_cut [5] from 6 (fun mv wx => ∃ A k c m, mv = .slice A k c ∧ WSt W B G (P + 851) 16 A k c m wx)
  case first =>
    cases bb
    · go_wp2
      go_meet
      case rel => exact ⟨A6, k0, c6, _, rfl, hst1⟩
    · obtain ⟨ho, hk, hsm, hr, hg⟩ := hst1
      have hv := hpos (hbb rfl)
      obtain ⟨hsl, hsv⟩ := start_mvd Hgl.out hv
      obtain rfl : k0 = n1 := by rw [← Hk0.out]; exact hsl
      obtain ⟨q0, q1, q2⟩ := HPB.out _ hg
      have HN := Lib.hid (specNarrowAll s5 A1 k0 c1 wc.heap.size gi A2 nr c2 wc.heap.size rs A6 c6 k0 wc.heap.size _ 1 wc (HPG.out _ hg) ho.rd (Nat.le_refl _) (by omega) hsb hv hsv (by omega) (by omega))
      have hgs := hg.size
      clear hbb
      go_wp2_with (go_at_call 36; refine HN.out.mono ?_; rintro e w8 ⟨A8, c8, o, r8, rfl, ho8, hmo, hb8⟩)
      go_meet
      case rel => exact ⟨A8, k0, c8, o, rfl, ho8.mono hgs, hk, Lib.hid (fun k _ => by have := mvd_nth hmo k; omega), hr.below hb8 (by omega), grown_low hg (hb8.mono hgs)⟩
  case rest =>
  obtain ⟨A, k, c, m, rfl, hst2⟩ := hcut
  clear hst1 hbb hpos hsb
  go_upto_region 5 with fail
  go_cut [30] from 6 (fun bv wx => ∃ bb : Bool, bv = .bool bb ∧ (bb = true → 0 < k) ∧ WSt W B G (P + 852) 16 A k c m wx)
  case first =>
    obtain ⟨ho, hk, hsm, hr, hg⟩ := hst2
    by_cases h0 : 0 < k
    · have h0I : (0 : Int) < (k : Int) := by omega
      go_wp2_with fail
      refine (odd_any B G (P + 851) 9 _ hr hBG (by omega) (by omega)).mono ?_
      rintro e w7 ⟨b, rfl, _, hr7, hg7⟩
      have ho7 := ho.keptG hg7 hGW
      have hg17 := hg.trans hg7
      clear ho hr hg hg7
      go_wp2
      go_meet
      case rel => exact ⟨b, by simp, fun _ => h0, ho7, hk, hsm, hr7, hg17⟩
    · obtain rfl : k = 0 := by omega
      go_wp2
      go_meet
      case rel => exact ⟨false, rfl, fun h => (by cases h), ho, hk, hsm, hr.more (by omega), hg⟩
  case rest =>
  obtain ⟨bb, rfl, hbb, hst3⟩ := hcut
  clear hst2
  go_upto_if 30 with fail
  go_cut [5] from 6 (fun mv wx => ∃ A k c m, mv = .slice A k c ∧ WSt W B G (P + 854) 16 A k c m wx)
  case first =>
    obtain ⟨ho, hk, hsm, hr, hg⟩ := hst3
    cases bb
    · go_wp2
      go_meet
      case rel => exact ⟨A, k, c, m, rfl, ho, hk, hsm, hr.more (by omega), hg⟩
    · have h0 := hbb rfl
      go_wp2_with fail
      refine (pick_any B G (P + 852) (k : Int) _ hr hBG (by omega)).mono ?_
      rintro e w7 ⟨v, rfl, ⟨v0, v1, _⟩, hr7, hg7⟩
      have hv := v1 (by omega)
      have ho7 := ho.keptG hg7 hGW
      have hg17 := hg.trans hg7
      clear v1 ho hr hg hg7
      go_wp2_with fail
      refine (pick_any B G (P + 852 + 1) 16 _ hr7 hBG (by omega)).mono ?_
      rintro e w8 ⟨u, rfl, ⟨u0, u1, _⟩, hr8, hg8⟩
      have hu := u1 (by omega)
      have ho8 := ho7.keptG hg8 hGW
      have hg18 := hg17.trans hg8
      obtain ⟨j, rfl⟩ := Int.eq_ofNat_of_zero_le v0
      have hj : j < k := by omega
      obtain ⟨g, rfl, hgl, hgw⟩ := ho8.form h0
      obtain ⟨hc8, hf8⟩ := ho8.cell hj
      have hop := ho8.putN j (u * 2)
      have hwr : IntKind.i64.wrap (u * 2) = u * 2 := IntWalk.i64_in _ (by omega)
      have hsm8 := Lib.hid (smallM_set (j := j) (x := u * 2) hsm.out ⟨by omega, by omega⟩)
      have hg9 : W.grownBy (w8.setCell ⟨g, j, none⟩ (.int .i64 (u * 2))) (some G) := grown_low hg18 (Below.setCell (p := (⟨g, j, none⟩ : Addr)) (Below.refl _ _) hgl _)
      have hr9 : Rdr (w8.setCell ⟨g, j, none⟩ (.int .i64 (u * 2))) B G (P + 854) := (hr8.belowN (Below.setCell (p := (⟨g, j, none⟩ : Addr)) (Below.refl W.heap.size _) hgl _) hGW (by omega)).more (by omega)
      clear u1 ho7 hr7 hg8 hg17 ho8 hg18 hr8 v0 hv
      go_wp2
      go_meet
      case rel => first | exact ⟨_, k, c, _, rfl, hop, hk, hsm8, hr9, hg9⟩ | (rw [hwr]; exact ⟨_, k, c, _, rfl, hop, hk, hsm8, hr9, hg9⟩)
  case rest =>
  obtain ⟨A, k, c, m, rfl, hst4⟩ := hcut
  clear hst3 hbb
  obtain ⟨ho, hk, hsm, hr, hg⟩ := hst4
  go_wp2_with fail
  refine (odd_any B G (P + 854) 14 _ hr hBG (by omega) (by omega)).mono ?_
  rintro e w7 ⟨b, rfl, _, hr7, hg7⟩
  have ho7 := ho.keptG hg7 hGW
  have hg17 := hg.trans hg7
  clear ho hr hg hg7
  have hR4 := Lib.hid (fun wr (hg : W.grownBy wr (some G)) => show wr.heap[w.heap.size]? = some (.cells #[.int .i64 0, .slice none 0 0, .slice none 0 0] 26) from (hg.block w.heap.size (by omega) (fun e => by have := Option.some.inj e; omega)).trans HR0.out)
  have HEnd := Lib.hid (fun (A' : Option Addr) (k' c' : Nat) (m' : List Int) (wz Y : World) (ho : Ow wz W.heap.size A' k' c' m') (hk : k' ≤ 17) (hsm : Hid (smallM m' k')) (hr : Rdr wz B G (P + 900)) (hg : W.grownBy wz (some G)) (hgY : wz.grownBy Y (some w.heap.size)) => show DrewWork w B G (P + 900) (.returned (.tuple #[.agg #[.int .i64 s5, .slice A1 n1 c1, .slice A2 nr c2], .slice A' k' c'])) Y from by
    obtain ⟨hrdW, hRA, hgA, hb00, hlo1, hneG⟩ := HFin.out
    have hgs := hg.size
    have hsz := hgY.size
    have hbY : Below w.heap.size wz Y := ⟨hgY.os, hgY.tape, hgY.output, hgY.size, fun j hj => hgY.block j (by omega) (fun e => by have := Option.some.inj e; omega)⟩
    exact ⟨s5, A1, n1, c1, gi, A2, nr, c2, rs, A', k', c', m', rfl, t2, t4, (rd_keepV (rd_keepV hrdW (by omega) hg hneG) (by omega) hgY (fun b off e => by have := hlo1 b off e; omega)).more (by omega), hn16, fun b off e => by have := hlo1 b off e; omega, ((hRA.keptL hg (by omega)).keptL hgY (by omega)).mono (by omega), hl, hnr, (ho.keptG hgY (by omega)).mono (by omega), hk, hsm, hr.belowN hbY hGw0 hBw0, grown_low ((grown_of_below hb00).trans (hgA.trans hg)) hbY⟩)
  have hk1 : k ≤ 1099511627776 := by omega
  have hws := hg17.size
  cases b
  · have ho7k := Lib.hid ho7
    have hr7k := Lib.hid hr7
    have hg7k := Lib.hid hg17
    clear ho7 hr7 hg17
    obtain ⟨z0, z1, z2⟩ := HPB.out _ hg7k.out
    have hrow := hR4.out _ hg7k.out
    have c0 := cell_of_row _ _ 0 _ _ (0, 0) hrow
    have c1' := cell_of_row _ _ 1 _ _ (0, 0) hrow
    have c2' := cell_of_row _ _ 2 _ _ (0, 0) hrow
    have f0 := frozen_of_row _ _ 0 _ _ hrow
    have f1 := frozen_of_row _ _ 1 _ _ hrow
    have f2 := frozen_of_row _ _ 2 _ _ hrow
    go_wp2
    have e0 := heap_setCell_same w7 w.heap.size 0 _ _ (.int .i64 s5) hrow
    have e1 := heap_setCell_same _ w.heap.size 1 _ _ (.slice A1 n1 c1) e0
    have e2 := heap_setCell_same _ w.heap.size 2 _ _ (.slice A2 nr c2) e1
    have hgY : (w7).grownBy (((w7.setCell ⟨w.heap.size, 0, none⟩ (.int .i64 s5)).setCell ⟨w.heap.size, 1, none⟩ (.slice A1 n1 c1)).setCell ⟨w.heap.size, 2, none⟩ (.slice A2 nr c2)) (some w.heap.size) := (grown_set.trans grown_set).trans grown_set
    exact bodyPost_ret (v := .tuple #[.agg #[.int .i64 s5, .slice A1 n1 c1, .slice A2 nr c2], .slice A k c]) (results_ct (by rfl) _ _ w.heap.size 26 _ (0, 0) _ _ rfl rfl e2 Tryz.underlying26 rfl (Hi.out _ _ _ _ _ _ _)) rfl (HEnd.out A k c _ w7 _ ho7k.out (by omega) hsm (hr7k.out.more (by omega)) hg7k.out hgY)
  · have hsm9 : Hid (smallM (m ++ [2]) (k + 1)) := Lib.hid (smallM_push hsm.out ho7.len (by omega))
    go_upto_region 9 with (at_builtin; refine push_int rfl (.tmp 42) (.tmp 43) rfl W.heap.size A k c m _ rfl rfl ho7 hk1 hws ?_; intro A9 c9 w9 ho9 hg9; have hb9 : Below W.heap.size w7 w9 := push_below (Below.refl _ _) ho7 (Nat.le_refl _) hws hg9)
    have hg19 := Lib.hid (grown_low hg17 hb9)
    have hr9 := Lib.hid (hr7.belowN hb9 hGW (by omega))
    have ho9k := Lib.hid ho9
    clear ho7 hr7 hg17 hb9 ho9 hg9
    obtain ⟨z0, z1, z2⟩ := HPB.out _ hg19.out
    have hrow := hR4.out _ hg19.out
    have c0 := cell_of_row _ _ 0 _ _ (0, 0) hrow
    have c1' := cell_of_row _ _ 1 _ _ (0, 0) hrow
    have c2' := cell_of_row _ _ 2 _ _ (0, 0) hrow
    have f0 := frozen_of_row _ _ 0 _ _ hrow
    have f1 := frozen_of_row _ _ 1 _ _ hrow
    have f2 := frozen_of_row _ _ 2 _ _ hrow
    go_wp2
    have e0 := heap_setCell_same w9 w.heap.size 0 _ _ (.int .i64 s5) hrow
    have e1 := heap_setCell_same _ w.heap.size 1 _ _ (.slice A1 n1 c1) e0
    have e2 := heap_setCell_same _ w.heap.size 2 _ _ (.slice A2 nr c2) e1
    have hgY : (w9).grownBy (((w9.setCell ⟨w.heap.size, 0, none⟩ (.int .i64 s5)).setCell ⟨w.heap.size, 1, none⟩ (.slice A1 n1 c1)).setCell ⟨w.heap.size, 2, none⟩ (.slice A2 nr c2)) (some w.heap.size) := (grown_set.trans grown_set).trans grown_set
    exact bodyPost_ret (v := .tuple #[.agg #[.int .i64 s5, .slice A1 n1 c1, .slice A2 nr c2], .slice A9 (k + 1) c9]) (results_ct (by rfl) _ _ w.heap.size 26 _ (0, 0) _ _ rfl rfl e2 Tryz.underlying26 rfl (Hi.out _ _ _ _ _ _ _)) rfl (HEnd.out A9 (k + 1) c9 _ w9 _ ho9k.out (by omega) hsm9 (hr9.out.more (by omega)) hg19.out hgY)
set_option maxRecDepth 8000
/-- a puzzle and masks that were drawn. -/
def DrawnW (w : World) (e : Ending) (w' : World) : Prop := ∃ s A1 n c1 gi A2 nr c2 rs A k c m, e = .returned (.tuple #[.agg #[.int .i64 s, .slice A1 n c1, .slice A2 nr c2], .slice A k c]) ∧ 2 ≤ s ∧ s ≤ 4 ∧ Rd w' w'.heap.size A1 n gi ∧ n ≤ 16 ∧ OwR w' w.heap.size (.slice A2 nr c2) rs nr ∧ rs.length = nr ∧ nr ≤ 100 ∧ Ow w' w.heap.size A k c m ∧ k ≤ 17 ∧ Hid (smallM m k) ∧ Below w.heap.size w w'
set_option maxRecDepth 8000
/-- a puzzle, masks and a technique that were drawn. -/
def DrawnB (w : World) (e : Ending) (w' : World) : Prop := ∃ s A1 n c1 gi A2 nr c2 rs A k c m t, e = .returned (.tuple #[.agg #[.int .i64 s, .slice A1 n c1, .slice A2 nr c2], .slice A k c, .int .i64 t]) ∧ 2 ≤ s ∧ s ≤ 4 ∧ Rd w' w'.heap.size A1 n gi ∧ n ≤ 16 ∧ OwR w' w.heap.size (.slice A2 nr c2) rs nr ∧ rs.length = nr ∧ nr ≤ 100 ∧ Ow w' w.heap.size A k c m ∧ k ≤ 17 ∧ Hid (smallM m k) ∧ 0 ≤ t ∧ t < 6 ∧ Below w.heap.size w w'
set_option maxHeartbeats 4000000 in
theorem draw_DrawNarrowBy (A : Option Addr) (n c : Nat) (bs : List Int) (w : World) (h : Code_ w A n c bs) : Calls Tryz.prog 28 #[.slice A n c] w (DrawnB w) := by
  have Hi := Lib.hid puz_info
  have h1 := h.1.alloc_ (.cells #[.int .i64 0, .slice none 0 0, .slice none 0 0] 26)
  obtain ⟨w0, hW⟩ : ∃ w0, w0 = w.alloc (.cells #[.int .i64 0, .slice none 0 0, .slice none 0 0] 26) := ⟨_, rfl⟩
  rw [← hW] at h1
  have hRw : w.heap.size < w0.heap.size := by rw [hW]; simp
  have hb00 : Below w.heap.size w w0 := by rw [hW]; exact (Below.refl _ _).alloc (Nat.le_refl _) _
  have hR0 : w0.heap[w.heap.size]? = some (.cells #[.int .i64 0, .slice none 0 0, .slice none 0 0] 26) := by rw [hW]; exact heap_alloc_new w _
  have HW := Lib.hid hW
  clear hW
  go_enter Tryz.func28, Tryz.ntmps28
  go_wp2_with fail
  rw [← HW.out]
  refine (specOpen A c n bs w0 h1 h.2.1 h.2.2).mono ?_
  rintro e w1 ⟨rfl, hr, hb⟩
  have hR1 := (hb.block w.heap.size hRw).trans hR0
  have hG1 := hr.lt
  go_wp2_with fail
  refine (l20Work_any w0.heap.size w0.heap.size 0 w1 hr (Nat.le_refl _) (by omega)).mono ?_
  rintro e w2 ⟨s, A1, n1, c1', gi, A2, nr, c2', rs, A7, k7, c7, m7, rfl, s2, s4, hrd, hn16, hlo, hR, hl, hnr, ho, hk, hsm, hr2, hg⟩
  have h12 := hg.size
  have hG2 := hr2.lt
  have hs01 := hb.size
  have hx0 := pbox_new w2 s A1 n1 c1' A2 nr c2' 26
  have hbA : Below w2.heap.size w2 (w2.alloc (.cells #[.int .i64 s, .slice A1 n1 c1', .slice A2 nr c2'] 26)) := (Below.refl _ _).alloc (Nat.le_refl _) _
  have hsA : w2.heap.size < (w2.alloc (.cells #[.int .i64 s, .slice A1 n1 c1', .slice A2 nr c2'] 26)).heap.size := by simp
  have hrA := hr2.alloc (show w0.heap.size ≤ w2.heap.size by omega) (.cells #[.int .i64 s, .slice A1 n1 c1', .slice A2 nr c2'] 26)
  have hgA : w1.grownBy (w2.alloc (.cells #[.int .i64 s, .slice A1 n1 c1', .slice A2 nr c2'] 26)) (some w0.heap.size) := only_alloc hg _
  have hrdA := hrd.below hbA
  have hRA := hR.below hbA
  have hoA := ho.below hbA
  obtain ⟨W, hW2⟩ : ∃ W, w2.alloc (.cells #[.int .i64 s, .slice A1 n1 c1', .slice A2 nr c2'] 26) = W := ⟨_, rfl⟩
  rw [hW2] at hx0 hsA hrA hgA hrdA hRA hoA
  have HW2 := Lib.hid hW2
  have HK := Lib.hid (fun wr (hg : W.grownBy wr (some w0.heap.size)) => (⟨(hg.cell_far ⟨w2.heap.size, 0, none⟩ (by show w2.heap.size < _; omega) (fun e2 => by have e3 : w2.heap.size = w0.heap.size := Option.some.inj e2; omega)).trans hx0.1, (hg.cell_far ⟨w2.heap.size, 1, none⟩ (by show w2.heap.size < _; omega) (fun e2 => by have e3 : w2.heap.size = w0.heap.size := Option.some.inj e2; omega)).trans hx0.2.1, (hg.cell_far ⟨w2.heap.size, 2, none⟩ (by show w2.heap.size < _; omega) (fun e2 => by have e3 : w2.heap.size = w0.heap.size := Option.some.inj e2; omega)).trans hx0.2.2⟩ : PBox wr w2.heap.size s A1 n1 c1' A2 nr c2'))
  have HR := Lib.hid (fun wr (hg : W.grownBy wr (some w0.heap.size)) => show wr.heap[w.heap.size]? = some (.cells #[.int .i64 0, .slice none 0 0, .slice none 0 0] 26) from ((hgA.trans hg).block w.heap.size (by omega) (fun e => by have := Option.some.inj e; omega)).trans hR1)
  have HF := Lib.hid (fun wr Y (v : Int) (v0 : 0 ≤ v) (v6 : v < 6) (hg : W.grownBy wr (some w0.heap.size)) (hgr : wr.grownBy Y (some w.heap.size)) => show DrawnB w (.returned (.tuple #[.agg #[.int .i64 s, .slice A1 n1 c1', .slice A2 nr c2'], .slice A7 k7 c7, .int .i64 v])) Y from by
    have hsz := hgr.size
    have hgs := hg.size
    have hb17 : Below w.heap.size w wr := (hb00.trans (hb.mono hb00.size)).trans ⟨(hgA.trans hg).os, (hgA.trans hg).tape, (hgA.trans hg).output, (hgA.trans hg).size, fun j hj => (hgA.trans hg).block j (by omega) (fun e => by injection e with e; omega)⟩
    have hbY : Below w.heap.size wr Y := ⟨hgr.os, hgr.tape, hgr.output, hgr.size, fun j hj => hgr.block j (by omega) (fun e => by have := Option.some.inj e; omega)⟩
    have hrd1 : Rd wr w2.heap.size A1 n1 gi := rd_keepV hrdA (by omega) hg (fun b off e => by have := hlo b off e; omega)
    exact ⟨s, A1, n1, c1', gi, A2, nr, c2', rs, A7, k7, c7, m7, v, rfl, s2, s4, (rd_keepV hrd1 (by omega) hgr (fun b off e => by have := hlo b off e; omega)).more (by omega), hn16, ((hRA.keptL hg (show w0.heap.size < w1.heap.size from hG1)).keptL hgr (by omega)).mono (by omega), hl, hnr, ((hoA.keptG hg (show w0.heap.size < w1.heap.size from hG1)).keptG hgr (by omega)).mono (by omega), hk, hsm, v0, v6, hb17.trans hbY⟩)
  have hr0 := hrA
  clear hrd hR hlo hr hr2 hg hW2 hrA hgA hrdA hRA hx0 hbA ho hoA
  have hrD : Rdr W.drew w0.heap.size w0.heap.size (0 + 900) := hr0.below ((Below.refl _ _).drew) (by omega)
  have HgD := Lib.hid (show W.grownBy W.drew (some w0.heap.size) from grown_drew (World.grownBy.refl W _))
  clear hr0
  go_wp2
  rw [HW2.out]
  obtain ⟨z0, z1, z2⟩ : PBox W w2.heap.size s A1 n1 c1' A2 nr c2' := HK.out W (World.grownBy.refl W _)
  go_region_with (go_at_call 80; refine (pick_any w0.heap.size w0.heap.size _ 6 _ hrD (Nat.le_refl _) (by omega)).mono ?_; rintro e w6 ⟨v, rfl, ⟨v0, v1, _⟩, hr6, hg6⟩; have v6 := v1 (by omega); clear v1; have hgW := HgD.out.trans hg6; obtain ⟨p0, p1, p2⟩ := HK.out _ hgW; have hrow := HR.out _ hgW; have c0 := cell_of_row _ _ 0 _ _ (0, 0) hrow; have c1 := cell_of_row _ _ 1 _ _ (0, 0) hrow; have c2 := cell_of_row _ _ 2 _ _ (0, 0) hrow; have f0 := frozen_of_row _ _ 0 _ _ hrow; have f1 := frozen_of_row _ _ 1 _ _ hrow; have f2 := frozen_of_row _ _ 2 _ _ hrow)
  all_goals
    go_wp2
    have e0 := heap_setCell_same w6 w.heap.size 0 _ _ (.int .i64 s) hrow
    have e1 := heap_setCell_same _ w.heap.size 1 _ _ (.slice A1 n1 c1') e0
    have e2 := heap_setCell_same _ w.heap.size 2 _ _ (.slice A2 nr c2') e1
    have hgY : w6.grownBy (((w6.setCell ⟨w.heap.size, 0, none⟩ (.int .i64 s)).setCell ⟨w.heap.size, 1, none⟩ (.slice A1 n1 c1')).setCell ⟨w.heap.size, 2, none⟩ (.slice A2 nr c2')) (some w.heap.size) := (grown_set.trans grown_set).trans grown_set
    exact bodyPost_ret (v := .tuple #[.agg #[.int .i64 s, .slice A1 n1 c1', .slice A2 nr c2'], .slice A7 k7 c7, .int .i64 v]) (results_c2 (by rfl) _ _ w.heap.size 26 _ (0, 0) _ _ _ rfl rfl rfl e2 Tryz.underlying26 rfl (Hi.out _ _ _ _ _ _ _)) rfl (HF.out w6 _ v v0 v6 hgW hgY)
end Go.Proofs.YtchcmgaohcldjaaGreatDoor
set_option maxRecDepth 8000
namespace Go.Proofs.YtchcmgaohcldjaaGreatDoor
/-! What a grid that fits keeps: with a cell less, without the rules; and it fits as a square. -/
theorem fp_parts {s : Int} {gi g : List Int} {rs : List RuleM} : fpB s gi rs g = true ↔ pvB s gi rs = true ∧ gv g s = true ∧ (∀ i, i < g.length → giveOk gi g i = true) ∧ (∀ i, i < rs.length → rpR s g (rat rs i) = true) ∧ clash g s = false := by
  simp only [fpB, fitB, Bool.and_eq_true, List.all_eq_true, List.mem_range, Bool.not_eq_true']
  constructor
  · rintro ⟨⟨a, b⟩, ⟨c, d⟩, e⟩; exact ⟨a, b, c, d, e⟩
  · rintro ⟨a, b, c, d, e⟩; exact ⟨⟨a, b⟩, ⟨c, d⟩, e⟩
/-- a solution is a solved grid for which every rule holds and which has all that is given. -/
theorem ps_is {s : Int} {gi g : List Int} {rs : List RuleM} (hp : pvB s gi rs = true) (hg : gv g s = true) : psB s gi rs g = (sqSolved g s && ((List.range rs.length).all fun i => rhB (rat rs i).k (rat rs i).xs (rat rs i).v g s) && ((List.range g.length).all fun i => nth gi i == 0 || nth gi i == nth g i)) := by
  have hl := gv_len hg
  have hgf : gf g s = (cnz g g.length : Int) := by simp [gf, hg]
  have hli := gv_len (pv_gv hp).1
  unfold psB sqSolved sqFits
  rw [hgf, ← hl]
  by_cases hf : cnz g g.length = g.length
  · have hn := cnz_all hf
    have e1 : ((cnz g g.length : Int) == (g.length : Int)) = true := by rw [hf]; simp
    rw [e1, Bool.and_true, Bool.and_true, Bool.eq_iff_iff, fp_parts]
    simp only [Bool.and_eq_true, List.all_eq_true, List.mem_range, Bool.not_eq_true', Bool.or_eq_true, beq_iff_eq, hp, hg, true_and]
    have q1 : ∀ i, i < rs.length → (rhB (rat rs i).k (rat rs i).xs (rat rs i).v g s = true ↔ rpR s g (rat rs i) = true) := fun i hi => by
      rw [rh_full ((pv_gv hp).2.2 i hi) hg hf]
      exact Iff.rfl
    have q2 : ∀ i, i < g.length → (giveOk gi g i = true ↔ (nth gi i = 0 ∨ nth gi i = nth g i)) := fun i hi => by
      have h1 := hn i hi
      have h2 := (gv_nth hg hi).1
      have h3 := (gv_nth (pv_gv hp).1 (show i < gi.length by omega)).1
      simp only [giveOk, Bool.not_eq_true', Bool.and_eq_false_iff, decide_eq_false_iff_not, bne_eq_false_iff_eq]
      omega
    constructor
    · rintro ⟨a, b, c⟩
      exact ⟨⟨c, fun i hi => (q1 i hi).2 (b i hi)⟩, fun i hi => (q2 i hi).1 (a i hi)⟩
    · rintro ⟨⟨c, b⟩, a⟩
      exact ⟨fun i hi => (q2 i hi).2 (a i hi), fun i hi => (q1 i hi).1 (b i hi), c⟩
  · have e1 : ((cnz g g.length : Int) == (g.length : Int)) = false := by simp only [beq_eq_false_iff_ne]; omega
    rw [e1]
    simp
end Go.Proofs.YtchcmgaohcldjaaGreatDoor
set_option maxRecDepth 8000
namespace Go.Proofs.YtchcmgaohcldjaaGreatDoor
open Go.ChangeShapes Go.WideShapes Go.ChangeAt Go.RowKit
/-! The fourth technique: within the masks before, and no solution is lost. -/
def anQ (x y : Nat) : Bool := (bits .andNot .i64 (x : Int) (y : Int) != 0) || (List.range 5).all fun t => !x.testBit t || y.testBit t
theorem anQ_key : ∀ x, x < 32 → ∀ y, y < 32 → anQ x y = true := by decide +kernel
theorem an_bits {x y : Nat} (hx : x < 32) (hy : y < 32) (h : bits .andNot .i64 (x : Int) (y : Int) = 0) (t : Nat) (ht : x.testBit t = true) : y.testBit t = true := by
  have t5 : t < 5 := by
    rcases Nat.lt_or_ge t 5 with h | h
    · exact h
    · rw [Nat.testBit_lt_two_pow (Nat.lt_of_lt_of_le hx (Nat.pow_le_pow_right (n := 2) (by omega) h))] at ht; cases ht
  have key := anQ_key x hx y hy
  unfold anQ at key
  rw [h] at key
  simp only [bne_self_eq_false, Bool.false_or, List.all_eq_true, List.mem_range, Bool.or_eq_true, Bool.not_eq_true'] at key
  rcases key t t5 with h | h
  · rw [ht] at h; cases h
  · exact h
theorem Wi.trans {a b c : List Int} {s : Int} (ha : mvd a s = true) (hb : mvd b s = true) (hc : mvd c s = true) (hl : b.length = c.length) (h : Wi a b) (h' : Wi b c) : Wi a c := fun k hk => by
  obtain ⟨a0, a1, _⟩ := mvd_nth ha k
  obtain ⟨b0, b1, _⟩ := mvd_nth hb k
  obtain ⟨c0, c1, _⟩ := mvd_nth hc k
  have e1 := h k (by omega)
  have e2 := h' k hk
  obtain ⟨x, hx⟩ := Int.eq_ofNat_of_zero_le a0
  obtain ⟨y, hy⟩ := Int.eq_ofNat_of_zero_le b0
  obtain ⟨z, hz⟩ := Int.eq_ofNat_of_zero_le c0
  rw [hx, hy] at e1
  rw [hy, hz] at e2
  rw [hx, hz]
  exact an_zero (by omega) (by omega) (fun t ht => an_bits (by omega) (by omega) e2 t (an_bits (by omega) (by omega) e1 t ht))
/-- the values of a rule's cells in a grid that is in the masks, and for which the rule holds, are one of its ways. -/
theorem way_in {k v s : Int} {xs o g : List Int} (hv : rv k xs v s = true) (hh : rhB k xs v g s = true) (hg : gv g s = true) (ho : ∀ i, i < g.length → inMask o g i = true) : pks g xs xs.length ∈ waysN k v (pks o xs xs.length) xs.length := by
  obtain ⟨⟨s2, s4⟩, _, _, hx⟩ := rv_facts rfl hv
  simp only [rhB, Bool.and_eq_true, Bool.not_eq_true'] at hh
  have hnz := mem_ne hh.1.2
  have hlg := gv_len hg
  refine List.mem_filter.2 ⟨allW_mem _ _ _ (by simp [pks_length]) (fun i hi => absurd hi (by simp)) (fun i _ hi => ?_), hh.2⟩
  have hi' : i < xs.length := by simpa using hi
  have h0 := hnz i hi'
  rw [pks_nth hi'] at h0 ⊢
  rw [pks_nth hi']
  obtain ⟨x0, x1⟩ := hx i hi'
  have hp : (nth xs i).toNat < g.length := by omega
  obtain ⟨q0, q1⟩ := gv_nth hg hp
  have hb := ho _ hp
  unfold inMask at hb
  exact bits_iff.2 ⟨(nth g (nth xs i).toNat).toNat, by omega, by omega, by omega, hb⟩
set_option maxRecDepth 8000
/-! the first technique loses no solved grid, and keeps within. -/
/-! counts of values. -/
set_option maxRecDepth 8000
/-! All techniques: within the masks before, no solution is lost; NarrowAll's rounds are counted. -/
/-- at the end: no technique changes anything, and narrowing again makes no round. -/
theorem na_end {s : Int} {gi m : List Int} {rs : List RuleM} {most : Nat} (hv : pvB s gi rs = true) (h4 : most ≤ 4) (hm : mvd m s = true) : (∀ t : Nat, 1 ≤ t → t ≤ most → nbL s gi rs (naE s gi rs most m 0).1 t = (naE s gi rs most m 0).1) ∧ (naE s gi rs most (naE s gi rs most m 0).1 0).2 = 0 := by
  have h := naE_end (r := 0) hv h4 hm
  exact ⟨fun t t1 t2 => ntF_none h t t1 (by omega), by rw [naE_none h]⟩
theorem mvd_le {m : List Int} {s : Int} (h : mvd m s = true) (k : Nat) : nth m k ≤ 2 ^ (s.toNat + 1) - 2 := by
  obtain ⟨⟨s2, s4⟩, _, _, _⟩ := mvd_at h
  simp only [mvd, Bool.and_eq_true, List.all_eq_true] at h
  by_cases hk : k < m.length
  · have e : nth m k = m[k] := by simp [nth, List.getD_eq_getElem?_getD, hk]
    have := h.2 (nth m k) (by rw [e]; exact List.getElem_mem hk)
    unfold mkOk at this
    rw [Bool.and_eq_true] at this
    exact (inr_t this.1).2
  · have e : nth m k = 0 := by simp [nth, List.getD_eq_getElem?_getD, List.getElem?_eq_none (Nat.le_of_not_lt hk)]
    rw [e]
    have : s.toNat = 2 ∨ s.toNat = 3 ∨ s.toNat = 4 := by omega
    rcases this with h | h | h <;> rw [h] <;> decide
/-- the values that a line has in the masks of its first cells. -/
def orLn (x : List Int) (s u : Int) : Nat → Nat
  | 0 => 0
  | i + 1 => orLn x s u i ||| (nth x (lineAt s u i).toNat).toNat
theorem orLn_lt {x : List Int} {s u : Int} (hm : mvd x s = true) (i : Nat) : orLn x s u i < 32 := by
  induction i with
  | zero => simp [orLn]
  | succ i ih =>
    have := mvd_nth hm (lineAt s u i).toNat
    exact Nat.or_lt_two_pow (n := 5) ih (by omega)
theorem orLn_bit {x : List Int} {s u : Int} {t : Nat} (i : Nat) : (orLn x s u i).testBit t = true ↔ ∃ j, j < i ∧ (nth x (lineAt s u j).toNat).toNat.testBit t = true := by
  induction i with
  | zero => simp [orLn]
  | succ i ih =>
    simp only [orLn]
    rw [Nat.testBit_or, Bool.or_eq_true, ih]
    constructor
    · rintro (⟨j, h1, h2⟩ | h)
      · exact ⟨j, by omega, h2⟩
      · exact ⟨i, by omega, h⟩
    · rintro ⟨j, h1, h2⟩
      by_cases e : j = i
      · subst e; exact .inr h2
      · exact .inl ⟨j, by omega, h2⟩
def maxB (T x : Nat) : Bool := Nat.blt T x || (x % 2 == 1) || (List.range 5).all fun t => !x.testBit t || T.testBit t
theorem maxB_key : ∀ s ∈ [2, 3, 4], ∀ x, x < 32 → maxB (2 ^ (s + 1) - 2) x = true := by decide +kernel
def allB (s t : Nat) : Bool := ((2 ^ (s + 1) - 2).testBit t) == (decide (1 ≤ t) && decide (t ≤ s))
theorem allB_key : ∀ s ∈ [2, 3, 4], ∀ t, t < 5 → allB s t = true := by decide +kernel
/-- in masks that a solved grid is in, every line has every value. -/
theorem orLn_all {x g : List Int} {s u : Nat} (hs : s ∈ [2, 3, 4]) (hm : mvd x s = true) (hg : sqSolved g s = true) (h : mhB x s g = true) (hu : u < 2 * s) : orLn x s u s = 2 ^ (s + 1) - 2 := by
  simp only [mhB, Bool.and_eq_true, List.all_eq_true, List.mem_range] at h
  obtain ⟨⟨_, hgv⟩, hin⟩ := h
  have hlg := gv_len hgv
  have hln : g.length = s * s := by simp at hs; rcases hs with rfl | rfl | rfl <;> omega
  have hlines := sol_lines hs hln hg u hu
  apply Nat.eq_of_testBit_eq
  intro t
  by_cases t5 : t < 5
  · have hk := allB_key s hs t t5
    unfold allB at hk
    rw [beq_iff_eq] at hk
    rw [hk, Bool.eq_iff_iff, Bool.and_eq_true, decide_eq_true_eq, decide_eq_true_eq, orLn_bit]
    constructor
    · rintro ⟨j, hj, hb⟩
      have hx := mvd_le hm (lineAt s u j).toNat
      obtain ⟨x0, x1, x2⟩ := mvd_nth hm (lineAt s u j).toNat
      rw [Int.toNat_natCast] at hx
      obtain ⟨y, hy⟩ := Int.eq_ofNat_of_zero_le x0
      rw [hy] at hx hb x1 x2
      rw [Int.toNat_natCast] at hb
      have hmx := maxB_key s hs y (by omega)
      unfold maxB at hmx
      have hpow : ((2 : Int) ^ (s + 1) - 2) = ((2 ^ (s + 1) - 2 : Nat) : Int) := by simp at hs; rcases hs with rfl | rfl | rfl <;> rfl
      rw [hpow] at hx
      rw [Int.tmod_eq_emod_of_nonneg (by omega)] at x2
      have c1 : Nat.blt (2 ^ (s + 1) - 2) y = false := by
        cases e : Nat.blt (2 ^ (s + 1) - 2) y
        · rfl
        · have := Nat.blt_eq ▸ e; omega
      have c2 : (y % 2 == 1) = false := by rw [beq_eq_false_iff_ne]; omega
      rw [c1, c2] at hmx
      simp only [Bool.false_or, List.all_eq_true, List.mem_range, Bool.or_eq_true, Bool.not_eq_true'] at hmx
      rcases hmx t t5 with h | h
      · rw [hb] at h; cases h
      · rw [hk, Bool.and_eq_true, decide_eq_true_eq, decide_eq_true_eq] at h; exact h
    · rintro ⟨t1, t2⟩
      obtain ⟨j, hj, e⟩ := hlines t t1 t2
      refine ⟨j, hj, ?_⟩
      have := hin (lineAt s u j).toNat (by rw [hln]; exact line_at hs hu j hj)
      unfold inMask at this
      unfold lineV at e
      rw [e, Int.toNat_natCast] at this
      exact this
  · have h1 := orLn_lt (u := u) hm s
    rw [Nat.testBit_lt_two_pow (Nat.lt_of_lt_of_le (show orLn x (s : Int) (u : Int) s < 2 ^ 5 from h1) (Nat.pow_le_pow_right (by omega) (show 5 ≤ t by omega)))]
    have h2 : 2 ^ (s + 1) - 2 < 2 ^ 5 := by simp at hs; rcases hs with rfl | rfl | rfl <;> decide
    rw [Nat.testBit_lt_two_pow (Nat.lt_of_lt_of_le h2 (Nat.pow_le_pow_right (by omega) (by omega)))]
set_option maxRecDepth 8000
/-- the search, by value. -/
def sVal (G OB RB n : Nat) : Value := .agg #[.slice (some ⟨G, 0, none⟩) n n, .slice (some ⟨OB, 0, none⟩) n n, .slice (some ⟨RB, 0, none⟩) n n]
/-- the search's three cells in block g. -/
def SBox (w : World) (g G OB RB n : Nat) : Prop := w.cell? ⟨g, 0, none⟩ = some (.slice (some ⟨G, 0, none⟩) n n) ∧ w.cell? ⟨g, 1, none⟩ = some (.slice (some ⟨OB, 0, none⟩) n n) ∧ w.cell? ⟨g, 2, none⟩ = some (.slice (some ⟨RB, 0, none⟩) n n)
theorem SBox.below {w w' : World} {g B G OB RB n : Nat} (h : SBox w g G OB RB n) (hg : g < B) (hb : Below B w w') : SBox w' g G OB RB n :=
  ⟨(hb.cell (p := ⟨g, 0, none⟩) hg).trans h.1, (hb.cell (p := ⟨g, 1, none⟩) hg).trans h.2.1, (hb.cell (p := ⟨g, 2, none⟩) hg).trans h.2.2⟩
theorem SBox.lt {w : World} {g G OB RB n : Nat} (h : SBox w g G OB RB n) : g < w.heap.size := cell_lt h.1
set_option maxRecDepth 8000
/-! The small ones of the search: items as bits, the lowest item, the last cell of a rule. -/
theorem low_idx : ∀ p, p < 16 → IntKind.u64.wrap (((2 ^ p : Nat) : Int) * 285870213051353865) / 288230376151711744 = ((tzI.getD p 0 : Nat) : Int) ∧ tzI.getD p 0 < 64 := by decide +kernel
/-- the number of the lowest bit. -/
theorem tz64_any (L p : Nat) (w : World) (hL : L < 2 ^ 64) (hb : L.testBit p = true) (h0 : ∀ j, j < p → L.testBit j = false) (hp : p < 16) (hT : Tz w) :
    Calls Tryz.prog 160 #[.int .u64 L] w fun e w' => e = .returned (.int .i64 p) ∧ w = w' := by
  have hpos : 0 < L := by
    rcases Nat.eq_zero_or_pos L with h | h
    · rw [h, Nat.zero_testBit] at hb; cases hb
    · exact h
  obtain ⟨k1, k2⟩ := low_idx p hp
  refine tz64_core L p (tzI.getD p 0) w (by simp; omega) ?_ k2 (by omega) (hT p hp)
  have e : IntKind.u64.wrap (-(L : Int)) = ((2 ^ 64 - L : Nat) : Int) := by
    rw [IntKind.wrap_u64]
    omega
  rw [e, bits_and_u64_nat L (2 ^ 64 - L) (by omega) (by omega), low_and hL hb h0 (by omega)]
  exact k1
set_option maxRecDepth 8000
/-! One cell of the search: its options, its rules. -/
/-- the rules that end at cell p: valid, and none of their cells lies behind it. -/
theorem at_ok {s : Nat} {rs : List RuleM} {p : Nat} (hr : ∀ i, i < rs.length → rvR s (rat rs i) = true) {i : Nat} (hi : i < (rulesAt rs p).length) : rvR s (rat (rulesAt rs p) i) = true ∧ ∀ j, j < (rat (rulesAt rs p) i).xs.length → 0 ≤ nth (rat (rulesAt rs p) i).xs j ∧ (nth (rat (rulesAt rs p) i).xs j).toNat ≤ p := by
  have hm : rat (rulesAt rs p) i ∈ rulesAt rs p := by
    have : rat (rulesAt rs p) i = (rulesAt rs p)[i] := by simp [rat, List.getD_eq_getElem?_getD, hi]
    rw [this]; exact List.getElem_mem hi
  obtain ⟨h1, h2⟩ := List.mem_filter.1 hm
  rw [beq_iff_eq] at h2
  obtain ⟨k, hk, e⟩ := rat_mem h1
  have hv := hr k hk
  rw [e] at hv
  refine ⟨hv, fun j hj => ⟨((rv_cells hv).2 j hj).1, ?_⟩⟩
  have := lastN_ge (xs := (rat (rulesAt rs p) i).xs) hj
  unfold lastR at h2
  omega
/-- what cover leaves: all solutions told, or the one who is told said no. -/
def CovPost (J : List (List Int) → World → Prop) (Jx : World → Prop) (M lo G n : Nat) (vs : List Int) (X : World) (ways : List (List Int)) (e : Ending) (Y : World) : Prop :=
  (e = .returned (.bool true) ∧ J ways Y ∧ MidX M G X Y ∧ ∃ ys, Ow Y lo (some ⟨G, 0, none⟩) n n ys ∧ ∀ i, i < vs.length → nth ys i = nth vs i) ∨ (e = .returned (.bool false) ∧ Jx Y)
set_option maxRecDepth 8000
/-! What the search is built of: rows of options, rows of rules. -/
/-- what the operations of 'rows[c] = append(rows[c], x)' yield. -/
def PsG (SB f OB c n : Nat) (A : Option Addr) (t cap : Nat) (cells : Array Value) (elT : TypeId) (sz lo : Nat) (vs : List Value) (B : Nat) : Nat → Value → World → Prop
  | 0, v, _ => v = .pointer (some ⟨SB, f, none⟩)
  | 1, v, _ => v = .slice (some ⟨OB, 0, none⟩) n n
  | 2, v, _ => v = .int .i64 (c : Nat)
  | 3, v, _ => v = .pointer (some ⟨SB, f, none⟩)
  | 4, v, _ => v = .slice (some ⟨OB, 0, none⟩) n n
  | 5, v, _ => v = .int .i64 (c : Nat)
  | 6, v, _ => v = .pointer (some ⟨OB, c, none⟩)
  | 7, v, _ => v = .slice A t cap
  | 8, v, _ => v = .agg cells
  | 9, v, w => ∃ g, v = .slice (some ⟨g, 0, none⟩) 1 1 ∧ w.heap[g]? = some (.cells cells elT) ∧ (Value.slice A t cap).ownBlock ≠ some g
  | 10, v, w => ∃ g' cap', v = .slice (some ⟨g', 0, none⟩) (t + 1) cap' ∧ w.ownsRow lo elT sz (.slice (some ⟨g', 0, none⟩) (t + 1) cap') (t + 1) (vs ++ cells.toList) ∧ ((Value.slice A t cap).ownBlock = some g' ∨ B ≤ g')
  | 11, v, _ => v = .pointer (some ⟨OB, c, none⟩)
  | _, _, _ => True
/-- the cells of options. -/
def optP (s c : Nat) (x : Int) : Value × Value := (.int .i64 x, .int .u64 ((itN s c x.toNat : Nat) : Int))
/-- the rules' cells, those of their own slices lying at RA with the capacities RC. -/
def rulP (RA : Nat → Option Addr) (RC : Nat → Nat) (rs : List RuleM) (i : Nat) : Value × Value × Value := (.int .i64 (rat rs i).k, .slice (RA i) (rat rs i).xs.length (RC i), .int .i64 (rat rs i).v)
/-- the rules below r whose last cell is c. -/
def ixR (rs : List RuleM) (c r : Nat) : List Nat := (List.range r).filter fun i => lastR (rat rs i) == c
/-- an array of slices. -/
def rowsArr (R : Nat → Value) (n : Nat) : Array Value := ((List.range n).map R).toArray
theorem rowsArr_size (R : Nat → Value) (n : Nat) : (rowsArr R n).size = n := by simp [rowsArr]
theorem rowsArr_get {R : Nat → Value} {n c : Nat} (h : c < n) : (rowsArr R n)[c]? = some (R c) := by simp [rowsArr, h]
def updR (R : Nat → Value) (c : Nat) (v : Value) : Nat → Value := fun j => if j = c then v else R j
theorem rowsArr_set (R : Nat → Value) (n c : Nat) (v : Value) : (rowsArr R n).setIfInBounds c v = rowsArr (updR R c v) n := by
  apply Array.ext_getElem?
  intro i
  rw [Array.getElem?_setIfInBounds]
  by_cases hi : i < n
  · rw [rowsArr_get hi, rowsArr_get hi, rowsArr_size]
    unfold updR
    by_cases e : c = i
    · subst e; rw [if_pos rfl, if_pos hi, if_pos rfl]
    · rw [if_neg e, if_neg (fun e' => e e'.symm)]
  · rw [Array.getElem?_eq_none (by rw [rowsArr_size]; omega), Array.getElem?_eq_none (by rw [rowsArr_size]; omega)]
    split
    · rename_i e; rw [rowsArr_size, if_neg (by omega)]
    · rfl
def Arr (w : World) (g : Nat) (t : TypeId) (R : Nat → Value) (n : Nat) : Prop := w.heap[g]? = some (.cells (rowsArr R n) t)
theorem Arr.lt {w : World} {g n : Nat} {t : TypeId} {R : Nat → Value} (h : Arr w g t R n) : g < w.heap.size := (Array.getElem?_eq_some_iff.1 h).1
theorem Arr.cell {w : World} {g n c : Nat} {t : TypeId} {R : Nat → Value} (h : Arr w g t R n) (hc : c < n) : w.cell? ⟨g, c, none⟩ = some (R c) := (cell_of_row w g c _ _ _ h).trans (rowsArr_get hc)
theorem Arr.set {w : World} {g n : Nat} {t : TypeId} {R : Nat → Value} (h : Arr w g t R n) (c : Nat) (v : Value) : Arr (w.setCell ⟨g, c, none⟩ v) g t (updR R c v) n := by
  unfold Arr
  rw [heap_setCell_same w g c _ _ _ h, rowsArr_set]
theorem Arr.kept {w w' : World} {g n : Nat} {t : TypeId} {R : Nat → Value} (h : Arr w g t R n) (e : w'.heap[g]? = w.heap[g]?) : Arr w' g t R n := e.trans h
/-- one more at j. -/
def bump (C : Nat → Nat) (j : Nat) : Nat → Nat := fun i => if i = j then C i + 1 else C i
/-- how many of the first k cells have each value, a line behind the other, five values each. -/
def cnt (xs : List Int) (s : Nat) : Nat → (Nat → Nat)
  | 0 => fun _ => 0
  | k + 1 => bump (bump (cnt xs s k) (k / s * 5 + (nth xs k).toNat)) ((s + k % s) * 5 + (nth xs k).toNat)
/-- the values up to v that stand in neither of two lines. -/
def freeTo (C : Nat → Nat) (r c : Nat) : Nat → Nat
  | 0 => 0
  | v + 1 => if C (r * 5 + (v + 1)) + C (c * 5 + (v + 1)) = 0 then freeTo C r c v ||| 2 ^ (v + 1) else freeTo C r c v
end Go.Proofs.YtchcmgaohcldjaaGreatDoor
