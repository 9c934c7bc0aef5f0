import Derived.Test.YtmnacejmkjhpnaaCt
import Derived.Test.YtmnacejmkjhpnaaVl
import Derived.Test.YtmnacejmkjhpnaaLn
namespace Go.Proofs.Ytmnacejmkjhpnaa
open Go.ChangeShapes Go.WideShapes Go.ChangeAt Go.RowKit

/-- the cells of the program's counts, five a line, and its size. -/
def ccells (C : Nat → Nat) (s : Int) : Array Value := #[.int .i64 (C 0), .int .i64 (C 1), .int .i64 (C 2), .int .i64 (C 3), .int .i64 (C 4), .int .i64 (C 5), .int .i64 (C 6), .int .i64 (C 7), .int .i64 (C 8), .int .i64 (C 9), .int .i64 (C 10), .int .i64 (C 11), .int .i64 (C 12), .int .i64 (C 13), .int .i64 (C 14), .int .i64 (C 15), .int .i64 (C 16), .int .i64 (C 17), .int .i64 (C 18), .int .i64 (C 19), .int .i64 (C 20), .int .i64 (C 21), .int .i64 (C 22), .int .i64 (C 23), .int .i64 (C 24), .int .i64 (C 25), .int .i64 (C 26), .int .i64 (C 27), .int .i64 (C 28), .int .i64 (C 29), .int .i64 (C 30), .int .i64 (C 31), .int .i64 (C 32), .int .i64 (C 33), .int .i64 (C 34), .int .i64 (C 35), .int .i64 (C 36), .int .i64 (C 37), .int .i64 (C 38), .int .i64 (C 39), .int .i64 s]
theorem ccells_size (C : Nat → Nat) (s : Int) : (ccells C s).size = 41 := rfl
theorem ccell_at (C : Nat → Nat) (s : Int) : ∀ {l : Nat}, l < 40 → (ccells C s)[l]? = some (.int .i64 (C l))
  | 0, _ => rfl
  | 1, _ => rfl
  | 2, _ => rfl
  | 3, _ => rfl
  | 4, _ => rfl
  | 5, _ => rfl
  | 6, _ => rfl
  | 7, _ => rfl
  | 8, _ => rfl
  | 9, _ => rfl
  | 10, _ => rfl
  | 11, _ => rfl
  | 12, _ => rfl
  | 13, _ => rfl
  | 14, _ => rfl
  | 15, _ => rfl
  | 16, _ => rfl
  | 17, _ => rfl
  | 18, _ => rfl
  | 19, _ => rfl
  | 20, _ => rfl
  | 21, _ => rfl
  | 22, _ => rfl
  | 23, _ => rfl
  | 24, _ => rfl
  | 25, _ => rfl
  | 26, _ => rfl
  | 27, _ => rfl
  | 28, _ => rfl
  | 29, _ => rfl
  | 30, _ => rfl
  | 31, _ => rfl
  | 32, _ => rfl
  | 33, _ => rfl
  | 34, _ => rfl
  | 35, _ => rfl
  | 36, _ => rfl
  | 37, _ => rfl
  | 38, _ => rfl
  | 39, _ => rfl
  | n + 40, h => absurd h (by omega)
theorem ccells_set (C : Nat → Nat) (s : Int) : ∀ {l : Nat}, l < 40 → (ccells C s).setIfInBounds l (.int .i64 ((C l + 1 : Nat) : Int)) = ccells (bump C l) s
  | 0, _ => rfl
  | 1, _ => rfl
  | 2, _ => rfl
  | 3, _ => rfl
  | 4, _ => rfl
  | 5, _ => rfl
  | 6, _ => rfl
  | 7, _ => rfl
  | 8, _ => rfl
  | 9, _ => rfl
  | 10, _ => rfl
  | 11, _ => rfl
  | 12, _ => rfl
  | 13, _ => rfl
  | 14, _ => rfl
  | 15, _ => rfl
  | 16, _ => rfl
  | 17, _ => rfl
  | 18, _ => rfl
  | 19, _ => rfl
  | 20, _ => rfl
  | 21, _ => rfl
  | 22, _ => rfl
  | 23, _ => rfl
  | 24, _ => rfl
  | 25, _ => rfl
  | 26, _ => rfl
  | 27, _ => rfl
  | 28, _ => rfl
  | 29, _ => rfl
  | 30, _ => rfl
  | 31, _ => rfl
  | 32, _ => rfl
  | 33, _ => rfl
  | 34, _ => rfl
  | 35, _ => rfl
  | 36, _ => rfl
  | 37, _ => rfl
  | 38, _ => rfl
  | 39, _ => rfl
  | n + 40, h => absurd h (by omega)
theorem cone (C : Nat → Nat) (s : Int) : (ccells C s).all (·.oneCell') = true := by simp [ccells, Value.oneCell']
/-- the counts lie in block g. -/
def CBox (w : World) (g : Nat) (C : Nat → Nat) (s : Int) : Prop := w.heap[g]? = some (.cells (ccells C s) 78)
section
variable {w w' : World} {g : Nat} {C : Nat → Nat} {s : Int}
theorem CBox.lt (h : CBox w g C s) : g < w.heap.size := (Array.getElem?_eq_some_iff.1 h).1
theorem CBox.cell (h : CBox w g C s) {l : Nat} (hl : l < 40) : w.cell? ⟨g, l, none⟩ = some (.int .i64 (C l)) :=
  (cell_of_row _ _ l _ _ (0, 0) h).trans (ccell_at C s hl)
theorem CBox.size_ (h : CBox w g C s) : w.cell? ⟨g, 40, none⟩ = some (.int .i64 s) :=
  (cell_of_row _ _ 40 _ _ (0, 0) h).trans rfl
theorem CBox.frozen (h : CBox w g C s) (l : Nat) : w.frozen? ⟨g, l, none⟩ = false := by
  unfold World.frozen?
  rw [show w.heap[g]? = _ from h]
  simp
theorem CBox.set (h : CBox w g C s) {l : Nat} (hl : l < 40) : CBox (w.setCell ⟨g, l, none⟩ (.int .i64 ((C l : Int) + 1))) g (bump C l) s := by
  show CBox (w.setCell ⟨g, l, none⟩ (.int .i64 ((C l + 1 : Nat) : Int))) g (bump C l) s
  unfold CBox
  rw [heap_setCell_same w g l _ _ _ h, ← ccells_set C s hl]
theorem CBox.below {B : Nat} (h : CBox w g C s) (hg : g < B) (hb : Below B w w') : CBox w' g C s := (hb.block g hg).trans h
theorem CBox.other {g' k : Nat} {v : Value} (h : CBox w g C s) (hne : g ≠ g') : CBox (w.setCell ⟨g', k, none⟩ v) g C s := (heap_setCell_other w _ g v hne).trans h
theorem CBox.stored {C' : Nat → Nat} {s' : Int} (h : CBox w g C s) : CBox (w.setRow g (ccells C' s')) g C' s' := setRow_heap w g _ _ _ _ h
end
theorem cinfo (C : Nat → Nat) (s : Int) : (Try.prog.info? 78).map (·.size) = some (ccells C s).size := by rw [ccells_size]; kernel_rfl

def czero (s : Int) : Array Value := #[.int .i64 0, .int .i64 0, .int .i64 0, .int .i64 0, .int .i64 0, .int .i64 0, .int .i64 0, .int .i64 0, .int .i64 0, .int .i64 0, .int .i64 0, .int .i64 0, .int .i64 0, .int .i64 0, .int .i64 0, .int .i64 0, .int .i64 0, .int .i64 0, .int .i64 0, .int .i64 0, .int .i64 0, .int .i64 0, .int .i64 0, .int .i64 0, .int .i64 0, .int .i64 0, .int .i64 0, .int .i64 0, .int .i64 0, .int .i64 0, .int .i64 0, .int .i64 0, .int .i64 0, .int .i64 0, .int .i64 0, .int .i64 0, .int .i64 0, .int .i64 0, .int .i64 0, .int .i64 0, .int .i64 s]
theorem czero_is (s : Int) : czero s = ccells (fun _ => 0) s := by
  unfold czero ccells
  simp
def cstart (A : Option Addr) (n c : Nat) (s : Int) (w : World) : World := ((w.alloc (.cells #[.slice A n c, .int .i64 s] 51)).alloc (.cells (czero 0) 78)).alloc (.cells (czero 0) 78)
theorem cstart_facts (A : Option Addr) (n c : Nat) (s : Int) (w : World) : CBox (cstart A n c s w) (w.heap.size + 1 + 1) (fun _ => 0) 0 ∧ CBox (cstart A n c s w) (w.heap.size + 1) (fun _ => 0) 0 ∧ (cstart A n c s w).cell? ⟨w.heap.size, 0, none⟩ = some (.slice A n c) ∧ (cstart A n c s w).cell? ⟨w.heap.size, 1, none⟩ = some (.int .i64 s) ∧ Below w.heap.size w (cstart A n c s w) := by
  unfold cstart
  rw [czero_is]
  refine ⟨?_, ?_, ?_, ?_, (((Below.refl _ _).alloc (Nat.le_refl _) _).alloc (by simp) _).alloc (by simp; omega) _⟩
  · have := heap_alloc_new ((w.alloc (Obj.cells #[Value.slice A n c, Value.int IntKind.i64 s] 51)).alloc (Obj.cells (ccells (fun _ => 0) 0) 78)) (.cells (ccells (fun _ => 0) 0) 78)
    simp only [World.size_alloc] at this
    exact this
  · have := heap_alloc_new (w.alloc (Obj.cells #[Value.slice A n c, Value.int IntKind.i64 s] 51)) (.cells (ccells (fun _ => 0) 0) 78)
    simp only [World.size_alloc] at this
    exact (heap_alloc_old _ _ (by simp)).trans this
  · refine (cell_of_row _ _ 0 #[.slice A n c, .int .i64 s] 51 (0, 0) ?_).trans rfl
    rw [heap_alloc_old _ _ (by simp; omega), heap_alloc_old _ _ (by simp)]
    exact heap_alloc_new w _
  · refine (cell_of_row _ _ 1 #[.slice A n c, .int .i64 s] 51 (0, 0) ?_).trans rfl
    rw [heap_alloc_old _ _ (by simp; omega), heap_alloc_old _ _ (by simp)]
    exact heap_alloc_new w _
theorem cell_other {w : World} {g g' k j : Nat} {v : Value} (h : g ≠ g') : (w.setCell ⟨g', k, none⟩ v).cell? ⟨g, j, none⟩ = w.cell? ⟨g, j, none⟩ := by
  unfold World.cell?
  rw [heap_setCell_other w ⟨g', k, none⟩ g v h]
theorem setRow_cell {w : World} {g : Nat} {cs : Array Value} {p : Addr} (h : p.block ≠ g) : (w.setRow g cs).cell? p = w.cell? p := cell_setRow_other w g cs p h
theorem CBox.row_other {w : World} {g g' : Nat} {cs : Array Value} {C : Nat → Nat} {s : Int} (h : CBox w g C s) (hne : g ≠ g') : CBox (w.setRow g' cs) g C s := by
  unfold CBox World.setRow
  simp only [Array.getElem?_modify]
  rw [if_neg (fun e => hne e.symm)]
  exact h

theorem counted_any (A : Option Addr) (c n B s : Nat) (xs : List Int) (w : World) (h : Rd w B A n xs) (hB : B ≤ w.heap.size) (hs : s ∈ [2, 3, 4]) (hn : n = s * s) (hok : Hid (okAll xs s n)) :
    Calls Try.prog 91 #[.agg #[.slice A n c, .int .i64 s]] w fun e w' => e = .returned (.agg (ccells (cnt xs s n) s)) ∧ Below w.heap.size w w' := by
  have hs2 : 2 ≤ s := by simp at hs; omega
  have hs4 : s ≤ 4 := by simp at hs; omega
  have hn16 : n ≤ 16 := by simp at hs; rcases hs with rfl | rfl | rfl <;> omega
  have Hn := Lib.hid hn; clear hn
  have Hi := Lib.hid (fun C => cinfo C s)
  have Hone := Lib.hid (fun C => cone C s)
  obtain ⟨hx0, hy0, hc00, hc01, hb0⟩ := cstart_facts A n c s w
  have hz2 : (((w.alloc (.cells #[.slice A n c, .int .i64 (s : Int)] 51)).alloc (.cells #[.int .i64 0, .int .i64 0, .int .i64 0, .int .i64 0, .int .i64 0, .int .i64 0, .int .i64 0, .int .i64 0, .int .i64 0, .int .i64 0, .int .i64 0, .int .i64 0, .int .i64 0, .int .i64 0, .int .i64 0, .int .i64 0, .int .i64 0, .int .i64 0, .int .i64 0, .int .i64 0, .int .i64 0, .int .i64 0, .int .i64 0, .int .i64 0, .int .i64 0, .int .i64 0, .int .i64 0, .int .i64 0, .int .i64 0, .int .i64 0, .int .i64 0, .int .i64 0, .int .i64 0, .int .i64 0, .int .i64 0, .int .i64 0, .int .i64 0, .int .i64 0, .int .i64 0, .int .i64 0, .int .i64 0] 78)).alloc (.cells #[.int .i64 0, .int .i64 0, .int .i64 0, .int .i64 0, .int .i64 0, .int .i64 0, .int .i64 0, .int .i64 0, .int .i64 0, .int .i64 0, .int .i64 0, .int .i64 0, .int .i64 0, .int .i64 0, .int .i64 0, .int .i64 0, .int .i64 0, .int .i64 0, .int .i64 0, .int .i64 0, .int .i64 0, .int .i64 0, .int .i64 0, .int .i64 0, .int .i64 0, .int .i64 0, .int .i64 0, .int .i64 0, .int .i64 0, .int .i64 0, .int .i64 0, .int .i64 0, .int .i64 0, .int .i64 0, .int .i64 0, .int .i64 0, .int .i64 0, .int .i64 0, .int .i64 0, .int .i64 0, .int .i64 0] 78)).heap[w.heap.size + 1 + 1]? = some (.cells (ccells (fun _ => 0) 0) 78 (0, 0)) := hx0
  have Hz2 := Lib.hid hz2; clear hz2
  have key : ∀ w0, (cstart A n c s w).setRow (w.heap.size + 1 + 1) (ccells (fun _ => 0) s) = w0 → CBox w0 (w.heap.size + 1 + 1) (fun _ => 0) s ∧ CBox w0 (w.heap.size + 1) (fun _ => 0) 0 ∧ w0.cell? ⟨w.heap.size, 0, none⟩ = some (.slice A n c) ∧ w0.cell? ⟨w.heap.size, 1, none⟩ = some (.int .i64 s) ∧ Below w.heap.size w w0 := by
    rintro w0 rfl
    exact ⟨hx0.stored, hy0.row_other (by omega), (setRow_cell (by simp; omega)).trans hc00, (setRow_cell (by simp; omega)).trans hc01, setRow_below hb0 (by omega)⟩
  have Key := Lib.hid key
  clear key hx0 hy0 hc00 hc01 hb0
  go_enter Try.func91, Try.ntmps91
  go_wp2_with (refine wpList_store_row rfl 78 _ _ rfl (w.heap.size + 1 + 1) (ccells (fun _ => 0) s) rfl rfl 78 (ccells (fun _ => 0) 0) Hz2.out (Hi.out _) rfl (Hone.out _) ?_; generalize Value.agg #[.int .i64 0, .int .i64 0, .int .i64 0, .int .i64 0, .int .i64 0, .int .i64 0, .int .i64 0, .int .i64 0, .int .i64 0, .int .i64 0, .int .i64 0, .int .i64 0, .int .i64 0, .int .i64 0, .int .i64 0, .int .i64 0, .int .i64 0, .int .i64 0, .int .i64 0, .int .i64 0, .int .i64 0, .int .i64 0, .int .i64 0, .int .i64 0, .int .i64 0, .int .i64 0, .int .i64 0, .int .i64 0, .int .i64 0, .int .i64 0, .int .i64 0, .int .i64 0, .int .i64 0, .int .i64 0, .int .i64 0, .int .i64 0, .int .i64 0, .int .i64 0, .int .i64 0, .int .i64 0, .int .i64 (s : Int)] = V; generalize hw0 : World.setRow _ _ _ = w0; obtain ⟨hx0, hy0, hc00, hc01, hb0⟩ := Key.out _ hw0; clear hw0)
  clear Hz2 Key
  go_loopw [14] (fun i wr => ∃ k : Nat, k ≤ n ∧ i = .int .i64 k ∧ Hid (CBox wr (w.heap.size + 1 + 1) (cnt xs s k) s) ∧ Hid (CBox wr (w.heap.size + 1) (fun _ => 0) 0) ∧ wr.cell? ⟨w.heap.size, 1, none⟩ = some (.int .i64 s) ∧ Below w.heap.size w wr) (fun i _ => n - (intOf i).toNat)
  case atStart => exact ⟨0, Nat.zero_le _, rfl, Lib.hid hx0, Lib.hid hy0, hc01, hb0⟩
  case round =>
    obtain ⟨k, hk, rfl, hx, hy, hc1, hB0⟩ := hrel
    by_cases hlt : k < n
    · obtain ⟨b, off, rfl, hbB, hck⟩ := (h.below (hB0.mono hB)).at_ hlt
      obtain ⟨x0, x4⟩ := hok.out k hlt
      obtain ⟨v, hv⟩ := Int.eq_ofNat_of_zero_le x0
      rw [hv] at hck
      have hv4 : v ≤ 4 := by omega
      obtain ⟨hr8, hc8⟩ := rc_lt s hs k (by have := Hn.out; omega)
      have Hr : Hid ((k : Int) / (s : Int) = ((k / s : Nat) : Int)) := Lib.hid (by simp)
      have Hc : Hid ((s : Int) + (k : Int) % (s : Int) = ((s + k % s : Nat) : Int)) := Lib.hid (by simp)
      obtain ⟨r, hr⟩ : ∃ r, r = k / s := ⟨_, rfl⟩
      obtain ⟨q, hq⟩ : ∃ q, q = s + k % s := ⟨_, rfl⟩
      have hstep := Lib.hid (show cnt xs s (k + 1) = bump (bump (cnt xs s k) (r * 5 + v)) (q * 5 + v) by simp only [cnt, hv, hr, hq, Int.toNat_natCast])
      rw [← hr] at Hr hr8
      rw [← hq] at Hc hc8
      have hl1 := cnt_le xs s k (r * 5 + v)
      have hl2 : bump (cnt xs s k) (r * 5 + v) (q * 5 + v) ≤ 2 * k + 1 := by
        have := bump_le (cnt xs s k) (r * 5 + v) (q * 5 + v)
        have := cnt_le xs s k (q * 5 + v)
        omega
      clear hr hq
      go_wp2_with (go_at_call 93; refine (linesThrough_rc s k r q _ (by omega) (by omega) (by omega) Hr.out Hc.out).mono ?_; rintro e w1 ⟨rfl, hb1⟩)
      have hx1 := Lib.hid (CBox.below hx.out hx.out.lt hb1)
      have hy1 := Lib.hid (CBox.below hy.out hy.out.lt hb1)
      have hB1 := step hB0 hb1
      have hk1 := hx1.out.cell (l := r * 5 + v) (by omega)
      have hf1 := hx1.out.frozen (r * 5 + v)
      have hr8' : (r : Int) < 8 := by omega
      have hq8' : (q : Int) < 8 := by omega
      have hv5' : (v : Int) < 5 := by omega
      have hc11 : w1.cell? ⟨w.heap.size, 1, none⟩ = some (.int .i64 s) := (hb1.cell (p := ⟨w.heap.size, 1, none⟩) (by have := hx.out.lt; show w.heap.size < _; omega)).trans hc1
      go_region
      go_wp2
      obtain ⟨w2, hw2⟩ : ∃ w2, w2 = (w1.setCell ⟨w.heap.size + 1 + 1, r * 5 + v, none⟩ (.int .i64 ((cnt xs s k (r * 5 + v) : Int) + 1))).drew := ⟨_, rfl⟩
      rw [← hw2]
      have hx2 : CBox w2 (w.heap.size + 1 + 1) (bump (cnt xs s k) (r * 5 + v)) s := by rw [hw2]; exact hx1.out.set (by omega)
      have hy2 : CBox w2 (w.heap.size + 1) (fun _ => 0) 0 := by rw [hw2]; exact hy1.out.other (by omega)
      have hB2 : Below w.heap.size w w2 := by rw [hw2]; exact below_drewN (hB1.setCell (by simp; omega) _) 1
      have hsz2 : w.heap.size < w2.heap.size := by have := hx2.lt; omega
      have hc2 : w2.cell? ⟨w.heap.size, 1, none⟩ = some (.int .i64 s) := by rw [hw2]; exact (cell_other (by omega)).trans hc11
      clear hw2 hk1 hf1
      have hk2 := hx2.cell (l := q * 5 + v) (by omega)
      have hf2 := hx2.frozen (q * 5 + v)
      have hx3 := Lib.hid (hx2.set (l := q * 5 + v) (by omega))
      have hy3 := Lib.hid (hy2.other (k := q * 5 + v) (v := (.int .i64 ((bump (cnt xs s k) (r * 5 + v) (q * 5 + v) : Int) + 1))) (show w.heap.size + 1 ≠ w.heap.size + 1 + 1 by omega))
      have hB3 := below_drewN (Below.setCell (p := (⟨w.heap.size + 1 + 1, q * 5 + v, none⟩ : Addr)) hB2 (by simp; omega) (.int .i64 ((bump (cnt xs s k) (r * 5 + v) (q * 5 + v) : Int) + 1))) 1
      have hc3 : (w2.setCell ⟨w.heap.size + 1 + 1, q * 5 + v, none⟩ (.int .i64 ((bump (cnt xs s k) (r * 5 + v) (q * 5 + v) : Int) + 1))).cell? ⟨w.heap.size, 1, none⟩ = some (.int .i64 s) := (cell_other (by omega)).trans hc2
      go_region
      go_wp2
      go_roundw
      case rel => exact ⟨k + 1, by omega, by go_num, by rw [hstep.out]; exact hx3, hy3, hc3, hB3⟩
      case measure => simp [intOf]; omega
    · obtain rfl : k = n := by omega
      have hxf := Lib.hid (CBox.stored (C' := cnt xs s k) (s' := s) hy.out)
      have hBe := setRow_below (g := w.heap.size + 1) (cs := ccells (cnt xs s k) s) hB0 (by omega)
      go_wp2_with (first | (refine wpList_load_row rfl 78 _ rfl (w.heap.size + 1 + 1) rfl 78 (ccells (cnt xs s k) s) (0, 0) _ hx.out Try.underlying78 rfl (Hi.out _) ?_) | (refine wpList_store_row rfl 78 _ _ rfl (w.heap.size + 1) (ccells (cnt xs s k) s) rfl rfl 78 (ccells (fun _ => 0) 0) hy.out (Hi.out _) rfl (Hone.out _) ?_))
      refine bodyPost_ret (v := .agg (ccells (cnt xs s k) s)) (results_cell_row (by rfl) _ _ (w.heap.size + 1) 78 _ (0, 0) _ rfl hxf.out Try.underlying78 rfl (Hi.out _)) rfl ⟨rfl, hBe⟩
end Go.Proofs.Ytmnacejmkjhpnaa
