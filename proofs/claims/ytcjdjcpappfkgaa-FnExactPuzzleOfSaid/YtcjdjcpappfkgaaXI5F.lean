import Derived.Test.YtcjdjcpappfkgaaXMk
import Derived.Test.YtcjdjcpappfkgaaXAdj
import Derived.Test.YtcjdjcpappfkgaaI5V
import Derived.Test.YtcjdjcpappfkgaaXDrawL
import Derived.Deep.RegionHeld3
namespace Go.Proofs.Ytcjdjcpappfkgaa
open Go.ChangeShapes Go.WideShapes Go.ChangeAt Go.RowKit

/-- the program's masks behind the first k cells. -/
def lmask (xs : List Int) (s : Nat) : Nat → (Nat → Nat)
  | 0 => fun _ => 0
  | k + 1 => if nth xs k = 0 then lmask xs s k else mput (mput (lmask xs s k) (k / s) (nth xs k).toNat) (s + k % s) (nth xs k).toNat
def twice (xs : List Int) (s : Nat) : Nat → Bool
  | 0 => false
  | k + 1 => if nth xs k = 0 then twice xs s k else twice xs s k || ((lmask xs s k (k / s)).testBit (nth xs k).toNat || (lmask xs s k (s + k % s)).testBit (nth xs k).toNat)
/-- a cell lies in a line. -/
def onL (s l i : Nat) : Bool := i / s == l || s + i % s == l
theorem lmask_lt {xs : List Int} {s n : Nat} (hs : (s : Int) ≤ 4) (hok : okAll xs s n) : ∀ k, k ≤ n → ∀ l, l < 8 → lmask xs s k l < 32 := by
  intro k
  induction k with
  | zero => intro _ l _; simp [lmask]
  | succ k ih =>
    intro hk l hl
    have hv := hok k (by omega)
    simp only [lmask]
    split
    · exact ih (by omega) l hl
    · exact mput_lt (mput_lt (ih (by omega)) (by omega)) (by omega) l hl
theorem mput_test (M : Nat → Nat) (l u j v : Nat) : (mput M l u j).testBit v = ((M j).testBit v || (j == l && u == v)) := by
  unfold mput
  by_cases h : j = l
  · rw [if_pos h, Nat.testBit_or, Nat.testBit_two_pow]
    subst h
    rw [Bool.eq_iff_iff]
    simp
  · rw [if_neg h]
    simp [h]
theorem lmask_test {xs : List Int} {s n : Nat} (hok : okAll xs s n) (l v : Nat) : ∀ k, k ≤ n → ((lmask xs s k l).testBit v = true ↔ 0 < v ∧ ∃ i, i < k ∧ onL s l i = true ∧ nth xs i = (v : Int)) := by
  intro k
  induction k with
  | zero => intro _; simp [lmask]
  | succ k ih =>
    intro hk
    have hv := hok k (by omega)
    have ih := ih (by omega)
    simp only [lmask]
    by_cases hz : nth xs k = 0
    · rw [if_pos hz, ih]
      constructor
      · rintro ⟨h0, i, hi, h1, h2⟩; exact ⟨h0, i, by omega, h1, h2⟩
      · rintro ⟨h0, i, hi, h1, h2⟩
        have : i ≠ k := by rintro rfl; omega
        exact ⟨h0, i, by omega, h1, h2⟩
    · rw [if_neg hz, mput_test, mput_test, Bool.or_eq_true, Bool.or_eq_true, ih]
      simp only [Bool.and_eq_true, beq_iff_eq]
      constructor
      · rintro ((⟨h0, i, hi, h1, h2⟩ | ⟨h1, h2⟩) | ⟨h1, h2⟩)
        · exact ⟨h0, i, by omega, h1, h2⟩
        · exact ⟨by omega, k, by omega, by simp [onL, h1], by omega⟩
        · exact ⟨by omega, k, by omega, by simp [onL, h1], by omega⟩
      · rintro ⟨h0, i, hi, h1, h2⟩
        by_cases e : i = k
        · subst e
          simp only [onL, Bool.or_eq_true, beq_iff_eq] at h1
          rcases h1 with h1 | h1
          · exact .inl (.inr ⟨h1.symm, by omega⟩)
          · exact .inr ⟨h1.symm, by omega⟩
        · exact .inl (.inl ⟨h0, i, by omega, h1, h2⟩)
theorem onL_adj : ∀ s ∈ [2, 3, 4], ∀ i, i < s * s → ∀ j, j < s * s → adj s i j = (i != j && (onL s (j / s) i || onL s (s + j % s) i)) := by decide +kernel
theorem twice_iff {xs : List Int} {s n : Nat} (hs : s ∈ [2, 3, 4]) (hn : n = s * s) (hok : okAll xs s n) : ∀ k, k ≤ n → (twice xs s k = true ↔ ∃ i j, i < j ∧ j < k ∧ adj s i j = true ∧ nth xs i = nth xs j ∧ 0 < nth xs j) := by
  intro k
  induction k with
  | zero => intro _; simp [twice]
  | succ k ih =>
    intro hk
    have hv := hok k (by omega)
    have ih := ih (by omega)
    simp only [twice]
    by_cases hz : nth xs k = 0
    · rw [if_pos hz, ih]
      constructor
      · rintro ⟨i, j, h1, h2, h3, h4, h5⟩; exact ⟨i, j, h1, by omega, h3, h4, h5⟩
      · rintro ⟨i, j, h1, h2, h3, h4, h5⟩
        have : j ≠ k := by rintro rfl; omega
        exact ⟨i, j, h1, by omega, h3, h4, h5⟩
    · rw [if_neg hz, Bool.or_eq_true, Bool.or_eq_true, ih, lmask_test hok _ _ k (by omega), lmask_test hok _ _ k (by omega)]
      constructor
      · rintro (⟨i, j, h1, h2, h3⟩ | (⟨h0, i, hi, h1, h2⟩ | ⟨h0, i, hi, h1, h2⟩))
        · exact ⟨i, j, h1, by omega, h3⟩
        · refine ⟨i, k, hi, by omega, ?_, by omega, by omega⟩
          rw [onL_adj s hs i (by omega) k (by omega), h1]
          simp; omega
        · refine ⟨i, k, hi, by omega, ?_, by omega, by omega⟩
          rw [onL_adj s hs i (by omega) k (by omega), h1]
          simp; omega
      · rintro ⟨i, j, h1, h2, h3, h4, h5⟩
        by_cases e : j = k
        · subst e
          rw [onL_adj s hs i (by omega) j (by omega)] at h3
          simp only [Bool.and_eq_true, Bool.or_eq_true] at h3
          rcases h3.2 with h | h
          · exact .inr (.inl ⟨by omega, i, h1, h, by omega⟩)
          · exact .inr (.inr ⟨by omega, i, h1, h, by omega⟩)
        · exact .inl ⟨i, j, h1, by omega, h3, h4, h5⟩
theorem adj_symm : ∀ s ∈ [2, 3, 4], ∀ i, i < s * s → ∀ j, j < s * s → adj s i j = adj s j i ∧ (adj s i j = true → i ≠ j) := by decide +kernel
theorem twice_clash {xs : List Int} {s n : Nat} (hs : s ∈ [2, 3, 4]) (hn : n = s * s) (hok : okAll xs s n) : twice xs s n = clash xs s := by
  rw [Bool.eq_iff_iff, clash_iff hs, twice_iff hs hn hok n (Nat.le_refl _)]
  constructor
  · rintro ⟨i, j, h1, h2, h3, h4, h5⟩; exact ⟨i, j, by omega, by omega, h3, h4, h5⟩
  · rintro ⟨i, j, h1, h2, h3, h4, h5⟩
    have hne := (adj_symm s hs i h1 j h2).2 h3
    rcases Nat.lt_or_ge i j with h | h
    · exact ⟨i, j, h, by omega, h3, h4, h5⟩
    · exact ⟨j, i, by omega, by omega, by rw [← (adj_symm s hs i h1 j h2).1]; exact h3, h4.symm, by omega⟩
def onLine (s l i : Nat) : Bool := (List.range s).any fun a => (lineAt (s : Nat) (l : Nat) a).toNat == i
theorem onL_line : ∀ s ∈ [2, 3, 4], ∀ l, l < 2 * s → ∀ i, i < s * s → onL s l i = onLine s l i := by decide +kernel
theorem line_lt : ∀ s ∈ [2, 3, 4], ∀ l, l < 2 * s → ∀ a, a < s → (lineAt (s : Nat) (l : Nat) a).toNat < s * s := by decide +kernel
theorem lmask_has {xs : List Int} {s n : Nat} (hs : s ∈ [2, 3, 4]) (hn : n = s * s) (hok : okAll xs s n) {l v : Nat} (hl : l < 2 * s) (hv : 0 < v) : (lmask xs s n l).testBit v = hasTo (lineV xs s l) s (v : Int) := by
  rw [Bool.eq_iff_iff, lmask_test hok l v n (Nat.le_refl _), hasTo_iff]
  constructor
  · rintro ⟨_, i, hi, h1, h2⟩
    rw [onL_line s hs l hl i (by omega)] at h1
    simp only [onLine, List.any_eq_true, List.mem_range, beq_iff_eq] at h1
    obtain ⟨a, ha, e⟩ := h1
    exact ⟨a, ha, by unfold lineV; rw [e]; exact h2⟩
  · rintro ⟨a, ha, h⟩
    have hlt := line_lt s hs l hl a ha
    refine ⟨hv, _, by omega, ?_, h⟩
    rw [onL_line s hs l hl _ hlt]
    simp only [onLine, List.any_eq_true, List.mem_range, beq_iff_eq]
    exact ⟨a, ha, rfl⟩
theorem full_bits : ∀ M, M < 32 → ∀ s ∈ [2, 3, 4], (M = 2 ^ (s + 1) - 2 ↔ ∀ v, v < 5 → M.testBit v = (Nat.blt 0 v && Nat.ble v s)) := by decide +kernel
theorem lmask_zero {xs : List Int} {s n : Nat} (hok : okAll xs s n) (l : Nat) {v : Nat} (hv : v = 0 ∨ s < v) : (lmask xs s n l).testBit v = false := by
  cases h : (lmask xs s n l).testBit v
  · rfl
  · rw [lmask_test hok l v n (Nat.le_refl _)] at h
    obtain ⟨h0, i, hi, _, h2⟩ := h
    have := hok i hi
    omega
theorem lmask_full {xs : List Int} {s n : Nat} (hs : s ∈ [2, 3, 4]) (hn : n = s * s) (hok : okAll xs s n) {l : Nat} (hl : l < 2 * s) : lmask xs s n l = 2 ^ (s + 1) - 2 ↔ ∀ v, 1 ≤ v → v ≤ s → hasTo (lineV xs s l) s (v : Int) = true := by
  have hs4 : s ≤ 4 := by simp at hs; omega
  rw [full_bits _ (lmask_lt (by omega) hok n (Nat.le_refl _) l (by omega)) s hs]
  constructor
  · intro h v h1 h2
    rw [← lmask_has hs hn hok hl (by omega), h v (by omega)]
    simp [Nat.blt_eq]; omega
  · intro h v h5
    by_cases hv : v = 0 ∨ s < v
    · rw [lmask_zero hok l hv]
      rcases hv with rfl | hv
      · rfl
      · have : Nat.ble v s = false := by
          cases e : Nat.ble v s
          · rfl
          · have := Nat.le_of_ble_eq_true e; omega
        rw [this, Bool.and_false]
    · rw [lmask_has hs hn hok hl (by omega), h v (by omega) (by omega)]
      have h1 : Nat.blt 0 v = true := by rw [Nat.blt_eq]; omega
      have h2 : Nat.ble v s = true := Nat.ble_eq_true_of_le (by omega)
      rw [h1, h2]; rfl
/-- where every value of 1..s stands among s values of 0..s, none is 0 and no two are equal. -/
def hasN (L : List Nat) (v : Nat) : Bool := L.contains v
def revB (L : List Nat) (s : Nat) : Bool := (List.range s).any (fun v => !L.contains (v + 1)) || (L.all (fun a => a != 0) && decide L.Nodup)
theorem rev2 : ∀ a, a < 3 → ∀ b, b < 3 → revB [a, b] 2 = true := by decide +kernel
theorem rev3 : ∀ a, a < 4 → ∀ b, b < 4 → ∀ c, c < 4 → revB [a, b, c] 3 = true := by decide +kernel
theorem rev4 : ∀ a, a < 5 → ∀ b, b < 5 → ∀ c, c < 5 → ∀ d, d < 5 → revB [a, b, c, d] 4 = true := by decide +kernel
theorem rev_all {f : Nat → Int} {s : Nat} (hs : s ∈ [2, 3, 4]) (hf : ∀ i, i < s → 0 ≤ f i ∧ f i ≤ s) : revB ((List.range s).map fun i => (f i).toNat) s = true := by
  simp at hs
  rcases hs with rfl | rfl | rfl
  · exact rev2 _ (by have := hf 0 (by omega); show (f 0).toNat < 3; omega) _ (by have := hf 1 (by omega); show (f 1).toNat < 3; omega)
  · exact rev3 _ (by have := hf 0 (by omega); show (f 0).toNat < 4; omega) _ (by have := hf 1 (by omega); show (f 1).toNat < 4; omega) _ (by have := hf 2 (by omega); show (f 2).toNat < 4; omega)
  · exact rev4 _ (by have := hf 0 (by omega); show (f 0).toNat < 5; omega) _ (by have := hf 1 (by omega); show (f 1).toNat < 5; omega) _ (by have := hf 2 (by omega); show (f 2).toNat < 5; omega) _ (by have := hf 3 (by omega); show (f 3).toNat < 5; omega)
theorem rev {f : Nat → Int} {s : Nat} (hs : s ∈ [2, 3, 4]) (hf : ∀ i, i < s → 0 ≤ f i ∧ f i ≤ s) (hall : ∀ v : Nat, 1 ≤ v → v ≤ s → hasTo f s (v : Int) = true) : dupTo f s = false ∧ ∀ i, i < s → f i ≠ 0 := by
  have h := rev_all hs hf
  simp only [revB, Bool.or_eq_true, Bool.and_eq_true, List.any_eq_true, List.mem_range, List.all_eq_true, decide_eq_true_eq] at h
  rcases h with ⟨v, hv, h⟩ | ⟨h0, hd⟩
  · exfalso
    have := hall (v + 1) (by omega) (by omega)
    rw [hasTo_iff] at this
    obtain ⟨i, hi, e⟩ := this
    have hm : (v + 1) ∈ (List.range s).map fun i => (f i).toNat := List.mem_map.2 ⟨i, List.mem_range.2 hi, by omega⟩
    have := List.contains_iff_mem.2 hm
    rw [this] at h
    simp at h
  · refine ⟨?_, fun i hi e => ?_⟩
    · cases hc : dupTo f s
      · rfl
      · rw [dupTo_iff] at hc
        obtain ⟨i, j, hij, hj, he, _⟩ := hc
        have := List.pairwise_map.1 hd
        rw [List.pairwise_iff_getElem] at this
        have h9 := this i j (by simp; omega) (by simp; omega) hij
        simp only [List.getElem_range] at h9
        omega
    · have := h0 (f i).toNat (List.mem_map.2 ⟨i, List.mem_range.2 hi, rfl⟩)
      rw [e] at this
      simp at this
theorem row_of : ∀ s ∈ [2, 3, 4], ∀ k, k < s * s → k / s < 2 * s ∧ k % s < s ∧ (lineAt (s : Nat) ((k / s : Nat) : Int) (k % s)).toNat = k := by decide +kernel
theorem solved_masks {xs : List Int} {s n : Nat} (hs : s ∈ [2, 3, 4]) (hn : n = s * s) (hl : xs.length = n) (hg : gv xs s = true) (hok : okAll xs s n) : sqSolved xs s = true ↔ ∀ l, l < 2 * s → lmask xs s n l = 2 ^ (s + 1) - 2 := by
  have hf : ∀ l, l < 2 * s → ∀ i, i < s → 0 ≤ lineV xs s l i ∧ lineV xs s l i ≤ s := fun l hl' i hi => hok _ (by rw [hn]; exact line_lt s hs l hl' i hi)
  rw [solved_iff hl]
  constructor
  · rintro ⟨_, hc, hz⟩ l hl'
    rw [lmask_full hs hn hok hl']
    intro v v1 v2
    refine pig hs (fun i hi => ?_) ?_ (by omega) (by omega)
    · have h1 := hf l hl' i hi
      have h2 := hz (lineAt (s : Nat) (l : Nat) i).toNat (by rw [hn]; exact line_lt s hs l hl' i hi)
      unfold lineV at *
      omega
    · cases hd : dupTo (lineV xs s l) s
      · rfl
      · have : clash xs s = true := clash_at (l := l) (by omega) (by rw [Int.toNat_natCast]; exact hd)
        rw [hc] at this; cases this
  · intro h
    have key : ∀ l, l < 2 * s → dupTo (lineV xs s l) s = false ∧ ∀ i, i < s → lineV xs s l i ≠ 0 := fun l hl' => rev hs (hf l hl') (fun v v1 v2 => (lmask_full hs hn hok hl').1 (h l hl') v v1 v2)
    refine ⟨hg, ?_, fun k hk => ?_⟩
    · cases hc : clash xs s
      · rfl
      · rw [clash, clashTo_iff] at hc
        obtain ⟨l, hl', hd⟩ := hc
        rw [Int.toNat_natCast, (key l (by omega)).1] at hd
        cases hd
    · obtain ⟨h1, h2, h3⟩ := row_of s hs k (by omega)
      have := (key _ h1).2 _ h2
      unfold lineV at this
      rw [h3] at this
      exact this
end Go.Proofs.Ytcjdjcpappfkgaa
namespace Go.Proofs.Ytcjdjcpappfkgaa
open Go.ChangeShapes Go.WideShapes Go.ChangeAt Go.RowKit

theorem results_cell_tmp {P : Program} {fn : Func} {p q : Tmp} {ty : TypeId} (h : fn.results = #[.cell p ty, .tmp q]) (tmps : Array Value) (w : World) (g : Nat) (t : TypeId) (cs : Array Value) (fr : Nat × Nat) (d : TypeDesc) (b : Value)
    (hp : tmps.getD p undef = .pointer (some ⟨g, 0, none⟩)) (hq : tmps.getD q undef = b) (hg : w.heap[g]? = some (.cells cs t fr))
    (hu : P.underlying ty = some d) (hd : (match d with | .struct _ | .array _ _ => true | _ => false) = true) (hi : (P.info? ty).map (·.size) = some cs.size) :
    (results fn tmps).run P w = .ok (.tuple #[.agg cs, b]) w := by
  have hp' : tmps[p]?.getD undef = .pointer (some ⟨g, 0, none⟩) := by simpa using hp
  have hq' : tmps[q]?.getD undef = b := by simpa using hq
  simp [results, h, hp', hq', asAddr, run_loadVar_row w g t ty cs fr d hg hu hd hi]
theorem MBox.lt {w : World} {g : Nat} {M : Nat → Nat} {s : Int} (h : MBox w g M s) : g < w.heap.size := (Array.getElem?_eq_some_iff.1 h).1
theorem MBox.row_other {w : World} {g g' : Nat} {cs : Array Value} {M : Nat → Nat} {s : Int} (h : MBox w g M s) (hne : g ≠ g') : MBox (w.setRow g' cs) g M s := by
  unfold MBox World.setRow
  simp only [Array.getElem?_modify]
  rw [if_neg (fun e => hne e.symm)]
  exact h
theorem lmask_z {xs : List Int} {s k : Nat} (h : nth xs k = 0) : lmask xs s (k + 1) = lmask xs s k ∧ twice xs s (k + 1) = twice xs s k := by simp [lmask, twice, h]
theorem lmask_nz {xs : List Int} {s k v : Nat} (h : nth xs k = (v : Int)) (hv : v ≠ 0) : lmask xs s (k + 1) = mput (mput (lmask xs s k) (k / s) v) (s + k % s) v ∧ twice xs s (k + 1) = (twice xs s k || ((lmask xs s k (k / s)).testBit v || (lmask xs s k (s + k % s)).testBit v)) := by
  have h0 : nth xs k ≠ 0 := by omega
  have e : (nth xs k).toNat = v := by omega
  simp only [lmask, twice]
  rw [if_neg h0, if_neg h0, e]
  exact ⟨rfl, rfl⟩
theorem rc_lt : ∀ s ∈ [2, 3, 4], ∀ k, k < s * s → k / s < 8 ∧ s + k % s < 8 := by decide +kernel

theorem lines_any (A : Option Addr) (c n B s : Nat) (xs : List Int) (w : World) (h : Rd w B A n xs) (hB : B ≤ w.heap.size) (hs : s ∈ [2, 3, 4]) (hn : n = s * s) (hok : Hid (okAll xs s n)) :
    Calls Try.prog 53 #[.agg #[.slice A n c, .int .i64 s]] w fun e w' => e = .returned (.tuple #[.agg (mcells (lmask xs s n) s), .bool (twice xs s n)]) ∧ Below w.heap.size w w' := by
  have hs2 : 2 ≤ s := by simp at hs; omega
  have hs4 : s ≤ 4 := by simp at hs; omega
  have hn16 : n ≤ 16 := by simp at hs; rcases hs with rfl | rfl | rfl <;> omega
  have Hn := Lib.hid hn; clear hn
  have hi9 : ∀ M : Nat → Nat, (Try.prog.info? 63).map (·.size) = some (mcells M s).size := fun M => by rw [mcells_size]; kernel_rfl
  have Hi9 := Lib.hid hi9; clear hi9
  have hone : ∀ M : Nat → Nat, (mcells M s).all (·.oneCell') = true := fun M => mone M s
  have Hone := Lib.hid hone; clear hone
  go_enter Try.func53, Try.ntmps53
  go_wp2
  go_loopw [5, 14] (fun t i wr => ∃ k : Nat, k ≤ n ∧ i = .int .i64 k ∧ t = .bool (twice xs s k) ∧ Hid (MBox wr (w.heap.size + 1 + 1) (lmask xs s k) s) ∧ Hid (MBox wr (w.heap.size + 1) (fun _ => 0) 0) ∧ Below w.heap.size w wr) (fun _ i _ => n - (intOf i).toNat)
  case atStart =>
    refine ⟨0, Nat.zero_le _, rfl, rfl, Lib.hid ?_, Lib.hid ?_, (((Below.refl _ _).alloc (Nat.le_refl _) _).alloc (by simp) _).alloc (by simp; omega) _⟩
    · have := heap_alloc_new ((w.alloc (Obj.cells #[Value.slice A n c, Value.int IntKind.i64 ↑s] 57)).alloc (Obj.cells (mcells (fun _ => 0) 0) 63)) (.cells (mcells (fun _ => 0) s) 63)
      simp only [World.size_alloc] at this
      exact this
    · have := heap_alloc_new (w.alloc (Obj.cells #[Value.slice A n c, Value.int IntKind.i64 ↑s] 57)) (.cells (mcells (fun _ => 0) 0) 63)
      simp only [World.size_alloc] at this
      exact (heap_alloc_old _ _ (by simp)).trans this
  case round =>
    obtain ⟨k, hk, rfl, rfl, hx, hy, hB0⟩ := hrel
    by_cases hlt : k < n
    · obtain ⟨b, off, rfl, hbB, hck⟩ := (h.below (hB0.mono hB)).at_ hlt
      obtain ⟨x0, x4⟩ := hok.out k hlt
      obtain ⟨v, hv⟩ := Int.eq_ofNat_of_zero_le x0
      have hv4 : v ≤ 4 := by omega
      obtain ⟨hr8, hc8⟩ := rc_lt s hs k (by have := Hn.out; omega)
      have Hr : Hid ((k : Int) / (s : Int) = ((k / s : Nat) : Int)) := Lib.hid (by simp)
      have Hc : Hid ((s : Int) + (k : Int) % (s : Int) = ((s + k % s : Nat) : Int)) := Lib.hid (by simp)
      have Hm := Lib.hid (lmask_lt (xs := xs) (by omega : (s : Int) ≤ 4) hok.out k hk)
      by_cases hz : v = 0
      · subst hz
        obtain ⟨e1, e2⟩ := lmask_z (s := s) hv
        have E1 := Lib.hid e1; have E2 := Lib.hid e2; clear e1 e2
        go_wp2
        go_roundw
        case rel => exact ⟨k + 1, by omega, by go_num, by rw [E2.out], by rw [E1.out]; exact hx, hy, hB0⟩
        case measure => simp [intOf]; omega
      · obtain ⟨e1, e2⟩ := lmask_nz (s := s) hv hz
        have E1 := Lib.hid e1; have E2 := Lib.hid e2; clear e1 e2
        have hz1 : ((v : Int) == 0) = false := by simp; omega
        cases ht : twice xs s k
        · go_wp2_with (first | (refine wpList_load_row_w rfl 63 _ rfl (w.heap.size + 1 + 1) rfl 63 (mcells (lmask xs s k) s) (0, 0) _ hx.out Try.underlying63 rfl (Hi9.out _) ?_) | (go_at_call 60; refine (meets_any (lmask xs s k) s k (k / s) (s + k % s) v _ (by omega) (by omega) Hr.out Hc.out hr8 hc8 (by omega) hv4 Hm.out).mono ?_; rintro e w1 ⟨rfl, hb1⟩; have hx1 := Lib.hid (MBox.below hx.out hx.out.lt hb1); have hy1 := Lib.hid (MBox.below hy.out hy.out.lt hb1); have hB1 := step hB0 hb1; clear hb1) | (refine wpList_load_row rfl 63 _ rfl (w.heap.size + 1 + 1) rfl 63 (mcells (lmask xs s k) s) (0, 0) _ hx1.out Try.underlying63 rfl (Hi9.out _) ?_) | (go_at_call 61; refine (with_any (lmask xs s k) s k (k / s) (s + k % s) v _ (by omega) (by omega) Hr.out Hc.out hr8 hc8 (by omega) hv4 Hm.out).mono ?_; rintro e w2 ⟨rfl, hb2⟩; have hx2 := Lib.hid (MBox.below hx1.out hx1.out.lt hb2); have hy2 := Lib.hid (MBox.below hy1.out hy1.out.lt hb2); have hB2 := step hB1 hb2; clear hb2) | (refine wpList_store_row rfl 63 _ _ rfl (w.heap.size + 1 + 1) (mcells (mput (mput (lmask xs s k) (k / s) v) (s + k % s) v) s) rfl rfl 63 (mcells (lmask xs s k) s) hx2.out (Hi9.out _) rfl (Hone.out _) ?_))
          have hxe := Lib.hid (MBox.stored (M' := mput (mput (lmask xs s k) (k / s) v) (s + k % s) v) (s' := s) hx2.out)
          have hye := Lib.hid (MBox.row_other (cs := mcells (mput (mput (lmask xs s k) (k / s) v) (s + k % s) v) s) hy2.out (show w.heap.size + 1 ≠ w.heap.size + 1 + 1 by omega))
          have hBe := setRow_below (g := w.heap.size + 1 + 1) (cs := mcells (mput (mput (lmask xs s k) (k / s) v) (s + k % s) v) s) hB2 (by omega)
          rw [ht] at E2
          go_roundw
          case rel => exact ⟨k + 1, by omega, by go_num, by rw [E2.out]; rfl, by rw [E1.out]; exact hxe, hye, hBe⟩
          case measure => simp [intOf]; omega
        · go_wp2_with (first | (refine wpList_load_row rfl 63 _ rfl (w.heap.size + 1 + 1) rfl 63 (mcells (lmask xs s k) s) (0, 0) _ hx.out Try.underlying63 rfl (Hi9.out _) ?_) | (go_at_call 61; refine (with_any (lmask xs s k) s k (k / s) (s + k % s) v _ (by omega) (by omega) Hr.out Hc.out hr8 hc8 (by omega) hv4 Hm.out).mono ?_; rintro e w2 ⟨rfl, hb2⟩; have hx2 := Lib.hid (MBox.below hx.out hx.out.lt hb2); have hy2 := Lib.hid (MBox.below hy.out hy.out.lt hb2); have hB2 := step hB0 hb2; clear hb2) | (refine wpList_store_row rfl 63 _ _ rfl (w.heap.size + 1 + 1) (mcells (mput (mput (lmask xs s k) (k / s) v) (s + k % s) v) s) rfl rfl 63 (mcells (lmask xs s k) s) hx2.out (Hi9.out _) rfl (Hone.out _) ?_))
          have hxe := Lib.hid (MBox.stored (M' := mput (mput (lmask xs s k) (k / s) v) (s + k % s) v) (s' := s) hx2.out)
          have hye := Lib.hid (MBox.row_other (cs := mcells (mput (mput (lmask xs s k) (k / s) v) (s + k % s) v) s) hy2.out (show w.heap.size + 1 ≠ w.heap.size + 1 + 1 by omega))
          have hBe := setRow_below (g := w.heap.size + 1 + 1) (cs := mcells (mput (mput (lmask xs s k) (k / s) v) (s + k % s) v) s) hB2 (by omega)
          rw [ht] at E2
          go_roundw
          case rel => exact ⟨k + 1, by omega, by go_num, by rw [E2.out]; rfl, by rw [E1.out]; exact hxe, hye, hBe⟩
          case measure => simp [intOf]; omega
    · obtain rfl : k = n := by omega
      have hxf := Lib.hid (MBox.stored (M' := lmask xs s k) (s' := s) hy.out)
      have hBe := setRow_below (g := w.heap.size + 1) (cs := mcells (lmask xs s k) s) hB0 (by omega)
      go_wp2_with (first | (refine wpList_load_row rfl 63 _ rfl (w.heap.size + 1 + 1) rfl 63 (mcells (lmask xs s k) s) (0, 0) _ hx.out Try.underlying63 rfl (Hi9.out _) ?_) | (refine wpList_store_row rfl 63 _ _ rfl (w.heap.size + 1) (mcells (lmask xs s k) s) rfl rfl 63 (mcells (fun _ => 0) 0) hy.out (Hi9.out _) rfl (Hone.out _) ?_))
      refine bodyPost_ret (v := .tuple #[.agg (mcells (lmask xs s k) s), .bool (twice xs s k)]) (results_cell_tmp (by rfl) _ _ (w.heap.size + 1) 63 _ (0, 0) _ _ rfl rfl hxf.out Try.underlying63 rfl (Hi9.out _)) rfl ⟨rfl, hBe⟩
end Go.Proofs.Ytcjdjcpappfkgaa
namespace Go.Proofs.Ytcjdjcpappfkgaa
open Go.ChangeShapes Go.WideShapes Go.ChangeAt Go.RowKit

/- what the program's own functions of chapter 2 must be shown to do. -/
def ISquareFits : Prop := ∀ (A : Option Addr) (c n B : Nat) (xs : List Int) (size : Int) (w : World), Rd w B A n xs → B ≤ w.heap.size → n ≤ 1099511627776 →
    Calls Try.prog 47 #[.slice A n c, .int .i64 size] w fun e w' => e = .returned (.bool (sqFits xs size)) ∧ Below w.heap.size w w'
theorem sqOfL_length (size : Int) : (sqOfL size).length ≤ 16 := by
  unfold sqOfL
  split
  · next h =>
    obtain ⟨h2, h4⟩ := inr_t h
    have := sq_bd h2 h4
    rw [mapTo_length]; omega
  · simp
end Go.Proofs.Ytcjdjcpappfkgaa
namespace Go.Proofs.Ytcjdjcpappfkgaa
open Go.ChangeShapes Go.WideShapes Go.ChangeAt Go.RowKit

theorem implSquareFits : ISquareFits := by
  intro A c n B xs size w h hB hm
  have hlen := Lib.hid h.1
  cases hg : gv xs size
  · have HL := Lib.hid (show sqFits xs size = false by simp [sqFits, hg])
    have h1 := h.alloc hB (.cells #[.slice A n c, .int .i64 size] 57)
    have hB1 : B ≤ (w.alloc (.cells #[.slice A n c, .int .i64 size] 57)).heap.size := by simp; omega
    have hB0 : Below w.heap.size w (w.alloc (.cells #[.slice A n c, .int .i64 size] 57)) := (Below.refl _ _).alloc (Nat.le_refl _) _
    go_enter Try.func47, Try.ntmps47
    go_wp2_with (go_at_call 45; refine (implValid _ _ _ _ _ _ _ h1 hB1 hm).mono ?_; rintro e w1 ⟨rfl, hb1⟩; rw [hg])
    go_ret
    exact ⟨by rw [HL.out]; rfl, step hB0 hb1⟩
  · obtain ⟨s, rfl, hs, hls⟩ := size_nat hg
    have hn : n = s * s := by have := hlen.out; omega
    have hok := Lib.hid (gv_okAll hg hlen.out)
    have HL := Lib.hid (show sqFits xs s = !(twice xs s n) by rw [twice_clash hs hn hok.out, sqFits, hg]; rfl)
    have Hn := Lib.hid hn; clear hn hls
    have h1 := h.alloc hB (.cells #[.slice A n c, .int .i64 s] 57)
    have hB1 : B ≤ (w.alloc (.cells #[.slice A n c, .int .i64 s] 57)).heap.size := by simp; omega
    have hB0 : Below w.heap.size w (w.alloc (.cells #[.slice A n c, .int .i64 s] 57)) := (Below.refl _ _).alloc (Nat.le_refl _) _
    have hz0 : ∀ u : World, MBox (u.alloc (.cells #[.int .i64 0, .int .i64 0, .int .i64 0, .int .i64 0, .int .i64 0, .int .i64 0, .int .i64 0, .int .i64 0, .int .i64 0] 63)) u.heap.size (fun _ => 0) 0 := fun u => heap_alloc_new u _
    have Hz0 := Lib.hid hz0; clear hz0
    have Hi9 := Lib.hid (show (Try.prog.info? 63).map (·.size) = some (mcells (lmask xs s n) s).size by rw [mcells_size]; kernel_rfl)
    have Hone := Lib.hid (mone (lmask xs s n) s)
    go_enter Try.func47, Try.ntmps47
    go_wp2_with (go_at_call 45; refine (implValid _ _ _ _ _ _ _ h1 hB1 hm).mono ?_; rintro e w1 ⟨rfl, hb1⟩; rw [hg]; have hr1 := (h1.below (hb1.mono (Nat.le_trans hB1 (Nat.le_refl _)))); have hbox := box_cell hb1; have hB2 := step hB0 hb1)
    have c0 := hbox 0
    have c1 := hbox 1
    simp at c0 c1
    clear hbox
    have hBw : B ≤ w1.heap.size := Nat.le_trans hB hB2.size
    go_wp2_with (first | (go_at_call 53; refine (lines_any _ _ _ _ _ _ _ hr1 hBw hs Hn.out hok).mono ?_; rintro e w2 ⟨rfl, hb2⟩; have hB3 := step hB2 hb2) | (refine wpList_store_row rfl 63 _ _ rfl w2.heap.size (mcells (lmask xs s n) s) rfl rfl 63 (mcells (fun _ => 0) 0) (Hz0.out w2) Hi9.out rfl Hone.out ?_))
    go_ret
    exact ⟨by rw [HL.out]; rfl, setRow_below (hB3.alloc hB3.size _) hB3.size⟩
end Go.Proofs.Ytcjdjcpappfkgaa
set_option maxRecDepth 8000
namespace Go.Proofs.Ytcjdjcpappfkgaa
open Go.ChangeShapes Go.WideShapes Go.ChangeAt Go.RowKit
def agreeB (gi g : List Int) (n : Nat) : Bool := (List.range n).all fun i => giveOk gi g i
theorem agree_no {gi g : List Int} {n i : Nat} (hi : i < n) (h : giveOk gi g i = false) : agreeB gi g n = false := by
  cases e : agreeB gi g n
  · rfl
  · have := List.all_eq_true.1 e i (List.mem_range.2 (by omega))
    rw [h] at this; cases this
theorem agree_yes {gi g : List Int} {n : Nat} (h : ∀ i, i < n → giveOk gi g i = true) : agreeB gi g n = true := List.all_eq_true.2 (fun i hi => h i (by rw [List.mem_range] at hi; omega))
set_option maxHeartbeats 1000000 in
theorem agrees_any (s : Int) (Ag : Option Addr) (n cg Bg : Nat) (gi : List Int) (Ar : Option Addr) (nr cr : Nat) (A : Option Addr) (c B : Nat) (g : List Int) (w : World) (hgi : Rd w Bg Ag n gi) (hBg : Bg ≤ w.heap.size) (hg : Rd w B A n g) (hB : B ≤ w.heap.size) (hm : n ≤ 1099511627776)
    (hgi0 : ∀ i, i < n → 0 ≤ nth gi i) (hg0 : ∀ i, i < n → 0 ≤ nth g i) :
    Calls Try.prog 46 #[.agg #[.int .i64 s, .slice Ag n cg, .slice Ar nr cr], .slice A n c] w fun e w' => e = .returned (.bool (agreeB gi g n)) ∧ Below w.heap.size w w' := by
  have hx0 := pbox_new w s Ag n cg Ar nr cr 27
  have hb0 : Below w.heap.size w (w.alloc (.cells #[.int .i64 s, .slice Ag n cg, .slice Ar nr cr] 27)) := (Below.refl _ _).alloc (Nat.le_refl _) _
  obtain ⟨z0, z1, z2⟩ := id hx0
  have h1 := hgi.below (hb0.mono hBg)
  have h2 := hg.below (hb0.mono hB)
  have HGI := Lib.hid hgi0
  have HG := Lib.hid hg0
  clear hgi hg hgi0 hg0
  go_enter Try.func46, Try.ntmps46
  go_wp2
  go_loop [10] (fun i => ∃ u : Nat, u ≤ n ∧ i = .int .i64 u ∧ Hid (∀ j, j < u → giveOk gi g j = true)) (fun i => n - (intOf i).toNat)
  case atStart => exact ⟨0, Nat.zero_le _, rfl, Lib.hid (fun j hj => absurd hj (by omega))⟩
  case round =>
    obtain ⟨u, hu, rfl, hall⟩ := hrel
    by_cases hlt : u < n
    · obtain ⟨b, off, rfl, hbB, hc1⟩ := h1.at_ hlt
      obtain ⟨b2, off2, rfl, hbB2, hc2⟩ := h2.at_ hlt
      have hin : (u : Int) < (n : Int) := by omega
      obtain ⟨x, hx⟩ := Int.eq_ofNat_of_zero_le (HGI.out u hlt)
      obtain ⟨y, hy⟩ := Int.eq_ofNat_of_zero_le (HG.out u hlt)
      have hok : giveOk gi g u = !(decide (0 < x) && decide (0 < y) && (y != x)) := by
        unfold giveOk
        rw [hx, hy]
        simp only [Int.natCast_pos]
        congr 2
        rw [Bool.eq_iff_iff, bne_iff_ne, bne_iff_ne]
        omega
      rw [hx] at hc1
      rw [hy] at hc2
      clear hx hy
      have hnext : giveOk gi g u = true → Hid (∀ j, j < u + 1 → giveOk gi g j = true) := fun h => Lib.hid (fun j hj => by
        by_cases e : j = u
        · subst e; exact h
        · exact hall.out j (by omega))
      by_cases hx0 : x = 0
      · have HN := hnext (by rw [hok, hx0]; simp)
        have hxz : ((x : Int) != 0) = false := by simp [hx0]
        clear hok hnext hx0
        go_wp2
        go_round
        case rel => exact ⟨u + 1, hlt, by go_num, HN⟩
        case measure => simp [intOf]; omega
      · have hxz : ((x : Int) != 0) = true := by simp; omega
        by_cases hy0 : y = 0
        · have HN := hnext (by rw [hok, hy0]; simp)
          have hyz : ((y : Int) != 0) = false := by simp [hy0]
          clear hok hnext hy0
          go_wp2
          go_round
          case rel => exact ⟨u + 1, hlt, by go_num, HN⟩
          case measure => simp [intOf]; omega
        · have hyz : ((y : Int) != 0) = true := by simp; omega
          by_cases he : y = x
          · have HN := hnext (by rw [hok, he]; simp)
            have hyx : ((y : Int) != (x : Int)) = false := by simp [he]
            clear hok hnext
            go_wp2
            go_round
            case rel => exact ⟨u + 1, hlt, by go_num, HN⟩
            case measure => simp [intOf]; omega
          · have HL := Lib.hid (agree_no hlt (show giveOk gi g u = false by
              rw [hok, decide_eq_true (by omega), decide_eq_true (by omega)]
              simp [he]))
            have hyx : ((y : Int) != (x : Int)) = true := by simp; omega
            clear hok hnext
            go_wp2
            go_ret
            exact ⟨by rw [HL.out]; rfl, hb0⟩
    · obtain rfl : u = n := by omega
      have HL := Lib.hid (agree_yes hall.out)
      go_wp2
      go_ret
      exact ⟨by rw [HL.out]; rfl, hb0⟩
end Go.Proofs.Ytcjdjcpappfkgaa
