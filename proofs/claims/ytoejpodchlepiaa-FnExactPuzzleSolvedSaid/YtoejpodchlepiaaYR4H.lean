import Derived.Test.YtoejpodchlepiaaYClash
import Derived.Deep.QuietTactic
import Derived.BigQuiet
namespace Go.Proofs.Ytoejpodchlepiaa
open Go.ChangeShapes Go.WideShapes Go.ChangeAt Go.RowKit

/-- a rule's cell number k is a cell of the grid and none of those before it. -/
def freshB (xs : List Int) (k : Nat) : Bool := (List.range k).all fun j => nth xs j != nth xs k
def cellOk (m : Int) (xs : List Int) (k : Nat) : Bool := inr (nth xs k) 0 m && freshB xs k
def kindOk (k v : Int) (n : Nat) (s : Int) : Bool :=
  if k = 1 then decide (2 ≤ n) && (v == 0) else if k = 2 then decide (1 ≤ n) && inr v 1 (s * s * s * s) else if k = 3 then decide (1 ≤ n) && inr v 1 (s * s * s * s)
  else if k = 4 then decide (n = 2) && (v == 0) else if k = 5 then decide (n = 2) && inr v 0 (s - 1) else false
def rv (k : Int) (xs : List Int) (v s : Int) : Bool := inr s 2 4 && decide (xs.length ≤ 4) && ((List.range xs.length).all (cellOk (s * s - 1) xs)) && kindOk k v xs.length s
theorem rv_cell {k v s : Int} {xs : List Int} {n i : Nat} (hl : xs.length = n) (hi : i < n) (h : cellOk (s * s - 1) xs i = false) : rv k xs v s = false := by
  have : (List.range xs.length).all (cellOk (s * s - 1) xs) = false := by
    cases e : (List.range xs.length).all (cellOk (s * s - 1) xs)
    · rfl
    · have := List.all_eq_true.1 e i (List.mem_range.2 (by omega))
      rw [h] at this; cases this
  simp only [rv, this, Bool.and_false, Bool.false_and]
theorem rv_tail {k v s : Int} {xs : List Int} {n : Nat} (hl : xs.length = n) (hs : inr s 2 4 = true) (h4 : n ≤ 4) (h : ∀ i, i < n → cellOk (s * s - 1) xs i = true) : rv k xs v s = kindOk k v n s := by
  subst hl
  have : (List.range xs.length).all (cellOk (s * s - 1) xs) = true := List.all_eq_true.2 (fun i hi => h i (by rw [List.mem_range] at hi; omega))
  simp only [rv, this, hs, decide_eq_true h4, Bool.true_and]
theorem fresh_succ {xs : List Int} {k : Nat} {j : Nat} (h : ∀ i, i < j → nth xs i ≠ nth xs k) (e : nth xs j ≠ nth xs k) : ∀ i, i < j + 1 → nth xs i ≠ nth xs k := fun i hi => by
  by_cases he : i = j
  · subst he; exact e
  · exact h i (by omega)
theorem fresh_t {xs : List Int} {k : Nat} (h : ∀ i, i < k → nth xs i ≠ nth xs k) : freshB xs k = true := by
  simp only [freshB, List.all_eq_true, List.mem_range, bne_iff_ne]
  exact h
theorem fresh_f {xs : List Int} {k j : Nat} (hj : j < k) (e : nth xs j = nth xs k) : freshB xs k = false := by
  cases h : freshB xs k
  · rfl
  · simp only [freshB, List.all_eq_true, List.mem_range, bne_iff_ne] at h
    exact absurd e (h j hj)

/-- a rule's three cells in block g. -/
def RBox (w : World) (g : Nat) (k : Int) (A : Option Addr) (n c : Nat) (v : Int) : Prop := w.cell? ⟨g, 0, none⟩ = some (.int .i64 k) ∧ w.cell? ⟨g, 1, none⟩ = some (.slice A n c) ∧ w.cell? ⟨g, 2, none⟩ = some (.int .i64 v)
theorem RBox.below {w w' : World} {g B : Nat} {k : Int} {A : Option Addr} {n c : Nat} {v : Int} (h : RBox w g k A n c v) (hg : g < B) (hb : Below B w w') : RBox w' g k A n c v :=
  ⟨(hb.cell (p := ⟨g, 0, none⟩) hg).trans h.1, (hb.cell (p := ⟨g, 1, none⟩) hg).trans h.2.1, (hb.cell (p := ⟨g, 2, none⟩) hg).trans h.2.2⟩
theorem rbox_new (w : World) (k : Int) (A : Option Addr) (n c : Nat) (v : Int) (t : TypeId) : RBox (w.alloc (.cells #[.int .i64 k, .slice A n c, .int .i64 v] t)) w.heap.size k A n c v :=
  ⟨cell_of_row _ _ 0 _ _ (0, 0) (heap_alloc_new w _), cell_of_row _ _ 1 _ _ (0, 0) (heap_alloc_new w _), cell_of_row _ _ 2 _ _ (0, 0) (heap_alloc_new w _)⟩
theorem pow4_wrap {s : Int} (h2 : 2 ≤ s) (h4 : s ≤ 4) : wrap64 (s * s) = s * s ∧ wrap64 (s * s * s) = s * s * s ∧ wrap64 (s * s * s * s) = s * s * s * s ∧ wrap64 (s * s - 1) = s * s - 1 ∧ wrap64 (s - 1) = s - 1 := by
  have : s = 2 ∨ s = 3 ∨ s = 4 := by omega
  rcases this with rfl | rfl | rfl <;> exact ⟨IntWalk.wrap64_in _ ⟨by omega, by omega⟩, IntWalk.wrap64_in _ ⟨by omega, by omega⟩, IntWalk.wrap64_in _ ⟨by omega, by omega⟩, IntWalk.wrap64_in _ ⟨by omega, by omega⟩, IntWalk.wrap64_in _ ⟨by omega, by omega⟩⟩

set_option maxHeartbeats 1000000 in
theorem specRuleValid (A : Option Addr) (c n B : Nat) (xs : List Int) (k v size : Int) (w : World) (h : Rd w B A n xs) (hB : B ≤ w.heap.size) (hm : n ≤ 1099511627776) :
    Calls Try.prog 22 #[.agg #[.int .i64 k, .slice A n c, .int .i64 v], .int .i64 size] w fun e w' => e = .returned (.bool (rv k xs v size)) ∧ Below w.heap.size w w' := by
  have hlen := Lib.hid h.1
  have hx0 := rbox_new w k A n c v 25
  have hb0 : Below w.heap.size w (w.alloc (.cells #[.int .i64 k, .slice A n c, .int .i64 v] 25)) := (Below.refl _ _).alloc (Nat.le_refl _) _
  have hsz0 : w.heap.size < (w.alloc (.cells #[.int .i64 k, .slice A n c, .int .i64 v] 25)).heap.size := by simp
  cases hs : inr size 2 4
  · have HL := Lib.hid (show rv k xs v size = false by simp [rv, hs])
    go_enter Try.func22, Try.ntmps22
    go_wp2
    go_loopw [5] (fun i wr => ∃ u : Nat, u ≤ n ∧ i = .int .i64 u ∧ RBox wr w.heap.size k A n c v ∧ Below w.heap.size w wr) (fun i _ => n - (intOf i).toNat)
    case atStart => exact ⟨0, Nat.zero_le _, rfl, hx0, hb0⟩
    case round =>
      obtain ⟨u, hu, rfl, hx, hb⟩ := hrel
      obtain ⟨hk0, hk1, hk2⟩ := id hx
      by_cases hlt : u < n
      · obtain ⟨b, off, rfl, hbB, hck⟩ := (h.below (hb.mono hB)).at_ hlt
        cases hb1 : inr (nth xs u) 0 (wrap64 (wrap64 (size * size) - 1))
        · go_wp2_with (go_at_call 79; refine (l1In_any _ _ _ _).mono ?_; rintro e w' ⟨rfl, rfl⟩; rw [hb1])
          go_ret
          exact ⟨by rw [HL.out]; rfl, hb⟩
        · go_wp2_with (go_at_call 79; refine (l1In_any _ _ _ _).mono ?_; rintro e w' ⟨rfl, rfl⟩; rw [hb1])
          go_loopw [6] (fun i wr => ∃ q : Nat, q ≤ u ∧ i = .int .i64 q ∧ RBox wr w.heap.size k (some ⟨b, off, none⟩) n c v ∧ Below w.heap.size w wr) (fun i _ => u - (intOf i).toNat)
          case atStart => exact ⟨0, Nat.zero_le _, rfl, hx, hb⟩
          case round =>
            obtain ⟨q, hq, rfl, hx2, hb2⟩ := hrel
            obtain ⟨hj0, hj1, hj2⟩ := id hx2
            by_cases hlq : q < u
            · obtain ⟨b', off', e1, _, hcu⟩ := (h.below (hb2.mono hB)).at_ hlt
              cases e1
              obtain ⟨b', off', e1, _, hcq⟩ := (h.below (hb2.mono hB)).at_ (show q < n by omega)
              cases e1
              have hsz2 : w.heap.size < wr.heap.size := cell_lt hj0
              cases he : (nth xs q == nth xs u)
              · go_wp2
                go_quiet (fail)
                go_wp2
                go_roundw
                case rel => exact ⟨q + 1, by omega, by go_num, hx2.below hsz2 (below_drewN (Below.refl _ _) _), below_drewN hb2 _⟩
                case measure => simp [intOf]; omega
              · go_wp2
                go_quiet (fail)
                go_wp2
                go_ret
                exact ⟨by rw [HL.out]; rfl, below_drewN hb2 _⟩
            · obtain rfl : q = u := by omega
              go_wp2
              go_roundw
              case rel => exact ⟨q + 1, by omega, by go_num, hx2, hb2⟩
              case measure => simp [intOf]; omega
      · obtain rfl : u = n := by omega
        go_wp2_with (go_at_call 79; refine (l1In_any _ _ _ _).mono ?_; rintro e w' ⟨rfl, rfl⟩; rw [hs])
        go_ret
        exact ⟨by rw [HL.out]; rfl, hb⟩
  · obtain ⟨h2, h4⟩ := inr_t hs
    obtain ⟨p1, p2, p3, p4, p5⟩ := pow4_wrap h2 h4
    go_enter Try.func22, Try.ntmps22
    go_wp2
    go_loopw [5] (fun i wr => ∃ u : Nat, u ≤ n ∧ i = .int .i64 u ∧ Hid (∀ i, i < u → cellOk (size * size - 1) xs i = true) ∧ RBox wr w.heap.size k A n c v ∧ Below w.heap.size w wr) (fun i _ => n - (intOf i).toNat)
    case atStart => exact ⟨0, Nat.zero_le _, rfl, Lib.hid (fun j hj => absurd hj (by omega)), hx0, hb0⟩
    case round =>
      obtain ⟨u, hu, rfl, hall, hx, hb⟩ := hrel
      obtain ⟨hk0, hk1, hk2⟩ := id hx
      by_cases hlt : u < n
      · obtain ⟨b, off, rfl, hbB, hck⟩ := (h.below (hb.mono hB)).at_ hlt
        cases hi : inr (nth xs u) 0 (size * size - 1)
        · have HL := Lib.hid (rv_cell (k := k) (v := v) (s := size) hlen.out hlt (by simp only [cellOk, hi, Bool.false_and]))
          go_wp2_with (go_at_call 79; refine (l1In_any _ _ _ _).mono ?_; rintro e w' ⟨rfl, rfl⟩; rw [hi])
          go_ret
          exact ⟨by rw [HL.out]; rfl, hb⟩
        · go_wp2_with (go_at_call 79; refine (l1In_any _ _ _ _).mono ?_; rintro e w' ⟨rfl, rfl⟩; rw [hi])
          go_loopw [6] (fun i wr => ∃ q : Nat, q ≤ u ∧ i = .int .i64 q ∧ Hid (∀ i, i < q → nth xs i ≠ nth xs u) ∧ RBox wr w.heap.size k (some ⟨b, off, none⟩) n c v ∧ Below w.heap.size w wr) (fun i _ => u - (intOf i).toNat)
          case atStart => exact ⟨0, Nat.zero_le _, rfl, Lib.hid (fun j hj => absurd hj (by omega)), hx, hb⟩
          case round =>
            obtain ⟨q, hq, rfl, hfr, hx2, hb2⟩ := hrel
            obtain ⟨hj0, hj1, hj2⟩ := id hx2
            by_cases hlq : q < u
            · obtain ⟨b', off', e1, _, hcu⟩ := (h.below (hb2.mono hB)).at_ hlt
              cases e1
              obtain ⟨b', off', e1, _, hcq⟩ := (h.below (hb2.mono hB)).at_ (show q < n by omega)
              cases e1
              have hsz2 : w.heap.size < wr.heap.size := cell_lt hj0
              cases he : (nth xs q == nth xs u)
              · have hfr2 := Lib.hid (fresh_succ hfr.out (by simpa using he))
                go_wp2
                go_quiet (fail)
                go_wp2
                go_roundw
                case rel => exact ⟨q + 1, by omega, by go_num, hfr2, hx2.below hsz2 (below_drewN (Below.refl _ _) _), below_drewN hb2 _⟩
                case measure => simp [intOf]; omega
              · have HL := Lib.hid (rv_cell (k := k) (v := v) (s := size) hlen.out hlt (by simp only [cellOk, fresh_f hlq (by simpa using he), Bool.and_false]))
                go_wp2
                go_quiet (fail)
                go_wp2
                go_ret
                exact ⟨by rw [HL.out]; rfl, below_drewN hb2 _⟩
            · obtain rfl : q = u := by omega
              have hall2 : Hid (∀ i, i < q + 1 → cellOk (size * size - 1) xs i = true) := Lib.hid (fun i hi2 => by
                by_cases e : i = q
                · subst e; simp only [cellOk, hi, fresh_t hfr.out, Bool.true_and]
                · exact hall.out i (by omega))
              go_wp2
              go_roundw
              case rel => exact ⟨q + 1, by omega, by go_num, hall2, hx2, hb2⟩
              case measure => simp [intOf]; omega
      · obtain rfl : u = n := by omega
        by_cases hn4 : u ≤ 4
        · have HL := rv_tail (k := k) (v := v) hlen.out hs hn4 hall.out
          have hcase : k = 1 ∨ k = 2 ∨ k = 3 ∨ k = 4 ∨ k = 5 ∨ ((k == 1) = false ∧ (k == 2) = false ∧ (k == 3) = false ∧ (k == 4) = false ∧ (k == 5) = false) := by simp only [beq_eq_false_iff_ne]; omega
          have hngt : ¬ (4 : Int) < (u : Int) := by omega
          rcases hcase with rfl | rfl | rfl | rfl | rfl | ⟨c1, c2, c3, c4, c5⟩
          · have HL2 := Lib.hid (show rv 1 xs v size = (decide (2 ≤ u) && (v == 0)) by rw [HL]; rfl)
            clear HL
            by_cases hn2 : 2 ≤ u
            · have hn2' : (2 : Int) ≤ (u : Int) := by omega
              go_wp2_with (go_at_call 79; refine (l1In_any _ _ _ _).mono ?_; rintro e w' ⟨rfl, rfl⟩; rw [hs])
              go_ret
              exact ⟨by rw [HL2.out, decide_eq_true hn2]; rfl, hb⟩
            · have hn2' : ¬ (2 : Int) ≤ (u : Int) := by omega
              go_wp2_with (go_at_call 79; refine (l1In_any _ _ _ _).mono ?_; rintro e w' ⟨rfl, rfl⟩; rw [hs])
              go_ret
              exact ⟨by rw [HL2.out, decide_eq_false hn2]; rfl, hb⟩
          · have HL2 := Lib.hid (show rv 2 xs v size = (decide (1 ≤ u) && inr v 1 (size * size * size * size)) by rw [HL]; rfl)
            clear HL
            by_cases hn2 : 1 ≤ u
            · have hn2' : (1 : Int) ≤ (u : Int) := by omega
              go_wp2_with (go_at_call 79; refine (l1In_any _ _ _ _).mono ?_; rintro e w' ⟨rfl, rfl⟩; try rw [hs])
              go_ret
              exact ⟨by rw [HL2.out, decide_eq_true hn2]; rfl, hb⟩
            · have hn2' : ¬ (1 : Int) ≤ (u : Int) := by omega
              go_wp2_with (go_at_call 79; refine (l1In_any _ _ _ _).mono ?_; rintro e w' ⟨rfl, rfl⟩; try rw [hs])
              go_ret
              exact ⟨by rw [HL2.out, decide_eq_false hn2]; rfl, hb⟩
          · have HL2 := Lib.hid (show rv 3 xs v size = (decide (1 ≤ u) && inr v 1 (size * size * size * size)) by rw [HL]; rfl)
            clear HL
            by_cases hn2 : 1 ≤ u
            · have hn2' : (1 : Int) ≤ (u : Int) := by omega
              go_wp2_with (go_at_call 79; refine (l1In_any _ _ _ _).mono ?_; rintro e w' ⟨rfl, rfl⟩; try rw [hs])
              go_ret
              exact ⟨by rw [HL2.out, decide_eq_true hn2]; rfl, hb⟩
            · have hn2' : ¬ (1 : Int) ≤ (u : Int) := by omega
              go_wp2_with (go_at_call 79; refine (l1In_any _ _ _ _).mono ?_; rintro e w' ⟨rfl, rfl⟩; try rw [hs])
              go_ret
              exact ⟨by rw [HL2.out, decide_eq_false hn2]; rfl, hb⟩
          · have HL2 := Lib.hid (show rv 4 xs v size = (decide (u = 2) && (v == 0)) by rw [HL]; rfl)
            clear HL
            by_cases hn2 : u = 2
            · subst hn2
              go_wp2_with (go_at_call 79; refine (l1In_any _ _ _ _).mono ?_; rintro e w' ⟨rfl, rfl⟩; rw [hs])
              go_ret
              exact ⟨by rw [HL2.out]; rfl, hb⟩
            · have hn2' : ((u : Int) == 2) = false := by simp only [beq_eq_false_iff_ne]; omega
              go_wp2_with (go_at_call 79; refine (l1In_any _ _ _ _).mono ?_; rintro e w' ⟨rfl, rfl⟩; rw [hs])
              go_ret
              exact ⟨by rw [HL2.out, decide_eq_false hn2]; rfl, hb⟩
          · have HL2 := Lib.hid (show rv 5 xs v size = (decide (u = 2) && inr v 0 (size - 1)) by rw [HL]; rfl)
            clear HL
            by_cases hn2 : u = 2
            · subst hn2
              go_wp2_with (go_at_call 79; refine (l1In_any _ _ _ _).mono ?_; rintro e w' ⟨rfl, rfl⟩; try rw [hs])
              go_ret
              exact ⟨by rw [HL2.out]; rfl, hb⟩
            · have hn2' : ((u : Int) == 2) = false := by simp only [beq_eq_false_iff_ne]; omega
              go_wp2_with (go_at_call 79; refine (l1In_any _ _ _ _).mono ?_; rintro e w' ⟨rfl, rfl⟩; try rw [hs])
              go_ret
              exact ⟨by rw [HL2.out, decide_eq_false hn2]; rfl, hb⟩
          · have HL2 := Lib.hid (show rv k xs v size = false by
              rw [HL]; unfold kindOk
              rw [if_neg (by simpa using c1), if_neg (by simpa using c2), if_neg (by simpa using c3), if_neg (by simpa using c4), if_neg (by simpa using c5)])
            clear HL
            go_wp2_with (go_at_call 79; refine (l1In_any _ _ _ _).mono ?_; rintro e w' ⟨rfl, rfl⟩; rw [hs])
            go_ret
            exact ⟨by rw [HL2.out]; rfl, hb⟩
        · have HL := Lib.hid (show rv k xs v size = false by simp only [rv, hlen.out, hn4, decide_false, Bool.and_false, Bool.false_and])
          go_wp2_with (go_at_call 79; refine (l1In_any _ _ _ _).mono ?_; rintro e w' ⟨rfl, rfl⟩; rw [hs])
          go_ret
          exact ⟨by rw [HL.out]; rfl, hb⟩
end Go.Proofs.Ytoejpodchlepiaa
namespace Go.Proofs.Ytoejpodchlepiaa
open Go.ChangeShapes Go.WideShapes Go.ChangeAt Go.RowKit

/-- the sum and the product of the first k values. -/
def sumN (vs : List Int) : Nat → Nat
  | 0 => 0
  | k + 1 => sumN vs k + (nth vs k).toNat
def prodN (vs : List Int) : Nat → Nat
  | 0 => 1
  | k + 1 => prodN vs k * (nth vs k).toNat
def newTo (vs : List Int) (k : Nat) : Nat → Bool
  | 0 => true
  | q + 1 => newTo vs k q && (nth vs q != nth vs k)
def diffTo (vs : List Int) : Nat → Bool
  | 0 => true
  | k + 1 => diffTo vs k && newTo vs k k
def gap (vs : List Int) : Int := max (nth vs 0 - nth vs 1) (-(nth vs 0 - nth vs 1))
/-- whether a rule of kind k and value v holds for the values of its cells. -/
def holdsB (k v : Int) (vs : List Int) : Bool :=
  if k = 1 then diffTo vs vs.length else if k = 2 then ((sumN vs vs.length : Int) == v) else if k = 3 then ((prodN vs vs.length : Int) == v) else if k = 4 then decide (nth vs 0 < nth vs 1) else (gap vs == v)
def small4 (vs : List Int) (n : Nat) : Prop := ∀ i, i < n → 0 ≤ nth vs i ∧ nth vs i ≤ 4
theorem sumN_le {vs : List Int} {n : Nat} (h : small4 vs n) : ∀ k, k ≤ n → sumN vs k ≤ 4 * k := by
  intro k
  induction k with
  | zero => intro _; simp [sumN]
  | succ k ih =>
    intro hk
    have := h k (by omega)
    have := ih (by omega)
    simp only [sumN]
    omega
theorem prodN_le {vs : List Int} {n : Nat} (h : small4 vs n) : ∀ k, k ≤ n → prodN vs k ≤ 4 ^ k := by
  intro k
  induction k with
  | zero => intro _; simp [prodN]
  | succ k ih =>
    intro hk
    have h1 := h k (by omega)
    have h2 := ih (by omega)
    simp only [prodN]
    rw [Nat.pow_succ]
    exact Nat.mul_le_mul h2 (by omega)

set_option maxHeartbeats 1000000 in
theorem specHolds (A : Option Addr) (c n : Nat) (A2 : Option Addr) (c2 n2 B : Nat) (vs : List Int) (k v : Int) (w : World) (h : Rd w B A2 n2 vs) (hB : B ≤ w.heap.size) (h4 : n2 ≤ 4) (hv : Hid (small4 vs n2)) (h2 : k = 1 ∨ k = 2 ∨ k = 3 ∨ 2 ≤ n2) :
    Calls Try.prog 78 #[.agg #[.int .i64 k, .slice A n c, .int .i64 v], .slice A2 n2 c2] w fun e w' => e = .returned (.bool (holdsB k v vs)) ∧ Below w.heap.size w w' := by
  have hlen := Lib.hid h.1
  have hx0 := rbox_new w k A n c v 25
  have hb0 : Below w.heap.size w (w.alloc (.cells #[.int .i64 k, .slice A n c, .int .i64 v] 25)) := (Below.refl _ _).alloc (Nat.le_refl _) _
  go_enter Try.func78, Try.ntmps78
  go_wp2
  go_loopw [5, 6, 7, 8] (fun s p d i wr => ∃ u : Nat, u ≤ n2 ∧ i = .int .i64 u ∧ s = .int .i64 (sumN vs u : Int) ∧ p = .int .i64 (prodN vs u : Int) ∧ d = .bool (diffTo vs u) ∧ RBox wr w.heap.size k A n c v ∧ Below w.heap.size w wr) (fun _ _ _ i _ => n2 - (intOf i).toNat)
  case atStart => exact ⟨0, Nat.zero_le _, rfl, rfl, rfl, rfl, hx0, hb0⟩
  case round =>
    obtain ⟨u, hu, rfl, rfl, rfl, rfl, hx, hb⟩ := hrel
    obtain ⟨hk0, hk1, hk2⟩ := id hx
    by_cases hlt : u < n2
    · obtain ⟨b, off, rfl, hbB, hck⟩ := (h.below (hb.mono hB)).at_ hlt
      obtain ⟨x0, x4⟩ := hv.out u hlt
      obtain ⟨x, hxv⟩ := Int.eq_ofNat_of_zero_le x0
      rw [hxv] at hck
      have hs1 := sumN_le hv.out u hu
      have hp1 := prodN_le hv.out u hu
      have hp2 : (4 : Nat) ^ u ≤ 4 ^ 3 := Nat.pow_le_pow_right (by omega) (by omega)
      have hS := Lib.hid (show sumN vs (u + 1) = sumN vs u + x by simp only [sumN, hxv, Int.toNat_natCast])
      have hP := Lib.hid (show prodN vs (u + 1) = prodN vs u * x by simp only [prodN, hxv, Int.toNat_natCast])
      have hm1 : prodN vs u * x ≤ 64 * 4 := Nat.mul_le_mul (by omega) (by omega)
      have e1 : wrap64 ((prodN vs u : Int) * (x : Int)) = ((prodN vs u * x : Nat) : Int) := by
        rw [← Int.natCast_mul]; exact IntWalk.wrap64_in _ ⟨by omega, by omega⟩
      clear hp1 hp2
      go_wp2
      go_loopw [7, 9] (fun d i wr => ∃ q : Nat, q ≤ u ∧ i = .int .i64 q ∧ d = .bool (diffTo vs u && newTo vs u q) ∧ RBox wr w.heap.size k A n c v ∧ Below w.heap.size w wr) (fun _ i _ => u - (intOf i).toNat)
      case atStart => exact ⟨0, Nat.zero_le _, rfl, by simp [newTo], hx, hb⟩
      case round =>
        obtain ⟨q, hq, rfl, rfl, hx2, hb2⟩ := hrel
        have hsz2 : w.heap.size < wr.heap.size := cell_lt hx2.1
        by_cases hlq : q < u
        · obtain ⟨b', off', e2, _, hcu⟩ := (h.below (hb2.mono hB)).at_ hlt
          cases e2
          obtain ⟨b', off', e2, _, hcq⟩ := (h.below (hb2.mono hB)).at_ (show q < n2 by omega)
          cases e2
          have hstep : newTo vs u (q + 1) = (newTo vs u q && (nth vs q != nth vs u)) := rfl
          cases hd : (diffTo vs u && newTo vs u q)
          · have Hst := Lib.hid (show (diffTo vs u && newTo vs u (q + 1)) = false by rw [hstep, ← Bool.and_assoc, hd, Bool.false_and])
            clear hstep
            go_wp2
            go_quiet (fail)
            go_wp2
            go_roundw
            case rel => exact ⟨q + 1, by omega, by go_num, by rw [Hst.out], hx2.below hsz2 (below_drewN (Below.refl _ _) _), below_drewN hb2 _⟩
            case measure => simp [intOf]; omega
          · have Hst := Lib.hid (show (diffTo vs u && newTo vs u (q + 1)) = (nth vs q != (x : Int)) by rw [hstep, ← Bool.and_assoc, hd, Bool.true_and, hxv])
            clear hstep
            go_wp2
            go_quiet (fail)
            go_wp2
            go_roundw
            case rel => exact ⟨q + 1, by omega, by go_num, by rw [Hst.out], hx2.below hsz2 (below_drewN (Below.refl _ _) _), below_drewN hb2 _⟩
            case measure => simp [intOf]; omega
        · obtain rfl : q = u := by omega
          have Hst := Lib.hid (show diffTo vs (q + 1) = (diffTo vs q && newTo vs q q) from rfl)
          go_wp2
          go_roundw
          case rel => exact ⟨q + 1, by omega, by go_num, by rw [hS.out]; rfl, by rw [hP.out]; rfl, by rw [Hst.out], hx2, hb2⟩
          case measure => simp [intOf]; omega
    · obtain rfl : u = n2 := by omega
      have hcase : k = 1 ∨ k = 2 ∨ k = 3 ∨ k = 4 ∨ ((k == 1) = false ∧ (k == 2) = false ∧ (k == 3) = false ∧ (k == 4) = false) := by simp only [beq_eq_false_iff_ne]; omega
      rcases hcase with rfl | rfl | rfl | rfl | ⟨c1, c2, c3, c4⟩
      · have HL := Lib.hid (show holdsB 1 v vs = diffTo vs u by rw [← hlen.out]; rfl)
        go_wp2
        go_ret
        exact ⟨by rw [HL.out]; rfl, hb⟩
      · have HL := Lib.hid (show holdsB 2 v vs = ((sumN vs u : Int) == v) by rw [← hlen.out]; rfl)
        go_wp2
        go_ret
        exact ⟨by rw [HL.out]; rfl, hb⟩
      · have HL := Lib.hid (show holdsB 3 v vs = ((prodN vs u : Int) == v) by rw [← hlen.out]; rfl)
        go_wp2
        go_ret
        exact ⟨by rw [HL.out]; rfl, hb⟩
      · have HL := Lib.hid (show holdsB 4 v vs = decide (nth vs 0 < nth vs 1) from rfl)
        have hn2 : 2 ≤ u := by omega
        obtain ⟨b, off, rfl, hbB, hc0⟩ := (h.below (hb.mono hB)).at_ (show 0 < u by omega)
        obtain ⟨b', off', e2, _, hc1⟩ := (h.below (hb.mono hB)).at_ (show 1 < u by omega)
        cases e2
        rw [Nat.add_zero] at hc0
        have i0 : 0 < u := by omega
        have i1 : 1 < u := by omega
        have i2 : (0 : Int) < (u : Int) := by omega
        have i3 : (1 : Int) < (u : Int) := by omega
        go_wp2
        go_quiet (fail)
        go_wp2
        go_ret
        exact ⟨by rw [HL.out]; rfl, below_drewN hb _⟩
      · have HL := Lib.hid (show holdsB k v vs = (gap vs == v) by
          unfold holdsB
          rw [if_neg (by simpa using c1), if_neg (by simpa using c2), if_neg (by simpa using c3), if_neg (by simpa using c4)])
        have hn2 : 2 ≤ u := by simp only [beq_eq_false_iff_ne] at c1 c2 c3; omega
        obtain ⟨b, off, rfl, hbB, hc0⟩ := (h.below (hb.mono hB)).at_ (show 0 < u by omega)
        obtain ⟨b', off', e2, _, hc1⟩ := (h.below (hb.mono hB)).at_ (show 1 < u by omega)
        cases e2
        rw [Nat.add_zero] at hc0
        have i0 : 0 < u := by omega
        have i1 : 1 < u := by omega
        have i2 : (0 : Int) < (u : Int) := by omega
        have i3 : (1 : Int) < (u : Int) := by omega
        obtain ⟨y0, y4⟩ := hv.out 0 (by omega)
        obtain ⟨z0, z4⟩ := hv.out 1 (by omega)
        have e3 : IntKind.i64.wrap (nth vs 0 - nth vs 1) = nth vs 0 - nth vs 1 := IntWalk.i64_in _ (by omega)
        go_wp2
        go_quiet (fail)
        go_wp2
        · go_ret
          exact ⟨by rw [HL.out, show gap vs = -(nth vs 0 - nth vs 1) by unfold gap; omega]; rfl, below_drewN hb _⟩
        · go_ret
          exact ⟨by rw [HL.out, show gap vs = nth vs 0 - nth vs 1 by unfold gap; omega]; rfl, below_drewN hb _⟩
end Go.Proofs.Ytoejpodchlepiaa
