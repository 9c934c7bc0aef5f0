import Derived.Test.YtfpddieoiejofaaT2
import Derived.OwnWalk
import Derived.Laws.OwnMore
import Derived.Deep.AppendLies
import Derived.Deep.Onto
import Derived.Deep.QuietTactic
import Derived.BigQuiet
namespace Go.Proofs.Ytfpddieoiejofaa
open Go.ChangeShapes Go.WideShapes Go.ChangeAt Go.RowKit

theorem int_info : (Try.prog.info? 3).map (fun i => (i.zero, i.size, i.bytes)) = some (some (.int .i64 0), 1, 8) := by kernel_rfl

def vals (xs : List Int) : List Value := xs.map (Value.int .i64)
theorem vals_length (xs : List Int) : (vals xs).length = xs.length := by simp [vals]
theorem vals_get {xs : List Int} {k : Nat} (h : k < xs.length) : (vals xs)[k]? = some (.int .i64 (nth xs k)) := by
  simp [vals, nth, h, List.getD_eq_getElem?_getD]
theorem ext_nth {xs ys : List Int} (hl : xs.length = ys.length) (h : ∀ k, k < xs.length → nth xs k = nth ys k) : xs = ys := by
  apply List.ext_getElem hl
  intro i h1 h2
  have := h i h1
  simpa [nth, List.getD_eq_getElem?_getD, h1, h2] using this

/-- the call's own slice of ints. -/
def Ow (w : World) (lo : Nat) (A : Option Addr) (n c : Nat) (xs : List Int) : Prop := w.ownsRow lo 3 1 (.slice A n c) n (vals xs)

section
variable {w w' : World} {lo : Nat} {A : Option Addr} {n c : Nat} {xs : List Int}
theorem Ow.len (h : Ow w lo A n c xs) : xs.length = n := by have := h.1; simpa [vals] using this
theorem Ow.form (h : Ow w lo A n c xs) (hn : 0 < n) : ∃ g, A = some ⟨g, 0, none⟩ ∧ lo ≤ g ∧ g < w.heap.size := by
  obtain ⟨g, cap, hv, h1, h2⟩ := World.ownsRow.form h hn
  injection hv with hA
  exact ⟨g, hA, h1, h2⟩
theorem Ow.rd (h : Ow w lo A n c xs) : Rd w w.heap.size A n xs := by
  refine ⟨h.len, fun hn => ?_⟩
  obtain ⟨g, rfl, hlo, hg⟩ := h.form hn
  refine ⟨g, 0, rfl, hg, fun k hk => ?_⟩
  have := World.ownsRow.cellAt h k (by omega)
  rw [Nat.zero_add, this]
  exact vals_get (by rw [h.len]; exact hk)
theorem Ow.below (h : Ow w lo A n c xs) (hb : Below w.heap.size w w') : Ow w' lo A n c xs :=
  World.ownsRow.kept h (row := none) ⟨hb.os, hb.tape, hb.output, hb.size, fun k hk _ => hb.block k hk⟩ (by
    cases e : (Value.slice A n c).ownBlock
    · exact .inl rfl
    · exact .inr (by simp))
theorem Ow.mono (h : Ow w lo A n c xs) {lo' : Nat} (hl : lo' ≤ lo) : Ow w lo' A n c xs := World.ownsRow.mono h hl
theorem Rd.below {B : Nat} (h : Rd w B A n xs) (hb : Below B w w') : Rd w' B A n xs :=
  ⟨h.1, fun hn => by
    obtain ⟨b, off, e, hlt, hc⟩ := h.2 hn
    exact ⟨b, off, e, hlt, fun k hk => (hb.cell (p := ⟨b, off + k, none⟩) hlt).trans (hc k hk)⟩⟩
theorem Rd.more {B B' : Nat} (h : Rd w B A n xs) (hB : B ≤ B') : Rd w B' A n xs :=
  ⟨h.1, fun hn => by
    obtain ⟨b, off, e, hlt, hc⟩ := h.2 hn
    exact ⟨b, off, e, by omega, hc⟩⟩
end

theorem below_drewN {B : Nat} {a w : World} (h : Below B a w) (n : Nat) : Below B a (w.drewN n) := ⟨h.os, h.tape, h.output, h.size, h.block⟩
/-- the first k of xs, then 0s, n in all. -/
def part (xs : List Int) (k n : Nat) : List Int := (List.range n).map fun j => if j < k then nth xs j else 0
theorem part_length (xs : List Int) (k n : Nat) : (part xs k n).length = n := by simp [part]
theorem part_zero (xs : List Int) (n : Nat) : vals (part xs 0 n) = List.replicate n (.int .i64 0) := by
  apply List.ext_getElem <;> simp [vals, part]
theorem part_nth (xs : List Int) (k n j : Nat) (h : j < n) : nth (part xs k n) j = if j < k then nth xs j else 0 := by
  simp [nth, part, List.getD_eq_getElem?_getD, h]
theorem part_all (xs : List Int) : part xs xs.length xs.length = xs := by
  apply ext_nth (part_length _ _ _)
  intro k hk
  rw [part_length] at hk
  rw [part_nth _ _ _ _ hk, if_pos hk]
theorem part_set (xs : List Int) (k n : Nat) : (vals (part xs k n)).set k (.int .i64 (nth xs k)) = vals (part xs (k + 1) n) := by
  apply List.ext_getElem
  · simp [vals, part]
  · intro i h1 h2
    simp only [vals, part, List.map_map, List.getElem_set, List.getElem_map, List.getElem_range, Function.comp]
    by_cases e : k = i
    · subst e; simp
    · rw [if_neg e]
      by_cases h : i < k
      · rw [if_pos h, if_pos (by omega)]
      · rw [if_neg h, if_neg (by omega)]

theorem toIntS_any (A : Option Addr) (c n B : Nat) (xs : List Int) (w : World) (h : Rd w B A n xs) (hB : B ≤ w.heap.size) (hm : n ≤ 1099511627776) :
    Calls Try.prog 31 #[.slice A n c] w fun e w' => e = .returned (.slice (some ⟨w.heap.size, 0, none⟩) n n) ∧ Ow w' w.heap.size (some ⟨w.heap.size, 0, none⟩) n n xs ∧ Below w.heap.size w w' := by
  obtain ⟨i0, hi, hz0, hz1, hz2⟩ := info_parts int_info
  have hlen := Lib.hid h.1
  go_enter Try.func31, Try.ntmps31
  go_wp2_with (refine wpList_make_full _ rfl (.tmp 6) (.tmp 6) 23 rfl w.heap.size 3 i0 (.int .i64 0) 1 Try.underlying23 hi hz0 hz1 .i64 .i64 n n n rfl rfl rfl rfl ?_ ?_ (Nat.le_refl _) ?_)
  · rw [hz2]; omega
  · simp only [maxLen]; omega
  · intro w1 hown hgr
    have hown1 : Ow w1 w.heap.size (some ⟨w.heap.size, 0, none⟩) n n (part xs 0 n) := by
      unfold Ow; rw [part_zero, ← toList_madeCells_one]; exact hown
    have hb1 : Below w.heap.size w w1 := (Below.refl _ _).grown hgr (Nat.le_refl _) (fun k hk => by cases hk)
    clear hown hgr
    go_wp2
    go_loopw [4] (fun i wr => ∃ k : Nat, k ≤ n ∧ i = .int .i64 k ∧ Ow wr w.heap.size (some ⟨w.heap.size, 0, none⟩) n n (part xs k n) ∧ Below w.heap.size w wr) (fun i _ => n - (intOf i).toNat)
    case atStart => exact ⟨0, Nat.zero_le _, rfl, hown1, hb1⟩
    case round =>
      obtain ⟨k, hk, rfl, ho, hb⟩ := hrel
      by_cases hlt : k < n
      · obtain ⟨b, off, rfl, hbB, hck⟩ := (h.below (hb.mono hB)).at_ hlt
        have hold := World.ownsRow.cellAt ho k (by omega)
        rw [vals_get (by rw [part_length]; exact hlt)] at hold
        have hfr := World.ownsRow.frozenAt ho k
        have hst := World.ownsRow.stored ho k (.int .i64 (nth xs k))
        rw [part_set] at hst
        have Hst := Lib.hid hst; clear hst
        go_wp2
        go_roundw
        case rel => exact ⟨k + 1, by omega, by go_num, Hst.out.1, hb.setCell (Nat.le_refl _) _⟩
        case measure => simp [intOf]; omega
      · obtain rfl : k = n := by omega
        go_wp2
        go_ret
        refine ⟨rfl, ?_, hb⟩
        have e := part_all xs
        rw [hlen.out] at e
        rw [e] at ho
        exact ho

/-- whether two lists of ints are equal: what the walk returns. -/
def same (xs ys : List Int) : Bool := decide (xs = ys)
theorem same_t {xs ys : List Int} {n : Nat} (hx : xs.length = n) (hy : ys.length = n) (h : ∀ k, k < n → nth xs k = nth ys k) : same xs ys = true := by
  subst hx
  simp [same, ext_nth hy.symm h]
theorem same_f {xs ys : List Int} {k : Nat} (h : nth xs k ≠ nth ys k) : same xs ys = false := by
  simp only [same, decide_eq_false_iff_not]; rintro rfl; exact h rfl
theorem same_len {xs ys : List Int} (h : xs.length ≠ ys.length) : same xs ys = false := by
  simp only [same, decide_eq_false_iff_not]; rintro rfl; exact h rfl
theorem same_refl (xs : List Int) : same xs xs = true := by simp [same]
def eqTo (xs ys : List Int) (k : Nat) : Prop := ∀ j, j < k → nth xs j = nth ys j
theorem eqTo_zero {xs ys : List Int} : eqTo xs ys 0 := fun j hj => by omega
theorem eqTo_succ {xs ys : List Int} {k : Nat} (h : eqTo xs ys k) (e : nth xs k = nth ys k) : eqTo xs ys (k + 1) := fun j hj => by
  by_cases he : j = k
  · subst he; exact e
  · exact h j (by omega)

theorem eqIntS_any (A A' : Option Addr) (c c' n n' B B' : Nat) (xs ys : List Int) (w : World) (h : Rd w B A n xs) (h' : Rd w B' A' n' ys) (hm : n ≤ 1099511627776) :
    Calls Try.prog 32 #[.slice A n c, .slice A' n' c'] w fun e w' => e = .returned (.bool (same xs ys)) ∧ Below w.heap.size w w' := by
  have hl := Lib.hid h.1
  have hl' := Lib.hid h'.1
  by_cases hnn : n = n'
  · subst hnn
    go_enter Try.func32, Try.ntmps32
    go_wp2
    go_loopw [5] (fun i wr => ∃ k : Nat, k ≤ n ∧ i = .int .i64 k ∧ eqTo xs ys k ∧ Below w.heap.size w wr ∧ Rd wr B A n xs ∧ Rd wr B' A' n ys) (fun i _ => n - (intOf i).toNat)
    case atStart => exact ⟨0, Nat.zero_le _, rfl, eqTo_zero, Below.refl _ _, h, h'⟩
    case round =>
      obtain ⟨k, hk, rfl, heq, hb, hr, hr'⟩ := hrel
      by_cases hlt : k < n
      · obtain ⟨b, off, rfl, hbB, hck⟩ := hr.at_ hlt
        obtain ⟨b', off', rfl, hbB', hck'⟩ := hr'.at_ hlt
        have hltI : (k : Int) < (n : Int) := by omega
        by_cases e : nth xs k = nth ys k
        · have hne : (nth xs k != nth ys k) = false := by simp [e]
          have He := Lib.hid e; clear e
          go_wp2
          go_quiet (fail)
          go_wp2
          go_roundw
          case rel => exact ⟨k + 1, by omega, by go_num, eqTo_succ heq He.out, below_drewN hb _, hr, hr'⟩
          case measure => simp [intOf]; omega
        · have hne : (nth xs k != nth ys k) = true := by simp [e]
          have He := Lib.hid e; clear e
          go_wp2
          go_quiet (fail)
          go_wp2
          go_ret
          exact ⟨by rw [same_f He.out]; rfl, below_drewN hb _⟩
      · obtain rfl : k = n := by omega
        go_wp2
        go_ret
        exact ⟨by rw [same_t hl.out hl'.out heq]; rfl, hb⟩
  · have hne : ((n : Int) != (n' : Int)) = true := by rw [bne_iff_ne]; omega
    go_enter Try.func32, Try.ntmps32
    go_wp2
    go_ret
    exact ⟨by rw [same_len (by rw [hl.out, hl'.out]; exact hnn)]; rfl, Below.refl _ _⟩

/-- m, m + 1 .. in the first k places, then xs as it was. -/
def marked (xs : List Int) (m : Int) (k n : Nat) : List Int := (List.range n).map fun (j : Nat) => if j < k then m + (j : Int) else nth xs j
theorem marked_length (xs : List Int) (m : Int) (k n : Nat) : (marked xs m k n).length = n := by simp [marked]
theorem marked_nth (xs : List Int) (m : Int) (k n j : Nat) (h : j < n) : nth (marked xs m k n) j = if j < k then m + (j : Int) else nth xs j := by
  simp [nth, marked, List.getD_eq_getElem?_getD, h]
theorem marked_zero (xs : List Int) (m : Int) : marked xs m 0 xs.length = xs := by
  apply ext_nth (marked_length _ _ _ _)
  intro k hk
  rw [marked_length] at hk
  rw [marked_nth _ _ _ _ _ hk, if_neg (by omega)]
theorem marked_set (xs : List Int) (m : Int) (k n : Nat) : (vals (marked xs m k n)).set k (.int .i64 (m + (k : Int))) = vals (marked xs m (k + 1) n) := by
  apply List.ext_getElem
  · simp [vals, marked]
  · intro i h1 h2
    simp only [vals, marked, List.map_map, List.getElem_set, List.getElem_map, List.getElem_range, Function.comp]
    by_cases e : k = i
    · subst e; simp
    · rw [if_neg e]
      by_cases h : i < k
      · rw [if_pos h, if_pos (by omega)]
      · rw [if_neg h, if_neg (by omega)]

theorem markIntS_any (A : Option Addr) (c n lo : Nat) (xs : List Int) (m : Int) (w : World) (h : Ow w lo A n c xs) (hm : n ≤ 1099511627776) (h0 : 0 ≤ m) (h1 : m ≤ 1099511627776) :
    Calls Try.prog 33 #[.slice A n c, .int .i64 m] w fun e w' => e = .returned (.int .i64 (m + n)) ∧ Ow w' lo A n c (marked xs m n n) ∧ w.grownBy w' (Value.slice A n c).ownBlock := by
  have hlen := Lib.hid h.len
  go_enter Try.func33, Try.ntmps33
  go_wp2
  go_loopw [1, 5] (fun q i wr => ∃ k : Nat, k ≤ n ∧ i = .int .i64 k ∧ q = .int .i64 (m + k) ∧ Ow wr lo A n c (marked xs m k n) ∧ w.grownBy wr (Value.slice A n c).ownBlock) (fun _ i _ => n - (intOf i).toNat)
  case atStart =>
    refine ⟨0, Nat.zero_le _, rfl, by simp, ?_, World.grownBy.refl _ _⟩
    have e := marked_zero xs m
    rw [hlen.out] at e
    rw [e]; exact h
  case round =>
    obtain ⟨k, hk, rfl, rfl, ho, hg⟩ := hrel
    by_cases hlt : k < n
    · obtain ⟨g, rfl, hlog, hgw⟩ := ho.form (by omega)
      have hold := World.ownsRow.cellAt ho k (by omega)
      rw [vals_get (by rw [marked_length]; exact hlt)] at hold
      have hfr := World.ownsRow.frozenAt ho k
      have hst := World.ownsRow.stored ho k (.int .i64 (m + k))
      rw [marked_set] at hst
      have Hst := Lib.hid hst; clear hst
      go_wp2
      go_roundw
      case rel => exact ⟨k + 1, by omega, by go_num, by go_num, Hst.out.1, hg.trans Hst.out.2⟩
      case measure => simp [intOf]; omega
    · obtain rfl : k = n := by omega
      go_wp2
      go_ret
      exact ⟨rfl, ho, hg⟩
/-- m, m + 1 .. -/
def seqI (m : Int) (n : Nat) : List Int := (List.range n).map fun (j : Nat) => m + (j : Int)
theorem seqI_length (m : Int) (n : Nat) : (seqI m n).length = n := by simp [seqI]
theorem seqI_nth {m : Int} {n k : Nat} (h : k < n) : nth (seqI m n) k = m + k := by simp [nth, seqI, List.getD_eq_getElem?_getD, h]
theorem marked_all (xs : List Int) (m : Int) (n : Nat) : marked xs m n n = seqI m n := by
  apply ext_nth (by rw [marked_length, seqI_length])
  intro k hk
  rw [marked_length] at hk
  rw [marked_nth _ _ _ _ _ hk, if_pos hk, seqI_nth hk]

theorem heldIntS_seq (A : Option Addr) (c n B : Nat) (m : Int) (w : World) (h : Rd w B A n (seqI m n)) (hm : n ≤ 1099511627776) (h0 : 0 ≤ m) (h1 : m ≤ 1099511627776) :
    Calls Try.prog 34 #[.slice A n c, .int .i64 m] w fun e w' => e = .returned (.int .i64 (m + n)) ∧ w = w' := by
  go_enter Try.func34, Try.ntmps34
  go_wp2
  go_loop [1, 5] (fun q i => ∃ k : Nat, k ≤ n ∧ i = .int .i64 k ∧ q = .int .i64 (m + k)) (fun _ i => n - (intOf i).toNat)
  case atStart => exact ⟨0, Nat.zero_le _, rfl, by simp⟩
  case round =>
    obtain ⟨k, hk, rfl, rfl⟩ := hrel
    by_cases hlt : k < n
    · obtain ⟨b, off, rfl, hbB, hck⟩ := h.at_ hlt
      rw [seqI_nth hlt] at hck
      go_wp2
      go_round
      case rel => exact ⟨k + 1, by omega, by go_num, by go_num⟩
      case measure => simp [intOf]; omega
    · obtain rfl : k = n := by omega
      go_wp2
      go_ret
      exact ⟨rfl, rfl⟩
end Go.Proofs.Ytfpddieoiejofaa
