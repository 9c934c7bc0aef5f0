import Derived.Test.YtkeoflnmbcdmfaaDoorBase
import Derived.Test.YtkeoflnmbcdmfaaDoorSq
import Derived.Test.YtkeoflnmbcdmfaaDoorC1L
import Derived.Deep.RegionHeld3
import Derived.Test.YtkeoflnmbcdmfaaDoorDrawL
import Derived.Test.YtkeoflnmbcdmfaaDoorClash
namespace Go.Proofs.YtkeoflnmbcdmfaaDoor
open Go.ChangeShapes Go.WideShapes Go.ChangeAt Go.RowKit

theorem toIntS_any (A : Option Addr) (c n B : Nat) (xs : List Int) (w : World) (h : Rd w B A n xs) (hB : B ≤ w.heap.size) (hm : n ≤ 1099511627776) :
    Calls Tryd.prog 58 #[.slice A n c] w fun e w' => e = .returned (.slice (some ⟨w.heap.size, 0, none⟩) n n) ∧ Ow w' w.heap.size (some ⟨w.heap.size, 0, none⟩) n n xs ∧ Below w.heap.size w w' := by
  obtain ⟨i0, hi, hz0, hz1, hz2⟩ := info_parts int_info
  have hlen := Lib.hid h.1
  go_enter Tryd.func58, Tryd.ntmps58
  go_wp2_with (refine wpList_make_full _ rfl (.tmp 6) (.tmp 6) 23 rfl w.heap.size 3 i0 (.int .i64 0) 1 Tryd.underlying23 hi hz0 hz1 .i64 .i64 n n n rfl rfl rfl rfl ?_ ?_ (Nat.le_refl _) ?_)
  · rw [hz2]; omega
  · simp only [maxLen]; omega
  · intro w1 hown hgr
    have hown1 : Ow w1 w.heap.size (some ⟨w.heap.size, 0, none⟩) n n (part xs 0 n) := by
      unfold Ow; rw [part_zero, ← toList_madeCells_one]; exact hown
    have hb1 : Below w.heap.size w w1 := (Below.refl _ _).grown hgr (Nat.le_refl _) (fun k hk => by cases hk)
    clear hown hgr
    go_wp2
    go_loopw [4] (fun i wr => ∃ k : Nat, k ≤ n ∧ i = .int .i64 k ∧ Ow wr w.heap.size (some ⟨w.heap.size, 0, none⟩) n n (part xs k n) ∧ Below w.heap.size w wr) (fun i _ => n - (intOf i).toNat)
    case atStart => exact ⟨0, Nat.zero_le _, rfl, hown1, hb1⟩
    case round =>
      obtain ⟨k, hk, rfl, ho, hb⟩ := hrel
      by_cases hlt : k < n
      · obtain ⟨b, off, rfl, hbB, hck⟩ := (h.below (hb.mono hB)).at_ hlt
        have hold := World.ownsRow.cellAt ho k (by omega)
        rw [vals_get (by rw [part_length]; exact hlt)] at hold
        have hfr := World.ownsRow.frozenAt ho k
        have hst := World.ownsRow.stored ho k (.int .i64 (nth xs k))
        rw [part_set] at hst
        have Hst := Lib.hid hst; clear hst
        go_wp2
        go_roundw
        case rel => exact ⟨k + 1, by omega, by go_num, Hst.out.1, hb.setCell (Nat.le_refl _) _⟩
        case measure => simp [intOf]; omega
      · obtain rfl : k = n := by omega
        go_wp2
        go_ret
        refine ⟨rfl, ?_, hb⟩
        have e := part_all xs
        rw [hlen.out] at e
        rw [e] at ho
        exact ho
theorem eqIntS_any (A A' : Option Addr) (c c' n n' B B' : Nat) (xs ys : List Int) (w : World) (h : Rd w B A n xs) (h' : Rd w B' A' n' ys) (hm : n ≤ 1099511627776) :
    Calls Tryd.prog 60 #[.slice A n c, .slice A' n' c'] w fun e w' => e = .returned (.bool (same xs ys)) ∧ Below w.heap.size w w' := by
  have hl := Lib.hid h.1
  have hl' := Lib.hid h'.1
  by_cases hnn : n = n'
  · subst hnn
    go_enter Tryd.func60, Tryd.ntmps60
    go_wp2
    go_loopw [5] (fun i wr => ∃ k : Nat, k ≤ n ∧ i = .int .i64 k ∧ eqTo xs ys k ∧ Below w.heap.size w wr ∧ Rd wr B A n xs ∧ Rd wr B' A' n ys) (fun i _ => n - (intOf i).toNat)
    case atStart => exact ⟨0, Nat.zero_le _, rfl, eqTo_zero, Below.refl _ _, h, h'⟩
    case round =>
      obtain ⟨k, hk, rfl, heq, hb, hr, hr'⟩ := hrel
      by_cases hlt : k < n
      · obtain ⟨b, off, rfl, hbB, hck⟩ := hr.at_ hlt
        obtain ⟨b', off', rfl, hbB', hck'⟩ := hr'.at_ hlt
        have hltI : (k : Int) < (n : Int) := by omega
        by_cases e : nth xs k = nth ys k
        · have hne : (nth xs k != nth ys k) = false := by simp [e]
          have He := Lib.hid e; clear e
          go_wp2
          go_quiet (fail)
          go_wp2
          go_roundw
          case rel => exact ⟨k + 1, by omega, by go_num, eqTo_succ heq He.out, below_drewN hb _, hr, hr'⟩
          case measure => simp [intOf]; omega
        · have hne : (nth xs k != nth ys k) = true := by simp [e]
          have He := Lib.hid e; clear e
          go_wp2
          go_quiet (fail)
          go_wp2
          go_ret
          exact ⟨by rw [same_f He.out]; rfl, below_drewN hb _⟩
      · obtain rfl : k = n := by omega
        go_wp2
        go_ret
        exact ⟨by rw [same_t hl.out hl'.out heq]; rfl, hb⟩
  · have hne : ((n : Int) != (n' : Int)) = true := by rw [bne_iff_ne]; omega
    go_enter Tryd.func60, Tryd.ntmps60
    go_wp2
    go_ret
    exact ⟨by rw [same_len (by rw [hl.out, hl'.out]; exact hnn)]; rfl, Below.refl _ _⟩
theorem sameInts_any (A A' : Option Addr) (c c' n n' B B' : Nat) (xs ys : List Int) (w : World) (h : Rd w B A n xs) (h' : Rd w B' A' n' ys) (hm : n ≤ 1099511627776) :
    Calls Tryd.prog 19 #[.slice A n c, .slice A' n' c'] w fun e w' => e = .returned (.bool (same xs ys)) ∧ Below w.heap.size w w' := by
  have hl := Lib.hid h.1
  have hl' := Lib.hid h'.1
  by_cases hnn : n = n'
  · subst hnn
    go_enter Tryd.func19, Tryd.ntmps19
    go_wp2
    go_loopw [5] (fun i wr => ∃ k : Nat, k ≤ n ∧ i = .int .i64 k ∧ eqTo xs ys k ∧ Below w.heap.size w wr ∧ Rd wr B A n xs ∧ Rd wr B' A' n ys) (fun i _ => n - (intOf i).toNat)
    case atStart => exact ⟨0, Nat.zero_le _, rfl, eqTo_zero, Below.refl _ _, h, h'⟩
    case round =>
      obtain ⟨k, hk, rfl, heq, hb, hr, hr'⟩ := hrel
      by_cases hlt : k < n
      · obtain ⟨b, off, rfl, hbB, hck⟩ := hr.at_ hlt
        obtain ⟨b', off', rfl, hbB', hck'⟩ := hr'.at_ hlt
        have hltI : (k : Int) < (n : Int) := by omega
        by_cases e : nth xs k = nth ys k
        · have hne : (nth xs k != nth ys k) = false := by simp [e]
          have He := Lib.hid e; clear e
          go_wp2
          go_quiet (fail)
          go_wp2
          go_roundw
          case rel => exact ⟨k + 1, by omega, by go_num, eqTo_succ heq He.out, below_drewN hb _, hr, hr'⟩
          case measure => simp [intOf]; omega
        · have hne : (nth xs k != nth ys k) = true := by simp [e]
          have He := Lib.hid e; clear e
          go_wp2
          go_quiet (fail)
          go_wp2
          go_ret
          exact ⟨by rw [same_f He.out]; rfl, below_drewN hb _⟩
      · obtain rfl : k = n := by omega
        go_wp2
        go_ret
        exact ⟨by rw [same_t hl.out hl'.out heq]; rfl, hb⟩
  · have hne : ((n : Int) != (n' : Int)) = true := by rw [bne_iff_ne]; omega
    go_enter Tryd.func19, Tryd.ntmps19
    go_wp2
    go_ret
    exact ⟨by rw [same_len (by rw [hl.out, hl'.out]; exact hnn)]; rfl, Below.refl _ _⟩
theorem markIntS_any (A : Option Addr) (c n lo : Nat) (xs : List Int) (m : Int) (w : World) (h : Ow w lo A n c xs) (hm : n ≤ 1099511627776) (h0 : 0 ≤ m) (h1 : m ≤ 4611686018427387904) :
    Calls Tryd.prog 72 #[.slice A n c, .int .i64 m] w fun e w' => e = .returned (.int .i64 (m + n)) ∧ Ow w' lo A n c (marked xs m n n) ∧ w.grownBy w' (Value.slice A n c).ownBlock := by
  have hlen := Lib.hid h.len
  go_enter Tryd.func72, Tryd.ntmps72
  go_wp2
  go_loopw [1, 5] (fun q i wr => ∃ k : Nat, k ≤ n ∧ i = .int .i64 k ∧ q = .int .i64 (m + k) ∧ Ow wr lo A n c (marked xs m k n) ∧ w.grownBy wr (Value.slice A n c).ownBlock) (fun _ i _ => n - (intOf i).toNat)
  case atStart =>
    refine ⟨0, Nat.zero_le _, rfl, by simp, ?_, World.grownBy.refl _ _⟩
    have e := marked_zero xs m
    rw [hlen.out] at e
    rw [e]; exact h
  case round =>
    obtain ⟨k, hk, rfl, rfl, ho, hg⟩ := hrel
    by_cases hlt : k < n
    · obtain ⟨g, rfl, hlog, hgw⟩ := ho.form (by omega)
      have hold := World.ownsRow.cellAt ho k (by omega)
      rw [vals_get (by rw [marked_length]; exact hlt)] at hold
      have hfr := World.ownsRow.frozenAt ho k
      have hst := World.ownsRow.stored ho k (.int .i64 (m + k))
      rw [marked_set] at hst
      have Hst := Lib.hid hst; clear hst
      go_wp2
      go_roundw
      case rel => exact ⟨k + 1, by omega, by go_num, by go_num, Hst.out.1, hg.trans Hst.out.2⟩
      case measure => simp [intOf]; omega
    · obtain rfl : k = n := by omega
      go_wp2
      go_ret
      exact ⟨rfl, ho, hg⟩
theorem heldIntS_seq (A : Option Addr) (c n B : Nat) (m : Int) (w : World) (h : Rd w B A n (seqI m n)) (hm : n ≤ 1099511627776) (h0 : 0 ≤ m) (h1 : m ≤ 1099511627776) :
    Calls Tryd.prog 74 #[.slice A n c, .int .i64 m] w fun e w' => e = .returned (.int .i64 (m + n)) ∧ w = w' := by
  go_enter Tryd.func74, Tryd.ntmps74
  go_wp2
  go_loop [1, 5] (fun q i => ∃ k : Nat, k ≤ n ∧ i = .int .i64 k ∧ q = .int .i64 (m + k)) (fun _ i => n - (intOf i).toNat)
  case atStart => exact ⟨0, Nat.zero_le _, rfl, by simp⟩
  case round =>
    obtain ⟨k, hk, rfl, rfl⟩ := hrel
    by_cases hlt : k < n
    · obtain ⟨b, off, rfl, hbB, hck⟩ := h.at_ hlt
      rw [seqI_nth hlt] at hck
      go_wp2
      go_round
      case rel => exact ⟨k + 1, by omega, by go_num, by go_num⟩
      case measure => simp [intOf]; omega
    · obtain rfl : k = n := by omega
      go_wp2
      go_ret
      exact ⟨rfl, rfl⟩
end Go.Proofs.YtkeoflnmbcdmfaaDoor
set_option maxRecDepth 8000
namespace Go.Proofs.YtkeoflnmbcdmfaaDoor
open Go.ChangeShapes Go.WideShapes Go.ChangeAt Go.RowKit

def zeroArr (n : Nat) : Array Value := madeCells #[.int .i64 0] n
theorem make_ints {n : Nat} (hn : n ≤ 1099511627776) (w : World) : (Instr.makeSlice 23 (.int .i64 (n : Int)) (.int .i64 (n : Int))).run Tryd.prog w = .ok (.slice (some ⟨w.heap.size, 0, none⟩) n n) (w.alloc (.cells (zeroArr n) 3)) := by
  obtain ⟨i0, hi, hz0, hz1, hz2⟩ := info_parts int_info
  have hr := run_make (P := Tryd.prog) w 23 3 i0 (.int .i64 0) Tryd.underlying23 hi hz0 .i64 .i64 (n : Int) (n : Int) (by omega) (Int.le_refl _) (by rw [hz2]; omega) (by omega)
  rw [hz1, Int.toNat_natCast, Nat.mul_one] at hr
  exact hr
theorem zeroArr_ow {n lo : Nat} (hn : n ≤ 1099511627776) (w : World) (hlo : lo ≤ w.heap.size) : Ow (w.alloc (.cells (zeroArr n) 3)) lo (some ⟨w.heap.size, 0, none⟩) n n (zeros n) := by
  have hs : (zeroArr n).size = n * 1 := by simp [zeroArr, madeCells]
  have h := World.ownsRow_lit (e := 3) (size := 1) w (zeroArr n) n hlo (by simp only [maxLen]; omega) hs
  unfold Ow
  have e : (zeroArr n).toList = vals (zeros n) := by
    rw [zeroArr, toList_madeCells_one]
    simp [vals, zeros]
  rw [← e]
  exact h
end Go.Proofs.YtkeoflnmbcdmfaaDoor
namespace Go.Proofs.YtkeoflnmbcdmfaaDoor
open Go.ChangeShapes Go.WideShapes Go.ChangeAt Go.RowKit

def turnIx (size : Int) (k : Nat) : Nat := ((size - 1 - (k : Int) % size) * size + (k : Int) / size).toNat
def turnG (xs : List Int) (size : Int) (k : Nat) : Int := nth xs (turnIx size k)
def turnL (xs : List Int) (size : Int) : List Int := if gv xs size = true then mapTo (turnG xs size) xs.length else []

theorem turn_facts {size : Int} {n k : Nat} (h2 : 2 ≤ size) (h4 : size ≤ 4) (hn : (n : Int) = size * size) (hk : k < n) :
    (0 ≤ (k : Int) % size ∧ (k : Int) % size < size) ∧ (0 ≤ (k : Int) / size ∧ (k : Int) / size < size) ∧ turnIx size k < n ∧ ((turnIx size k : Nat) : Int) = (size - 1 - (k : Int) % size) * size + (k : Int) / size := by
  unfold turnIx
  have : size = 2 ∨ size = 3 ∨ size = 4 := by omega
  rcases this with rfl | rfl | rfl <;> omega

theorem specGridTurn (A : Option Addr) (c n B : Nat) (xs : List Int) (size : Int) (w : World) (h : Rd w B A n xs) (hB : B ≤ w.heap.size) (hm : n ≤ 1099511627776) :
    Calls Tryd.prog 79 #[.slice A n c, .int .i64 size] w (RetSl w (turnL xs size)) := by
  have hlen := Lib.hid h.1
  cases hg : gv xs size
  · have hL : turnL xs size = [] := by simp [turnL, hg]
    have HL := Lib.hid hL; clear hL
    have h1 := h.alloc hB (.cells #[] 3)
    by_cases h0 : 0 < n
    all_goals
      go_enter Tryd.func79, Tryd.ntmps79
      go_wp2
      go_loopw [5, 6] (fun v i wr => i = .int .i64 0 ∧ v = .slice (some ⟨w.heap.size, 0, none⟩) 0 0 ∧ wr = w.alloc (.cells #[] 3)) (fun _ _ _ => 0)
      case atStart => exact ⟨rfl, rfl, rfl⟩
      case round =>
        obtain ⟨rfl, rfl, rfl⟩ := hrel
        go_wp2_with (go_at_call 53; refine (specGridValid _ _ _ _ _ _ _ h1 hm).mono ?_; rintro e w' ⟨rfl, rfl⟩)
        go_ret
        rw [HL.out]
        exact ⟨_, _, rfl, Ow.made0 _ _ (Nat.le_refl _), (Below.refl _ _).alloc (Nat.le_refl _) _⟩
  · obtain ⟨h2, h4⟩ := gv_size hg
    have hL : turnL xs size = mapTo (turnG xs size) n := by simp [turnL, hg, hlen.out]
    have HL := Lib.hid hL; clear hL
    have hn := gv_len hg
    rw [hlen.out] at hn
    have Hn := Lib.hid hn; clear hn
    go_enter Tryd.func79, Tryd.ntmps79
    go_wp2
    go_loopw [5, 6] (fun v i wr => ∃ k : Nat, k ≤ n ∧ i = .int .i64 k ∧ OwV wr w.heap.size v (mapTo (turnG xs size) k) ∧ Below w.heap.size w wr) (fun _ i _ => n - (intOf i).toNat)
    case atStart => exact ⟨0, by omega, rfl, ⟨_, _, rfl, Ow.made0 _ _ (Nat.le_refl _)⟩, (Below.refl _ _).alloc (Nat.le_refl _) _⟩
    case round =>
      obtain ⟨k, hk, rfl, ⟨A', c', rfl, ho⟩, hb⟩ := hrel
      have hr := h.below (hb.mono hB)
      have hkb : (mapTo (turnG xs size) k).length ≤ 1099511627776 := by rw [mapTo_length]; omega
      by_cases hlt : k < n
      · obtain ⟨⟨hr0, hr1⟩, ⟨hd0, hd1⟩, hix, hixe⟩ := turn_facts h2 h4 Hn.out hlt
        obtain ⟨b, off, rfl, hbB, hck⟩ := hr.at_ hix
        obtain ⟨b', off', he, hbB', hckw⟩ := h.at_ hix
        cases he
        have Hckw := Lib.hid hckw; clear hckw
        have hbw : b < w.heap.size := by omega
        have Hixe := Lib.hid hixe; clear hixe
        have hmul := small_mul (by omega : 0 ≤ size - 1 - (k : Int) % size) (by omega : size - 1 - (k : Int) % size ≤ 4) (by omega : 0 ≤ size) h4
        have hw := small_wrap (by omega : 0 ≤ size - 1 - (k : Int) % size) (by omega : size - 1 - (k : Int) % size ≤ 4) (by omega : 0 ≤ size) h4
        go_wp2_with (first
          | (go_at_call 53; refine (specGridValid _ _ _ _ _ _ _ hr hm).mono ?_; rintro e w' ⟨rfl, rfl⟩))
        have hz : (size == 0) = false := by simp; omega
        have hz' : size ≠ 0 := by omega
        have b0 : (0 : Int) ≤ (size - 1 - (k : Int) % size) * size + (k : Int) / size := by omega
        have b1 : (size - 1 - (k : Int) % size) * size + (k : Int) / size < (n : Int) := by rw [← Hixe.out]; omega
        have e1 : IntKind.i64.wrap (size - 1) = size - 1 := IntWalk.i64_in _ (by omega)
        have e2 : IntKind.i64.wrap (size - 1 - (k : Int) % size) = size - 1 - (k : Int) % size := IntWalk.i64_in _ (by omega)
        have e3 : IntKind.i64.wrap ((size - 1 - (k : Int) % size) * size) = (size - 1 - (k : Int) % size) * size := IntWalk.i64_in _ (by omega)
        have e4 : IntKind.i64.wrap ((size - 1 - (k : Int) % size) * size + (k : Int) / size) = (size - 1 - (k : Int) % size) * size + (k : Int) / size := IntWalk.i64_in _ (by omega)
        have e5 : (k : Int).tmod size = (k : Int) % size := Int.tmod_eq_emod_of_nonneg (by omega)
        have e6 : (k : Int).tdiv size = (k : Int) / size := Int.tdiv_eq_ediv_of_nonneg (by omega)
        have e7 : IntKind.i64.wrap ((k : Int) / size) = (k : Int) / size := IntWalk.i64_in _ (by omega)
        have e8 : ((size - 1 - (k : Int) % size) * size + (k : Int) / size).toNat = turnIx size k := rfl
        go_region_held3 (fun w' => w'.cell? ⟨b, off + turnIx size k, none⟩ = some (.int .i64 (nth xs (turnIx size k))))
          (first | go_keep | exact ((push_below hb ho (Nat.le_refl _) hb.size hg1).cell (p := ⟨b, off + turnIx size k, none⟩) hbw).trans Hckw.out)
          ((refine step_push_int (by rfl) _ _ (by rfl) w.heap.size A' _ c' (mapTo (turnG xs size) k) _ (by rfl) (by rfl) ho hkb hb.size ?_; intro A'' c'' w1 ho1 hg1))
        have ho2 : OwV w1 w.heap.size (.slice A'' ((mapTo (turnG xs size) k).length + 1) c'') (mapTo (turnG xs size) (k + 1)) := by
          refine ⟨A'', c'', by rw [mapTo_succ, List.length_append]; rfl, ?_⟩
          rw [mapTo_succ, List.length_append]
          exact ho1
        have hb2 := push_below hb ho (Nat.le_refl _) hb.size hg1
        clear ho1 hg1 e1 e2 e3 e4 e5 e6 e7 e8
        go_wp2
        go_roundw
        case rel => exact ⟨k + 1, by omega, by go_num, ho2, hb2⟩
        case measure => simp [intOf]; omega
      · obtain rfl : k = n := by omega
        go_wp2_with (go_at_call 53; refine (specGridValid _ _ _ _ _ _ _ hr hm).mono ?_; rintro e w' ⟨rfl, rfl⟩)
        go_ret
        rw [HL.out]
        exact ⟨_, _, rfl, ho, hb⟩
end Go.Proofs.YtkeoflnmbcdmfaaDoor
namespace Go.Proofs.YtkeoflnmbcdmfaaDoor
open Go.ChangeShapes Go.WideShapes Go.ChangeAt Go.RowKit

/-- the number of the cell in a row and a column. -/
def cellIx (size row col : Int) : Nat := (row * size + col).toNat
theorem cell_facts {size row col : Int} {n : Nat} (h2 : 2 ≤ size) (h4 : size ≤ 4) (hn : (n : Int) = size * size) (r0 : 0 ≤ row) (r1 : row < size) (c0 : 0 ≤ col) (c1 : col < size) :
    (0 ≤ row * size ∧ row * size ≤ 12) ∧ cellIx size row col < n ∧ ((cellIx size row col : Nat) : Int) = row * size + col := by
  unfold cellIx
  have : size = 2 ∨ size = 3 ∨ size = 4 := by omega
  rcases this with rfl | rfl | rfl <;> omega

theorem implAt (A : Option Addr) (c n B : Nat) (xs : List Int) (size row col : Int) (w : World) (h : Rd w B A n xs) (hB : B ≤ w.heap.size) (h2 : 2 ≤ size) (h4 : size ≤ 4) (hn : Hid ((n : Int) = size * size)) (r0 : 0 ≤ row) (r1 : row < size) (c0 : 0 ≤ col) (c1 : col < size) :
    Calls Tryd.prog 133 #[.agg #[.slice A n c, .int .i64 size], .int .i64 row, .int .i64 col] w fun e w' => e = .returned (.int .i64 (nth xs (cellIx size row col))) ∧ Below w.heap.size w w' := by
  obtain ⟨⟨hm0, hm1⟩, hix, hixe⟩ := cell_facts h2 h4 hn.out r0 r1 c0 c1
  obtain ⟨b, off, rfl, hb, hck⟩ := h.at_ hix
  have hbw : b < w.heap.size := by omega
  have b1 : row * size + col < (n : Int) := by rw [← hixe]; omega
  have hw : wrap64 (row * size) = row * size := IntWalk.wrap64_in _ ⟨by omega, by omega⟩
  have e8 : (row * size + col).toNat = cellIx size row col := rfl
  clear hixe
  go_enter Tryd.func133, Tryd.ntmps133
  go_wp2
  go_ret
  exact ⟨rfl, (Below.refl _ _).alloc (Nat.le_refl _) _⟩
theorem ix_lt {r q s : Nat} (hr : r < s) (hq : q < s) : r * s + q < s * s := by
  have : (r + 1) * s ≤ s * s := Nat.mul_le_mul_right s hr
  rw [Nat.succ_mul] at this
  omega
theorem of_drew_below {w w2 : World} (h : Below w.drew.heap.size w.drew w2) : Below w.heap.size w w2 := ⟨h.os, h.tape, h.output, h.size, h.block⟩
theorem below_drew' {B : Nat} {a w : World} (h : Below B a w) : Below B a w.drew := h.drew
def CellFn_turned (w : World) (p : Value) (s : Nat) (g : Nat → Int) : Prop :=
  ∀ (r c : Nat) (W : World), Below w.heap.size w W → r < s → c < s →
    Calls Tryd.prog 134 #[.int .i64 r, .int .i64 c, p] W fun e w' => e = .returned (.int .i64 (g (r * s + c))) ∧ Below W.heap.size W w'

theorem implRebuilt_turned (p : Value) (A : Option Addr) (cp n : Nat) (s : Nat) (g : Nat → Int) (w : World) (h2 : 2 ≤ s) (h4 : s ≤ 4) (hn : n = s * s) (hc0 : CellFn_turned w p s g) :
    Calls Tryd.prog 131 #[.agg #[.slice A n cp, .int .i64 s], .func (.func 134) #[] #[p]] w (RetSl w (mapTo g n)) := by
  obtain ⟨i0, hi, hz0, hz1, hz2⟩ := info_parts int_info
  have hn16 : n ≤ 16 := by subst hn; exact Nat.le_trans (Nat.mul_le_mul h4 h4) (by omega)
  have Hn := Lib.hid hn; clear hn
  go_enter Tryd.func131, Tryd.ntmps131
  go_wp2_with (refine wpList_make_full _ rfl (.tmp 10) (.tmp 10) 23 rfl w.heap.size 3 i0 (.int .i64 0) 1 Tryd.underlying23 hi hz0 hz1 .i64 .i64 n n n rfl rfl rfl rfl (by rw [hz2]; omega) (by simp only [maxLen]; omega) (by simp) ?_; intro w1 hown hgr; have c1 := box_cell (made_below hgr (Nat.le_refl _)) 1; simp at c1)
  have hb1 : Below w.heap.size w w1 := box_below (made_below hgr (Nat.le_refl _))
  have ho1 := made_part (mapTo g n) hown
  rw [World.size_alloc] at ho1
  clear hown hgr hz0 hz1 hz2 hi
  go_loopw [14] (fun i wr => ∃ r : Nat, r ≤ s ∧ i = .int .i64 r ∧ Ow wr w.heap.size (some ⟨w.heap.size + 1, 0, none⟩) n n (part (mapTo g n) (r * s) n) ∧ Below w.heap.size w wr ∧ wr.cell? ⟨w.heap.size, 1, none⟩ = some (.int .i64 s)) (fun i _ => s - (intOf i).toNat)
  case atStart => exact ⟨0, Nat.zero_le _, rfl, by rw [Nat.zero_mul]; exact ho1, hb1, c1⟩
  case round =>
    obtain ⟨r, hr, rfl, ho, hb, hc⟩ := hrel
    by_cases hlt : r < s
    · go_wp2
      obtain ⟨wo, rfl⟩ : ∃ wo : World, wo = wr := ⟨_, rfl⟩
      go_loopw [19] (fun i wr => ∃ q : Nat, q ≤ s ∧ i = .int .i64 q ∧ Ow wr w.heap.size (some ⟨w.heap.size + 1, 0, none⟩) n n (part (mapTo g n) (r * s + q) n) ∧ Below w.heap.size w wr ∧ wr.cell? ⟨w.heap.size, 1, none⟩ = some (.int .i64 s)) (fun i _ => s - (intOf i).toNat)
      case atStart => exact ⟨0, Nat.zero_le _, rfl, ho, hb, hc⟩
      case round =>
        obtain ⟨q, hq, rfl, hoi, hbi, hci⟩ := hrel
        by_cases hltq : q < s
        · have hixl : r * s + q < n := by rw [Hn.out]; exact ix_lt hlt hltq
          obtain ⟨hold, hfr⟩ := hoi.cell hixl
          have hm0 : (0 : Int) ≤ (r : Int) * s ∧ (r : Int) * s ≤ 16 := small_mul (by omega) (by omega) (by omega) (by omega)
          have hsz : w.heap.size + 1 < wr.drew.heap.size := by
            obtain ⟨g', he, _, hlt'⟩ := hoi.form (by omega)
            cases he
            simpa using hlt'
          have hsz0 : w.heap.size < wr.drew.heap.size := by omega
          have Hst := Lib.hid hoi; clear hoi
          have e1 : IntKind.i64.wrap ((r : Int) * s) = (r : Int) * s := IntWalk.i64_in _ (by omega)
          have e2 : IntKind.i64.wrap ((r : Int) * s + q) = (r : Int) * s + q := IntWalk.i64_in _ (by omega)
          have e3 : ((r : Int) * s + q).toNat = r * s + q := by rw [← Int.natCast_mul, ← Int.natCast_add]; rfl
          have b0 : (0 : Int) ≤ (r : Int) * s + q := by omega
          have b1 : (r : Int) * s + q < n := by rw [← Int.natCast_mul, ← Int.natCast_add]; omega
          have Hc0 := Lib.hid hc0
          clear hc0
          go_wp2_with fail
          go_region_held3 (fun w' => w'.cell? ⟨w.heap.size, 1, none⟩ = some (.int .i64 s))
            (first | go_keep | exact (hb2.cell (p := ⟨w.heap.size, 1, none⟩) hsz0).trans hci)
            ((go_at_call 134; refine (Hc0.out r q _ (by exact below_drew' hbi) hlt hltq).mono ?_; rintro e w2 ⟨rfl, hb2⟩; have hold2 := (hb2.cell (p := ⟨w.heap.size + 1, r * s + q, none⟩) hsz).trans hold; have hfr2 := (hb2.frozen (p := ⟨w.heap.size + 1, r * s + q, none⟩) hsz).trans hfr))
          have hb2' := of_drew_below hb2
          have hO2 := (World.ownsRow.stored (Hst.out.below hb2') (r * s + q) (.int .i64 (g (r * s + q)))).1
          rw [show g (r * s + q) = nth (mapTo g n) (r * s + q) from (mapTo_nth hixl).symm, part_set] at hO2
          have hbn : Below w.heap.size w (w2.setCell ⟨w.heap.size + 1, r * s + q, none⟩ (.int .i64 (nth (mapTo g n) (r * s + q)))) := (step hbi hb2').setCell (by simp) _
          have hcn : (w2.setCell ⟨w.heap.size + 1, r * s + q, none⟩ (.int .i64 (nth (mapTo g n) (r * s + q)))).cell? ⟨w.heap.size, 1, none⟩ = some (.int .i64 s) := by
            rw [World.cell?_setCell_other _ _ _ _ (by simp)]
            exact (hb2'.cell (p := ⟨w.heap.size, 1, none⟩) hsz0).trans hci
          rw [show g (r * s + q) = nth (mapTo g n) (r * s + q) from (mapTo_nth hixl).symm]
          have HO2 := Lib.hid hO2
          clear hold2 hfr2 hold hfr hO2 e1 e2 e3
          go_wp2
          go_roundw
          case rel => exact ⟨q + 1, by omega, by go_num, HO2.out, hbn, hcn⟩
          case measure => simp [intOf]; omega
        · obtain rfl : q = s := by omega
          have e : (r + 1) * q = r * q + q := Nat.succ_mul r q
          rw [← e] at hoi
          go_wp2
          go_roundw
          case rel => exact ⟨r + 1, by omega, by go_num, hoi, hbi, hci⟩
          case measure => simp [intOf]; omega
    · obtain rfl : r = s := by omega
      go_wp2
      go_ret
      rw [← Hn.out, part_all' (mapTo_length _ _)] at ho
      exact retSl_mk ho hb
theorem divmod_ix {s r c : Nat} (h2 : 2 ≤ s) (h4 : s ≤ 4) (hr : r < s) (hc : c < s) : ((r * s + c : Nat) : Int) / (s : Int) = r ∧ ((r * s + c : Nat) : Int) % (s : Int) = c := by
  have : s = 2 ∨ s = 3 ∨ s = 4 := by omega
  rcases this with rfl | rfl | rfl <;> omega
theorem turn_ix {s r c : Nat} (h2 : 2 ≤ s) (h4 : s ≤ 4) (hr : r < s) (hc : c < s) : cellIx s ((s : Int) - 1 - c) r = turnIx s (r * s + c) := by
  obtain ⟨hd, hm⟩ := divmod_ix h2 h4 hr hc
  unfold cellIx turnIx
  rw [hd, hm]
theorem turned1 (A : Option Addr) (cp n B : Nat) (xs : List Int) (s r c : Nat) (G : Nat) (W : World) (h : Rd W B A n xs) (hB : B ≤ W.heap.size) (h2 : 2 ≤ s) (h4 : s ≤ 4) (hn : Hid ((n : Int) = s * s)) (hr : r < s) (hc : c < s)
    (c0 : W.cell? ⟨G, 0, none⟩ = some (.slice A n cp)) (c1 : W.cell? ⟨G, 1, none⟩ = some (.int .i64 s)) :
    Calls Tryd.prog 134 #[.int .i64 r, .int .i64 c, .pointer (some ⟨G, 0, none⟩)] W fun e w' => e = .returned (.int .i64 (turnG xs s (r * s + c))) ∧ Below W.heap.size W w' := by
  have hix := Lib.hid (turn_ix h2 h4 hr hc)
  go_enter Tryd.func134, Tryd.ntmps134
  go_wp2_with fail
  refine (implAt _ _ _ _ _ _ _ _ _ h hB (by omega) (by omega) hn (by omega) (by omega) (by omega) (by omega)).mono ?_
  rintro e w1 ⟨rfl, hb1⟩
  go_wp2
  go_ret
  exact ⟨by rw [turnG, ← hix.out]; rfl, hb1⟩
theorem implTurned (A : Option Addr) (cp n B : Nat) (xs : List Int) (s : Nat) (w : World) (h : Rd w B A n xs) (hB : B ≤ w.heap.size) (h2 : 2 ≤ s) (h4 : s ≤ 4) (hn : Hid ((n : Int) = s * s)) :
    Calls Tryd.prog 123 #[.agg #[.slice A n cp, .int .i64 s]] w (RetSl w (mapTo (turnG xs s) n)) := by
  have hnn : n = s * s := by have := hn.out; rw [← Int.natCast_mul] at this; omega
  have Hnn := Lib.hid hnn; clear hnn
  have hcf : CellFn_turned (w.alloc (.cells #[.slice A n cp, .int .i64 s] 76)) (.pointer (some ⟨w.heap.size, 0, none⟩)) s (turnG xs s) := by
    intro r c W hW hr hc
    have k0 := box_cell hW 0
    have k1 := box_cell hW 1
    simp at k0 k1
    have hbb := box_below hW
    exact turned1 A cp n B xs s r c w.heap.size W (h.below (hbb.mono hB)) (Nat.le_trans hB hbb.size) h2 h4 hn hr hc k0 k1
  go_enter Tryd.func123, Tryd.ntmps123
  go_wp2_with fail
  refine (implRebuilt_turned _ A cp n s (turnG xs s) _ h2 h4 Hnn.out hcf).mono ?_
  rintro e w1 ⟨A1, c1, rfl, ho, hb⟩
  go_wp2
  go_ret
  exact ⟨A1, c1, rfl, ho.mono (by simp), box_below hb⟩
end Go.Proofs.YtkeoflnmbcdmfaaDoor
namespace Go.Proofs.YtkeoflnmbcdmfaaDoor
open Go.ChangeShapes Go.WideShapes Go.ChangeAt Go.RowKit

def mirIx (size : Int) (k : Nat) : Nat := ((k : Int) / size * size + size - 1 - (k : Int) % size).toNat
def mirG (xs : List Int) (size : Int) (k : Nat) : Int := nth xs (mirIx size k)
def mirL (xs : List Int) (size : Int) : List Int := if gv xs size = true then mapTo (mirG xs size) xs.length else []

theorem mir_facts {size : Int} {n k : Nat} (h2 : 2 ≤ size) (h4 : size ≤ 4) (hn : (n : Int) = size * size) (hk : k < n) :
    (0 ≤ (k : Int) % size ∧ (k : Int) % size < size) ∧ (0 ≤ (k : Int) / size ∧ (k : Int) / size < size) ∧ mirIx size k < n ∧ ((mirIx size k : Nat) : Int) = (k : Int) / size * size + size - 1 - (k : Int) % size := by
  unfold mirIx
  have : size = 2 ∨ size = 3 ∨ size = 4 := by omega
  rcases this with rfl | rfl | rfl <;> omega

theorem specGridMirror (A : Option Addr) (c n B : Nat) (xs : List Int) (size : Int) (w : World) (h : Rd w B A n xs) (hB : B ≤ w.heap.size) (hm : n ≤ 1099511627776) :
    Calls Tryd.prog 78 #[.slice A n c, .int .i64 size] w (RetSl w (mirL xs size)) := by
  have hlen := Lib.hid h.1
  cases hg : gv xs size
  · have hL : mirL xs size = [] := by simp [mirL, hg]
    have HL := Lib.hid hL; clear hL
    have h1 := h.alloc hB (.cells #[] 3)
    by_cases h0 : 0 < n
    all_goals
      go_enter Tryd.func78, Tryd.ntmps78
      go_wp2
      go_loopw [5, 6] (fun v i wr => i = .int .i64 0 ∧ v = .slice (some ⟨w.heap.size, 0, none⟩) 0 0 ∧ wr = w.alloc (.cells #[] 3)) (fun _ _ _ => 0)
      case atStart => exact ⟨rfl, rfl, rfl⟩
      case round =>
        obtain ⟨rfl, rfl, rfl⟩ := hrel
        go_wp2_with (go_at_call 53; refine (specGridValid _ _ _ _ _ _ _ h1 hm).mono ?_; rintro e w' ⟨rfl, rfl⟩)
        go_ret
        rw [HL.out]
        exact ⟨_, _, rfl, Ow.made0 _ _ (Nat.le_refl _), (Below.refl _ _).alloc (Nat.le_refl _) _⟩
  · obtain ⟨h2, h4⟩ := gv_size hg
    have hL : mirL xs size = mapTo (mirG xs size) n := by simp [mirL, hg, hlen.out]
    have HL := Lib.hid hL; clear hL
    have hn := gv_len hg
    rw [hlen.out] at hn
    have Hn := Lib.hid hn; clear hn
    go_enter Tryd.func78, Tryd.ntmps78
    go_wp2
    go_loopw [5, 6] (fun v i wr => ∃ k : Nat, k ≤ n ∧ i = .int .i64 k ∧ OwV wr w.heap.size v (mapTo (mirG xs size) k) ∧ Below w.heap.size w wr) (fun _ i _ => n - (intOf i).toNat)
    case atStart => exact ⟨0, by omega, rfl, ⟨_, _, rfl, Ow.made0 _ _ (Nat.le_refl _)⟩, (Below.refl _ _).alloc (Nat.le_refl _) _⟩
    case round =>
      obtain ⟨k, hk, rfl, ⟨A', c', rfl, ho⟩, hb⟩ := hrel
      have hr := h.below (hb.mono hB)
      have hkb : (mapTo (mirG xs size) k).length ≤ 1099511627776 := by rw [mapTo_length]; omega
      by_cases hlt : k < n
      · obtain ⟨⟨hr0, hr1⟩, ⟨hd0, hd1⟩, hix, hixe⟩ := mir_facts h2 h4 Hn.out hlt
        obtain ⟨b, off, rfl, hbB, hck⟩ := hr.at_ hix
        obtain ⟨b', off', he, hbB', hckw⟩ := h.at_ hix
        cases he
        have Hckw := Lib.hid hckw; clear hckw
        have hbw : b < w.heap.size := by omega
        have Hixe := Lib.hid hixe; clear hixe
        have hmul := small_mul hd0 (by omega : (k : Int) / size ≤ 4) (by omega : 0 ≤ size) h4
        have hw := small_wrap hd0 (by omega : (k : Int) / size ≤ 4) (by omega : 0 ≤ size) h4
        go_wp2_with (first
          | (go_at_call 53; refine (specGridValid _ _ _ _ _ _ _ hr hm).mono ?_; rintro e w' ⟨rfl, rfl⟩))
        have hz : (size == 0) = false := by simp; omega
        have hz' : size ≠ 0 := by omega
        have b0 : (0 : Int) ≤ (k : Int) / size * size + size - 1 - (k : Int) % size := by omega
        have b0' : (k : Int) % size ≤ (k : Int) / size * size + size - 1 := by omega
        have b1 : (k : Int) / size * size + size - 1 - (k : Int) % size < (n : Int) := by rw [← Hixe.out]; omega
        have e1 : IntKind.i64.wrap ((k : Int) / size * size) = (k : Int) / size * size := IntWalk.i64_in _ (by omega)
        have e2 : IntKind.i64.wrap ((k : Int) / size * size + size) = (k : Int) / size * size + size := IntWalk.i64_in _ (by omega)
        have e3 : IntKind.i64.wrap ((k : Int) / size * size + size - 1) = (k : Int) / size * size + size - 1 := IntWalk.i64_in _ (by omega)
        have e4 : IntKind.i64.wrap ((k : Int) / size * size + size - 1 - (k : Int) % size) = (k : Int) / size * size + size - 1 - (k : Int) % size := IntWalk.i64_in _ (by omega)
        have e5 : (k : Int).tmod size = (k : Int) % size := Int.tmod_eq_emod_of_nonneg (by omega)
        have e6 : (k : Int).tdiv size = (k : Int) / size := Int.tdiv_eq_ediv_of_nonneg (by omega)
        have e7 : IntKind.i64.wrap ((k : Int) / size) = (k : Int) / size := IntWalk.i64_in _ (by omega)
        have e8 : ((k : Int) / size * size + size - 1 - (k : Int) % size).toNat = mirIx size k := rfl
        go_region_held3 (fun w' => w'.cell? ⟨b, off + mirIx size k, none⟩ = some (.int .i64 (nth xs (mirIx size k))))
          (first | go_keep | exact ((push_below hb ho (Nat.le_refl _) hb.size hg1).cell (p := ⟨b, off + mirIx size k, none⟩) hbw).trans Hckw.out)
          ((refine step_push_int (by rfl) _ _ (by rfl) w.heap.size A' _ c' (mapTo (mirG xs size) k) _ (by rfl) (by rfl) ho hkb hb.size ?_; intro A'' c'' w1 ho1 hg1))
        have ho2 : OwV w1 w.heap.size (.slice A'' ((mapTo (mirG xs size) k).length + 1) c'') (mapTo (mirG xs size) (k + 1)) := by
          refine ⟨A'', c'', by rw [mapTo_succ, List.length_append]; rfl, ?_⟩
          rw [mapTo_succ, List.length_append]
          exact ho1
        have hb2 := push_below hb ho (Nat.le_refl _) hb.size hg1
        clear ho1 hg1 e1 e2 e3 e4 e5 e6 e7 e8
        go_wp2
        go_roundw
        case rel => exact ⟨k + 1, by omega, by go_num, ho2, hb2⟩
        case measure => simp [intOf]; omega
      · obtain rfl : k = n := by omega
        go_wp2_with (go_at_call 53; refine (specGridValid _ _ _ _ _ _ _ hr hm).mono ?_; rintro e w' ⟨rfl, rfl⟩)
        go_ret
        rw [HL.out]
        exact ⟨_, _, rfl, ho, hb⟩
def CellFn_mirrored (w : World) (p : Value) (s : Nat) (g : Nat → Int) : Prop :=
  ∀ (r c : Nat) (W : World), Below w.heap.size w W → r < s → c < s →
    Calls Tryd.prog 132 #[.int .i64 r, .int .i64 c, p] W fun e w' => e = .returned (.int .i64 (g (r * s + c))) ∧ Below W.heap.size W w'

theorem implRebuilt_mirrored (p : Value) (A : Option Addr) (cp n : Nat) (s : Nat) (g : Nat → Int) (w : World) (h2 : 2 ≤ s) (h4 : s ≤ 4) (hn : n = s * s) (hc0 : CellFn_mirrored w p s g) :
    Calls Tryd.prog 131 #[.agg #[.slice A n cp, .int .i64 s], .func (.func 132) #[] #[p]] w (RetSl w (mapTo g n)) := by
  obtain ⟨i0, hi, hz0, hz1, hz2⟩ := info_parts int_info
  have hn16 : n ≤ 16 := by subst hn; exact Nat.le_trans (Nat.mul_le_mul h4 h4) (by omega)
  have Hn := Lib.hid hn; clear hn
  go_enter Tryd.func131, Tryd.ntmps131
  go_wp2_with (refine wpList_make_full _ rfl (.tmp 10) (.tmp 10) 23 rfl w.heap.size 3 i0 (.int .i64 0) 1 Tryd.underlying23 hi hz0 hz1 .i64 .i64 n n n rfl rfl rfl rfl (by rw [hz2]; omega) (by simp only [maxLen]; omega) (by simp) ?_; intro w1 hown hgr; have c1 := box_cell (made_below hgr (Nat.le_refl _)) 1; simp at c1)
  have hb1 : Below w.heap.size w w1 := box_below (made_below hgr (Nat.le_refl _))
  have ho1 := made_part (mapTo g n) hown
  rw [World.size_alloc] at ho1
  clear hown hgr hz0 hz1 hz2 hi
  go_loopw [14] (fun i wr => ∃ r : Nat, r ≤ s ∧ i = .int .i64 r ∧ Ow wr w.heap.size (some ⟨w.heap.size + 1, 0, none⟩) n n (part (mapTo g n) (r * s) n) ∧ Below w.heap.size w wr ∧ wr.cell? ⟨w.heap.size, 1, none⟩ = some (.int .i64 s)) (fun i _ => s - (intOf i).toNat)
  case atStart => exact ⟨0, Nat.zero_le _, rfl, by rw [Nat.zero_mul]; exact ho1, hb1, c1⟩
  case round =>
    obtain ⟨r, hr, rfl, ho, hb, hc⟩ := hrel
    by_cases hlt : r < s
    · go_wp2
      obtain ⟨wo, rfl⟩ : ∃ wo : World, wo = wr := ⟨_, rfl⟩
      go_loopw [19] (fun i wr => ∃ q : Nat, q ≤ s ∧ i = .int .i64 q ∧ Ow wr w.heap.size (some ⟨w.heap.size + 1, 0, none⟩) n n (part (mapTo g n) (r * s + q) n) ∧ Below w.heap.size w wr ∧ wr.cell? ⟨w.heap.size, 1, none⟩ = some (.int .i64 s)) (fun i _ => s - (intOf i).toNat)
      case atStart => exact ⟨0, Nat.zero_le _, rfl, ho, hb, hc⟩
      case round =>
        obtain ⟨q, hq, rfl, hoi, hbi, hci⟩ := hrel
        by_cases hltq : q < s
        · have hixl : r * s + q < n := by rw [Hn.out]; exact ix_lt hlt hltq
          obtain ⟨hold, hfr⟩ := hoi.cell hixl
          have hm0 : (0 : Int) ≤ (r : Int) * s ∧ (r : Int) * s ≤ 16 := small_mul (by omega) (by omega) (by omega) (by omega)
          have hsz : w.heap.size + 1 < wr.drew.heap.size := by
            obtain ⟨g', he, _, hlt'⟩ := hoi.form (by omega)
            cases he
            simpa using hlt'
          have hsz0 : w.heap.size < wr.drew.heap.size := by omega
          have Hst := Lib.hid hoi; clear hoi
          have e1 : IntKind.i64.wrap ((r : Int) * s) = (r : Int) * s := IntWalk.i64_in _ (by omega)
          have e2 : IntKind.i64.wrap ((r : Int) * s + q) = (r : Int) * s + q := IntWalk.i64_in _ (by omega)
          have e3 : ((r : Int) * s + q).toNat = r * s + q := by rw [← Int.natCast_mul, ← Int.natCast_add]; rfl
          have b0 : (0 : Int) ≤ (r : Int) * s + q := by omega
          have b1 : (r : Int) * s + q < n := by rw [← Int.natCast_mul, ← Int.natCast_add]; omega
          have Hc0 := Lib.hid hc0
          clear hc0
          go_wp2_with fail
          go_region_held3 (fun w' => w'.cell? ⟨w.heap.size, 1, none⟩ = some (.int .i64 s))
            (first | go_keep | exact (hb2.cell (p := ⟨w.heap.size, 1, none⟩) hsz0).trans hci)
            ((go_at_call 132; refine (Hc0.out r q _ (by exact below_drew' hbi) hlt hltq).mono ?_; rintro e w2 ⟨rfl, hb2⟩; have hold2 := (hb2.cell (p := ⟨w.heap.size + 1, r * s + q, none⟩) hsz).trans hold; have hfr2 := (hb2.frozen (p := ⟨w.heap.size + 1, r * s + q, none⟩) hsz).trans hfr))
          have hb2' := of_drew_below hb2
          have hO2 := (World.ownsRow.stored (Hst.out.below hb2') (r * s + q) (.int .i64 (g (r * s + q)))).1
          rw [show g (r * s + q) = nth (mapTo g n) (r * s + q) from (mapTo_nth hixl).symm, part_set] at hO2
          have hbn : Below w.heap.size w (w2.setCell ⟨w.heap.size + 1, r * s + q, none⟩ (.int .i64 (nth (mapTo g n) (r * s + q)))) := (step hbi hb2').setCell (by simp) _
          have hcn : (w2.setCell ⟨w.heap.size + 1, r * s + q, none⟩ (.int .i64 (nth (mapTo g n) (r * s + q)))).cell? ⟨w.heap.size, 1, none⟩ = some (.int .i64 s) := by
            rw [World.cell?_setCell_other _ _ _ _ (by simp)]
            exact (hb2'.cell (p := ⟨w.heap.size, 1, none⟩) hsz0).trans hci
          rw [show g (r * s + q) = nth (mapTo g n) (r * s + q) from (mapTo_nth hixl).symm]
          have HO2 := Lib.hid hO2
          clear hold2 hfr2 hold hfr hO2 e1 e2 e3
          go_wp2
          go_roundw
          case rel => exact ⟨q + 1, by omega, by go_num, HO2.out, hbn, hcn⟩
          case measure => simp [intOf]; omega
        · obtain rfl : q = s := by omega
          have e : (r + 1) * q = r * q + q := Nat.succ_mul r q
          rw [← e] at hoi
          go_wp2
          go_roundw
          case rel => exact ⟨r + 1, by omega, by go_num, hoi, hbi, hci⟩
          case measure => simp [intOf]; omega
    · obtain rfl : r = s := by omega
      go_wp2
      go_ret
      rw [← Hn.out, part_all' (mapTo_length _ _)] at ho
      exact retSl_mk ho hb
theorem mir_ix {s r c : Nat} (h2 : 2 ≤ s) (h4 : s ≤ 4) (hr : r < s) (hc : c < s) : cellIx s r ((s : Int) - 1 - c) = mirIx s (r * s + c) := by
  obtain ⟨hd, hm⟩ := divmod_ix h2 h4 hr hc
  unfold cellIx mirIx
  rw [hd, hm]
  congr 1
  omega
theorem mirrored1 (A : Option Addr) (cp n B : Nat) (xs : List Int) (s r c : Nat) (G : Nat) (W : World) (h : Rd W B A n xs) (hB : B ≤ W.heap.size) (h2 : 2 ≤ s) (h4 : s ≤ 4) (hn : Hid ((n : Int) = s * s)) (hr : r < s) (hc : c < s)
    (c0 : W.cell? ⟨G, 0, none⟩ = some (.slice A n cp)) (c1 : W.cell? ⟨G, 1, none⟩ = some (.int .i64 s)) :
    Calls Tryd.prog 132 #[.int .i64 r, .int .i64 c, .pointer (some ⟨G, 0, none⟩)] W fun e w' => e = .returned (.int .i64 (mirG xs s (r * s + c))) ∧ Below W.heap.size W w' := by
  have hix := Lib.hid (mir_ix h2 h4 hr hc)
  go_enter Tryd.func132, Tryd.ntmps132
  go_wp2_with fail
  refine (implAt _ _ _ _ _ _ _ _ _ h hB (by omega) (by omega) hn (by omega) (by omega) (by omega) (by omega)).mono ?_
  rintro e w1 ⟨rfl, hb1⟩
  go_wp2
  go_ret
  exact ⟨by rw [mirG, ← hix.out]; rfl, hb1⟩
theorem implMirrored (A : Option Addr) (cp n B : Nat) (xs : List Int) (s : Nat) (w : World) (h : Rd w B A n xs) (hB : B ≤ w.heap.size) (h2 : 2 ≤ s) (h4 : s ≤ 4) (hn : Hid ((n : Int) = s * s)) :
    Calls Tryd.prog 122 #[.agg #[.slice A n cp, .int .i64 s]] w (RetSl w (mapTo (mirG xs s) n)) := by
  have hnn : n = s * s := by have := hn.out; rw [← Int.natCast_mul] at this; omega
  have Hnn := Lib.hid hnn; clear hnn
  have hcf : CellFn_mirrored (w.alloc (.cells #[.slice A n cp, .int .i64 s] 76)) (.pointer (some ⟨w.heap.size, 0, none⟩)) s (mirG xs s) := by
    intro r c W hW hr hc
    have k0 := box_cell hW 0
    have k1 := box_cell hW 1
    simp at k0 k1
    have hbb := box_below hW
    exact mirrored1 A cp n B xs s r c w.heap.size W (h.below (hbb.mono hB)) (Nat.le_trans hB hbb.size) h2 h4 hn hr hc k0 k1
  go_enter Tryd.func122, Tryd.ntmps122
  go_wp2_with fail
  refine (implRebuilt_mirrored _ A cp n s (mirG xs s) _ h2 h4 Hnn.out hcf).mono ?_
  rintro e w1 ⟨A1, c1, rfl, ho, hb⟩
  go_wp2
  go_ret
  exact ⟨A1, c1, rfl, ho.mono (by simp), box_below hb⟩
end Go.Proofs.YtkeoflnmbcdmfaaDoor
namespace Go.Proofs.YtkeoflnmbcdmfaaDoor
open Go.ChangeShapes Go.WideShapes Go.ChangeAt Go.RowKit

theorem Rd.take_ {w : World} {B : Nat} {A : Option Addr} {n : Nat} {xs : List Int} (h : Rd w B A n xs) {m : Nat} (hm : m ≤ n) : Rd w B A m (xs.take m) := by
  refine ⟨by rw [List.length_take, h.1]; omega, fun h0 => ?_⟩
  obtain ⟨b, off, he, hb, hc⟩ := h.2 (by omega)
  refine ⟨b, off, he, hb, fun k hk => ?_⟩
  rw [hc k (by omega)]
  simp [nth, List.getD_eq_getElem?_getD, hk]
theorem gv_n {xs : List Int} {size : Int} {n : Nat} (h : gv xs size = true) (hl : xs.length = n) : 4 ≤ n ∧ n ≤ 16 ∧ (n : Int) = size * size := by
  obtain ⟨h2, h4⟩ := gv_size h
  have := gv_len h
  obtain ⟨q4, q16⟩ := sq_bd h2 h4
  rw [hl] at this
  omega
theorem gv_short {xs : List Int} {size : Int} {n : Nat} (h : gv xs size = true) (hl : xs.length = n) : gv (xs.take (n - 1)) size = false := by
  obtain ⟨h4, _, hn⟩ := gv_n h hl
  have e : ((xs.take (n - 1)).length : Int) = n - 1 := by rw [List.length_take, hl]; omega
  cases hg : gv (xs.take (n - 1)) size
  · rfl
  · have := gv_len hg
    omega
theorem gv_large {xs : List Int} {size : Int} {n : Nat} (h : gv xs size = true) (hl : xs.length = n) : gv (xs.set 0 (size + 1)) size = false := by
  obtain ⟨h4, _, hn⟩ := gv_n h hl
  cases hg : gv (xs.set 0 (size + 1)) size
  · rfl
  · have := gv_nth hg (k := 0) (by rw [List.length_set, hl]; omega)
    rw [nth_set (by omega), if_pos rfl] at this
    omega

theorem copy_below {w w' : World} (hg : (w.alloc (.cells #[] 3)).grownBy w' (Value.slice (some ⟨w.heap.size, 0, none⟩) 0 0).ownBlock) : Below w.heap.size w w' :=
  ((Below.refl _ _).alloc (Nat.le_refl _) _).grown hg (by simp) (fun k hk => (Ow.made0 w w.heap.size (Nat.le_refl _)).own_lo k hk)
theorem cnz_lt {xs : List Int} {k : Nat} {v : Int} (hk : k < xs.length) : ∀ m, m ≤ k → cnz (xs.set k v) m = cnz xs m := by
  intro m
  induction m with
  | zero => intro _; rfl
  | succ m ih =>
    intro hm
    simp only [cnz]
    have e : k ≠ m := by omega
    rw [ih (by omega), nth_set hk, if_neg e]
theorem cnz_set {xs : List Int} {k : Nat} (hk : k < xs.length) (h : nth xs k ≠ 0) : ∀ m, k < m → cnz (xs.set k 0) m + 1 = cnz xs m := by
  intro m
  induction m with
  | zero => intro hm; omega
  | succ m ih =>
    intro hm
    simp only [cnz]
    by_cases e : k = m
    · subst e
      rw [cnz_lt hk k (Nat.le_refl _), nth_set hk, if_pos rfl, if_pos rfl, if_neg h]
    · rw [nth_set hk, if_neg e]
      have := ih (by omega)
      omega
theorem gv_set0 {xs : List Int} {size : Int} {n k : Nat} (h : gv xs size = true) (hl : xs.length = n) : gv (xs.set k 0) size = true := by
  obtain ⟨h2, h4⟩ := gv_size h
  refine okAll_gv (n := n) (by simpa using hl) (gv_n h hl).2.2 h2 h4 (okAll_set' (fun j hj => gv_nth h (by omega)) (by omega) (by omega))
theorem gf_set {xs : List Int} {size : Int} {k : Nat} (h : gv xs size = true) (hk : k < xs.length) (h0 : nth xs k ≠ 0) : gf (xs.set k 0) size = gf xs size - 1 := by
  have := cnz_set hk h0 xs.length hk
  unfold gf
  rw [if_pos h, if_pos (gv_set0 h rfl), List.length_set]
  omega
theorem cnz_zeros (n m : Nat) : cnz (zeros n) m = 0 := by
  induction m with
  | zero => rfl
  | succ m ih => rw [cnz, ih, zeros_nth]; rfl
theorem gf_zeros {size : Int} {n : Nat} (h2 : 2 ≤ size) (h4 : size ≤ 4) (hn : (n : Int) = size * size) : gf (zeros n) size = 0 := by
  have hg : gv (zeros n) size = true := okAll_gv (zeros_length n) hn h2 h4 (okAll_zeros (by omega) n)
  unfold gf
  rw [if_pos hg, cnz_zeros]; rfl

end Go.Proofs.YtkeoflnmbcdmfaaDoor
namespace Go.Proofs.YtkeoflnmbcdmfaaDoor
open Go.ChangeShapes Go.WideShapes Go.ChangeAt Go.RowKit

/-- the list whose value at k is the one of xs at P k. -/
def pm (xs : List Int) (P : Nat → Nat) (n : Nat) : List Int := mapTo (fun k => nth xs (P k)) n
theorem pm_length (xs : List Int) (P : Nat → Nat) (n : Nat) : (pm xs P n).length = n := mapTo_length _ _
theorem pm_nth {xs : List Int} {P : Nat → Nat} {n k : Nat} (h : k < n) : nth (pm xs P n) k = nth xs (P k) := mapTo_nth h
theorem pm_pm {xs : List Int} {P Q : Nat → Nat} {n : Nat} (h : ∀ k, k < n → P k < n) : pm (pm xs Q n) P n = pm xs (fun k => Q (P k)) n := by
  apply ext_nth (by rw [pm_length, pm_length])
  intro k hk
  rw [pm_length] at hk
  rw [pm_nth hk, pm_nth (h k hk), pm_nth hk]
theorem pm_id {xs : List Int} {P : Nat → Nat} {n : Nat} (hl : xs.length = n) (h : ∀ k, k < n → P k = k) : pm xs P n = xs := by
  apply ext_nth (by rw [pm_length, hl])
  intro k hk
  rw [pm_length] at hk
  rw [pm_nth hk, h k hk]
theorem pm_eq {xs : List Int} {P Q : Nat → Nat} {n : Nat} (h : ∀ k, k < n → P k = Q k) : pm xs P n = pm xs Q n := by
  apply ext_nth (by rw [pm_length, pm_length])
  intro k hk
  rw [pm_length] at hk
  rw [pm_nth hk, pm_nth hk, h k hk]
theorem pm_gv {xs : List Int} {size : Int} {P : Nat → Nat} {n : Nat} (hg : gv xs size = true) (hl : xs.length = n) (h : ∀ k, k < n → P k < n) : gv (pm xs P n) size = true := by
  obtain ⟨h2, h4⟩ := gv_size hg
  refine okAll_gv (pm_length _ _ _) (gv_n hg hl).2.2 h2 h4 (fun k hk => ?_)
  rw [pm_nth hk]
  exact gv_nth hg (by rw [hl]; exact h k hk)
theorem cnz_sum (xs : List Int) (n : Nat) : cnz xs n = ((List.range n).map fun k => if nth xs k = 0 then 0 else 1).sum := by
  induction n with
  | zero => rfl
  | succ n ih => simp [cnz, ih, List.range_succ]
theorem pm_cnz {xs : List Int} {P : Nat → Nat} {n : Nat} (hp : (List.map P (List.range n)).Perm (List.range n)) : cnz (pm xs P n) n = cnz xs n := by
  rw [cnz_sum, cnz_sum]
  have h1 : (List.range n).map (fun k => if nth (pm xs P n) k = 0 then 0 else 1) = (List.map P (List.range n)).map (fun k => if nth xs k = 0 then 0 else 1) := by
    rw [List.map_map]
    apply List.map_congr_left
    intro k hk
    have : k < n := by simpa using hk
    simp only [Function.comp, pm_nth this]
  rw [h1]
  exact (hp.map _).sum_nat
theorem pm_gf {xs : List Int} {size : Int} {P : Nat → Nat} {n : Nat} (hg : gv xs size = true) (hl : xs.length = n) (h : ∀ k, k < n → P k < n) (hp : (List.map P (List.range n)).Perm (List.range n)) : gf (pm xs P n) size = gf xs size := by
  unfold gf
  rw [if_pos hg, if_pos (pm_gv hg hl h), pm_length, pm_cnz hp, hl]

theorem size_nat {xs : List Int} {size : Int} (hg : gv xs size = true) : ∃ s : Nat, size = s ∧ s ∈ [2, 3, 4] ∧ xs.length = s * s := by
  obtain ⟨h2, h4⟩ := gv_size hg
  obtain ⟨s, rfl⟩ := Int.eq_ofNat_of_zero_le (by omega : 0 ≤ size)
  refine ⟨s, rfl, by simp; omega, ?_⟩
  have := gv_len hg
  rw [← Int.natCast_mul] at this
  omega
theorem turn_lt : ∀ s ∈ [2, 3, 4], ∀ k, k < s * s → turnIx (s : Nat) k < s * s := by decide +kernel
theorem turn_perm : ∀ s ∈ [2, 3, 4], (List.map (turnIx (s : Nat)) (List.range (s * s))).Perm (List.range (s * s)) := by decide +kernel
theorem turn_four : ∀ s ∈ [2, 3, 4], ∀ k, k < s * s → turnIx (s : Nat) (turnIx (s : Nat) (turnIx (s : Nat) (turnIx (s : Nat) k))) = k := by decide +kernel
theorem turn_edge : ∀ s ∈ [2, 3, 4], ∀ k, k < s → turnIx (s : Nat) (k * s + s - 1) = k := by decide +kernel

/-- what is known of a turned grid. -/
structure TurnFacts (xs : List Int) (size : Int) (n : Nat) : Prop where
  len : (turnL xs size).length = n
  valid : gv (turnL xs size) size = true
  four : turnL (turnL (turnL (turnL xs size) size) size) size = xs
  filled : gf (turnL xs size) size = gf xs size
  edge : ∀ k : Nat, (k : Int) < size → nth (turnL xs size) ((k : Int) * size + size - 1).toNat = nth xs k
theorem turnL_pm {xs : List Int} {size : Int} {n : Nat} (hg : gv xs size = true) (hl : xs.length = n) : turnL xs size = pm xs (turnIx size) n := by
  unfold turnL
  rw [if_pos hg, hl]; rfl
theorem turn_all {xs : List Int} {size : Int} {n : Nat} (hg : gv xs size = true) (hl : xs.length = n) : TurnFacts xs size n := by
  obtain ⟨s, rfl, hs, hls⟩ := size_nat hg
  have hn : n = s * s := by rw [← hl, hls]
  subst hn
  have lt := turn_lt s hs
  have e1 := turnL_pm hg hl
  have g1 : gv (turnL xs s) s = true := by rw [e1]; exact pm_gv hg hl lt
  have l1 : (turnL xs s).length = s * s := by rw [e1, pm_length]
  have e2 := turnL_pm g1 l1
  have g2 : gv (turnL (turnL xs s) s) s = true := by rw [e2]; exact pm_gv g1 l1 lt
  have l2 : (turnL (turnL xs s) s).length = s * s := by rw [e2, pm_length]
  have e3 := turnL_pm g2 l2
  have g3 : gv (turnL (turnL (turnL xs s) s) s) s = true := by rw [e3]; exact pm_gv g2 l2 lt
  have l3 : (turnL (turnL (turnL xs s) s) s).length = s * s := by rw [e3, pm_length]
  have e4 := turnL_pm g3 l3
  refine ⟨l1, g1, ?_, ?_, ?_⟩
  · rw [e4, e3, e2, e1, pm_pm lt, pm_pm (fun k hk => lt _ (lt k hk)), pm_pm (fun k hk => lt _ (lt _ (lt k hk)))]
    exact pm_id hl (turn_four s hs)
  · rw [e1]; exact pm_gf hg hl lt (turn_perm s hs)
  · intro k hk
    have hks : k < s := by omega
    have hi : k * s + s - 1 < s * s := by
      have := ix_lt hks (by omega : s - 1 < s)
      omega
    have e : ((k : Int) * (s : Int) + (s : Int) - 1).toNat = k * s + s - 1 := by
      rw [← Int.natCast_mul]; omega
    rw [e, e1, pm_nth hi, turn_edge s hs k hks]
theorem mir_lt : ∀ s ∈ [2, 3, 4], ∀ k, k < s * s → mirIx (s : Nat) k < s * s := by decide +kernel
theorem mir_two : ∀ s ∈ [2, 3, 4], ∀ k, k < s * s → mirIx (s : Nat) (mirIx (s : Nat) k) = k := by decide +kernel
theorem mir_turn : ∀ s ∈ [2, 3, 4], ∀ k, k < s * s → mirIx (s : Nat) (turnIx (s : Nat) k) = turnIx (s : Nat) (turnIx (s : Nat) (turnIx (s : Nat) (mirIx (s : Nat) k))) := by decide +kernel
structure MirFacts (xs : List Int) (size : Int) (n : Nat) : Prop where
  len : (mirL xs size).length = n
  valid : gv (mirL xs size) size = true
  two : mirL (mirL xs size) size = xs
  turned : turnL (mirL xs size) size = mirL (turnL (turnL (turnL xs size) size) size) size
theorem mirL_pm {xs : List Int} {size : Int} {n : Nat} (hg : gv xs size = true) (hl : xs.length = n) : mirL xs size = pm xs (mirIx size) n := by
  unfold mirL
  rw [if_pos hg, hl]; rfl
theorem mir_all {xs : List Int} {size : Int} {n : Nat} (hg : gv xs size = true) (hl : xs.length = n) : MirFacts xs size n := by
  obtain ⟨s, rfl, hs, hls⟩ := size_nat hg
  have hn : n = s * s := by rw [← hl, hls]
  subst hn
  have lt := turn_lt s hs
  have ltm := mir_lt s hs
  have e1 := mirL_pm hg hl
  have g1 : gv (mirL xs s) s = true := by rw [e1]; exact pm_gv hg hl ltm
  have l1 : (mirL xs s).length = s * s := by rw [e1, pm_length]
  have t1 := turnL_pm hg hl
  have h1 : gv (turnL xs s) s = true := by rw [t1]; exact pm_gv hg hl lt
  have m1 : (turnL xs s).length = s * s := by rw [t1, pm_length]
  have t2 := turnL_pm h1 m1
  have h2 : gv (turnL (turnL xs s) s) s = true := by rw [t2]; exact pm_gv h1 m1 lt
  have m2 : (turnL (turnL xs s) s).length = s * s := by rw [t2, pm_length]
  have t3 := turnL_pm h2 m2
  have h3 : gv (turnL (turnL (turnL xs s) s) s) s = true := by rw [t3]; exact pm_gv h2 m2 lt
  have m3 : (turnL (turnL (turnL xs s) s) s).length = s * s := by rw [t3, pm_length]
  refine ⟨l1, g1, ?_, ?_⟩
  · rw [mirL_pm g1 l1, e1, pm_pm ltm]
    exact pm_id hl (mir_two s hs)
  · rw [turnL_pm g1 l1, mirL_pm h3 m3, t3, t2, t1, e1, pm_pm lt, pm_pm ltm, pm_pm (fun k hk => lt _ (ltm k hk)), pm_pm (fun k hk => lt _ (lt _ (ltm k hk)))]
    exact pm_eq (mir_turn s hs)
end Go.Proofs.YtkeoflnmbcdmfaaDoor
namespace Go.Proofs.YtkeoflnmbcdmfaaDoor
open Go.ChangeShapes Go.WideShapes Go.ChangeAt Go.RowKit

theorem hasTo_iff {f : Nat → Int} {k : Nat} {v : Int} : hasTo f k v = true ↔ ∃ i, i < k ∧ f i = v := by
  simp [hasTo]
theorem dupTo_iff {f : Nat → Int} {n : Nat} : dupTo f n = true ↔ ∃ i j, i < j ∧ j < n ∧ f i = f j ∧ 0 < f j := by
  induction n with
  | zero => simp [dupTo]
  | succ n ih =>
    rw [dupTo, Bool.or_eq_true, ih, Bool.and_eq_true, hasTo_iff, decide_eq_true_eq]
    constructor
    · rintro (⟨i, j, h1, h2, h3⟩ | ⟨h0, i, hi, he⟩)
      · exact ⟨i, j, h1, by omega, h3⟩
      · exact ⟨i, n, hi, by omega, he, h0⟩
    · rintro ⟨i, j, h1, h2, h3, h4⟩
      by_cases e : j = n
      · subst e; exact .inr ⟨h4, i, h1, h3⟩
      · exact .inl ⟨i, j, h1, by omega, h3, h4⟩
theorem clashTo_iff {xs : List Int} {size : Int} {n : Nat} : clashTo xs size n = true ↔ ∃ l, l < n ∧ dupTo (lineV xs size (l : Nat)) size.toNat = true := by
  induction n with
  | zero => simp [clashTo]
  | succ n ih =>
    rw [clashTo, Bool.or_eq_true, ih]
    constructor
    · rintro (⟨l, h1, h2⟩ | h)
      · exact ⟨l, by omega, h2⟩
      · exact ⟨n, by omega, h⟩
    · rintro ⟨l, h1, h2⟩
      by_cases e : l = n
      · subst e; exact .inr h2
      · exact .inl ⟨l, by omega, h2⟩

/-- two different cells of one line. -/
def adj (s i j : Nat) : Bool := i != j && (i / s == j / s || i % s == j % s)
def adjLine (s i j : Nat) : Bool := (List.range (2 * s)).any fun l => (List.range s).any fun a => (List.range s).any fun b => a != b && ((lineAt (s : Nat) (l : Nat) a).toNat == i && (lineAt (s : Nat) (l : Nat) b).toNat == j)
theorem adj_line0 : ∀ s ∈ [2, 3, 4], ∀ i, i < s * s → ∀ j, j < s * s → adj s i j = true → adjLine s i j = true := by decide +kernel
theorem adj_line (s : Nat) (hs : s ∈ [2, 3, 4]) (i : Nat) (hi : i < s * s) (j : Nat) (hj : j < s * s) (h : adj s i j = true) : ∃ l, l < 2 * s ∧ ∃ a, a < s ∧ ∃ b, b < s ∧ a ≠ b ∧ (lineAt (s : Nat) (l : Nat) a).toNat = i ∧ (lineAt (s : Nat) (l : Nat) b).toNat = j := by
  have := adj_line0 s hs i hi j hj h
  simp only [adjLine, List.any_eq_true, List.mem_range, Bool.and_eq_true, bne_iff_ne, beq_iff_eq] at this
  obtain ⟨l, hl, a, ha, b, hb, hab, e1, e2⟩ := this
  exact ⟨l, hl, a, ha, b, hb, hab, e1, e2⟩
def lineAdj (s l a b : Nat) : Bool := a == b || (adj s (lineAt (s : Nat) (l : Nat) a).toNat (lineAt (s : Nat) (l : Nat) b).toNat && (Nat.blt (lineAt (s : Nat) (l : Nat) a).toNat (s * s) && Nat.blt (lineAt (s : Nat) (l : Nat) b).toNat (s * s)))
theorem line_adj0 : ∀ s ∈ [2, 3, 4], ∀ l, l < 2 * s → ∀ a, a < s → ∀ b, b < s → lineAdj s l a b = true := by decide +kernel
theorem line_adj (s : Nat) (hs : s ∈ [2, 3, 4]) (l : Nat) (hl : l < 2 * s) (a : Nat) (ha : a < s) (b : Nat) (hb : b < s) (hab : a ≠ b) : adj s (lineAt (s : Nat) (l : Nat) a).toNat (lineAt (s : Nat) (l : Nat) b).toNat = true ∧ (lineAt (s : Nat) (l : Nat) a).toNat < s * s ∧ (lineAt (s : Nat) (l : Nat) b).toNat < s * s := by
  have := line_adj0 s hs l hl a ha b hb
  simp only [lineAdj, Bool.or_eq_true, beq_iff_eq, Bool.and_eq_true, Nat.blt_eq] at this
  rcases this with h | h
  · exact absurd h hab
  · exact h
theorem clash_iff {xs : List Int} {s : Nat} (hs : s ∈ [2, 3, 4]) : clash xs s = true ↔ ∃ i j, i < s * s ∧ j < s * s ∧ adj s i j = true ∧ nth xs i = nth xs j ∧ 0 < nth xs j := by
  have e2 : (2 * (s : Int)).toNat = 2 * s := by omega
  rw [clash, clashTo_iff, e2]
  constructor
  · rintro ⟨l, hl, h⟩
    rw [dupTo_iff, Int.toNat_natCast] at h
    obtain ⟨a, b, h1, h2, h3, h4⟩ := h
    obtain ⟨p, q, r⟩ := line_adj s hs l hl a (by omega) b h2 (by omega)
    exact ⟨_, _, q, r, p, h3, h4⟩
  · rintro ⟨i, j, hi, hj, ha, he, hp⟩
    obtain ⟨l, hl, a, ha', b, hb, hab, ei, ej⟩ := adj_line s hs i hi j hj ha
    refine ⟨l, hl, ?_⟩
    rw [dupTo_iff, Int.toNat_natCast]
    rcases Nat.lt_or_ge a b with h | h
    · exact ⟨a, b, h, hb, by unfold lineV; rw [ei, ej]; exact he, by unfold lineV; rw [ej]; exact hp⟩
    · exact ⟨b, a, by omega, ha', by unfold lineV; rw [ei, ej]; exact he.symm, by unfold lineV; rw [ei, he]; exact hp⟩
/-- a permutation of the cells that keeps lines keeps clashes. -/
theorem clash_pm {xs : List Int} {s : Nat} {P Q : Nat → Nat} (hs : s ∈ [2, 3, 4]) (hP : ∀ k, k < s * s → P k < s * s) (hQ : ∀ k, k < s * s → Q k < s * s) (hPQ : ∀ k, k < s * s → P (Q k) = k)
    (hadj : ∀ i, i < s * s → ∀ j, j < s * s → adj s i j = true → adj s (P i) (P j) = true ∧ adj s (Q i) (Q j) = true) : clash (pm xs P (s * s)) s = clash xs s := by
  rw [Bool.eq_iff_iff, clash_iff hs, clash_iff hs]
  constructor
  · rintro ⟨i, j, hi, hj, ha, he, hp⟩
    rw [pm_nth hi, pm_nth hj] at he
    rw [pm_nth hj] at hp
    exact ⟨P i, P j, hP i hi, hP j hj, (hadj i hi j hj ha).1, he, hp⟩
  · rintro ⟨i, j, hi, hj, ha, he, hp⟩
    refine ⟨Q i, Q j, hQ i hi, hQ j hj, (hadj i hi j hj ha).2, ?_, ?_⟩
    · rw [pm_nth (hQ i hi), pm_nth (hQ j hj), hPQ i hi, hPQ j hj]; exact he
    · rw [pm_nth (hQ j hj), hPQ j hj]; exact hp
theorem clash_set0 {xs : List Int} {s k : Nat} (hs : s ∈ [2, 3, 4]) (hl : xs.length = s * s) (h : clash xs s = false) : clash (xs.set k 0) s = false := by
  cases hc : clash (xs.set k 0) s
  · rfl
  · rw [clash_iff hs] at hc
    obtain ⟨i, j, hi, hj, ha, he, hp⟩ := hc
    by_cases hk : k < xs.length
    · rw [nth_set hk, nth_set hk] at he
      rw [nth_set hk] at hp
      have hkj : k ≠ j := by rintro rfl; simp at hp
      rw [if_neg hkj] at he hp
      have hki : k ≠ i := by rintro rfl; rw [if_pos rfl] at he; omega
      rw [if_neg hki] at he
      have := (clash_iff hs).2 ⟨i, j, hi, hj, ha, he, hp⟩
      rw [h] at this; cases this
    · rw [List.set_eq_of_length_le (by omega)] at he hp
      have := (clash_iff hs).2 ⟨i, j, hi, hj, ha, he, hp⟩
      rw [h] at this; cases this
/-- three quarters back. -/
def backIx (s k : Nat) : Nat := turnIx s (turnIx s (turnIx s k))
theorem turn_adj : ∀ s ∈ [2, 3, 4], ∀ i, i < s * s → ∀ j, j < s * s → adj s i j = true → adj s (turnIx (s : Nat) i) (turnIx (s : Nat) j) = true ∧ adj s (backIx s i) (backIx s j) = true := by decide +kernel
theorem turn_back : ∀ s ∈ [2, 3, 4], ∀ k, k < s * s → backIx s k < s * s ∧ turnIx (s : Nat) (backIx s k) = k := by decide +kernel
theorem mir_adj : ∀ s ∈ [2, 3, 4], ∀ i, i < s * s → ∀ j, j < s * s → adj s i j = true → adj s (mirIx (s : Nat) i) (mirIx (s : Nat) j) = true := by decide +kernel
theorem clash_turn {xs : List Int} {size : Int} {n : Nat} (hg : gv xs size = true) (hl : xs.length = n) : clash (turnL xs size) size = clash xs size := by
  rw [turnL_pm hg hl]
  obtain ⟨s, rfl, hs, hls⟩ := size_nat hg
  obtain rfl : n = s * s := by omega
  exact clash_pm hs (turn_lt s hs) (fun k hk => (turn_back s hs k hk).1) (fun k hk => (turn_back s hs k hk).2) (turn_adj s hs)
theorem clash_mir {xs : List Int} {size : Int} {n : Nat} (hg : gv xs size = true) (hl : xs.length = n) : clash (mirL xs size) size = clash xs size := by
  rw [mirL_pm hg hl]
  obtain ⟨s, rfl, hs, hls⟩ := size_nat hg
  obtain rfl : n = s * s := by omega
  exact clash_pm hs (mir_lt s hs) (mir_lt s hs) (mir_two s hs) (fun i hi j hj h => ⟨mir_adj s hs i hi j hj h, mir_adj s hs i hi j hj h⟩)
end Go.Proofs.YtkeoflnmbcdmfaaDoor
