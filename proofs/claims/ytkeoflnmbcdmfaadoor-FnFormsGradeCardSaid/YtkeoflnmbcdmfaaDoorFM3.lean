import Derived.Test.YtkeoflnmbcdmfaaDoorC1L
import Derived.Deep.RegionHeld3
import Derived.Test.YtkeoflnmbcdmfaaDoorDrawL
import Derived.Test.YtkeoflnmbcdmfaaDoorInts
import Derived.Test.YtkeoflnmbcdmfaaDoorZero
import Derived.Test.YtkeoflnmbcdmfaaDoorClash
import Derived.Test.YtkeoflnmbcdmfaaDoorDrawH
import Derived.Test.YtkeoflnmbcdmfaaDoorC3C
import Derived.Test.YtkeoflnmbcdmfaaDoorC3G
namespace Go.Proofs.YtkeoflnmbcdmfaaDoor
open Go.ChangeShapes Go.WideShapes Go.ChangeAt Go.RowKit

def turnIx (size : Int) (k : Nat) : Nat := ((size - 1 - (k : Int) % size) * size + (k : Int) / size).toNat
def turnG (xs : List Int) (size : Int) (k : Nat) : Int := nth xs (turnIx size k)
def turnL (xs : List Int) (size : Int) : List Int := if gv xs size = true then mapTo (turnG xs size) xs.length else []

theorem turn_facts {size : Int} {n k : Nat} (h2 : 2 ≤ size) (h4 : size ≤ 4) (hn : (n : Int) = size * size) (hk : k < n) :
    (0 ≤ (k : Int) % size ∧ (k : Int) % size < size) ∧ (0 ≤ (k : Int) / size ∧ (k : Int) / size < size) ∧ turnIx size k < n ∧ ((turnIx size k : Nat) : Int) = (size - 1 - (k : Int) % size) * size + (k : Int) / size := by
  unfold turnIx
  have : size = 2 ∨ size = 3 ∨ size = 4 := by omega
  rcases this with rfl | rfl | rfl <;> omega

theorem specGridTurn (A : Option Addr) (c n B : Nat) (xs : List Int) (size : Int) (w : World) (h : Rd w B A n xs) (hB : B ≤ w.heap.size) (hm : n ≤ 1099511627776) :
    Calls Tryd.prog 79 #[.slice A n c, .int .i64 size] w (RetSl w (turnL xs size)) := by
  have hlen := Lib.hid h.1
  cases hg : gv xs size
  · have hL : turnL xs size = [] := by simp [turnL, hg]
    have HL := Lib.hid hL; clear hL
    have h1 := h.alloc hB (.cells #[] 3)
    by_cases h0 : 0 < n
    all_goals
      go_enter Tryd.func79, Tryd.ntmps79
      go_wp2
      go_loopw [5, 6] (fun v i wr => i = .int .i64 0 ∧ v = .slice (some ⟨w.heap.size, 0, none⟩) 0 0 ∧ wr = w.alloc (.cells #[] 3)) (fun _ _ _ => 0)
      case atStart => exact ⟨rfl, rfl, rfl⟩
      case round =>
        obtain ⟨rfl, rfl, rfl⟩ := hrel
        go_wp2_with (go_at_call 53; refine (specGridValid _ _ _ _ _ _ _ h1 hm).mono ?_; rintro e w' ⟨rfl, rfl⟩)
        go_ret
        rw [HL.out]
        exact ⟨_, _, rfl, Ow.made0 _ _ (Nat.le_refl _), (Below.refl _ _).alloc (Nat.le_refl _) _⟩
  · obtain ⟨h2, h4⟩ := gv_size hg
    have hL : turnL xs size = mapTo (turnG xs size) n := by simp [turnL, hg, hlen.out]
    have HL := Lib.hid hL; clear hL
    have hn := gv_len hg
    rw [hlen.out] at hn
    have Hn := Lib.hid hn; clear hn
    go_enter Tryd.func79, Tryd.ntmps79
    go_wp2
    go_loopw [5, 6] (fun v i wr => ∃ k : Nat, k ≤ n ∧ i = .int .i64 k ∧ OwV wr w.heap.size v (mapTo (turnG xs size) k) ∧ Below w.heap.size w wr) (fun _ i _ => n - (intOf i).toNat)
    case atStart => exact ⟨0, by omega, rfl, ⟨_, _, rfl, Ow.made0 _ _ (Nat.le_refl _)⟩, (Below.refl _ _).alloc (Nat.le_refl _) _⟩
    case round =>
      obtain ⟨k, hk, rfl, ⟨A', c', rfl, ho⟩, hb⟩ := hrel
      have hr := h.below (hb.mono hB)
      have hkb : (mapTo (turnG xs size) k).length ≤ 1099511627776 := by rw [mapTo_length]; omega
      by_cases hlt : k < n
      · obtain ⟨⟨hr0, hr1⟩, ⟨hd0, hd1⟩, hix, hixe⟩ := turn_facts h2 h4 Hn.out hlt
        obtain ⟨b, off, rfl, hbB, hck⟩ := hr.at_ hix
        obtain ⟨b', off', he, hbB', hckw⟩ := h.at_ hix
        cases he
        have Hckw := Lib.hid hckw; clear hckw
        have hbw : b < w.heap.size := by omega
        have Hixe := Lib.hid hixe; clear hixe
        have hmul := small_mul (by omega : 0 ≤ size - 1 - (k : Int) % size) (by omega : size - 1 - (k : Int) % size ≤ 4) (by omega : 0 ≤ size) h4
        have hw := small_wrap (by omega : 0 ≤ size - 1 - (k : Int) % size) (by omega : size - 1 - (k : Int) % size ≤ 4) (by omega : 0 ≤ size) h4
        go_wp2_with (first
          | (go_at_call 53; refine (specGridValid _ _ _ _ _ _ _ hr hm).mono ?_; rintro e w' ⟨rfl, rfl⟩))
        have hz : (size == 0) = false := by simp; omega
        have hz' : size ≠ 0 := by omega
        have b0 : (0 : Int) ≤ (size - 1 - (k : Int) % size) * size + (k : Int) / size := by omega
        have b1 : (size - 1 - (k : Int) % size) * size + (k : Int) / size < (n : Int) := by rw [← Hixe.out]; omega
        have e1 : IntKind.i64.wrap (size - 1) = size - 1 := IntWalk.i64_in _ (by omega)
        have e2 : IntKind.i64.wrap (size - 1 - (k : Int) % size) = size - 1 - (k : Int) % size := IntWalk.i64_in _ (by omega)
        have e3 : IntKind.i64.wrap ((size - 1 - (k : Int) % size) * size) = (size - 1 - (k : Int) % size) * size := IntWalk.i64_in _ (by omega)
        have e4 : IntKind.i64.wrap ((size - 1 - (k : Int) % size) * size + (k : Int) / size) = (size - 1 - (k : Int) % size) * size + (k : Int) / size := IntWalk.i64_in _ (by omega)
        have e5 : (k : Int).tmod size = (k : Int) % size := Int.tmod_eq_emod_of_nonneg (by omega)
        have e6 : (k : Int).tdiv size = (k : Int) / size := Int.tdiv_eq_ediv_of_nonneg (by omega)
        have e7 : IntKind.i64.wrap ((k : Int) / size) = (k : Int) / size := IntWalk.i64_in _ (by omega)
        have e8 : ((size - 1 - (k : Int) % size) * size + (k : Int) / size).toNat = turnIx size k := rfl
        go_region_held3 (fun w' => w'.cell? ⟨b, off + turnIx size k, none⟩ = some (.int .i64 (nth xs (turnIx size k))))
          (first | go_keep | exact ((push_below hb ho (Nat.le_refl _) hb.size hg1).cell (p := ⟨b, off + turnIx size k, none⟩) hbw).trans Hckw.out)
          ((refine step_push_int (by rfl) _ _ (by rfl) w.heap.size A' _ c' (mapTo (turnG xs size) k) _ (by rfl) (by rfl) ho hkb hb.size ?_; intro A'' c'' w1 ho1 hg1))
        have ho2 : OwV w1 w.heap.size (.slice A'' ((mapTo (turnG xs size) k).length + 1) c'') (mapTo (turnG xs size) (k + 1)) := by
          refine ⟨A'', c'', by rw [mapTo_succ, List.length_append]; rfl, ?_⟩
          rw [mapTo_succ, List.length_append]
          exact ho1
        have hb2 := push_below hb ho (Nat.le_refl _) hb.size hg1
        clear ho1 hg1 e1 e2 e3 e4 e5 e6 e7 e8
        go_wp2
        go_roundw
        case rel => exact ⟨k + 1, by omega, by go_num, ho2, hb2⟩
        case measure => simp [intOf]; omega
      · obtain rfl : k = n := by omega
        go_wp2_with (go_at_call 53; refine (specGridValid _ _ _ _ _ _ _ hr hm).mono ?_; rintro e w' ⟨rfl, rfl⟩)
        go_ret
        rw [HL.out]
        exact ⟨_, _, rfl, ho, hb⟩
end Go.Proofs.YtkeoflnmbcdmfaaDoor
namespace Go.Proofs.YtkeoflnmbcdmfaaDoor
open Go.ChangeShapes Go.WideShapes Go.ChangeAt Go.RowKit

/-- the number of the cell in a row and a column. -/
def cellIx (size row col : Int) : Nat := (row * size + col).toNat
theorem cell_facts {size row col : Int} {n : Nat} (h2 : 2 ≤ size) (h4 : size ≤ 4) (hn : (n : Int) = size * size) (r0 : 0 ≤ row) (r1 : row < size) (c0 : 0 ≤ col) (c1 : col < size) :
    (0 ≤ row * size ∧ row * size ≤ 12) ∧ cellIx size row col < n ∧ ((cellIx size row col : Nat) : Int) = row * size + col := by
  unfold cellIx
  have : size = 2 ∨ size = 3 ∨ size = 4 := by omega
  rcases this with rfl | rfl | rfl <;> omega

theorem implAt (A : Option Addr) (c n B : Nat) (xs : List Int) (size row col : Int) (w : World) (h : Rd w B A n xs) (hB : B ≤ w.heap.size) (h2 : 2 ≤ size) (h4 : size ≤ 4) (hn : Hid ((n : Int) = size * size)) (r0 : 0 ≤ row) (r1 : row < size) (c0 : 0 ≤ col) (c1 : col < size) :
    Calls Tryd.prog 133 #[.agg #[.slice A n c, .int .i64 size], .int .i64 row, .int .i64 col] w fun e w' => e = .returned (.int .i64 (nth xs (cellIx size row col))) ∧ Below w.heap.size w w' := by
  obtain ⟨⟨hm0, hm1⟩, hix, hixe⟩ := cell_facts h2 h4 hn.out r0 r1 c0 c1
  obtain ⟨b, off, rfl, hb, hck⟩ := h.at_ hix
  have hbw : b < w.heap.size := by omega
  have b1 : row * size + col < (n : Int) := by rw [← hixe]; omega
  have hw : wrap64 (row * size) = row * size := IntWalk.wrap64_in _ ⟨by omega, by omega⟩
  have e8 : (row * size + col).toNat = cellIx size row col := rfl
  clear hixe
  go_enter Tryd.func133, Tryd.ntmps133
  go_wp2
  go_ret
  exact ⟨rfl, (Below.refl _ _).alloc (Nat.le_refl _) _⟩
theorem ix_lt {r q s : Nat} (hr : r < s) (hq : q < s) : r * s + q < s * s := by
  have : (r + 1) * s ≤ s * s := Nat.mul_le_mul_right s hr
  rw [Nat.succ_mul] at this
  omega
theorem of_drew_below {w w2 : World} (h : Below w.drew.heap.size w.drew w2) : Below w.heap.size w w2 := ⟨h.os, h.tape, h.output, h.size, h.block⟩
theorem below_drew' {B : Nat} {a w : World} (h : Below B a w) : Below B a w.drew := h.drew
def CellFn_turned (w : World) (p : Value) (s : Nat) (g : Nat → Int) : Prop :=
  ∀ (r c : Nat) (W : World), Below w.heap.size w W → r < s → c < s →
    Calls Tryd.prog 134 #[.int .i64 r, .int .i64 c, p] W fun e w' => e = .returned (.int .i64 (g (r * s + c))) ∧ Below W.heap.size W w'

theorem implRebuilt_turned (p : Value) (A : Option Addr) (cp n : Nat) (s : Nat) (g : Nat → Int) (w : World) (h2 : 2 ≤ s) (h4 : s ≤ 4) (hn : n = s * s) (hc0 : CellFn_turned w p s g) :
    Calls Tryd.prog 131 #[.agg #[.slice A n cp, .int .i64 s], .func (.func 134) #[] #[p]] w (RetSl w (mapTo g n)) := by
  obtain ⟨i0, hi, hz0, hz1, hz2⟩ := info_parts int_info
  have hn16 : n ≤ 16 := by subst hn; exact Nat.le_trans (Nat.mul_le_mul h4 h4) (by omega)
  have Hn := Lib.hid hn; clear hn
  go_enter Tryd.func131, Tryd.ntmps131
  go_wp2_with (refine wpList_make_full _ rfl (.tmp 10) (.tmp 10) 23 rfl w.heap.size 3 i0 (.int .i64 0) 1 Tryd.underlying23 hi hz0 hz1 .i64 .i64 n n n rfl rfl rfl rfl (by rw [hz2]; omega) (by simp only [maxLen]; omega) (by simp) ?_; intro w1 hown hgr; have c1 := box_cell (made_below hgr (Nat.le_refl _)) 1; simp at c1)
  have hb1 : Below w.heap.size w w1 := box_below (made_below hgr (Nat.le_refl _))
  have ho1 := made_part (mapTo g n) hown
  rw [World.size_alloc] at ho1
  clear hown hgr hz0 hz1 hz2 hi
  go_loopw [14] (fun i wr => ∃ r : Nat, r ≤ s ∧ i = .int .i64 r ∧ Ow wr w.heap.size (some ⟨w.heap.size + 1, 0, none⟩) n n (part (mapTo g n) (r * s) n) ∧ Below w.heap.size w wr ∧ wr.cell? ⟨w.heap.size, 1, none⟩ = some (.int .i64 s)) (fun i _ => s - (intOf i).toNat)
  case atStart => exact ⟨0, Nat.zero_le _, rfl, by rw [Nat.zero_mul]; exact ho1, hb1, c1⟩
  case round =>
    obtain ⟨r, hr, rfl, ho, hb, hc⟩ := hrel
    by_cases hlt : r < s
    · go_wp2
      obtain ⟨wo, rfl⟩ : ∃ wo : World, wo = wr := ⟨_, rfl⟩
      go_loopw [19] (fun i wr => ∃ q : Nat, q ≤ s ∧ i = .int .i64 q ∧ Ow wr w.heap.size (some ⟨w.heap.size + 1, 0, none⟩) n n (part (mapTo g n) (r * s + q) n) ∧ Below w.heap.size w wr ∧ wr.cell? ⟨w.heap.size, 1, none⟩ = some (.int .i64 s)) (fun i _ => s - (intOf i).toNat)
      case atStart => exact ⟨0, Nat.zero_le _, rfl, ho, hb, hc⟩
      case round =>
        obtain ⟨q, hq, rfl, hoi, hbi, hci⟩ := hrel
        by_cases hltq : q < s
        · have hixl : r * s + q < n := by rw [Hn.out]; exact ix_lt hlt hltq
          obtain ⟨hold, hfr⟩ := hoi.cell hixl
          have hm0 : (0 : Int) ≤ (r : Int) * s ∧ (r : Int) * s ≤ 16 := small_mul (by omega) (by omega) (by omega) (by omega)
          have hsz : w.heap.size + 1 < wr.drew.heap.size := by
            obtain ⟨g', he, _, hlt'⟩ := hoi.form (by omega)
            cases he
            simpa using hlt'
          have hsz0 : w.heap.size < wr.drew.heap.size := by omega
          have Hst := Lib.hid hoi; clear hoi
          have e1 : IntKind.i64.wrap ((r : Int) * s) = (r : Int) * s := IntWalk.i64_in _ (by omega)
          have e2 : IntKind.i64.wrap ((r : Int) * s + q) = (r : Int) * s + q := IntWalk.i64_in _ (by omega)
          have e3 : ((r : Int) * s + q).toNat = r * s + q := by rw [← Int.natCast_mul, ← Int.natCast_add]; rfl
          have b0 : (0 : Int) ≤ (r : Int) * s + q := by omega
          have b1 : (r : Int) * s + q < n := by rw [← Int.natCast_mul, ← Int.natCast_add]; omega
          have Hc0 := Lib.hid hc0
          clear hc0
          go_wp2_with fail
          go_region_held3 (fun w' => w'.cell? ⟨w.heap.size, 1, none⟩ = some (.int .i64 s))
            (first | go_keep | exact (hb2.cell (p := ⟨w.heap.size, 1, none⟩) hsz0).trans hci)
            ((go_at_call 134; refine (Hc0.out r q _ (by exact below_drew' hbi) hlt hltq).mono ?_; rintro e w2 ⟨rfl, hb2⟩; have hold2 := (hb2.cell (p := ⟨w.heap.size + 1, r * s + q, none⟩) hsz).trans hold; have hfr2 := (hb2.frozen (p := ⟨w.heap.size + 1, r * s + q, none⟩) hsz).trans hfr))
          have hb2' := of_drew_below hb2
          have hO2 := (World.ownsRow.stored (Hst.out.below hb2') (r * s + q) (.int .i64 (g (r * s + q)))).1
          rw [show g (r * s + q) = nth (mapTo g n) (r * s + q) from (mapTo_nth hixl).symm, part_set] at hO2
          have hbn : Below w.heap.size w (w2.setCell ⟨w.heap.size + 1, r * s + q, none⟩ (.int .i64 (nth (mapTo g n) (r * s + q)))) := (step hbi hb2').setCell (by simp) _
          have hcn : (w2.setCell ⟨w.heap.size + 1, r * s + q, none⟩ (.int .i64 (nth (mapTo g n) (r * s + q)))).cell? ⟨w.heap.size, 1, none⟩ = some (.int .i64 s) := by
            rw [World.cell?_setCell_other _ _ _ _ (by simp)]
            exact (hb2'.cell (p := ⟨w.heap.size, 1, none⟩) hsz0).trans hci
          rw [show g (r * s + q) = nth (mapTo g n) (r * s + q) from (mapTo_nth hixl).symm]
          have HO2 := Lib.hid hO2
          clear hold2 hfr2 hold hfr hO2 e1 e2 e3
          go_wp2
          go_roundw
          case rel => exact ⟨q + 1, by omega, by go_num, HO2.out, hbn, hcn⟩
          case measure => simp [intOf]; omega
        · obtain rfl : q = s := by omega
          have e : (r + 1) * q = r * q + q := Nat.succ_mul r q
          rw [← e] at hoi
          go_wp2
          go_roundw
          case rel => exact ⟨r + 1, by omega, by go_num, hoi, hbi, hci⟩
          case measure => simp [intOf]; omega
    · obtain rfl : r = s := by omega
      go_wp2
      go_ret
      rw [← Hn.out, part_all' (mapTo_length _ _)] at ho
      exact retSl_mk ho hb
theorem divmod_ix {s r c : Nat} (h2 : 2 ≤ s) (h4 : s ≤ 4) (hr : r < s) (hc : c < s) : ((r * s + c : Nat) : Int) / (s : Int) = r ∧ ((r * s + c : Nat) : Int) % (s : Int) = c := by
  have : s = 2 ∨ s = 3 ∨ s = 4 := by omega
  rcases this with rfl | rfl | rfl <;> omega
theorem turn_ix {s r c : Nat} (h2 : 2 ≤ s) (h4 : s ≤ 4) (hr : r < s) (hc : c < s) : cellIx s ((s : Int) - 1 - c) r = turnIx s (r * s + c) := by
  obtain ⟨hd, hm⟩ := divmod_ix h2 h4 hr hc
  unfold cellIx turnIx
  rw [hd, hm]
theorem turned1 (A : Option Addr) (cp n B : Nat) (xs : List Int) (s r c : Nat) (G : Nat) (W : World) (h : Rd W B A n xs) (hB : B ≤ W.heap.size) (h2 : 2 ≤ s) (h4 : s ≤ 4) (hn : Hid ((n : Int) = s * s)) (hr : r < s) (hc : c < s)
    (c0 : W.cell? ⟨G, 0, none⟩ = some (.slice A n cp)) (c1 : W.cell? ⟨G, 1, none⟩ = some (.int .i64 s)) :
    Calls Tryd.prog 134 #[.int .i64 r, .int .i64 c, .pointer (some ⟨G, 0, none⟩)] W fun e w' => e = .returned (.int .i64 (turnG xs s (r * s + c))) ∧ Below W.heap.size W w' := by
  have hix := Lib.hid (turn_ix h2 h4 hr hc)
  go_enter Tryd.func134, Tryd.ntmps134
  go_wp2_with fail
  refine (implAt _ _ _ _ _ _ _ _ _ h hB (by omega) (by omega) hn (by omega) (by omega) (by omega) (by omega)).mono ?_
  rintro e w1 ⟨rfl, hb1⟩
  go_wp2
  go_ret
  exact ⟨by rw [turnG, ← hix.out]; rfl, hb1⟩
theorem implTurned (A : Option Addr) (cp n B : Nat) (xs : List Int) (s : Nat) (w : World) (h : Rd w B A n xs) (hB : B ≤ w.heap.size) (h2 : 2 ≤ s) (h4 : s ≤ 4) (hn : Hid ((n : Int) = s * s)) :
    Calls Tryd.prog 123 #[.agg #[.slice A n cp, .int .i64 s]] w (RetSl w (mapTo (turnG xs s) n)) := by
  have hnn : n = s * s := by have := hn.out; rw [← Int.natCast_mul] at this; omega
  have Hnn := Lib.hid hnn; clear hnn
  have hcf : CellFn_turned (w.alloc (.cells #[.slice A n cp, .int .i64 s] 76)) (.pointer (some ⟨w.heap.size, 0, none⟩)) s (turnG xs s) := by
    intro r c W hW hr hc
    have k0 := box_cell hW 0
    have k1 := box_cell hW 1
    simp at k0 k1
    have hbb := box_below hW
    exact turned1 A cp n B xs s r c w.heap.size W (h.below (hbb.mono hB)) (Nat.le_trans hB hbb.size) h2 h4 hn hr hc k0 k1
  go_enter Tryd.func123, Tryd.ntmps123
  go_wp2_with fail
  refine (implRebuilt_turned _ A cp n s (turnG xs s) _ h2 h4 Hnn.out hcf).mono ?_
  rintro e w1 ⟨A1, c1, rfl, ho, hb⟩
  go_wp2
  go_ret
  exact ⟨A1, c1, rfl, ho.mono (by simp), box_below hb⟩
end Go.Proofs.YtkeoflnmbcdmfaaDoor
namespace Go.Proofs.YtkeoflnmbcdmfaaDoor
open Go.ChangeShapes Go.WideShapes Go.ChangeAt Go.RowKit

def mirIx (size : Int) (k : Nat) : Nat := ((k : Int) / size * size + size - 1 - (k : Int) % size).toNat
def mirG (xs : List Int) (size : Int) (k : Nat) : Int := nth xs (mirIx size k)
def mirL (xs : List Int) (size : Int) : List Int := if gv xs size = true then mapTo (mirG xs size) xs.length else []

theorem mir_facts {size : Int} {n k : Nat} (h2 : 2 ≤ size) (h4 : size ≤ 4) (hn : (n : Int) = size * size) (hk : k < n) :
    (0 ≤ (k : Int) % size ∧ (k : Int) % size < size) ∧ (0 ≤ (k : Int) / size ∧ (k : Int) / size < size) ∧ mirIx size k < n ∧ ((mirIx size k : Nat) : Int) = (k : Int) / size * size + size - 1 - (k : Int) % size := by
  unfold mirIx
  have : size = 2 ∨ size = 3 ∨ size = 4 := by omega
  rcases this with rfl | rfl | rfl <;> omega

theorem specGridMirror (A : Option Addr) (c n B : Nat) (xs : List Int) (size : Int) (w : World) (h : Rd w B A n xs) (hB : B ≤ w.heap.size) (hm : n ≤ 1099511627776) :
    Calls Tryd.prog 78 #[.slice A n c, .int .i64 size] w (RetSl w (mirL xs size)) := by
  have hlen := Lib.hid h.1
  cases hg : gv xs size
  · have hL : mirL xs size = [] := by simp [mirL, hg]
    have HL := Lib.hid hL; clear hL
    have h1 := h.alloc hB (.cells #[] 3)
    by_cases h0 : 0 < n
    all_goals
      go_enter Tryd.func78, Tryd.ntmps78
      go_wp2
      go_loopw [5, 6] (fun v i wr => i = .int .i64 0 ∧ v = .slice (some ⟨w.heap.size, 0, none⟩) 0 0 ∧ wr = w.alloc (.cells #[] 3)) (fun _ _ _ => 0)
      case atStart => exact ⟨rfl, rfl, rfl⟩
      case round =>
        obtain ⟨rfl, rfl, rfl⟩ := hrel
        go_wp2_with (go_at_call 53; refine (specGridValid _ _ _ _ _ _ _ h1 hm).mono ?_; rintro e w' ⟨rfl, rfl⟩)
        go_ret
        rw [HL.out]
        exact ⟨_, _, rfl, Ow.made0 _ _ (Nat.le_refl _), (Below.refl _ _).alloc (Nat.le_refl _) _⟩
  · obtain ⟨h2, h4⟩ := gv_size hg
    have hL : mirL xs size = mapTo (mirG xs size) n := by simp [mirL, hg, hlen.out]
    have HL := Lib.hid hL; clear hL
    have hn := gv_len hg
    rw [hlen.out] at hn
    have Hn := Lib.hid hn; clear hn
    go_enter Tryd.func78, Tryd.ntmps78
    go_wp2
    go_loopw [5, 6] (fun v i wr => ∃ k : Nat, k ≤ n ∧ i = .int .i64 k ∧ OwV wr w.heap.size v (mapTo (mirG xs size) k) ∧ Below w.heap.size w wr) (fun _ i _ => n - (intOf i).toNat)
    case atStart => exact ⟨0, by omega, rfl, ⟨_, _, rfl, Ow.made0 _ _ (Nat.le_refl _)⟩, (Below.refl _ _).alloc (Nat.le_refl _) _⟩
    case round =>
      obtain ⟨k, hk, rfl, ⟨A', c', rfl, ho⟩, hb⟩ := hrel
      have hr := h.below (hb.mono hB)
      have hkb : (mapTo (mirG xs size) k).length ≤ 1099511627776 := by rw [mapTo_length]; omega
      by_cases hlt : k < n
      · obtain ⟨⟨hr0, hr1⟩, ⟨hd0, hd1⟩, hix, hixe⟩ := mir_facts h2 h4 Hn.out hlt
        obtain ⟨b, off, rfl, hbB, hck⟩ := hr.at_ hix
        obtain ⟨b', off', he, hbB', hckw⟩ := h.at_ hix
        cases he
        have Hckw := Lib.hid hckw; clear hckw
        have hbw : b < w.heap.size := by omega
        have Hixe := Lib.hid hixe; clear hixe
        have hmul := small_mul hd0 (by omega : (k : Int) / size ≤ 4) (by omega : 0 ≤ size) h4
        have hw := small_wrap hd0 (by omega : (k : Int) / size ≤ 4) (by omega : 0 ≤ size) h4
        go_wp2_with (first
          | (go_at_call 53; refine (specGridValid _ _ _ _ _ _ _ hr hm).mono ?_; rintro e w' ⟨rfl, rfl⟩))
        have hz : (size == 0) = false := by simp; omega
        have hz' : size ≠ 0 := by omega
        have b0 : (0 : Int) ≤ (k : Int) / size * size + size - 1 - (k : Int) % size := by omega
        have b0' : (k : Int) % size ≤ (k : Int) / size * size + size - 1 := by omega
        have b1 : (k : Int) / size * size + size - 1 - (k : Int) % size < (n : Int) := by rw [← Hixe.out]; omega
        have e1 : IntKind.i64.wrap ((k : Int) / size * size) = (k : Int) / size * size := IntWalk.i64_in _ (by omega)
        have e2 : IntKind.i64.wrap ((k : Int) / size * size + size) = (k : Int) / size * size + size := IntWalk.i64_in _ (by omega)
        have e3 : IntKind.i64.wrap ((k : Int) / size * size + size - 1) = (k : Int) / size * size + size - 1 := IntWalk.i64_in _ (by omega)
        have e4 : IntKind.i64.wrap ((k : Int) / size * size + size - 1 - (k : Int) % size) = (k : Int) / size * size + size - 1 - (k : Int) % size := IntWalk.i64_in _ (by omega)
        have e5 : (k : Int).tmod size = (k : Int) % size := Int.tmod_eq_emod_of_nonneg (by omega)
        have e6 : (k : Int).tdiv size = (k : Int) / size := Int.tdiv_eq_ediv_of_nonneg (by omega)
        have e7 : IntKind.i64.wrap ((k : Int) / size) = (k : Int) / size := IntWalk.i64_in _ (by omega)
        have e8 : ((k : Int) / size * size + size - 1 - (k : Int) % size).toNat = mirIx size k := rfl
        go_region_held3 (fun w' => w'.cell? ⟨b, off + mirIx size k, none⟩ = some (.int .i64 (nth xs (mirIx size k))))
          (first | go_keep | exact ((push_below hb ho (Nat.le_refl _) hb.size hg1).cell (p := ⟨b, off + mirIx size k, none⟩) hbw).trans Hckw.out)
          ((refine step_push_int (by rfl) _ _ (by rfl) w.heap.size A' _ c' (mapTo (mirG xs size) k) _ (by rfl) (by rfl) ho hkb hb.size ?_; intro A'' c'' w1 ho1 hg1))
        have ho2 : OwV w1 w.heap.size (.slice A'' ((mapTo (mirG xs size) k).length + 1) c'') (mapTo (mirG xs size) (k + 1)) := by
          refine ⟨A'', c'', by rw [mapTo_succ, List.length_append]; rfl, ?_⟩
          rw [mapTo_succ, List.length_append]
          exact ho1
        have hb2 := push_below hb ho (Nat.le_refl _) hb.size hg1
        clear ho1 hg1 e1 e2 e3 e4 e5 e6 e7 e8
        go_wp2
        go_roundw
        case rel => exact ⟨k + 1, by omega, by go_num, ho2, hb2⟩
        case measure => simp [intOf]; omega
      · obtain rfl : k = n := by omega
        go_wp2_with (go_at_call 53; refine (specGridValid _ _ _ _ _ _ _ hr hm).mono ?_; rintro e w' ⟨rfl, rfl⟩)
        go_ret
        rw [HL.out]
        exact ⟨_, _, rfl, ho, hb⟩
def CellFn_mirrored (w : World) (p : Value) (s : Nat) (g : Nat → Int) : Prop :=
  ∀ (r c : Nat) (W : World), Below w.heap.size w W → r < s → c < s →
    Calls Tryd.prog 132 #[.int .i64 r, .int .i64 c, p] W fun e w' => e = .returned (.int .i64 (g (r * s + c))) ∧ Below W.heap.size W w'

theorem implRebuilt_mirrored (p : Value) (A : Option Addr) (cp n : Nat) (s : Nat) (g : Nat → Int) (w : World) (h2 : 2 ≤ s) (h4 : s ≤ 4) (hn : n = s * s) (hc0 : CellFn_mirrored w p s g) :
    Calls Tryd.prog 131 #[.agg #[.slice A n cp, .int .i64 s], .func (.func 132) #[] #[p]] w (RetSl w (mapTo g n)) := by
  obtain ⟨i0, hi, hz0, hz1, hz2⟩ := info_parts int_info
  have hn16 : n ≤ 16 := by subst hn; exact Nat.le_trans (Nat.mul_le_mul h4 h4) (by omega)
  have Hn := Lib.hid hn; clear hn
  go_enter Tryd.func131, Tryd.ntmps131
  go_wp2_with (refine wpList_make_full _ rfl (.tmp 10) (.tmp 10) 23 rfl w.heap.size 3 i0 (.int .i64 0) 1 Tryd.underlying23 hi hz0 hz1 .i64 .i64 n n n rfl rfl rfl rfl (by rw [hz2]; omega) (by simp only [maxLen]; omega) (by simp) ?_; intro w1 hown hgr; have c1 := box_cell (made_below hgr (Nat.le_refl _)) 1; simp at c1)
  have hb1 : Below w.heap.size w w1 := box_below (made_below hgr (Nat.le_refl _))
  have ho1 := made_part (mapTo g n) hown
  rw [World.size_alloc] at ho1
  clear hown hgr hz0 hz1 hz2 hi
  go_loopw [14] (fun i wr => ∃ r : Nat, r ≤ s ∧ i = .int .i64 r ∧ Ow wr w.heap.size (some ⟨w.heap.size + 1, 0, none⟩) n n (part (mapTo g n) (r * s) n) ∧ Below w.heap.size w wr ∧ wr.cell? ⟨w.heap.size, 1, none⟩ = some (.int .i64 s)) (fun i _ => s - (intOf i).toNat)
  case atStart => exact ⟨0, Nat.zero_le _, rfl, by rw [Nat.zero_mul]; exact ho1, hb1, c1⟩
  case round =>
    obtain ⟨r, hr, rfl, ho, hb, hc⟩ := hrel
    by_cases hlt : r < s
    · go_wp2
      obtain ⟨wo, rfl⟩ : ∃ wo : World, wo = wr := ⟨_, rfl⟩
      go_loopw [19] (fun i wr => ∃ q : Nat, q ≤ s ∧ i = .int .i64 q ∧ Ow wr w.heap.size (some ⟨w.heap.size + 1, 0, none⟩) n n (part (mapTo g n) (r * s + q) n) ∧ Below w.heap.size w wr ∧ wr.cell? ⟨w.heap.size, 1, none⟩ = some (.int .i64 s)) (fun i _ => s - (intOf i).toNat)
      case atStart => exact ⟨0, Nat.zero_le _, rfl, ho, hb, hc⟩
      case round =>
        obtain ⟨q, hq, rfl, hoi, hbi, hci⟩ := hrel
        by_cases hltq : q < s
        · have hixl : r * s + q < n := by rw [Hn.out]; exact ix_lt hlt hltq
          obtain ⟨hold, hfr⟩ := hoi.cell hixl
          have hm0 : (0 : Int) ≤ (r : Int) * s ∧ (r : Int) * s ≤ 16 := small_mul (by omega) (by omega) (by omega) (by omega)
          have hsz : w.heap.size + 1 < wr.drew.heap.size := by
            obtain ⟨g', he, _, hlt'⟩ := hoi.form (by omega)
            cases he
            simpa using hlt'
          have hsz0 : w.heap.size < wr.drew.heap.size := by omega
          have Hst := Lib.hid hoi; clear hoi
          have e1 : IntKind.i64.wrap ((r : Int) * s) = (r : Int) * s := IntWalk.i64_in _ (by omega)
          have e2 : IntKind.i64.wrap ((r : Int) * s + q) = (r : Int) * s + q := IntWalk.i64_in _ (by omega)
          have e3 : ((r : Int) * s + q).toNat = r * s + q := by rw [← Int.natCast_mul, ← Int.natCast_add]; rfl
          have b0 : (0 : Int) ≤ (r : Int) * s + q := by omega
          have b1 : (r : Int) * s + q < n := by rw [← Int.natCast_mul, ← Int.natCast_add]; omega
          have Hc0 := Lib.hid hc0
          clear hc0
          go_wp2_with fail
          go_region_held3 (fun w' => w'.cell? ⟨w.heap.size, 1, none⟩ = some (.int .i64 s))
            (first | go_keep | exact (hb2.cell (p := ⟨w.heap.size, 1, none⟩) hsz0).trans hci)
            ((go_at_call 132; refine (Hc0.out r q _ (by exact below_drew' hbi) hlt hltq).mono ?_; rintro e w2 ⟨rfl, hb2⟩; have hold2 := (hb2.cell (p := ⟨w.heap.size + 1, r * s + q, none⟩) hsz).trans hold; have hfr2 := (hb2.frozen (p := ⟨w.heap.size + 1, r * s + q, none⟩) hsz).trans hfr))
          have hb2' := of_drew_below hb2
          have hO2 := (World.ownsRow.stored (Hst.out.below hb2') (r * s + q) (.int .i64 (g (r * s + q)))).1
          rw [show g (r * s + q) = nth (mapTo g n) (r * s + q) from (mapTo_nth hixl).symm, part_set] at hO2
          have hbn : Below w.heap.size w (w2.setCell ⟨w.heap.size + 1, r * s + q, none⟩ (.int .i64 (nth (mapTo g n) (r * s + q)))) := (step hbi hb2').setCell (by simp) _
          have hcn : (w2.setCell ⟨w.heap.size + 1, r * s + q, none⟩ (.int .i64 (nth (mapTo g n) (r * s + q)))).cell? ⟨w.heap.size, 1, none⟩ = some (.int .i64 s) := by
            rw [World.cell?_setCell_other _ _ _ _ (by simp)]
            exact (hb2'.cell (p := ⟨w.heap.size, 1, none⟩) hsz0).trans hci
          rw [show g (r * s + q) = nth (mapTo g n) (r * s + q) from (mapTo_nth hixl).symm]
          have HO2 := Lib.hid hO2
          clear hold2 hfr2 hold hfr hO2 e1 e2 e3
          go_wp2
          go_roundw
          case rel => exact ⟨q + 1, by omega, by go_num, HO2.out, hbn, hcn⟩
          case measure => simp [intOf]; omega
        · obtain rfl : q = s := by omega
          have e : (r + 1) * q = r * q + q := Nat.succ_mul r q
          rw [← e] at hoi
          go_wp2
          go_roundw
          case rel => exact ⟨r + 1, by omega, by go_num, hoi, hbi, hci⟩
          case measure => simp [intOf]; omega
    · obtain rfl : r = s := by omega
      go_wp2
      go_ret
      rw [← Hn.out, part_all' (mapTo_length _ _)] at ho
      exact retSl_mk ho hb
theorem mir_ix {s r c : Nat} (h2 : 2 ≤ s) (h4 : s ≤ 4) (hr : r < s) (hc : c < s) : cellIx s r ((s : Int) - 1 - c) = mirIx s (r * s + c) := by
  obtain ⟨hd, hm⟩ := divmod_ix h2 h4 hr hc
  unfold cellIx mirIx
  rw [hd, hm]
  congr 1
  omega
theorem mirrored1 (A : Option Addr) (cp n B : Nat) (xs : List Int) (s r c : Nat) (G : Nat) (W : World) (h : Rd W B A n xs) (hB : B ≤ W.heap.size) (h2 : 2 ≤ s) (h4 : s ≤ 4) (hn : Hid ((n : Int) = s * s)) (hr : r < s) (hc : c < s)
    (c0 : W.cell? ⟨G, 0, none⟩ = some (.slice A n cp)) (c1 : W.cell? ⟨G, 1, none⟩ = some (.int .i64 s)) :
    Calls Tryd.prog 132 #[.int .i64 r, .int .i64 c, .pointer (some ⟨G, 0, none⟩)] W fun e w' => e = .returned (.int .i64 (mirG xs s (r * s + c))) ∧ Below W.heap.size W w' := by
  have hix := Lib.hid (mir_ix h2 h4 hr hc)
  go_enter Tryd.func132, Tryd.ntmps132
  go_wp2_with fail
  refine (implAt _ _ _ _ _ _ _ _ _ h hB (by omega) (by omega) hn (by omega) (by omega) (by omega) (by omega)).mono ?_
  rintro e w1 ⟨rfl, hb1⟩
  go_wp2
  go_ret
  exact ⟨by rw [mirG, ← hix.out]; rfl, hb1⟩
theorem implMirrored (A : Option Addr) (cp n B : Nat) (xs : List Int) (s : Nat) (w : World) (h : Rd w B A n xs) (hB : B ≤ w.heap.size) (h2 : 2 ≤ s) (h4 : s ≤ 4) (hn : Hid ((n : Int) = s * s)) :
    Calls Tryd.prog 122 #[.agg #[.slice A n cp, .int .i64 s]] w (RetSl w (mapTo (mirG xs s) n)) := by
  have hnn : n = s * s := by have := hn.out; rw [← Int.natCast_mul] at this; omega
  have Hnn := Lib.hid hnn; clear hnn
  have hcf : CellFn_mirrored (w.alloc (.cells #[.slice A n cp, .int .i64 s] 76)) (.pointer (some ⟨w.heap.size, 0, none⟩)) s (mirG xs s) := by
    intro r c W hW hr hc
    have k0 := box_cell hW 0
    have k1 := box_cell hW 1
    simp at k0 k1
    have hbb := box_below hW
    exact mirrored1 A cp n B xs s r c w.heap.size W (h.below (hbb.mono hB)) (Nat.le_trans hB hbb.size) h2 h4 hn hr hc k0 k1
  go_enter Tryd.func122, Tryd.ntmps122
  go_wp2_with fail
  refine (implRebuilt_mirrored _ A cp n s (mirG xs s) _ h2 h4 Hnn.out hcf).mono ?_
  rintro e w1 ⟨A1, c1, rfl, ho, hb⟩
  go_wp2
  go_ret
  exact ⟨A1, c1, rfl, ho.mono (by simp), box_below hb⟩
end Go.Proofs.YtkeoflnmbcdmfaaDoor
namespace Go.Proofs.YtkeoflnmbcdmfaaDoor
open Go.ChangeShapes Go.WideShapes Go.ChangeAt Go.RowKit

theorem Rd.take_ {w : World} {B : Nat} {A : Option Addr} {n : Nat} {xs : List Int} (h : Rd w B A n xs) {m : Nat} (hm : m ≤ n) : Rd w B A m (xs.take m) := by
  refine ⟨by rw [List.length_take, h.1]; omega, fun h0 => ?_⟩
  obtain ⟨b, off, he, hb, hc⟩ := h.2 (by omega)
  refine ⟨b, off, he, hb, fun k hk => ?_⟩
  rw [hc k (by omega)]
  simp [nth, List.getD_eq_getElem?_getD, hk]
theorem gv_n {xs : List Int} {size : Int} {n : Nat} (h : gv xs size = true) (hl : xs.length = n) : 4 ≤ n ∧ n ≤ 16 ∧ (n : Int) = size * size := by
  obtain ⟨h2, h4⟩ := gv_size h
  have := gv_len h
  obtain ⟨q4, q16⟩ := sq_bd h2 h4
  rw [hl] at this
  omega
theorem gv_short {xs : List Int} {size : Int} {n : Nat} (h : gv xs size = true) (hl : xs.length = n) : gv (xs.take (n - 1)) size = false := by
  obtain ⟨h4, _, hn⟩ := gv_n h hl
  have e : ((xs.take (n - 1)).length : Int) = n - 1 := by rw [List.length_take, hl]; omega
  cases hg : gv (xs.take (n - 1)) size
  · rfl
  · have := gv_len hg
    omega
theorem gv_large {xs : List Int} {size : Int} {n : Nat} (h : gv xs size = true) (hl : xs.length = n) : gv (xs.set 0 (size + 1)) size = false := by
  obtain ⟨h4, _, hn⟩ := gv_n h hl
  cases hg : gv (xs.set 0 (size + 1)) size
  · rfl
  · have := gv_nth hg (k := 0) (by rw [List.length_set, hl]; omega)
    rw [nth_set (by omega), if_pos rfl] at this
    omega

theorem copy_below {w w' : World} (hg : (w.alloc (.cells #[] 3)).grownBy w' (Value.slice (some ⟨w.heap.size, 0, none⟩) 0 0).ownBlock) : Below w.heap.size w w' :=
  ((Below.refl _ _).alloc (Nat.le_refl _) _).grown hg (by simp) (fun k hk => (Ow.made0 w w.heap.size (Nat.le_refl _)).own_lo k hk)
theorem cnz_lt {xs : List Int} {k : Nat} {v : Int} (hk : k < xs.length) : ∀ m, m ≤ k → cnz (xs.set k v) m = cnz xs m := by
  intro m
  induction m with
  | zero => intro _; rfl
  | succ m ih =>
    intro hm
    simp only [cnz]
    have e : k ≠ m := by omega
    rw [ih (by omega), nth_set hk, if_neg e]
theorem cnz_set {xs : List Int} {k : Nat} (hk : k < xs.length) (h : nth xs k ≠ 0) : ∀ m, k < m → cnz (xs.set k 0) m + 1 = cnz xs m := by
  intro m
  induction m with
  | zero => intro hm; omega
  | succ m ih =>
    intro hm
    simp only [cnz]
    by_cases e : k = m
    · subst e
      rw [cnz_lt hk k (Nat.le_refl _), nth_set hk, if_pos rfl, if_pos rfl, if_neg h]
    · rw [nth_set hk, if_neg e]
      have := ih (by omega)
      omega
theorem gv_set0 {xs : List Int} {size : Int} {n k : Nat} (h : gv xs size = true) (hl : xs.length = n) : gv (xs.set k 0) size = true := by
  obtain ⟨h2, h4⟩ := gv_size h
  refine okAll_gv (n := n) (by simpa using hl) (gv_n h hl).2.2 h2 h4 (okAll_set' (fun j hj => gv_nth h (by omega)) (by omega) (by omega))
theorem gf_set {xs : List Int} {size : Int} {k : Nat} (h : gv xs size = true) (hk : k < xs.length) (h0 : nth xs k ≠ 0) : gf (xs.set k 0) size = gf xs size - 1 := by
  have := cnz_set hk h0 xs.length hk
  unfold gf
  rw [if_pos h, if_pos (gv_set0 h rfl), List.length_set]
  omega
theorem cnz_zeros (n m : Nat) : cnz (zeros n) m = 0 := by
  induction m with
  | zero => rfl
  | succ m ih => rw [cnz, ih, zeros_nth]; rfl
theorem gf_zeros {size : Int} {n : Nat} (h2 : 2 ≤ size) (h4 : size ≤ 4) (hn : (n : Int) = size * size) : gf (zeros n) size = 0 := by
  have hg : gv (zeros n) size = true := okAll_gv (zeros_length n) hn h2 h4 (okAll_zeros (by omega) n)
  unfold gf
  rw [if_pos hg, cnz_zeros]; rfl

end Go.Proofs.YtkeoflnmbcdmfaaDoor
namespace Go.Proofs.YtkeoflnmbcdmfaaDoor
open Go.ChangeShapes Go.WideShapes Go.ChangeAt Go.RowKit

/-- the list whose value at k is the one of xs at P k. -/
def pm (xs : List Int) (P : Nat → Nat) (n : Nat) : List Int := mapTo (fun k => nth xs (P k)) n
theorem pm_length (xs : List Int) (P : Nat → Nat) (n : Nat) : (pm xs P n).length = n := mapTo_length _ _
theorem pm_nth {xs : List Int} {P : Nat → Nat} {n k : Nat} (h : k < n) : nth (pm xs P n) k = nth xs (P k) := mapTo_nth h
theorem pm_pm {xs : List Int} {P Q : Nat → Nat} {n : Nat} (h : ∀ k, k < n → P k < n) : pm (pm xs Q n) P n = pm xs (fun k => Q (P k)) n := by
  apply ext_nth (by rw [pm_length, pm_length])
  intro k hk
  rw [pm_length] at hk
  rw [pm_nth hk, pm_nth (h k hk), pm_nth hk]
theorem pm_id {xs : List Int} {P : Nat → Nat} {n : Nat} (hl : xs.length = n) (h : ∀ k, k < n → P k = k) : pm xs P n = xs := by
  apply ext_nth (by rw [pm_length, hl])
  intro k hk
  rw [pm_length] at hk
  rw [pm_nth hk, h k hk]
theorem pm_eq {xs : List Int} {P Q : Nat → Nat} {n : Nat} (h : ∀ k, k < n → P k = Q k) : pm xs P n = pm xs Q n := by
  apply ext_nth (by rw [pm_length, pm_length])
  intro k hk
  rw [pm_length] at hk
  rw [pm_nth hk, pm_nth hk, h k hk]
theorem pm_gv {xs : List Int} {size : Int} {P : Nat → Nat} {n : Nat} (hg : gv xs size = true) (hl : xs.length = n) (h : ∀ k, k < n → P k < n) : gv (pm xs P n) size = true := by
  obtain ⟨h2, h4⟩ := gv_size hg
  refine okAll_gv (pm_length _ _ _) (gv_n hg hl).2.2 h2 h4 (fun k hk => ?_)
  rw [pm_nth hk]
  exact gv_nth hg (by rw [hl]; exact h k hk)
theorem cnz_sum (xs : List Int) (n : Nat) : cnz xs n = ((List.range n).map fun k => if nth xs k = 0 then 0 else 1).sum := by
  induction n with
  | zero => rfl
  | succ n ih => simp [cnz, ih, List.range_succ]
theorem pm_cnz {xs : List Int} {P : Nat → Nat} {n : Nat} (hp : (List.map P (List.range n)).Perm (List.range n)) : cnz (pm xs P n) n = cnz xs n := by
  rw [cnz_sum, cnz_sum]
  have h1 : (List.range n).map (fun k => if nth (pm xs P n) k = 0 then 0 else 1) = (List.map P (List.range n)).map (fun k => if nth xs k = 0 then 0 else 1) := by
    rw [List.map_map]
    apply List.map_congr_left
    intro k hk
    have : k < n := by simpa using hk
    simp only [Function.comp, pm_nth this]
  rw [h1]
  exact (hp.map _).sum_nat
theorem pm_gf {xs : List Int} {size : Int} {P : Nat → Nat} {n : Nat} (hg : gv xs size = true) (hl : xs.length = n) (h : ∀ k, k < n → P k < n) (hp : (List.map P (List.range n)).Perm (List.range n)) : gf (pm xs P n) size = gf xs size := by
  unfold gf
  rw [if_pos hg, if_pos (pm_gv hg hl h), pm_length, pm_cnz hp, hl]

theorem size_nat {xs : List Int} {size : Int} (hg : gv xs size = true) : ∃ s : Nat, size = s ∧ s ∈ [2, 3, 4] ∧ xs.length = s * s := by
  obtain ⟨h2, h4⟩ := gv_size hg
  obtain ⟨s, rfl⟩ := Int.eq_ofNat_of_zero_le (by omega : 0 ≤ size)
  refine ⟨s, rfl, by simp; omega, ?_⟩
  have := gv_len hg
  rw [← Int.natCast_mul] at this
  omega
theorem turn_lt : ∀ s ∈ [2, 3, 4], ∀ k, k < s * s → turnIx (s : Nat) k < s * s := by decide +kernel
theorem turn_perm : ∀ s ∈ [2, 3, 4], (List.map (turnIx (s : Nat)) (List.range (s * s))).Perm (List.range (s * s)) := by decide +kernel
theorem turn_four : ∀ s ∈ [2, 3, 4], ∀ k, k < s * s → turnIx (s : Nat) (turnIx (s : Nat) (turnIx (s : Nat) (turnIx (s : Nat) k))) = k := by decide +kernel
theorem turn_edge : ∀ s ∈ [2, 3, 4], ∀ k, k < s → turnIx (s : Nat) (k * s + s - 1) = k := by decide +kernel

/-- what is known of a turned grid. -/
structure TurnFacts (xs : List Int) (size : Int) (n : Nat) : Prop where
  len : (turnL xs size).length = n
  valid : gv (turnL xs size) size = true
  four : turnL (turnL (turnL (turnL xs size) size) size) size = xs
  filled : gf (turnL xs size) size = gf xs size
  edge : ∀ k : Nat, (k : Int) < size → nth (turnL xs size) ((k : Int) * size + size - 1).toNat = nth xs k
theorem turnL_pm {xs : List Int} {size : Int} {n : Nat} (hg : gv xs size = true) (hl : xs.length = n) : turnL xs size = pm xs (turnIx size) n := by
  unfold turnL
  rw [if_pos hg, hl]; rfl
theorem turn_all {xs : List Int} {size : Int} {n : Nat} (hg : gv xs size = true) (hl : xs.length = n) : TurnFacts xs size n := by
  obtain ⟨s, rfl, hs, hls⟩ := size_nat hg
  have hn : n = s * s := by rw [← hl, hls]
  subst hn
  have lt := turn_lt s hs
  have e1 := turnL_pm hg hl
  have g1 : gv (turnL xs s) s = true := by rw [e1]; exact pm_gv hg hl lt
  have l1 : (turnL xs s).length = s * s := by rw [e1, pm_length]
  have e2 := turnL_pm g1 l1
  have g2 : gv (turnL (turnL xs s) s) s = true := by rw [e2]; exact pm_gv g1 l1 lt
  have l2 : (turnL (turnL xs s) s).length = s * s := by rw [e2, pm_length]
  have e3 := turnL_pm g2 l2
  have g3 : gv (turnL (turnL (turnL xs s) s) s) s = true := by rw [e3]; exact pm_gv g2 l2 lt
  have l3 : (turnL (turnL (turnL xs s) s) s).length = s * s := by rw [e3, pm_length]
  have e4 := turnL_pm g3 l3
  refine ⟨l1, g1, ?_, ?_, ?_⟩
  · rw [e4, e3, e2, e1, pm_pm lt, pm_pm (fun k hk => lt _ (lt k hk)), pm_pm (fun k hk => lt _ (lt _ (lt k hk)))]
    exact pm_id hl (turn_four s hs)
  · rw [e1]; exact pm_gf hg hl lt (turn_perm s hs)
  · intro k hk
    have hks : k < s := by omega
    have hi : k * s + s - 1 < s * s := by
      have := ix_lt hks (by omega : s - 1 < s)
      omega
    have e : ((k : Int) * (s : Int) + (s : Int) - 1).toNat = k * s + s - 1 := by
      rw [← Int.natCast_mul]; omega
    rw [e, e1, pm_nth hi, turn_edge s hs k hks]
theorem mir_lt : ∀ s ∈ [2, 3, 4], ∀ k, k < s * s → mirIx (s : Nat) k < s * s := by decide +kernel
theorem mir_two : ∀ s ∈ [2, 3, 4], ∀ k, k < s * s → mirIx (s : Nat) (mirIx (s : Nat) k) = k := by decide +kernel
theorem mir_turn : ∀ s ∈ [2, 3, 4], ∀ k, k < s * s → mirIx (s : Nat) (turnIx (s : Nat) k) = turnIx (s : Nat) (turnIx (s : Nat) (turnIx (s : Nat) (mirIx (s : Nat) k))) := by decide +kernel
structure MirFacts (xs : List Int) (size : Int) (n : Nat) : Prop where
  len : (mirL xs size).length = n
  valid : gv (mirL xs size) size = true
  two : mirL (mirL xs size) size = xs
  turned : turnL (mirL xs size) size = mirL (turnL (turnL (turnL xs size) size) size) size
theorem mirL_pm {xs : List Int} {size : Int} {n : Nat} (hg : gv xs size = true) (hl : xs.length = n) : mirL xs size = pm xs (mirIx size) n := by
  unfold mirL
  rw [if_pos hg, hl]; rfl
theorem mir_all {xs : List Int} {size : Int} {n : Nat} (hg : gv xs size = true) (hl : xs.length = n) : MirFacts xs size n := by
  obtain ⟨s, rfl, hs, hls⟩ := size_nat hg
  have hn : n = s * s := by rw [← hl, hls]
  subst hn
  have lt := turn_lt s hs
  have ltm := mir_lt s hs
  have e1 := mirL_pm hg hl
  have g1 : gv (mirL xs s) s = true := by rw [e1]; exact pm_gv hg hl ltm
  have l1 : (mirL xs s).length = s * s := by rw [e1, pm_length]
  have t1 := turnL_pm hg hl
  have h1 : gv (turnL xs s) s = true := by rw [t1]; exact pm_gv hg hl lt
  have m1 : (turnL xs s).length = s * s := by rw [t1, pm_length]
  have t2 := turnL_pm h1 m1
  have h2 : gv (turnL (turnL xs s) s) s = true := by rw [t2]; exact pm_gv h1 m1 lt
  have m2 : (turnL (turnL xs s) s).length = s * s := by rw [t2, pm_length]
  have t3 := turnL_pm h2 m2
  have h3 : gv (turnL (turnL (turnL xs s) s) s) s = true := by rw [t3]; exact pm_gv h2 m2 lt
  have m3 : (turnL (turnL (turnL xs s) s) s).length = s * s := by rw [t3, pm_length]
  refine ⟨l1, g1, ?_, ?_⟩
  · rw [mirL_pm g1 l1, e1, pm_pm ltm]
    exact pm_id hl (mir_two s hs)
  · rw [turnL_pm g1 l1, mirL_pm h3 m3, t3, t2, t1, e1, pm_pm lt, pm_pm ltm, pm_pm (fun k hk => lt _ (ltm k hk)), pm_pm (fun k hk => lt _ (lt _ (ltm k hk)))]
    exact pm_eq (mir_turn s hs)
end Go.Proofs.YtkeoflnmbcdmfaaDoor
namespace Go.Proofs.YtkeoflnmbcdmfaaDoor
open Go.ChangeShapes Go.WideShapes Go.ChangeAt Go.RowKit

theorem hasTo_iff {f : Nat → Int} {k : Nat} {v : Int} : hasTo f k v = true ↔ ∃ i, i < k ∧ f i = v := by
  simp [hasTo]
theorem dupTo_iff {f : Nat → Int} {n : Nat} : dupTo f n = true ↔ ∃ i j, i < j ∧ j < n ∧ f i = f j ∧ 0 < f j := by
  induction n with
  | zero => simp [dupTo]
  | succ n ih =>
    rw [dupTo, Bool.or_eq_true, ih, Bool.and_eq_true, hasTo_iff, decide_eq_true_eq]
    constructor
    · rintro (⟨i, j, h1, h2, h3⟩ | ⟨h0, i, hi, he⟩)
      · exact ⟨i, j, h1, by omega, h3⟩
      · exact ⟨i, n, hi, by omega, he, h0⟩
    · rintro ⟨i, j, h1, h2, h3, h4⟩
      by_cases e : j = n
      · subst e; exact .inr ⟨h4, i, h1, h3⟩
      · exact .inl ⟨i, j, h1, by omega, h3, h4⟩
theorem clashTo_iff {xs : List Int} {size : Int} {n : Nat} : clashTo xs size n = true ↔ ∃ l, l < n ∧ dupTo (lineV xs size (l : Nat)) size.toNat = true := by
  induction n with
  | zero => simp [clashTo]
  | succ n ih =>
    rw [clashTo, Bool.or_eq_true, ih]
    constructor
    · rintro (⟨l, h1, h2⟩ | h)
      · exact ⟨l, by omega, h2⟩
      · exact ⟨n, by omega, h⟩
    · rintro ⟨l, h1, h2⟩
      by_cases e : l = n
      · subst e; exact .inr h2
      · exact .inl ⟨l, by omega, h2⟩

/-- two different cells of one line. -/
def adj (s i j : Nat) : Bool := i != j && (i / s == j / s || i % s == j % s)
def adjLine (s i j : Nat) : Bool := (List.range (2 * s)).any fun l => (List.range s).any fun a => (List.range s).any fun b => a != b && ((lineAt (s : Nat) (l : Nat) a).toNat == i && (lineAt (s : Nat) (l : Nat) b).toNat == j)
theorem adj_line0 : ∀ s ∈ [2, 3, 4], ∀ i, i < s * s → ∀ j, j < s * s → adj s i j = true → adjLine s i j = true := by decide +kernel
theorem adj_line (s : Nat) (hs : s ∈ [2, 3, 4]) (i : Nat) (hi : i < s * s) (j : Nat) (hj : j < s * s) (h : adj s i j = true) : ∃ l, l < 2 * s ∧ ∃ a, a < s ∧ ∃ b, b < s ∧ a ≠ b ∧ (lineAt (s : Nat) (l : Nat) a).toNat = i ∧ (lineAt (s : Nat) (l : Nat) b).toNat = j := by
  have := adj_line0 s hs i hi j hj h
  simp only [adjLine, List.any_eq_true, List.mem_range, Bool.and_eq_true, bne_iff_ne, beq_iff_eq] at this
  obtain ⟨l, hl, a, ha, b, hb, hab, e1, e2⟩ := this
  exact ⟨l, hl, a, ha, b, hb, hab, e1, e2⟩
def lineAdj (s l a b : Nat) : Bool := a == b || (adj s (lineAt (s : Nat) (l : Nat) a).toNat (lineAt (s : Nat) (l : Nat) b).toNat && (Nat.blt (lineAt (s : Nat) (l : Nat) a).toNat (s * s) && Nat.blt (lineAt (s : Nat) (l : Nat) b).toNat (s * s)))
theorem line_adj0 : ∀ s ∈ [2, 3, 4], ∀ l, l < 2 * s → ∀ a, a < s → ∀ b, b < s → lineAdj s l a b = true := by decide +kernel
theorem line_adj (s : Nat) (hs : s ∈ [2, 3, 4]) (l : Nat) (hl : l < 2 * s) (a : Nat) (ha : a < s) (b : Nat) (hb : b < s) (hab : a ≠ b) : adj s (lineAt (s : Nat) (l : Nat) a).toNat (lineAt (s : Nat) (l : Nat) b).toNat = true ∧ (lineAt (s : Nat) (l : Nat) a).toNat < s * s ∧ (lineAt (s : Nat) (l : Nat) b).toNat < s * s := by
  have := line_adj0 s hs l hl a ha b hb
  simp only [lineAdj, Bool.or_eq_true, beq_iff_eq, Bool.and_eq_true, Nat.blt_eq] at this
  rcases this with h | h
  · exact absurd h hab
  · exact h
theorem clash_iff {xs : List Int} {s : Nat} (hs : s ∈ [2, 3, 4]) : clash xs s = true ↔ ∃ i j, i < s * s ∧ j < s * s ∧ adj s i j = true ∧ nth xs i = nth xs j ∧ 0 < nth xs j := by
  have e2 : (2 * (s : Int)).toNat = 2 * s := by omega
  rw [clash, clashTo_iff, e2]
  constructor
  · rintro ⟨l, hl, h⟩
    rw [dupTo_iff, Int.toNat_natCast] at h
    obtain ⟨a, b, h1, h2, h3, h4⟩ := h
    obtain ⟨p, q, r⟩ := line_adj s hs l hl a (by omega) b h2 (by omega)
    exact ⟨_, _, q, r, p, h3, h4⟩
  · rintro ⟨i, j, hi, hj, ha, he, hp⟩
    obtain ⟨l, hl, a, ha', b, hb, hab, ei, ej⟩ := adj_line s hs i hi j hj ha
    refine ⟨l, hl, ?_⟩
    rw [dupTo_iff, Int.toNat_natCast]
    rcases Nat.lt_or_ge a b with h | h
    · exact ⟨a, b, h, hb, by unfold lineV; rw [ei, ej]; exact he, by unfold lineV; rw [ej]; exact hp⟩
    · exact ⟨b, a, by omega, ha', by unfold lineV; rw [ei, ej]; exact he.symm, by unfold lineV; rw [ei, he]; exact hp⟩
/-- a permutation of the cells that keeps lines keeps clashes. -/
theorem clash_pm {xs : List Int} {s : Nat} {P Q : Nat → Nat} (hs : s ∈ [2, 3, 4]) (hP : ∀ k, k < s * s → P k < s * s) (hQ : ∀ k, k < s * s → Q k < s * s) (hPQ : ∀ k, k < s * s → P (Q k) = k)
    (hadj : ∀ i, i < s * s → ∀ j, j < s * s → adj s i j = true → adj s (P i) (P j) = true ∧ adj s (Q i) (Q j) = true) : clash (pm xs P (s * s)) s = clash xs s := by
  rw [Bool.eq_iff_iff, clash_iff hs, clash_iff hs]
  constructor
  · rintro ⟨i, j, hi, hj, ha, he, hp⟩
    rw [pm_nth hi, pm_nth hj] at he
    rw [pm_nth hj] at hp
    exact ⟨P i, P j, hP i hi, hP j hj, (hadj i hi j hj ha).1, he, hp⟩
  · rintro ⟨i, j, hi, hj, ha, he, hp⟩
    refine ⟨Q i, Q j, hQ i hi, hQ j hj, (hadj i hi j hj ha).2, ?_, ?_⟩
    · rw [pm_nth (hQ i hi), pm_nth (hQ j hj), hPQ i hi, hPQ j hj]; exact he
    · rw [pm_nth (hQ j hj), hPQ j hj]; exact hp
theorem clash_set0 {xs : List Int} {s k : Nat} (hs : s ∈ [2, 3, 4]) (hl : xs.length = s * s) (h : clash xs s = false) : clash (xs.set k 0) s = false := by
  cases hc : clash (xs.set k 0) s
  · rfl
  · rw [clash_iff hs] at hc
    obtain ⟨i, j, hi, hj, ha, he, hp⟩ := hc
    by_cases hk : k < xs.length
    · rw [nth_set hk, nth_set hk] at he
      rw [nth_set hk] at hp
      have hkj : k ≠ j := by rintro rfl; simp at hp
      rw [if_neg hkj] at he hp
      have hki : k ≠ i := by rintro rfl; rw [if_pos rfl] at he; omega
      rw [if_neg hki] at he
      have := (clash_iff hs).2 ⟨i, j, hi, hj, ha, he, hp⟩
      rw [h] at this; cases this
    · rw [List.set_eq_of_length_le (by omega)] at he hp
      have := (clash_iff hs).2 ⟨i, j, hi, hj, ha, he, hp⟩
      rw [h] at this; cases this
/-- three quarters back. -/
def backIx (s k : Nat) : Nat := turnIx s (turnIx s (turnIx s k))
theorem turn_adj : ∀ s ∈ [2, 3, 4], ∀ i, i < s * s → ∀ j, j < s * s → adj s i j = true → adj s (turnIx (s : Nat) i) (turnIx (s : Nat) j) = true ∧ adj s (backIx s i) (backIx s j) = true := by decide +kernel
theorem turn_back : ∀ s ∈ [2, 3, 4], ∀ k, k < s * s → backIx s k < s * s ∧ turnIx (s : Nat) (backIx s k) = k := by decide +kernel
theorem mir_adj : ∀ s ∈ [2, 3, 4], ∀ i, i < s * s → ∀ j, j < s * s → adj s i j = true → adj s (mirIx (s : Nat) i) (mirIx (s : Nat) j) = true := by decide +kernel
theorem clash_turn {xs : List Int} {size : Int} {n : Nat} (hg : gv xs size = true) (hl : xs.length = n) : clash (turnL xs size) size = clash xs size := by
  rw [turnL_pm hg hl]
  obtain ⟨s, rfl, hs, hls⟩ := size_nat hg
  obtain rfl : n = s * s := by omega
  exact clash_pm hs (turn_lt s hs) (fun k hk => (turn_back s hs k hk).1) (fun k hk => (turn_back s hs k hk).2) (turn_adj s hs)
theorem clash_mir {xs : List Int} {size : Int} {n : Nat} (hg : gv xs size = true) (hl : xs.length = n) : clash (mirL xs size) size = clash xs size := by
  rw [mirL_pm hg hl]
  obtain ⟨s, rfl, hs, hls⟩ := size_nat hg
  obtain rfl : n = s * s := by omega
  exact clash_pm hs (mir_lt s hs) (mir_lt s hs) (mir_two s hs) (fun i hi j hj h => ⟨mir_adj s hs i hi j hj h, mir_adj s hs i hi j hj h⟩)
end Go.Proofs.YtkeoflnmbcdmfaaDoor
namespace Go.Proofs.YtkeoflnmbcdmfaaDoor
open Go.ChangeShapes Go.WideShapes Go.ChangeAt Go.RowKit

def sqFits (xs : List Int) (size : Int) : Bool := gv xs size && !clash xs size
def sqSolved (xs : List Int) (size : Int) : Bool := sqFits xs size && (gf xs size == size * size)

theorem cnz_full {xs : List Int} {n : Nat} : cnz xs n = n ↔ ∀ k, k < n → nth xs k ≠ 0 := by
  induction n with
  | zero => simp [cnz]
  | succ n ih =>
    have hle := cnz_le xs n
    constructor
    · intro h
      by_cases e : nth xs n = 0
      · rw [cnz_z e] at h; omega
      · rw [cnz_nz e] at h
        have h' := ih.1 (by omega)
        intro k hk
        by_cases ek : k = n
        · subst ek; exact e
        · exact h' k (by omega)
    · intro h
      rw [cnz_nz (h n (by omega)), ih.2 (fun k hk => h k (by omega))]
theorem solved_iff {xs : List Int} {size : Int} {n : Nat} (hl : xs.length = n) : sqSolved xs size = true ↔ gv xs size = true ∧ clash xs size = false ∧ ∀ k, k < n → nth xs k ≠ 0 := by
  subst hl
  unfold sqSolved sqFits
  simp only [Bool.and_eq_true, Bool.not_eq_true', beq_iff_eq]
  constructor
  · rintro ⟨⟨h1, h2⟩, h3⟩
    refine ⟨h1, h2, ?_⟩
    have := gv_len h1
    unfold gf at h3
    rw [if_pos h1] at h3
    exact cnz_full.1 (by omega)
  · rintro ⟨h1, h2, h3⟩
    refine ⟨⟨h1, h2⟩, ?_⟩
    have := gv_len h1
    unfold gf
    rw [if_pos h1, cnz_full.2 h3]
    omega

/-- in a line of s different values of 1..s every one of them stands. -/
def pigB2 (a b v : Nat) : Bool := (a == 0 || b == 0 || v == 0) || ((a == b) || (a == v || b == v))
theorem pig2 : ∀ a, a < 3 → ∀ b, b < 3 → ∀ v, v < 3 → pigB2 a b v = true := by decide +kernel
def pigB3 (a b c v : Nat) : Bool := (a == 0 || b == 0 || c == 0 || v == 0) || ((a == b || a == c || b == c) || (a == v || b == v || c == v))
theorem pig3 : ∀ a, a < 4 → ∀ b, b < 4 → ∀ c, c < 4 → ∀ v, v < 4 → pigB3 a b c v = true := by decide +kernel
def pigB4 (a b c d v : Nat) : Bool := (a == 0 || b == 0 || c == 0 || d == 0 || v == 0) || ((a == b || a == c || a == d || b == c || b == d || c == d) || (a == v || b == v || c == v || d == v))
theorem pig4 : ∀ a, a < 5 → ∀ b, b < 5 → ∀ c, c < 5 → ∀ d, d < 5 → ∀ v, v < 5 → pigB4 a b c d v = true := by decide +kernel
theorem pig {f : Nat → Int} {s : Nat} (hs : s ∈ [2, 3, 4]) (hf : ∀ i, i < s → 1 ≤ f i ∧ f i ≤ s) (hd : dupTo f s = false) {v : Int} (v1 : 1 ≤ v) (v2 : v ≤ s) : hasTo f s v = true := by
  have hne : ∀ i j, i < j → j < s → f i ≠ f j := by
    intro i j hij hj he
    have : dupTo f s = true := dupTo_iff.2 ⟨i, j, hij, hj, he, by have := hf j hj; omega⟩
    rw [hd] at this; cases this
  have hT : ∀ i, i < s → ((f i).toNat : Int) = f i := fun i hi => Int.toNat_of_nonneg (by have := hf i hi; omega)
  simp at hs
  rw [hasTo_iff]
  rcases hs with rfl | rfl | rfl
  · have b0 := hf 0 (by omega); have b1 := hf 1 (by omega)
    have n01 := hne 0 1 (by omega) (by omega)
    have hp := pig2 (f 0).toNat (by omega) (f 1).toNat (by omega) v.toNat (by omega)
    simp only [pigB2, Bool.or_eq_true, beq_iff_eq] at hp
    have hp' : (f 0).toNat = v.toNat ∨ (f 1).toNat = v.toNat := by omega
    clear hp
    rcases hp' with h | h
    · exact ⟨0, by omega, by omega⟩
    · exact ⟨1, by omega, by omega⟩
  · have b0 := hf 0 (by omega); have b1 := hf 1 (by omega); have b2 := hf 2 (by omega)
    have n01 := hne 0 1 (by omega) (by omega); have n02 := hne 0 2 (by omega) (by omega); have n12 := hne 1 2 (by omega) (by omega)
    have hp := pig3 (f 0).toNat (by omega) (f 1).toNat (by omega) (f 2).toNat (by omega) v.toNat (by omega)
    simp only [pigB3, Bool.or_eq_true, beq_iff_eq] at hp
    have hp' : (f 0).toNat = v.toNat ∨ (f 1).toNat = v.toNat ∨ (f 2).toNat = v.toNat := by omega
    clear hp
    rcases hp' with h | h | h
    · exact ⟨0, by omega, by omega⟩
    · exact ⟨1, by omega, by omega⟩
    · exact ⟨2, by omega, by omega⟩
  · have b0 := hf 0 (by omega); have b1 := hf 1 (by omega); have b2 := hf 2 (by omega); have b3 := hf 3 (by omega)
    have n01 := hne 0 1 (by omega) (by omega); have n02 := hne 0 2 (by omega) (by omega); have n03 := hne 0 3 (by omega) (by omega)
    have n12 := hne 1 2 (by omega) (by omega); have n13 := hne 1 3 (by omega) (by omega); have n23 := hne 2 3 (by omega) (by omega)
    have hp := pig4 (f 0).toNat (by omega) (f 1).toNat (by omega) (f 2).toNat (by omega) (f 3).toNat (by omega) v.toNat (by omega)
    simp only [pigB4, Bool.or_eq_true, beq_iff_eq] at hp
    have hp' : (f 0).toNat = v.toNat ∨ (f 1).toNat = v.toNat ∨ (f 2).toNat = v.toNat ∨ (f 3).toNat = v.toNat := by omega
    clear hp
    rcases hp' with h | h | h | h
    · exact ⟨0, by omega, by omega⟩
    · exact ⟨1, by omega, by omega⟩
    · exact ⟨2, by omega, by omega⟩
    · exact ⟨3, by omega, by omega⟩

/-- xs comes before ys: at the first place where they differ its value is less. -/
def lexlt (n : Nat) (xs ys : List Int) : Prop := ∃ k, k < n ∧ (∀ j, j < k → nth xs j = nth ys j) ∧ nth xs k < nth ys k
theorem sols_prefix {size : Int} : ∀ (f : Nat) (xs : List Int) (p : Nat) (y : List Int), y ∈ sols size f xs p → p + f ≤ xs.length → ∀ k, k < p → nth y k = nth xs k := by
  intro f
  induction f with
  | zero => intro xs p y hy _ k _; simp [sols] at hy; subst hy; rfl
  | succ f ih =>
    intro xs p y hy hl
    refine solsFrom_all (P := fun y => ∀ k, k < p → nth y k = nth xs k) _ _ (fun u y _ _ hy k hk => ?_) y hy
    rw [ih _ _ _ hy (by rw [List.length_set]; omega) k (by omega), nth_set (by omega), if_neg (by omega)]
theorem sols_at {size : Int} {f : Nat} {xs : List Int} {p : Nat} {u : Int} {y : List Int} (hy : y ∈ sols size f (xs.set p u) (p + 1)) (hl : p + 1 + f ≤ xs.length) : nth y p = u := by
  rw [sols_prefix f _ _ y hy (by rw [List.length_set]; omega) p (by omega), nth_set (by omega), if_pos rfl]
theorem sols_sorted {size : Int} (n : Nat) : ∀ (f : Nat) (xs : List Int) (p : Nat), p + f = n → xs.length = n → List.Pairwise (lexlt n) (sols size f xs p) := by
  intro f
  induction f with
  | zero => intro xs p _ _; simp [sols]
  | succ f ih =>
    intro xs p hp hl
    simp only [sols]
    have key : ∀ (r v : Nat), List.Pairwise (lexlt n) (solsFrom (fun ys => sols size f ys (p + 1)) xs size p r v) := by
      intro r
      induction r with
      | zero => intro v; simp [solsFrom]
      | succ r ihr =>
        intro v
        simp only [solsFrom]
        rw [List.pairwise_append]
        refine ⟨?_, ihr (v + 1), ?_⟩
        · split
          · exact List.Pairwise.nil
          · exact ih _ _ (by omega) (by rw [List.length_set]; exact hl)
        · intro a ha b hb
          have ha' : a ∈ sols size f (xs.set p (v : Int)) (p + 1) := by
            split at ha
            · simp at ha
            · exact ha
          refine solsFrom_all (P := fun b => lexlt n a b) _ _ (fun u b h1 _ hb => ?_) b hb
          refine ⟨p, by omega, fun j hj => ?_, ?_⟩
          · rw [sols_prefix f _ _ a ha' (by rw [List.length_set]; omega) j (by omega), sols_prefix f _ _ b hb (by rw [List.length_set]; omega) j (by omega), nth_set (by omega), nth_set (by omega), if_neg (by omega), if_neg (by omega)]
          · rw [sols_at ha' (by omega), sols_at hb (by omega)]
            omega
    exact key _ _
theorem sols_clash {size : Int} : ∀ (f : Nat) (xs : List Int) (p : Nat) (y : List Int), y ∈ sols size (f + 1) xs p → clash y size = false := by
  intro f
  induction f with
  | zero =>
    intro xs p y hy
    simp only [sols] at hy
    have key : ∀ (r v : Nat), y ∈ solsFrom (fun ys => [ys]) xs size p r v → clash y size = false := by
      intro r
      induction r with
      | zero => intro v h; simp [solsFrom] at h
      | succ r ihr =>
        intro v h
        simp only [solsFrom, List.mem_append] at h
        rcases h with h | h
        · by_cases hc : clash (xs.set p (v : Int)) size = true
          · rw [if_pos hc] at h; simp at h
          · rw [if_neg hc] at h
            simp at h
            subst h
            simpa using hc
        · exact ihr _ h
    exact key _ _ hy
  | succ f ih =>
    intro xs p y hy
    rw [sols] at hy
    exact solsFrom_all (P := fun y => clash y size = false) _ _ (fun u y _ _ hy => ih _ _ _ hy) y hy
theorem sols_pos {size : Int} : ∀ (f : Nat) (xs : List Int) (p : Nat) (y : List Int), y ∈ sols size f xs p → p + f ≤ xs.length → (∀ k, k < p → 1 ≤ nth xs k) → ∀ k, k < p + f → 1 ≤ nth y k := by
  intro f
  induction f with
  | zero => intro xs p y hy _ h k hk; simp [sols] at hy; subst hy; exact h k (by omega)
  | succ f ih =>
    intro xs p y hy hl h
    refine solsFrom_all (P := fun y => ∀ k, k < p + (f + 1) → 1 ≤ nth y k) _ _ (fun u y h1 _ hy k hk => ?_) y hy
    refine ih _ _ _ hy (by rw [List.length_set]; omega) (fun j hj => ?_) k (by omega)
    rw [nth_set (by omega)]
    split
    · omega
    · exact h j (by omega)
theorem sols_solved {size : Int} {n : Nat} (h2 : 2 ≤ size) (h4 : size ≤ 4) (hn : (n : Int) = size * size) {y : List Int} (hy : y ∈ sols size n (zeros n) 0) : y.length = n ∧ sqSolved y size = true := by
  have hl : y.length = n := by rw [sols_length size _ _ _ _ hy, zeros_length]
  obtain ⟨q4, q16⟩ := sq_bd h2 h4
  obtain ⟨m, rfl⟩ : ∃ m, n = m + 1 := ⟨n - 1, by omega⟩
  refine ⟨hl, (solved_iff hl).2 ⟨?_, sols_clash m _ _ _ hy, fun k hk => ?_⟩⟩
  · exact okAll_gv hl hn h2 h4 (sols_ok (by omega) _ _ _ _ (okAll_zeros (by omega) _) _ hy)
  · have := sols_pos _ _ _ _ hy (by rw [zeros_length]; omega) (fun k hk => absurd hk (by omega)) k (by omega)
    omega
end Go.Proofs.YtkeoflnmbcdmfaaDoor
namespace Go.Proofs.YtkeoflnmbcdmfaaDoor
open Go.ChangeShapes Go.WideShapes Go.ChangeAt Go.RowKit

theorem okTo3_iff {xs : List Int} {s : Int} {k : Nat} {v : Int} (m : Nat) : okTo3 xs s k v m = true ↔ ∀ j, j < m → ok3 xs s k v j = true := by
  induction m with
  | zero => simp [okTo3]
  | succ m ih =>
    rw [okTo3, Bool.and_eq_true, ih]
    constructor
    · rintro ⟨h1, h2⟩ j hj
      by_cases e : j = m
      · subst e; exact h2
      · exact h1 j (by omega)
    · intro h
      exact ⟨fun j hj => h j (by omega), h m (by omega)⟩
/-- the cells of the row and the column of k are those that are adjacent to it, and k. -/
def seen3 (s k i : Nat) : Bool := (List.range s).any fun j => ((rIx (s : Nat) k j).toNat == i) || ((cIx (s : Nat) k j).toNat == i)
theorem seen_adj : ∀ s ∈ [2, 3, 4], ∀ k, k < s * s → ∀ i, i < s * s → adj s i k = true → seen3 s k i = true := by decide +kernel
def adjSeen (s k j : Nat) : Bool := ((rIx (s : Nat) k j == (k : Int)) || (adj s (rIx (s : Nat) k j).toNat k && Nat.blt (rIx (s : Nat) k j).toNat (s * s))) && ((cIx (s : Nat) k j == (k : Int)) || (adj s (cIx (s : Nat) k j).toNat k && Nat.blt (cIx (s : Nat) k j).toNat (s * s)))
theorem adj_seen : ∀ s ∈ [2, 3, 4], ∀ k, k < s * s → ∀ j, j < s → adjSeen s k j = true := by decide +kernel
theorem ix_nn : ∀ s ∈ [2, 3, 4], ∀ k, k < s * s → ∀ j, j < s → ((rIx (s : Nat) k j).toNat : Int) = rIx (s : Nat) k j ∧ ((cIx (s : Nat) k j).toNat : Int) = cIx (s : Nat) k j := by decide +kernel
theorem adj_ne (s i j : Nat) : (adj s i j = true → i ≠ j) ∧ True := ⟨fun h => by simp only [adj, Bool.and_eq_true, bne_iff_ne] at h; exact h.1, trivial⟩
theorem adj_sym : ∀ s ∈ [2, 3, 4], ∀ i, i < s * s → ∀ j, j < s * s → adj s i j = adj s j i := by decide +kernel
theorem ok3_adj {xs : List Int} {s k : Nat} (hs : s ∈ [2, 3, 4]) (hk : k < s * s) (v : Int) : okTo3 xs s k v s = true ↔ ∀ i, i < s * s → adj s i k = true → nth xs i ≠ v := by
  rw [okTo3_iff]
  constructor
  · intro h i hi ha he
    have := seen_adj s hs k hk i hi ha
    simp only [seen3, List.any_eq_true, List.mem_range, Bool.or_eq_true, beq_iff_eq] at this
    obtain ⟨j, hj, hor⟩ := this
    have ho := h j hj
    obtain ⟨n1, n2⟩ := ix_nn s hs k hk j hj
    have hne := ((adj_ne s i k).1 ha)
    simp only [ok3, Bool.and_eq_true, Bool.or_eq_true, beq_iff_eq, bne_iff_ne] at ho
    rcases hor with e | e
    · rcases ho.1 with h1 | h1
      · omega
      · rw [e] at h1; exact h1 he
    · rcases ho.2 with h1 | h1
      · omega
      · rw [e] at h1; exact h1 he
  · intro h j hj
    have := adj_seen s hs k hk j hj
    simp only [adjSeen, Bool.and_eq_true, Bool.or_eq_true, beq_iff_eq, Nat.blt_eq] at this
    simp only [ok3, Bool.and_eq_true, Bool.or_eq_true, beq_iff_eq, bne_iff_ne]
    refine ⟨?_, ?_⟩
    · rcases this.1 with e | ⟨e1, e2⟩
      · exact .inl e
      · exact .inr (h _ e2 e1)
    · rcases this.2 with e | ⟨e1, e2⟩
      · exact .inl e
      · exact .inr (h _ e2 e1)
theorem candTo_test (xs : List Int) (s : Int) (k u : Nat) : ∀ v, (candTo xs s k v).testBit u = true ↔ 1 ≤ u ∧ u ≤ v ∧ okTo3 xs s k (u : Int) s.toNat = true := by
  intro v
  induction v with
  | zero => simp [candTo]; omega
  | succ v ih =>
    have hc : ((v : Int) + 1) = ((v + 1 : Nat) : Int) := by omega
    simp only [candTo]
    split
    · next h =>
      rw [hc] at h
      rw [Nat.testBit_or, Bool.or_eq_true, ih, Nat.testBit_two_pow, decide_eq_true_eq]
      constructor
      · rintro (⟨h1, h2, h3⟩ | rfl)
        · exact ⟨h1, by omega, h3⟩
        · exact ⟨by omega, Nat.le_refl _, h⟩
      · rintro ⟨h1, h2, h3⟩
        by_cases e : u = v + 1
        · exact .inr e.symm
        · exact .inl ⟨h1, by omega, h3⟩
    · next h =>
      rw [hc] at h
      rw [ih]
      constructor
      · rintro ⟨h1, h2, h3⟩; exact ⟨h1, by omega, h3⟩
      · rintro ⟨h1, h2, h3⟩
        refine ⟨h1, ?_, h3⟩
        by_cases e : u = v + 1
        · subst e; exact absurd h3 h
        · omega
/-- with a value in an empty cell a fitting grid fits exactly if the value is a candidate. -/
theorem clash_cand {xs : List Int} {s n k v : Nat} (hs : s ∈ [2, 3, 4]) (hn : n = s * s) (hl : xs.length = n) (hc : clash xs s = false) (hk : k < n) (v1 : 1 ≤ v) (v2 : v ≤ s) : clash (xs.set k (v : Int)) s = !((candTo xs s k s).testBit v) := by
  have hT : (candTo xs s k s).testBit v = true ↔ okTo3 xs s k (v : Int) s = true := by
    rw [candTo_test, Int.toNat_natCast]
    exact ⟨fun h => h.2.2, fun h => ⟨v1, v2, h⟩⟩
  rw [ok3_adj hs (by omega)] at hT
  have key : clash (xs.set k (v : Int)) s = true ↔ ¬ ∀ i, i < s * s → adj s i k = true → nth xs i ≠ (v : Int) := by
    rw [clash_iff hs]
    constructor
    · rintro ⟨i, j, hi, hj, ha, he, hp⟩ hall
      rw [nth_set (by omega), nth_set (by omega)] at he
      rw [nth_set (by omega)] at hp
      have hij := (adj_ne s i j).1 ha
      by_cases ek : k = j
      · subst ek
        rw [if_pos rfl, if_neg (fun h => hij h.symm)] at he
        exact hall i hi ha he
      · rw [if_neg ek] at he hp
        by_cases ei : k = i
        · subst ei
          rw [if_pos rfl] at he
          exact hall j hj ((adj_sym s hs k hi j hj).symm.trans ha) he.symm
        · rw [if_neg ei] at he
          have := (clash_iff (xs := xs) hs).2 ⟨i, j, hi, hj, ha, he, hp⟩
          rw [hc] at this; cases this
    · intro h
      simp only [Classical.not_forall, Classical.not_not] at h
      obtain ⟨i, hi, ha, he⟩ := h
      have hik := (adj_ne s i k).1 ha
      refine ⟨i, k, hi, by omega, ha, ?_, ?_⟩
      · rw [nth_set (by omega), nth_set (by omega), if_pos rfl, if_neg (fun h => hik h.symm)]; exact he
      · rw [nth_set (by omega), if_pos rfl]; omega
  cases hb : (candTo xs s k s).testBit v
  · rw [hb] at hT
    have : clash (xs.set k (v : Int)) s = true := key.2 (fun h => by have := hT.2 h; cases this)
    rw [this]; rfl
  · rw [hb] at hT
    cases hcc : clash (xs.set k (v : Int)) s
    · rfl
    · exact absurd (hT.1 rfl) (key.1 hcc)
theorem candN_lt {xs : List Int} {s n : Nat} (hs4 : s ≤ 4) (hok : okAll xs s n) {k : Nat} (hk : k < n) : candN xs s k < 32 := by
  unfold candN
  split
  · have := hok k hk
    exact Nat.pow_lt_pow_right (n := 5) (by omega) (by omega)
  · exact candTo_lt _ _ _ _ (by omega)
theorem candN_test {xs : List Int} {s n : Nat} (hok : okAll xs s n) {k : Nat} (hk : k < n) {u : Nat} (h : (candN xs s k).testBit u = true) : 1 ≤ u ∧ u ≤ s := by
  have hv := hok k hk
  unfold candN at h
  split at h
  · rw [Nat.testBit_two_pow, decide_eq_true_eq] at h
    omega
  · rw [candTo_test, Int.toNat_natCast] at h
    exact ⟨h.1, h.2.1⟩
theorem even_bits : ∀ M, M < 32 → ∀ s ∈ [2, 3, 4], ((∀ u, u < 5 → M.testBit u = true → 1 ≤ u ∧ u ≤ s) → M ≤ 2 ^ (s + 1) - 2 ∧ M % 2 = 0) := by decide +kernel
theorem cand_mask {xs : List Int} {s n : Nat} (hs : s ∈ [2, 3, 4]) (hok : okAll xs s n) {k : Nat} (hk : k < n) : candN xs s k ≤ 2 ^ (s + 1) - 2 ∧ candN xs s k % 2 = 0 :=
  even_bits _ (candN_lt (by simp at hs; omega) hok hk) s hs (fun _ _ h => candN_test hok hk h)
theorem cand_valid {xs : List Int} {size : Int} (hg : gv xs size = true) : mvd (candL xs size) size = true := by
  obtain ⟨s, rfl, hs, hl⟩ := size_nat hg
  have hok : okAll xs s (s * s) := fun k hk => gv_nth hg (by rw [hl]; exact hk)
  have hL : candL xs s = mapTo (candG xs s) (s * s) := by simp [candL, hg, hl]
  obtain ⟨h2, h4⟩ := gv_size hg
  rw [hL]
  have h1 : inr (s : Int) 2 4 = true := by simp [inr, h2, h4]
  have h3 : (mapTo (candG xs s) (s * s)).all (mkOk (2 ^ ((s : Int).toNat + 1) - 2)) = true := by
    refine allTo_all (n := s * s) (fun j hj => ?_) (mapTo_length _ _)
    rw [mapTo_nth hj]
    obtain ⟨m1, m2⟩ := cand_mask hs hok hj
    have hp : ((2 : Int) ^ (s + 1) - 2) = ((2 ^ (s + 1) - 2 : Nat) : Int) := by
      simp at hs
      rcases hs with rfl | rfl | rfl <;> rfl
    simp only [mkOk, candG, Int.toNat_natCast, Bool.and_eq_true, beq_iff_eq]
    rw [hp, Int.tmod_eq_emod_of_nonneg (Int.natCast_nonneg _)]
    refine ⟨by simp only [inr, decide_eq_true_eq]; omega, by omega⟩
  simp only [mvd, h1, h3, mapTo_length, Bool.true_and, Bool.and_true, beq_iff_eq]
  simp
theorem mvd_b64 {xs : List Int} {size : Int} (h : mvd xs size = true) : B64 xs := b64_of rfl fun k hk => by
  have := (mvd_at h).2.2.2 k hk
  omega
theorem candL_b64 (xs : List Int) (size : Int) : B64 (candL xs size) := by
  cases hg : gv xs size
  · have : candL xs size = [] := by simp [candL, hg]
    rw [this]
    exact fun k => by simp [nth]
  · exact mvd_b64 (cand_valid hg)
theorem back_turn : ∀ s ∈ [2, 3, 4], ∀ k, k < s * s → backIx s (turnIx s k) = k := by decide +kernel
theorem cand_turn {xs : List Int} {size : Int} {n k : Nat} (hg : gv xs size = true) (hl : xs.length = n) (hk : k < n) : nth (candL (turnL xs size) size) k = candG xs size (turnIx size k) := by
  have hgt : gv (turnL xs size) size = true := (turn_all hg hl).valid
  have htl : (turnL xs size).length = n := (turn_all hg hl).len
  obtain ⟨s, rfl, hs, hls⟩ := size_nat hg
  obtain rfl : n = s * s := by omega
  have hL : candL (turnL xs s) s = mapTo (candG (turnL xs s) s) (s * s) := by simp [candL, hgt, htl]
  rw [hL, mapTo_nth hk]
  have hpm := turnL_pm hg hl
  have hat : ∀ i, i < s * s → nth (turnL xs s) i = nth xs (turnIx s i) := fun i hi => by rw [hpm, pm_nth hi]
  have htk := turn_lt s hs k hk
  simp only [candG, candN]
  rw [hat k hk]
  split
  · rfl
  · congr 1
    apply Nat.eq_of_testBit_eq
    intro u
    rw [Bool.eq_iff_iff, candTo_test, candTo_test, Int.toNat_natCast, ok3_adj hs hk, ok3_adj hs htk]
    constructor
    · rintro ⟨h1, h2, h3⟩
      refine ⟨h1, h2, fun i hi ha => ?_⟩
      have hb := turn_back s hs i hi
      have hbk := turn_back s hs (turnIx s k) htk
      have := h3 (backIx s i) hb.1 (by
        have h9 := (turn_adj s hs i hi (turnIx s k) htk ha).2
        rwa [back_turn s hs k hk] at h9)
      rw [hat _ hb.1, hb.2] at this
      exact this
    · rintro ⟨h1, h2, h3⟩
      refine ⟨h1, h2, fun i hi ha => ?_⟩
      rw [hat i hi]
      exact h3 _ (turn_lt s hs i hi) (turn_adj s hs i hi k hk ha).1
end Go.Proofs.YtkeoflnmbcdmfaaDoor
