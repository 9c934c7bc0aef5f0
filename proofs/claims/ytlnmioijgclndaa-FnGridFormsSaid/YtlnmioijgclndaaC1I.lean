import Derived.Test.YtlnmioijgclndaaC1T
import Derived.Deep.RegionHeld3
namespace Go.Proofs.Ytlnmioijgclndaa
open Go.ChangeShapes Go.WideShapes Go.ChangeAt Go.RowKit

/-- the number of the cell in a row and a column. -/
def cellIx (size row col : Int) : Nat := (row * size + col).toNat
theorem cell_facts {size row col : Int} {n : Nat} (h2 : 2 ≤ size) (h4 : size ≤ 4) (hn : (n : Int) = size * size) (r0 : 0 ≤ row) (r1 : row < size) (c0 : 0 ≤ col) (c1 : col < size) :
    (0 ≤ row * size ∧ row * size ≤ 12) ∧ cellIx size row col < n ∧ ((cellIx size row col : Nat) : Int) = row * size + col := by
  unfold cellIx
  have : size = 2 ∨ size = 3 ∨ size = 4 := by omega
  rcases this with rfl | rfl | rfl <;> omega

theorem implAt (A : Option Addr) (c n B : Nat) (xs : List Int) (size row col : Int) (w : World) (h : Rd w B A n xs) (hB : B ≤ w.heap.size) (h2 : 2 ≤ size) (h4 : size ≤ 4) (hn : Hid ((n : Int) = size * size)) (r0 : 0 ≤ row) (r1 : row < size) (c0 : 0 ≤ col) (c1 : col < size) :
    Calls Try.prog 76 #[.agg #[.slice A n c, .int .i64 size], .int .i64 row, .int .i64 col] w fun e w' => e = .returned (.int .i64 (nth xs (cellIx size row col))) ∧ Below w.heap.size w w' := by
  obtain ⟨⟨hm0, hm1⟩, hix, hixe⟩ := cell_facts h2 h4 hn.out r0 r1 c0 c1
  obtain ⟨b, off, rfl, hb, hck⟩ := h.at_ hix
  have hbw : b < w.heap.size := by omega
  have b1 : row * size + col < (n : Int) := by rw [← hixe]; omega
  have hw : wrap64 (row * size) = row * size := IntWalk.wrap64_in _ ⟨by omega, by omega⟩
  have e8 : (row * size + col).toNat = cellIx size row col := rfl
  clear hixe
  go_enter Try.func76, Try.ntmps76
  go_wp2
  go_ret
  exact ⟨rfl, (Below.refl _ _).alloc (Nat.le_refl _) _⟩
theorem ix_lt {r q s : Nat} (hr : r < s) (hq : q < s) : r * s + q < s * s := by
  have : (r + 1) * s ≤ s * s := Nat.mul_le_mul_right s hr
  rw [Nat.succ_mul] at this
  omega
theorem of_drew_below {w w2 : World} (h : Below w.drew.heap.size w.drew w2) : Below w.heap.size w w2 := ⟨h.os, h.tape, h.output, h.size, h.block⟩
theorem below_drew' {B : Nat} {a w : World} (h : Below B a w) : Below B a w.drew := h.drew
def CellFn_turned (w : World) (p : Value) (s : Nat) (g : Nat → Int) : Prop :=
  ∀ (r c : Nat) (W : World), Below w.heap.size w W → r < s → c < s →
    Calls Try.prog 75 #[.int .i64 r, .int .i64 c, p] W fun e w' => e = .returned (.int .i64 (g (r * s + c))) ∧ Below W.heap.size W w'

theorem implRebuilt_turned (p : Value) (A : Option Addr) (cp n : Nat) (s : Nat) (g : Nat → Int) (w : World) (h2 : 2 ≤ s) (h4 : s ≤ 4) (hn : n = s * s) (hc0 : CellFn_turned w p s g) :
    Calls Try.prog 74 #[.agg #[.slice A n cp, .int .i64 s], .func (.func 75) #[] #[p]] w (RetSl w (mapTo g n)) := by
  obtain ⟨i0, hi, hz0, hz1, hz2⟩ := info_parts int_info
  have hn16 : n ≤ 16 := by subst hn; exact Nat.le_trans (Nat.mul_le_mul h4 h4) (by omega)
  have Hn := Lib.hid hn; clear hn
  go_enter Try.func74, Try.ntmps74
  go_wp2_with (refine wpList_make_full _ rfl (.tmp 10) (.tmp 10) 23 rfl w.heap.size 3 i0 (.int .i64 0) 1 Try.underlying23 hi hz0 hz1 .i64 .i64 n n n rfl rfl rfl rfl (by rw [hz2]; omega) (by simp only [maxLen]; omega) (by simp) ?_; intro w1 hown hgr; have c1 := box_cell (made_below hgr (Nat.le_refl _)) 1; simp at c1)
  have hb1 : Below w.heap.size w w1 := box_below (made_below hgr (Nat.le_refl _))
  have ho1 := made_part (mapTo g n) hown
  rw [World.size_alloc] at ho1
  clear hown hgr hz0 hz1 hz2 hi
  go_loopw [14] (fun i wr => ∃ r : Nat, r ≤ s ∧ i = .int .i64 r ∧ Ow wr w.heap.size (some ⟨w.heap.size + 1, 0, none⟩) n n (part (mapTo g n) (r * s) n) ∧ Below w.heap.size w wr ∧ wr.cell? ⟨w.heap.size, 1, none⟩ = some (.int .i64 s)) (fun i _ => s - (intOf i).toNat)
  case atStart => exact ⟨0, Nat.zero_le _, rfl, by rw [Nat.zero_mul]; exact ho1, hb1, c1⟩
  case round =>
    obtain ⟨r, hr, rfl, ho, hb, hc⟩ := hrel
    by_cases hlt : r < s
    · go_wp2
      obtain ⟨wo, rfl⟩ : ∃ wo : World, wo = wr := ⟨_, rfl⟩
      go_loopw [19] (fun i wr => ∃ q : Nat, q ≤ s ∧ i = .int .i64 q ∧ Ow wr w.heap.size (some ⟨w.heap.size + 1, 0, none⟩) n n (part (mapTo g n) (r * s + q) n) ∧ Below w.heap.size w wr ∧ wr.cell? ⟨w.heap.size, 1, none⟩ = some (.int .i64 s)) (fun i _ => s - (intOf i).toNat)
      case atStart => exact ⟨0, Nat.zero_le _, rfl, ho, hb, hc⟩
      case round =>
        obtain ⟨q, hq, rfl, hoi, hbi, hci⟩ := hrel
        by_cases hltq : q < s
        · have hixl : r * s + q < n := by rw [Hn.out]; exact ix_lt hlt hltq
          obtain ⟨hold, hfr⟩ := hoi.cell hixl
          have hm0 : (0 : Int) ≤ (r : Int) * s ∧ (r : Int) * s ≤ 16 := small_mul (by omega) (by omega) (by omega) (by omega)
          have hsz : w.heap.size + 1 < wr.drew.heap.size := by
            obtain ⟨g', he, _, hlt'⟩ := hoi.form (by omega)
            cases he
            simpa using hlt'
          have hsz0 : w.heap.size < wr.drew.heap.size := by omega
          have Hst := Lib.hid hoi; clear hoi
          have e1 : IntKind.i64.wrap ((r : Int) * s) = (r : Int) * s := IntWalk.i64_in _ (by omega)
          have e2 : IntKind.i64.wrap ((r : Int) * s + q) = (r : Int) * s + q := IntWalk.i64_in _ (by omega)
          have e3 : ((r : Int) * s + q).toNat = r * s + q := by rw [← Int.natCast_mul, ← Int.natCast_add]; rfl
          have b0 : (0 : Int) ≤ (r : Int) * s + q := by omega
          have b1 : (r : Int) * s + q < n := by rw [← Int.natCast_mul, ← Int.natCast_add]; omega
          have Hc0 := Lib.hid hc0
          clear hc0
          go_wp2_with fail
          go_region_held3 (fun w' => w'.cell? ⟨w.heap.size, 1, none⟩ = some (.int .i64 s))
            (first | go_keep | exact (hb2.cell (p := ⟨w.heap.size, 1, none⟩) hsz0).trans hci)
            ((go_at_call 75; refine (Hc0.out r q _ (by exact below_drew' hbi) hlt hltq).mono ?_; rintro e w2 ⟨rfl, hb2⟩; have hold2 := (hb2.cell (p := ⟨w.heap.size + 1, r * s + q, none⟩) hsz).trans hold; have hfr2 := (hb2.frozen (p := ⟨w.heap.size + 1, r * s + q, none⟩) hsz).trans hfr))
          have hb2' := of_drew_below hb2
          have hO2 := (World.ownsRow.stored (Hst.out.below hb2') (r * s + q) (.int .i64 (g (r * s + q)))).1
          rw [show g (r * s + q) = nth (mapTo g n) (r * s + q) from (mapTo_nth hixl).symm, part_set] at hO2
          have hbn : Below w.heap.size w (w2.setCell ⟨w.heap.size + 1, r * s + q, none⟩ (.int .i64 (nth (mapTo g n) (r * s + q)))) := (step hbi hb2').setCell (by simp) _
          have hcn : (w2.setCell ⟨w.heap.size + 1, r * s + q, none⟩ (.int .i64 (nth (mapTo g n) (r * s + q)))).cell? ⟨w.heap.size, 1, none⟩ = some (.int .i64 s) := by
            rw [World.cell?_setCell_other _ _ _ _ (by simp)]
            exact (hb2'.cell (p := ⟨w.heap.size, 1, none⟩) hsz0).trans hci
          rw [show g (r * s + q) = nth (mapTo g n) (r * s + q) from (mapTo_nth hixl).symm]
          have HO2 := Lib.hid hO2
          clear hold2 hfr2 hold hfr hO2 e1 e2 e3
          go_wp2
          go_roundw
          case rel => exact ⟨q + 1, by omega, by go_num, HO2.out, hbn, hcn⟩
          case measure => simp [intOf]; omega
        · obtain rfl : q = s := by omega
          have e : (r + 1) * q = r * q + q := Nat.succ_mul r q
          rw [← e] at hoi
          go_wp2
          go_roundw
          case rel => exact ⟨r + 1, by omega, by go_num, hoi, hbi, hci⟩
          case measure => simp [intOf]; omega
    · obtain rfl : r = s := by omega
      go_wp2
      go_ret
      rw [← Hn.out, part_all' (mapTo_length _ _)] at ho
      exact retSl_mk ho hb
theorem divmod_ix {s r c : Nat} (h2 : 2 ≤ s) (h4 : s ≤ 4) (hr : r < s) (hc : c < s) : ((r * s + c : Nat) : Int) / (s : Int) = r ∧ ((r * s + c : Nat) : Int) % (s : Int) = c := by
  have : s = 2 ∨ s = 3 ∨ s = 4 := by omega
  rcases this with rfl | rfl | rfl <;> omega
theorem turn_ix {s r c : Nat} (h2 : 2 ≤ s) (h4 : s ≤ 4) (hr : r < s) (hc : c < s) : cellIx s ((s : Int) - 1 - c) r = turnIx s (r * s + c) := by
  obtain ⟨hd, hm⟩ := divmod_ix h2 h4 hr hc
  unfold cellIx turnIx
  rw [hd, hm]
theorem turned1 (A : Option Addr) (cp n B : Nat) (xs : List Int) (s r c : Nat) (G : Nat) (W : World) (h : Rd W B A n xs) (hB : B ≤ W.heap.size) (h2 : 2 ≤ s) (h4 : s ≤ 4) (hn : Hid ((n : Int) = s * s)) (hr : r < s) (hc : c < s)
    (c0 : W.cell? ⟨G, 0, none⟩ = some (.slice A n cp)) (c1 : W.cell? ⟨G, 1, none⟩ = some (.int .i64 s)) :
    Calls Try.prog 75 #[.int .i64 r, .int .i64 c, .pointer (some ⟨G, 0, none⟩)] W fun e w' => e = .returned (.int .i64 (turnG xs s (r * s + c))) ∧ Below W.heap.size W w' := by
  have hix := Lib.hid (turn_ix h2 h4 hr hc)
  go_enter Try.func75, Try.ntmps75
  go_wp2_with fail
  refine (implAt _ _ _ _ _ _ _ _ _ h hB (by omega) (by omega) hn (by omega) (by omega) (by omega) (by omega)).mono ?_
  rintro e w1 ⟨rfl, hb1⟩
  go_wp2
  go_ret
  exact ⟨by rw [turnG, ← hix.out]; rfl, hb1⟩
theorem implTurned (A : Option Addr) (cp n B : Nat) (xs : List Int) (s : Nat) (w : World) (h : Rd w B A n xs) (hB : B ≤ w.heap.size) (h2 : 2 ≤ s) (h4 : s ≤ 4) (hn : Hid ((n : Int) = s * s)) :
    Calls Try.prog 49 #[.agg #[.slice A n cp, .int .i64 s]] w (RetSl w (mapTo (turnG xs s) n)) := by
  have hnn : n = s * s := by have := hn.out; rw [← Int.natCast_mul] at this; omega
  have Hnn := Lib.hid hnn; clear hnn
  have hcf : CellFn_turned (w.alloc (.cells #[.slice A n cp, .int .i64 s] 45)) (.pointer (some ⟨w.heap.size, 0, none⟩)) s (turnG xs s) := by
    intro r c W hW hr hc
    have k0 := box_cell hW 0
    have k1 := box_cell hW 1
    simp at k0 k1
    have hbb := box_below hW
    exact turned1 A cp n B xs s r c w.heap.size W (h.below (hbb.mono hB)) (Nat.le_trans hB hbb.size) h2 h4 hn hr hc k0 k1
  go_enter Try.func49, Try.ntmps49
  go_wp2_with fail
  refine (implRebuilt_turned _ A cp n s (turnG xs s) _ h2 h4 Hnn.out hcf).mono ?_
  rintro e w1 ⟨A1, c1, rfl, ho, hb⟩
  go_wp2
  go_ret
  exact ⟨A1, c1, rfl, ho.mono (by simp), box_below hb⟩
theorem implGridTurn (A : Option Addr) (c n B : Nat) (xs : List Int) (size : Int) (w : World) (h : Rd w B A n xs) (hB : B ≤ w.heap.size) (hm : n ≤ 1099511627776) :
    Calls Try.prog 18 #[.slice A n c, .int .i64 size] w (RetSl w (turnL xs size)) := by
  have hlen := Lib.hid h.1
  cases hg : gv xs size
  · have HL := Lib.hid (show turnL xs size = [] by simp [turnL, hg])
    go_enter Try.func18, Try.ntmps18
    go_wp2_with fail
    refine (implValid _ _ _ _ _ _ _ (h.alloc hB _) (by simp; omega) hm).mono ?_
    rintro e w1 ⟨rfl, hb⟩
    go_wp2
    go_ret
    rw [HL.out]
    exact ⟨_, _, rfl, Ow.nil_ _ _, box_below hb⟩
  · obtain ⟨h2, h4⟩ := gv_size hg
    have HL := Lib.hid (show turnL xs size = mapTo (turnG xs size) n by simp [turnL, hg, hlen.out])
    have hn := gv_len hg
    rw [hlen.out] at hn
    have Hn := Lib.hid hn; clear hn
    obtain ⟨s, rfl⟩ := Int.eq_ofNat_of_zero_le (by omega : 0 ≤ size)
    go_enter Try.func18, Try.ntmps18
    go_wp2_with fail
    refine (implValid _ _ _ _ _ _ _ (h.alloc hB _) (by simp; omega) hm).mono ?_
    rintro e w1 ⟨rfl, hb⟩
    have c0 := box_cell hb 0
    have c1 := box_cell hb 1
    simp at c0 c1
    have hbb := box_below hb
    go_wp2_with fail
    refine (implTurned _ _ _ _ _ _ _ (h.below (hbb.mono hB)) (Nat.le_trans hB hbb.size) (by omega) (by omega) Hn).mono ?_
    rintro e w2 ⟨A1, c1', rfl, ho, hb2⟩
    go_wp2
    go_ret
    rw [HL.out]
    exact ⟨A1, c1', rfl, ho.mono hbb.size, step hbb hb2⟩
end Go.Proofs.Ytlnmioijgclndaa
