import Derived.Test.YtlnmioijgclndaaC1S
import Derived.Deep.RegionHeld3
namespace Go.Proofs.Ytlnmioijgclndaa
open Go.ChangeShapes Go.WideShapes Go.ChangeAt Go.RowKit

theorem valueValid_any (v size : Int) (w : World) : Calls Try.prog 51 #[.int .i64 v, .int .i64 size] w fun e w' => e = .returned (.bool (inr v 1 size)) ∧ w = w' := by
  by_cases h1 : 1 ≤ v
  · go_enter Try.func51, Try.ntmps51
    go_wp2
    go_ret
    exact ⟨by simp [inr, h1], rfl⟩
  · go_enter Try.func51, Try.ntmps51
    go_wp2
    go_ret
    exact ⟨by simp [inr]; omega, rfl⟩
def CellFn_swapped (w : World) (p1 p2 p3 : Value) (s : Nat) (g : Nat → Int) : Prop :=
  ∀ (r c : Nat) (W : World), Below w.heap.size w W → r < s → c < s →
    Calls Try.prog 78 #[.int .i64 r, .int .i64 c, p1, p2, p3] W fun e w' => e = .returned (.int .i64 (g (r * s + c))) ∧ Below W.heap.size W w'

theorem implRebuilt_swapped (p1 p2 p3 : Value) (A : Option Addr) (cp n : Nat) (s : Nat) (g : Nat → Int) (w : World) (h2 : 2 ≤ s) (h4 : s ≤ 4) (hn : n = s * s) (hc0 : CellFn_swapped w p1 p2 p3 s g) :
    Calls Try.prog 74 #[.agg #[.slice A n cp, .int .i64 s], .func (.func 78) #[] #[p1, p2, p3]] w (RetSl w (mapTo g n)) := by
  obtain ⟨i0, hi, hz0, hz1, hz2⟩ := info_parts int_info
  have hn16 : n ≤ 16 := by subst hn; exact Nat.le_trans (Nat.mul_le_mul h4 h4) (by omega)
  have Hn := Lib.hid hn; clear hn
  go_enter Try.func74, Try.ntmps74
  go_wp2_with (refine wpList_make_full _ rfl (.tmp 10) (.tmp 10) 23 rfl w.heap.size 3 i0 (.int .i64 0) 1 Try.underlying23 hi hz0 hz1 .i64 .i64 n n n rfl rfl rfl rfl (by rw [hz2]; omega) (by simp only [maxLen]; omega) (by simp) ?_; intro w1 hown hgr; have c1 := box_cell (made_below hgr (Nat.le_refl _)) 1; simp at c1)
  have hb1 : Below w.heap.size w w1 := box_below (made_below hgr (Nat.le_refl _))
  have ho1 := made_part (mapTo g n) hown
  rw [World.size_alloc] at ho1
  clear hown hgr hz0 hz1 hz2 hi
  go_loopw [14] (fun i wr => ∃ r : Nat, r ≤ s ∧ i = .int .i64 r ∧ Ow wr w.heap.size (some ⟨w.heap.size + 1, 0, none⟩) n n (part (mapTo g n) (r * s) n) ∧ Below w.heap.size w wr ∧ wr.cell? ⟨w.heap.size, 1, none⟩ = some (.int .i64 s)) (fun i _ => s - (intOf i).toNat)
  case atStart => exact ⟨0, Nat.zero_le _, rfl, by rw [Nat.zero_mul]; exact ho1, hb1, c1⟩
  case round =>
    obtain ⟨r, hr, rfl, ho, hb, hc⟩ := hrel
    by_cases hlt : r < s
    · go_wp2
      obtain ⟨wo, rfl⟩ : ∃ wo : World, wo = wr := ⟨_, rfl⟩
      go_loopw [19] (fun i wr => ∃ q : Nat, q ≤ s ∧ i = .int .i64 q ∧ Ow wr w.heap.size (some ⟨w.heap.size + 1, 0, none⟩) n n (part (mapTo g n) (r * s + q) n) ∧ Below w.heap.size w wr ∧ wr.cell? ⟨w.heap.size, 1, none⟩ = some (.int .i64 s)) (fun i _ => s - (intOf i).toNat)
      case atStart => exact ⟨0, Nat.zero_le _, rfl, ho, hb, hc⟩
      case round =>
        obtain ⟨q, hq, rfl, hoi, hbi, hci⟩ := hrel
        by_cases hltq : q < s
        · have hixl : r * s + q < n := by rw [Hn.out]; exact ix_lt hlt hltq
          obtain ⟨hold, hfr⟩ := hoi.cell hixl
          have hm0 : (0 : Int) ≤ (r : Int) * s ∧ (r : Int) * s ≤ 16 := small_mul (by omega) (by omega) (by omega) (by omega)
          have hsz : w.heap.size + 1 < wr.drew.heap.size := by
            obtain ⟨g', he, _, hlt'⟩ := hoi.form (by omega)
            cases he
            simpa using hlt'
          have hsz0 : w.heap.size < wr.drew.heap.size := by omega
          have Hst := Lib.hid hoi; clear hoi
          have e1 : IntKind.i64.wrap ((r : Int) * s) = (r : Int) * s := IntWalk.i64_in _ (by omega)
          have e2 : IntKind.i64.wrap ((r : Int) * s + q) = (r : Int) * s + q := IntWalk.i64_in _ (by omega)
          have e3 : ((r : Int) * s + q).toNat = r * s + q := by rw [← Int.natCast_mul, ← Int.natCast_add]; rfl
          have b0 : (0 : Int) ≤ (r : Int) * s + q := by omega
          have b1 : (r : Int) * s + q < n := by rw [← Int.natCast_mul, ← Int.natCast_add]; omega
          have Hc0 := Lib.hid hc0
          clear hc0
          go_wp2_with fail
          go_region_held3 (fun w' => w'.cell? ⟨w.heap.size, 1, none⟩ = some (.int .i64 s))
            (first | go_keep | exact (hb2.cell (p := ⟨w.heap.size, 1, none⟩) hsz0).trans hci)
            ((go_at_call 78; refine (Hc0.out r q _ (by exact below_drew' hbi) hlt hltq).mono ?_; rintro e w2 ⟨rfl, hb2⟩; have hold2 := (hb2.cell (p := ⟨w.heap.size + 1, r * s + q, none⟩) hsz).trans hold; have hfr2 := (hb2.frozen (p := ⟨w.heap.size + 1, r * s + q, none⟩) hsz).trans hfr))
          have hb2' := of_drew_below hb2
          have hO2 := (World.ownsRow.stored (Hst.out.below hb2') (r * s + q) (.int .i64 (g (r * s + q)))).1
          rw [show g (r * s + q) = nth (mapTo g n) (r * s + q) from (mapTo_nth hixl).symm, part_set] at hO2
          have hbn : Below w.heap.size w (w2.setCell ⟨w.heap.size + 1, r * s + q, none⟩ (.int .i64 (nth (mapTo g n) (r * s + q)))) := (step hbi hb2').setCell (by simp) _
          have hcn : (w2.setCell ⟨w.heap.size + 1, r * s + q, none⟩ (.int .i64 (nth (mapTo g n) (r * s + q)))).cell? ⟨w.heap.size, 1, none⟩ = some (.int .i64 s) := by
            rw [World.cell?_setCell_other _ _ _ _ (by simp)]
            exact (hb2'.cell (p := ⟨w.heap.size, 1, none⟩) hsz0).trans hci
          rw [show g (r * s + q) = nth (mapTo g n) (r * s + q) from (mapTo_nth hixl).symm]
          have HO2 := Lib.hid hO2
          clear hold2 hfr2 hold hfr hO2 e1 e2 e3
          go_wp2
          go_roundw
          case rel => exact ⟨q + 1, by omega, by go_num, HO2.out, hbn, hcn⟩
          case measure => simp [intOf]; omega
        · obtain rfl : q = s := by omega
          have e : (r + 1) * q = r * q + q := Nat.succ_mul r q
          rw [← e] at hoi
          go_wp2
          go_roundw
          case rel => exact ⟨r + 1, by omega, by go_num, hoi, hbi, hci⟩
          case measure => simp [intOf]; omega
    · obtain rfl : r = s := by omega
      go_wp2
      go_ret
      rw [← Hn.out, part_all' (mapTo_length _ _)] at ho
      exact retSl_mk ho hb
theorem swap_ix {s r c : Nat} : cellIx s r c = r * s + c := by
  unfold cellIx
  rw [← Int.natCast_mul, ← Int.natCast_add]; rfl
theorem swapped1 (A : Option Addr) (cp n B : Nat) (xs : List Int) (s r c : Nat) (a b : Int) (G1 G2 G3 : Nat) (W : World) (h : Rd W B A n xs) (hB : B ≤ W.heap.size) (h2 : 2 ≤ s) (h4 : s ≤ 4) (hn : Hid ((n : Int) = s * s)) (hr : r < s) (hc : c < s)
    (c0 : W.cell? ⟨G1, 0, none⟩ = some (.slice A n cp)) (c1 : W.cell? ⟨G1, 1, none⟩ = some (.int .i64 s)) (c2 : W.cell? ⟨G2, 0, none⟩ = some (.int .i64 a)) (c3 : W.cell? ⟨G3, 0, none⟩ = some (.int .i64 b)) :
    Calls Try.prog 78 #[.int .i64 r, .int .i64 c, .pointer (some ⟨G1, 0, none⟩), .pointer (some ⟨G2, 0, none⟩), .pointer (some ⟨G3, 0, none⟩)] W fun e w' => e = .returned (.int .i64 (swapG xs a b (r * s + c))) ∧ Below W.heap.size W w' := by
  have l2 := cell_lt c2
  have l3 := cell_lt c3
  simp at l2 l3
  have key : ∀ v : Int, v = nth xs (cellIx s r c) → swapV a b v = swapG xs a b (r * s + c) := fun v hv => by rw [hv, swap_ix]; rfl
  have Key := Lib.hid key; clear key
  obtain ⟨v, hv⟩ : ∃ v : Int, v = nth xs (cellIx s r c) := ⟨_, rfl⟩
  have Hv := Lib.hid hv
  by_cases e1 : v = a
  · have b1 : (nth xs (cellIx s r c) == a) = true := by simp [← hv, e1]
    have hq := Lib.hid (show b = swapV a b v by simp [swapV, e1])
    clear e1 hv
    go_enter Try.func78, Try.ntmps78
    go_wp2_with fail
    refine (implAt _ _ _ _ _ _ _ _ _ h hB (by omega) (by omega) hn (by omega) (by omega) (by omega) (by omega)).mono ?_
    rintro e w1 ⟨rfl, hb1⟩
    have c2' := (hb1.cell (p := ⟨G2, 0, none⟩) l2).trans c2
    have c3' := (hb1.cell (p := ⟨G3, 0, none⟩) l3).trans c3
    go_wp2
    go_ret
    exact ⟨by rw [← Key.out v Hv.out, ← hq.out]; rfl, hb1⟩
  · have b1 : (nth xs (cellIx s r c) == a) = false := by simp [← hv, e1]
    by_cases e2 : v = b
    · have b2 : (nth xs (cellIx s r c) == b) = true := by simp [← hv, e2]
      have hq := Lib.hid (show a = swapV a b v by unfold swapV; rw [if_neg e1, if_pos e2])
      clear e1 e2 hv
      go_enter Try.func78, Try.ntmps78
      go_wp2_with fail
      refine (implAt _ _ _ _ _ _ _ _ _ h hB (by omega) (by omega) hn (by omega) (by omega) (by omega) (by omega)).mono ?_
      rintro e w1 ⟨rfl, hb1⟩
      have c2' := (hb1.cell (p := ⟨G2, 0, none⟩) l2).trans c2
      have c3' := (hb1.cell (p := ⟨G3, 0, none⟩) l3).trans c3
      go_wp2
      go_ret
      exact ⟨by rw [← Key.out v Hv.out, ← hq.out]; rfl, hb1⟩
    · have b2 : (nth xs (cellIx s r c) == b) = false := by simp [← hv, e2]
      have hq := Lib.hid (show nth xs (cellIx s r c) = swapV a b v by rw [← hv]; unfold swapV; rw [if_neg e1, if_neg e2])
      clear e1 e2 hv
      go_enter Try.func78, Try.ntmps78
      go_wp2_with fail
      refine (implAt _ _ _ _ _ _ _ _ _ h hB (by omega) (by omega) hn (by omega) (by omega) (by omega) (by omega)).mono ?_
      rintro e w1 ⟨rfl, hb1⟩
      have c2' := (hb1.cell (p := ⟨G2, 0, none⟩) l2).trans c2
      have c3' := (hb1.cell (p := ⟨G3, 0, none⟩) l3).trans c3
      go_wp2
      go_ret
      exact ⟨by rw [← Key.out v Hv.out, ← hq.out]; rfl, hb1⟩
theorem implSwapped (A : Option Addr) (cp n B : Nat) (xs : List Int) (s : Nat) (a b : Int) (w : World) (h : Rd w B A n xs) (hB : B ≤ w.heap.size) (h2 : 2 ≤ s) (h4 : s ≤ 4) (hn : Hid ((n : Int) = s * s)) :
    Calls Try.prog 52 #[.agg #[.slice A n cp, .int .i64 s], .int .i64 a, .int .i64 b] w (RetSl w (mapTo (swapG xs a b) n)) := by
  have hnn : n = s * s := by have := hn.out; rw [← Int.natCast_mul] at this; omega
  have Hnn := Lib.hid hnn; clear hnn
  obtain ⟨W3, hW3⟩ : ∃ W3, W3 = ((w.alloc (.cells #[.slice A n cp, .int .i64 s] 45)).alloc (.cells #[.int .i64 a] 3)).alloc (.cells #[.int .i64 b] 3) := ⟨_, rfl⟩
  have hb3 : Below w.heap.size w W3 := by
    subst hW3
    exact (((Below.refl _ _).alloc (Nat.le_refl _) _).alloc (by simp) _).alloc (by simp; omega) _
  have hsz : W3.heap.size = w.heap.size + 3 := by subst hW3; simp
  have hcf : CellFn_swapped W3 (.pointer (some ⟨w.heap.size, 0, none⟩)) (.pointer (some ⟨w.heap.size + 1, 0, none⟩)) (.pointer (some ⟨w.heap.size + 2, 0, none⟩)) s (swapG xs a b) := by
    intro r c W hW hr hc
    have k0 := hW.cell (p := ⟨w.heap.size, 0, none⟩) (by simp [hsz])
    have k1 := hW.cell (p := ⟨w.heap.size, 1, none⟩) (by simp [hsz])
    have k2 := hW.cell (p := ⟨w.heap.size + 1, 0, none⟩) (by simp [hsz])
    have k3 := hW.cell (p := ⟨w.heap.size + 2, 0, none⟩) (by simp [hsz])
    have hbb := hb3.trans (hW.mono hb3.size)
    refine swapped1 A cp n B xs s r c a b w.heap.size (w.heap.size + 1) (w.heap.size + 2) W (h.below (hbb.mono hB)) (Nat.le_trans hB hbb.size) h2 h4 hn hr hc ?_ ?_ ?_ ?_
    · rw [k0, hW3]; simp [go_sem]
    · rw [k1, hW3]; simp [go_sem]
    · rw [k2, hW3]; simp [go_sem]
    · rw [k3, hW3]; simp [go_sem]
  have Hsz := Lib.hid hsz; clear hsz
  have HW := Lib.hid hW3; clear hW3
  go_enter Try.func52, Try.ntmps52
  go_wp2_with fail
  rw [← HW.out]
  refine (implRebuilt_swapped _ _ _ A cp n s (swapG xs a b) _ h2 h4 Hnn.out hcf).mono ?_
  rintro e w1 ⟨A1, c1, rfl, ho, hb⟩
  go_wp2
  go_ret
  exact ⟨A1, c1, rfl, ho.mono hb3.size, step hb3 hb⟩
theorem implGridSwap (A : Option Addr) (c n B : Nat) (xs : List Int) (size a b : Int) (w : World) (h : Rd w B A n xs) (hB : B ≤ w.heap.size) (hm : n ≤ 1099511627776) :
    Calls Try.prog 20 #[.slice A n c, .int .i64 size, .int .i64 a, .int .i64 b] w (RetSl w (swapL xs size a b)) := by
  have hlen := Lib.hid h.1
  cases hok : swapOk xs size a b
  · have HL := Lib.hid (show swapL xs size a b = [] by simp [swapL, hok])
    unfold swapOk at hok
    have Hok := Lib.hid hok; clear hok
    cases hg : gv xs size <;> cases ha : inr a 1 size <;> cases hb : inr b 1 size
    any_goals (exfalso; have := Hok.out; simp [hg, ha, hb] at this; done)
    all_goals
      go_enter Try.func20, Try.ntmps20
      go_wp2_with fail
      refine (implValid _ _ _ _ _ _ _ (h.alloc hB _) (by simp; omega) hm).mono ?_
      rintro e w1 ⟨rfl, hb⟩
      go_wp2_with (go_at_call 51; refine (valueValid_any _ _ _).mono ?_; rintro e w' ⟨rfl, rfl⟩)
      go_ret
      rw [HL.out]
      exact ⟨_, _, rfl, Ow.nil_ _ _, box_below hb⟩
  · have HL := Lib.hid (show swapL xs size a b = mapTo (swapG xs a b) n by simp [swapL, hok, hlen.out])
    simp only [swapOk, Bool.and_eq_true] at hok
    obtain ⟨⟨hg, ha⟩, hb⟩ := hok
    obtain ⟨h2, h4⟩ := gv_size hg
    have hn := gv_len hg
    rw [hlen.out] at hn
    have Hn := Lib.hid hn; clear hn
    obtain ⟨s, rfl⟩ := Int.eq_ofNat_of_zero_le (by omega : 0 ≤ size)
    go_enter Try.func20, Try.ntmps20
    go_wp2_with fail
    refine (implValid _ _ _ _ _ _ _ (h.alloc hB _) (by simp; omega) hm).mono ?_
    rintro e w1 ⟨rfl, hb⟩
    have c0 := box_cell hb 0
    have c1 := box_cell hb 1
    simp at c0 c1
    have hbb := box_below hb
    go_wp2_with (first | (go_at_call 51; refine (valueValid_any _ _ _).mono ?_; rintro e w' ⟨rfl, rfl⟩) | (go_at_call 52; refine (implSwapped _ _ _ _ _ _ _ _ _ (h.below (hbb.mono hB)) (Nat.le_trans hB hbb.size) (by omega) (by omega) Hn).mono ?_; rintro e w2 ⟨A1, c1', rfl, ho, hb2⟩))
    go_ret
    rw [HL.out]
    exact ⟨A1, c1', rfl, ho.mono hbb.size, step hbb hb2⟩
end Go.Proofs.Ytlnmioijgclndaa
