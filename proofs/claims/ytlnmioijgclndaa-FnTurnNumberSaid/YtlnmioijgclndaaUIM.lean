import Derived.Test.YtlnmioijgclndaaLn
import Derived.Test.YtlnmioijgclndaaW2E
import Derived.Test.YtlnmioijgclndaaClash
import Derived.Deep.QuietTactic
import Derived.BigQuiet
import Derived.Test.YtlnmioijgclndaaMk
import Derived.Test.YtlnmioijgclndaaC2
namespace Go.Proofs.Ytlnmioijgclndaa
open Go.ChangeShapes Go.WideShapes Go.ChangeAt Go.RowKit

theorem implSquareFits : ISquareFits := by
  intro A c n B xs size w h hB hm
  have hlen := Lib.hid h.1
  cases hg : gv xs size
  · have HL := Lib.hid (show sqFits xs size = false by simp [sqFits, hg])
    have h1 := h.alloc hB (.cells #[.slice A n c, .int .i64 size] 45)
    have hB1 : B ≤ (w.alloc (.cells #[.slice A n c, .int .i64 size] 45)).heap.size := by simp; omega
    have hB0 : Below w.heap.size w (w.alloc (.cells #[.slice A n c, .int .i64 size] 45)) := (Below.refl _ _).alloc (Nat.le_refl _) _
    go_enter Try.func24, Try.ntmps24
    go_wp2_with (go_at_call 44; refine (implValid _ _ _ _ _ _ _ h1 hB1 hm).mono ?_; rintro e w1 ⟨rfl, hb1⟩; rw [hg])
    go_ret
    exact ⟨by rw [HL.out]; rfl, step hB0 hb1⟩
  · obtain ⟨s, rfl, hs, hls⟩ := size_nat hg
    have hn : n = s * s := by have := hlen.out; omega
    have hok := Lib.hid (gv_okAll hg hlen.out)
    have HL := Lib.hid (show sqFits xs s = !(twice xs s n) by rw [twice_clash hs hn hok.out, sqFits, hg]; rfl)
    have Hn := Lib.hid hn; clear hn hls
    have h1 := h.alloc hB (.cells #[.slice A n c, .int .i64 s] 45)
    have hB1 : B ≤ (w.alloc (.cells #[.slice A n c, .int .i64 s] 45)).heap.size := by simp; omega
    have hB0 : Below w.heap.size w (w.alloc (.cells #[.slice A n c, .int .i64 s] 45)) := (Below.refl _ _).alloc (Nat.le_refl _) _
    have hz0 : ∀ u : World, MBox (u.alloc (.cells #[.int .i64 0, .int .i64 0, .int .i64 0, .int .i64 0, .int .i64 0, .int .i64 0, .int .i64 0, .int .i64 0, .int .i64 0] 51)) u.heap.size (fun _ => 0) 0 := fun u => heap_alloc_new u _
    have Hz0 := Lib.hid hz0; clear hz0
    have Hi9 := Lib.hid (show (Try.prog.info? 51).map (·.size) = some (mcells (lmask xs s n) s).size by rw [mcells_size]; kernel_rfl)
    have Hone := Lib.hid (mone (lmask xs s n) s)
    go_enter Try.func24, Try.ntmps24
    go_wp2_with (go_at_call 44; refine (implValid _ _ _ _ _ _ _ h1 hB1 hm).mono ?_; rintro e w1 ⟨rfl, hb1⟩; rw [hg]; have hr1 := (h1.below (hb1.mono (Nat.le_trans hB1 (Nat.le_refl _)))); have hbox := box_cell hb1; have hB2 := step hB0 hb1)
    have c0 := hbox 0
    have c1 := hbox 1
    simp at c0 c1
    clear hbox
    have hBw : B ≤ w1.heap.size := Nat.le_trans hB hB2.size
    go_wp2_with (first | (go_at_call 57; refine (lines_any _ _ _ _ _ _ _ hr1 hBw hs Hn.out hok).mono ?_; rintro e w2 ⟨rfl, hb2⟩; have hB3 := step hB2 hb2) | (refine wpList_store_row rfl 51 _ _ rfl w2.heap.size (mcells (lmask xs s n) s) rfl rfl 51 (mcells (fun _ => 0) 0) (Hz0.out w2) Hi9.out rfl Hone.out ?_))
    go_ret
    exact ⟨by rw [HL.out]; rfl, setRow_below (hB3.alloc hB3.size _) hB3.size⟩
end Go.Proofs.Ytlnmioijgclndaa
namespace Go.Proofs.Ytlnmioijgclndaa
open Go.ChangeShapes Go.WideShapes Go.ChangeAt Go.RowKit

/-- the values 1..v whose powers are in a mask. -/
def bitsTo (M : Nat) : Nat → List Int
  | 0 => []
  | v + 1 => bitsTo M v ++ (if M.testBit (v + 1) = true then [(v : Int) + 1] else [])
def mvOk (m : Int) : Bool := inr m 0 30 && (m.tmod 2 == 0)
def maskVals (m : Int) : List Int := if mvOk m = true then bitsTo m.toNat 4 else []
theorem bitsTo_length (M v : Nat) : (bitsTo M v).length ≤ v := by
  induction v with
  | zero => simp [bitsTo]
  | succ v ih => simp only [bitsTo, List.length_append]; split <;> simp <;> omega
theorem maskVals_length (m : Int) : (maskVals m).length ≤ 4 := by
  unfold maskVals
  split
  · exact bitsTo_length _ 4
  · simp
theorem shr_bit (M v : Nat) : ((((M : Nat) : Int) / 2 ^ v).tmod 2 == 1) = M.testBit v := by
  rw [Nat.testBit_eq_decide_div_mod_eq]
  have e : (((M : Nat) : Int) / 2 ^ v) = ((M / 2 ^ v : Nat) : Int) := by simp
  rw [e, Int.tmod_eq_emod_of_nonneg (Int.natCast_nonneg _)]
  rw [Bool.eq_iff_iff]
  simp
  omega


theorem and7 (a : Int) (ha : -9223372036854775808 ≤ a ∧ a ≤ 9223372036854775807) : ∃ n : Nat, bits .and .i64 a 7 = (n : Int) ∧ n ≤ 7 ∧ (0 ≤ a → a ≤ 7 → (n : Int) = a) := by
  have h7 : (BitVec.ofInt 64 7).toNat = 7 := by decide
  have hx : ((BitVec.ofInt 64 a).toNat &&& 7) ≤ 7 := Nat.and_le_right
  have e : bits .and .i64 a 7 = (((BitVec.ofInt 64 a).toNat &&& 7 : Nat) : Int) := by
    show IntKind.i64.wrap ((BitVec.ofInt 64 a &&& BitVec.ofInt 64 7).toNat : Int) = _
    rw [BitVec.toNat_and, h7, IntKind.wrap_i64]
    omega
  refine ⟨_, e, hx, fun h0 h1 => ?_⟩
  obtain ⟨k, rfl⟩ := Int.eq_ofNat_of_zero_le h0
  rw [ofInt_i64 k (by omega)]
  have key : ∀ k, k < 8 → k &&& 7 = k := by decide
  rw [key k (by omega)]

/-- masks of a size. -/
def mkOk (T : Int) (x : Int) : Bool := inr x 0 T && (x.tmod 2 == 0)
def mvd (xs : List Int) (size : Int) : Bool := inr size 2 4 && ((xs.length : Int) == size * size) && xs.all (mkOk (2 ^ (size.toNat + 1) - 2))
def allTo (p : Int → Bool) (xs : List Int) (k : Nat) : Prop := ∀ j, j < k → p (nth xs j) = true
theorem allTo_succ {p : Int → Bool} {xs : List Int} {k : Nat} (h : allTo p xs k) (hv : p (nth xs k) = true) : allTo p xs (k + 1) := fun j hj => by
  by_cases e : j = k
  · subst e; exact hv
  · exact h j (by omega)
theorem allTo_all {p : Int → Bool} {xs : List Int} {n : Nat} (h : allTo p xs n) (hn : xs.length = n) : xs.all p = true := by
  subst hn
  rw [List.all_eq_true]
  intro x hx
  obtain ⟨j, hj, rfl⟩ := List.getElem_of_mem hx
  have := h j hj
  simpa [nth, List.getD_eq_getElem?_getD, hj] using this
theorem all_not {p : Int → Bool} {xs : List Int} {n k : Nat} (hn : xs.length = n) (hk : k < n) (h : p (nth xs k) = false) : xs.all p = false := by
  subst hn
  rw [List.all_eq_false]
  exact ⟨xs[k], List.getElem_mem hk, by simpa [nth, List.getD_eq_getElem?_getD, hk] using h⟩
theorem two_pow_int (a : Nat) (h : a ≤ 7) : wrap64 (wrap64 (2 ^ (a + 1)) - 2) = (2 : Int) ^ (a + 1) - 2 ∧ 0 ≤ (2 : Int) ^ (a + 1) - 2 ∧ (2 : Int) ^ (a + 1) - 2 ≤ 254 := by
  have : a = 0 ∨ a = 1 ∨ a = 2 ∨ a = 3 ∨ a = 4 ∨ a = 5 ∨ a = 6 ∨ a = 7 := by omega
  have hb : 0 ≤ (2 : Int) ^ (a + 1) - 2 ∧ (2 : Int) ^ (a + 1) - 2 ≤ 254 := by
    rcases this with rfl | rfl | rfl | rfl | rfl | rfl | rfl | rfl <;> decide
  refine ⟨?_, hb⟩
  rw [IntWalk.wrap64_in (2 ^ (a + 1)) ⟨by omega, by omega⟩]
  exact IntWalk.wrap64_in _ ⟨by omega, by omega⟩

end Go.Proofs.Ytlnmioijgclndaa
namespace Go.Proofs.Ytlnmioijgclndaa
open Go.ChangeShapes Go.WideShapes Go.ChangeAt Go.RowKit

theorem subset_and (a m : Nat) (ha : a < 2 ^ 64) (hm : m < 2 ^ 64) (h : a &&& (2 ^ 64 - (m + 1)) = 0) : a = a &&& m := by
  apply Nat.eq_of_testBit_eq
  intro i
  rw [Nat.testBit_and]
  cases hai : a.testBit i
  · rfl
  · have hi : i < 64 := by
      rcases Nat.lt_or_ge i 64 with h | h
      · exact h
      · have := Nat.testBit_lt_two_pow (Nat.lt_of_lt_of_le ha (Nat.pow_le_pow_right (by decide) h))
        rw [hai] at this; cases this
    have h2 := congrArg (fun z => z.testBit i) h
    simp only [Nat.testBit_and, hai, Nat.testBit_two_pow_sub_succ hm, hi, Nat.zero_testBit, decide_true, Bool.true_and, Bool.not_eq_false'] at h2
    rw [h2]; rfl
theorem small_and : ∀ s, s < 5 → ∀ a, a < 32 → a ≤ 2 ^ (s + 1) - 2 → a % 2 = 0 → a &&& (18446744073709551616 - (2 ^ (s + 1) - 2 + 1)) = 0 := by decide +kernel
theorem even_and : ∀ s, s < 5 → ∀ a, a % 2 = 1 → a &&& (2 ^ (s + 1) - 2) ≠ a := by
  intro s hs a ha h
  have h0 := congrArg (fun z => z.testBit 0) h
  have e : (2 ^ (s + 1) - 2).testBit 0 = false := by
    have : s = 0 ∨ s = 1 ∨ s = 2 ∨ s = 3 ∨ s = 4 := by omega
    rcases this with rfl | rfl | rfl | rfl | rfl <;> rfl
  simp only [Nat.testBit_and, e, Bool.and_false] at h0
  rw [Nat.testBit_zero] at h0
  simp [ha] at h0
theorem andNot_ok (x : Int) (s : Nat) (hs : s ≤ 4) (hx : -9223372036854775808 ≤ x ∧ x ≤ 9223372036854775807) :
    (bits .andNot .i64 x ((2 ^ (s + 1) - 2 : Nat) : Int) == 0) = mkOk ((2 : Int) ^ (s + 1) - 2) x := by
  have hp : (2 : Int) ^ (s + 1) - 2 = ((2 ^ (s + 1) - 2 : Nat) : Int) := by
    have : s = 0 ∨ s = 1 ∨ s = 2 ∨ s = 3 ∨ s = 4 := by omega
    rcases this with rfl | rfl | rfl | rfl | rfl <;> rfl
  have hm30 : 2 ^ (s + 1) - 2 ≤ 30 := by
    have : s = 0 ∨ s = 1 ∨ s = 2 ∨ s = 3 ∨ s = 4 := by omega
    rcases this with rfl | rfl | rfl | rfl | rfl <;> decide
  rw [hp]
  have hsa := small_and s (by omega)
  have hev := even_and s (by omega)
  generalize 2 ^ (s + 1) - 2 = m at *
  have hmm : (BitVec.ofInt 64 (m : Int)).toNat = m := ofInt_i64 m (by omega)
  have hb : bits .andNot .i64 x (m : Int) = IntKind.i64.wrap (((BitVec.ofInt 64 x).toNat &&& (2 ^ 64 - (m + 1)) : Nat) : Int) := by
    show IntKind.i64.wrap ((BitVec.ofInt 64 x &&& ~~~BitVec.ofInt 64 (m : Int)).toNat : Int) = _
    rw [BitVec.toNat_and, BitVec.toNat_not, hmm]
    congr 3
    omega
  have hA : (BitVec.ofInt 64 x).toNat < 2 ^ 64 := (BitVec.ofInt 64 x).isLt
  have hAx : ((BitVec.ofInt 64 x).toNat : Int) = x % 2 ^ 64 := by
    rw [BitVec.toNat_ofInt]; exact Int.toNat_of_nonneg (Int.emod_nonneg _ (by decide))
  rw [hb]
  generalize (BitVec.ofInt 64 x).toNat = a at *
  have hlt : a &&& (2 ^ 64 - (m + 1)) < 2 ^ 64 := Nat.and_lt_two_pow _ (by omega)
  have hw : (IntKind.i64.wrap ((a &&& (2 ^ 64 - (m + 1)) : Nat) : Int) == 0) = (a &&& (2 ^ 64 - (m + 1)) == 0) := by
    rw [IntKind.wrap_i64]
    rw [Bool.eq_iff_iff, beq_iff_eq, beq_iff_eq]
    generalize a &&& (2 ^ 64 - (m + 1)) = y at *
    omega
  rw [hw, Bool.eq_iff_iff, beq_iff_eq]
  simp only [mkOk, inr, Bool.and_eq_true, decide_eq_true_eq, beq_iff_eq]
  constructor
  · intro h
    have e := subset_and a m hA (by omega) h
    have hle : a ≤ m := by rw [e]; exact Nat.and_le_right
    have h2 : a % 2 = 0 := by
      rcases Nat.mod_two_eq_zero_or_one a with h' | h'
      · exact h'
      · exact absurd e.symm (hev a h')
    have hxa : x = a := by omega
    refine ⟨⟨by omega, by omega⟩, ?_⟩
    rw [Int.tmod_eq_emod_of_nonneg (by omega)]; omega
  · rintro ⟨⟨h1, h2⟩, h3⟩
    rw [Int.tmod_eq_emod_of_nonneg h1] at h3
    exact hsa a (by omega) (by omega) (by omega)
theorem allValues_any (s : Nat) (hs : s ∈ [2, 3, 4]) (w : World) :
    Calls Try.prog 84 #[.int .i64 s] w fun e w' => e = .returned (.int .i64 ((2 ^ (s + 1) - 2 : Nat) : Int)) ∧ w = w' := by
  simp only [List.mem_cons, List.not_mem_nil, or_false] at hs
  rcases hs with rfl | rfl | rfl
  all_goals
    go_enter Try.func84, Try.ntmps84
    go_wp2
    go_ret
    exact ⟨rfl, rfl⟩
end Go.Proofs.Ytlnmioijgclndaa
namespace Go.Proofs.Ytlnmioijgclndaa
open Go.ChangeShapes Go.WideShapes Go.ChangeAt Go.RowKit

theorem andNot_small : ∀ a : Nat, a < 32 → ∀ b : Nat, b < 32 → bits .andNot .i64 (a : Int) (b : Int) = ((a &&& (31 - b) : Nat) : Int) := by decide +kernel
theorem andNot_test : ∀ a : Nat, a < 32 → ∀ b : Nat, b < 32 → ∀ v : Nat, v < 5 → (a &&& (31 - b)).testBit v = (a.testBit v && !b.testBit v) := by decide +kernel
theorem all_test : ∀ s ∈ [2, 3, 4], ∀ v : Nat, v < 5 → (2 ^ (s + 1) - 2).testBit v = (Nat.blt 0 v && Nat.ble v s) := by decide +kernel

theorem bitsTo_miss {K s : Nat} {has : Int → Bool} (hs : s ≤ 4) (h : ∀ v, v < 4 → K.testBit (v + 1) = (decide (v < s) && !has ((v : Int) + 1))) : bitsTo K 4 = missTo has s := by
  have h1 : ∀ m, m ≤ s → bitsTo K m = missTo has m := by
    intro m
    induction m with
    | zero => intro _; rfl
    | succ m ih =>
      intro hm
      simp only [bitsTo, missTo]
      rw [ih (by omega), h m (by omega)]
      have : decide (m < s) = true := by simp; omega
      rw [this]
      cases has ((m : Int) + 1) <;> simp
  have h2 : ∀ d, s + d ≤ 4 → bitsTo K (s + d) = missTo has s := by
    intro d
    induction d with
    | zero => intro _; exact h1 s (Nat.le_refl _)
    | succ d ih =>
      intro hd
      show bitsTo K (s + d + 1) = _
      simp only [bitsTo]
      rw [ih (by omega), h (s + d) (by omega)]
      have : decide (s + d < s) = false := by simp
      rw [this]; simp
  have := h2 (4 - s) (by omega)
  rwa [show s + (4 - s) = 4 by omega] at this
end Go.Proofs.Ytlnmioijgclndaa
set_option maxRecDepth 8000
namespace Go.Proofs.Ytlnmioijgclndaa
open Go.ChangeShapes Go.WideShapes Go.ChangeAt Go.RowKit

theorem implSolved (A : Option Addr) (c n B s : Nat) (xs : List Int) (w : World) (h : Rd w B A n xs) (hB : B ≤ w.heap.size) (hs : s ∈ [2, 3, 4]) (hn : n = s * s) (hg : gv xs s = true) :
    Calls Try.prog 68 #[.agg #[.slice A n c, .int .i64 s]] w fun e w' => e = .returned (.bool (sqSolved xs s)) ∧ Below w.heap.size w w' := by
  have hlen := Lib.hid h.1
  have hok := Lib.hid (gv_okAll hg hlen.out)
  have hs2 : 2 ≤ s := by simp at hs; omega
  have hs4 : s ≤ 4 := by simp at hs; omega
  have hS := solved_masks hs hn hlen.out hg hok.out
  have Hm := Lib.hid (lmask_lt (xs := xs) (by omega : (s : Int) ≤ 4) hok.out n (Nat.le_refl _))
  have Hn := Lib.hid hn; clear hn
  have h1 := h.alloc hB (.cells #[.slice A n c, .int .i64 s] 45)
  have hB1 : B ≤ (w.alloc (.cells #[.slice A n c, .int .i64 s] 45)).heap.size := by simp; omega
  have hB0 : Below w.heap.size w (w.alloc (.cells #[.slice A n c, .int .i64 s] 45)) := (Below.refl _ _).alloc (Nat.le_refl _) _
  have hz0 : ∀ u : World, MBox (u.alloc (.cells #[.int .i64 0, .int .i64 0, .int .i64 0, .int .i64 0, .int .i64 0, .int .i64 0, .int .i64 0, .int .i64 0, .int .i64 0] 51)) u.heap.size (fun _ => 0) 0 := fun u => heap_alloc_new u _
  have Hz0 := Lib.hid hz0; clear hz0
  have Hi9 := Lib.hid (show (Try.prog.info? 51).map (·.size) = some (mcells (lmask xs s n) s).size by rw [mcells_size]; kernel_rfl)
  have Hone := Lib.hid (mone (lmask xs s n) s)
  have key : ∀ w2 : World, Below (w.alloc (.cells #[.slice A n c, .int .i64 s] 45)).heap.size (w.alloc (.cells #[.slice A n c, .int .i64 s] 45)) w2 →
      ((w2.alloc (.cells #[.int .i64 0, .int .i64 0, .int .i64 0, .int .i64 0, .int .i64 0, .int .i64 0, .int .i64 0, .int .i64 0, .int .i64 0] 51)).setRow w2.heap.size (mcells (lmask xs s n) s)).cell? ⟨w.heap.size, 1, none⟩ = some (.int .i64 s) ∧ Hid (MBox ((w2.alloc (.cells #[.int .i64 0, .int .i64 0, .int .i64 0, .int .i64 0, .int .i64 0, .int .i64 0, .int .i64 0, .int .i64 0, .int .i64 0] 51)).setRow w2.heap.size (mcells (lmask xs s n) s)) w2.heap.size (lmask xs s n) s) ∧ Below w.heap.size w ((w2.alloc (.cells #[.int .i64 0, .int .i64 0, .int .i64 0, .int .i64 0, .int .i64 0, .int .i64 0, .int .i64 0, .int .i64 0, .int .i64 0] 51)).setRow w2.heap.size (mcells (lmask xs s n) s)) := by
    intro w2 hb2
    have hlt : w.heap.size < w2.heap.size := by have := hb2.size; rw [World.size_alloc] at this; omega
    have hB3 := step hB0 hb2
    exact ⟨((setRow_below ((Below.refl _ _).alloc (Nat.le_refl _) _) (Nat.le_refl _)).cell (p := ⟨w.heap.size, 1, none⟩) hlt).trans (box_cell hb2 1), Lib.hid (MBox.stored (Hz0.out w2)), setRow_below (hB3.alloc hB3.size _) hB3.size⟩
  have Key := Lib.hid key; clear key
  obtain ⟨m, hm⟩ : ∃ m, 2 ^ (s + 1) - 2 = m := ⟨_, rfl⟩
  simp only [hm] at hS
  have HS := Lib.hid hS; clear hS
  have Hav := Lib.hid (fun w => allValues_any s hs w)
  simp only [hm] at Hav
  have hsl : ∀ (g : Nat) (W : World), (Instr.sliceAt 49 (.pointer (some ⟨g, 0, none⟩)) none (some (.int .i64 (2 * (s : Int)))) none).run Try.prog W = .ok (.slice (some ⟨g, 0, none⟩) (2 * s) 8) W := by
    intro g W
    simp at hs
    rcases hs with rfl | rfl | rfl
    · kernel_rfl
    · kernel_rfl
    · kernel_rfl
  go_enter Try.func68, Try.ntmps68
  go_wp2_with (first | (go_at_call 57; refine (lines_any _ _ _ _ _ _ _ h1 hB1 hs Hn.out hok).mono ?_; rintro e w2 ⟨rfl, hb2⟩; obtain ⟨c1, hx3, hB4⟩ := Key.out w2 hb2; clear hb2) | (refine wpList_store_row rfl 51 _ _ rfl w2.heap.size (mcells (lmask xs s n) s) rfl rfl 51 (mcells (fun _ => 0) 0) (Hz0.out w2) Hi9.out rfl Hone.out ?_))
  go_loop [18] (fun i => ∃ l : Nat, l ≤ 2 * s ∧ i = .int .i64 l ∧ Hid (∀ j, j < l → lmask xs s n j = m)) (fun i => 2 * s - (intOf i).toNat)
  case atStart => exact ⟨0, Nat.zero_le _, rfl, Lib.hid (fun j hj => absurd hj (by omega))⟩
  case round =>
    obtain ⟨l, hl, rfl, hall⟩ := hrel
    by_cases hlt : l < 2 * s
    · have hk := hx3.out.cell (l := l) (by omega)
      by_cases he : lmask xs s n l = m
      · have hcmp : (((lmask xs s n l : Nat) : Int) != (m : Int)) = false := by rw [he]; simp
        have hn2 := Lib.hid (show ∀ j, j < l + 1 → lmask xs s n j = m from fun j hj => by
          by_cases e : j = l
          · rw [e]; exact he
          · exact hall.out j (by omega))
        clear he
        go_wp2_with (go_at_call 84; refine (Hav.out _).mono ?_; rintro e w' ⟨rfl, rfl⟩)
        go_round
        case rel => exact ⟨l + 1, by omega, by go_num, hn2⟩
        case measure => simp [intOf]; omega
      · have hcmp : (((lmask xs s n l : Nat) : Int) != (m : Int)) = true := by simp; omega
        have HL := Lib.hid (show sqSolved xs s = false by
          cases h : sqSolved xs s
          · rfl
          · exact absurd (HS.out.1 h l hlt) he)
        clear he
        go_wp2_with (go_at_call 84; refine (Hav.out _).mono ?_; rintro e w' ⟨rfl, rfl⟩)
        go_ret
        exact ⟨by rw [HL.out]; rfl, hB4⟩
    · have HL := Lib.hid (show sqSolved xs s = true from HS.out.2 (fun j hj => hall.out j (by omega)))
      go_wp2
      go_ret
      exact ⟨by rw [HL.out]; rfl, hB4⟩
end Go.Proofs.Ytlnmioijgclndaa
set_option maxRecDepth 8000
namespace Go.Proofs.Ytlnmioijgclndaa
open Go.ChangeShapes Go.WideShapes Go.ChangeAt Go.RowKit

theorem implSquareSolved : ISquareSolved := by
  intro A c n B xs size w h hB hm
  have hlen := Lib.hid h.1
  cases hg : gv xs size
  · have HL := Lib.hid (show sqSolved xs size = false by simp [sqSolved, sqFits, hg])
    have h1 := h.alloc hB (.cells #[.slice A n c, .int .i64 size] 45)
    have hB1 : B ≤ (w.alloc (.cells #[.slice A n c, .int .i64 size] 45)).heap.size := by simp; omega
    have hB0 : Below w.heap.size w (w.alloc (.cells #[.slice A n c, .int .i64 size] 45)) := (Below.refl _ _).alloc (Nat.le_refl _) _
    go_enter Try.func34, Try.ntmps34
    go_wp2_with (go_at_call 44; refine (implValid _ _ _ _ _ _ _ h1 hB1 hm).mono ?_; rintro e w1 ⟨rfl, hb1⟩; rw [hg])
    go_ret
    exact ⟨by rw [HL.out]; rfl, step hB0 hb1⟩
  · obtain ⟨s, rfl, hs, hls⟩ := size_nat hg
    have hn : n = s * s := by have := hlen.out; omega
    have Hn := Lib.hid hn; clear hn hls
    have Hg := Lib.hid hg
    have h1 := h.alloc hB (.cells #[.slice A n c, .int .i64 s] 45)
    have hB1 : B ≤ (w.alloc (.cells #[.slice A n c, .int .i64 s] 45)).heap.size := by simp; omega
    have hB0 : Below w.heap.size w (w.alloc (.cells #[.slice A n c, .int .i64 s] 45)) := (Below.refl _ _).alloc (Nat.le_refl _) _
    go_enter Try.func34, Try.ntmps34
    go_wp2_with (first | (go_at_call 44; refine (implValid _ _ _ _ _ _ _ h1 hB1 hm).mono ?_; rintro e w1 ⟨rfl, hb1⟩; rw [hg]; have hr1 := h1.below (hb1.mono hB1); have c0 := box_cell hb1 0; have c1 := box_cell hb1 1; have hB2 := step hB0 hb1; have hBw : B ≤ w1.heap.size := Nat.le_trans hB hB2.size; clear hb1; simp only [List.getElem?_toArray, List.getElem?_cons_zero, List.getElem?_cons_succ] at c0 c1) | (go_at_call 68; refine (implSolved _ _ _ _ _ _ _ hr1 hBw hs Hn.out Hg.out).mono ?_; rintro e w2 ⟨rfl, hb2⟩; have hB3 := step hB2 hb2; clear hb2))
    go_ret
    exact ⟨rfl, hB3⟩

end Go.Proofs.Ytlnmioijgclndaa
