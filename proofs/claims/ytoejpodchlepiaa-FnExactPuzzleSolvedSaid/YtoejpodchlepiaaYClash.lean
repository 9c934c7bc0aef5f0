import Derived.Test.YtoejpodchlepiaaYC1L
import Derived.Test.YtoejpodchlepiaaBase
import Derived.Laws.BitsAllLaws
import Derived.Laws.BitsLemmas
namespace Go.Proofs.Ytoejpodchlepiaa
open Go.ChangeShapes Go.WideShapes Go.ChangeAt Go.RowKit

def hasTo (f : Nat → Int) (k : Nat) (v : Int) : Bool := (List.range k).any fun i => f i == v
def dupTo (f : Nat → Int) : Nat → Bool
  | 0 => false
  | k + 1 => dupTo f k || (decide (0 < f k) && hasTo f k (f k))
def lineV (xs : List Int) (size line : Int) (k : Nat) : Int := nth xs (lineAt size line k).toNat
def clashTo (xs : List Int) (size : Int) : Nat → Bool
  | 0 => false
  | l + 1 => clashTo xs size l || dupTo (lineV xs size l) size.toNat
def clash (xs : List Int) (size : Int) : Bool := clashTo xs size (2 * size).toNat

/-- the values of the first k, as bits. -/
def seenN (f : Nat → Int) : Nat → Nat
  | 0 => 0
  | k + 1 => seenN f k ||| 1 <<< (f k).toNat
theorem hasTo_succ (f : Nat → Int) (k : Nat) (v : Int) : hasTo f (k + 1) v = (hasTo f k v || (f k == v)) := by
  simp [hasTo, List.range_succ, List.any_append]
theorem seenN_test (f : Nat → Int) (k v : Nat) (hf : ∀ i, i < k → 0 ≤ f i) : (seenN f k).testBit v = hasTo f k v := by
  induction k with
  | zero => simp [seenN, hasTo]
  | succ k ih =>
    rw [hasTo_succ, ← ih (fun i hi => hf i (by omega))]
    rw [seenN, Nat.testBit_or, Nat.one_shiftLeft, Nat.testBit_two_pow]
    congr 1
    have := hf k (by omega)
    rw [Bool.eq_iff_iff]
    simp
    omega
theorem seenN_lt (f : Nat → Int) (k : Nat) (hf : ∀ i, i < k → 0 ≤ f i ∧ f i ≤ 4) : seenN f k < 32 := by
  induction k with
  | zero => simp [seenN]
  | succ k ih =>
    have h1 := ih (fun i hi => hf i (by omega))
    have h2 := hf k (by omega)
    have h3 : 1 <<< (f k).toNat < 2 ^ 5 := by
      rw [Nat.one_shiftLeft]
      exact Nat.pow_lt_pow_right (by omega) (by omega)
    exact Nat.or_lt_two_pow (by omega) h3

def tryFrom (rec : List Int → Int → Option (List Int) × Int) (xs : List Int) (size : Int) (p : Nat) : Nat → Nat → Int → Option (List Int) × Int
  | 0, _, left => (none, left)
  | r + 1, v, left =>
    if clash (xs.set p v) size = true then tryFrom rec xs size p r (v + 1) left
    else match rec (xs.set p v) left with
      | (some y, l) => (some y, l)
      | (none, l) => tryFrom rec xs size p r (v + 1) l
def srch (size : Int) : Nat → List Int → Nat → Int → Option (List Int) × Int
  | 0, xs, _, left => if left = 0 then (some xs, left) else (none, left - 1)
  | f + 1, xs, p, left => tryFrom (fun ys l => srch size f ys (p + 1) l) xs size p size.toNat 1 left
def solsFrom (rec : List Int → List (List Int)) (xs : List Int) (size : Int) (p : Nat) : Nat → Nat → List (List Int)
  | 0, _ => []
  | r + 1, v => (if clash (xs.set p v) size = true then [] else rec (xs.set p v)) ++ solsFrom rec xs size p r (v + 1)
/-- all grids that the search finds, in order. -/
def sols (size : Int) : Nat → List Int → Nat → List (List Int)
  | 0, xs, _ => [xs]
  | f + 1, xs, p => solsFrom (fun ys => sols size f ys (p + 1)) xs size p size.toNat 1

def pickL (L : List (List Int)) (l : Int) : Option (List Int) × Int :=
  match L[l.toNat]? with
  | some y => (some y, 0)
  | none => (none, l - L.length)
theorem pickL_lt {L : List (List Int)} {l : Int} (h0 : 0 ≤ l) (h : l < L.length) : ∃ y, y ∈ L ∧ L[l.toNat]? = some y ∧ pickL L l = (some y, 0) := by
  have hl : l.toNat < L.length := by omega
  refine ⟨L[l.toNat], List.getElem_mem hl, List.getElem?_eq_getElem hl, ?_⟩
  simp [pickL, List.getElem?_eq_getElem hl]
theorem pickL_ge {L : List (List Int)} {l : Int} (h : (L.length : Int) ≤ l) : pickL L l = (none, l - L.length) := by
  have hl : L.length ≤ l.toNat := by omega
  simp [pickL, List.getElem?_eq_none hl]
theorem pickL_app {A B : List (List Int)} {l : Int} (h0 : 0 ≤ l) : pickL (A ++ B) l = if l < A.length then pickL A l else pickL B (l - A.length) := by
  by_cases h : l < A.length
  · rw [if_pos h]
    have hl : l.toNat < A.length := by omega
    simp [pickL, List.getElem?_append_left hl, List.getElem?_eq_getElem hl]
  · rw [if_neg h]
    have hl : A.length ≤ l.toNat := by omega
    have e : l.toNat - A.length = (l - A.length).toNat := by omega
    simp only [pickL, List.getElem?_append_right hl, e, List.length_append]
    cases B[(l - A.length).toNat]? with
    | some y => rfl
    | none => simp; omega
theorem tryFrom_sols {rec : List Int → Int → Option (List Int) × Int} {recS : List Int → List (List Int)} (hr : ∀ ys l, 0 ≤ l → rec ys l = pickL (recS ys) l) (xs : List Int) (size : Int) (p : Nat) :
    ∀ (r v : Nat) (left : Int), 0 ≤ left → tryFrom rec xs size p r v left = pickL (solsFrom recS xs size p r v) left := by
  intro r
  induction r with
  | zero => intro v left _; simp [tryFrom, solsFrom, pickL]
  | succ r ih =>
    intro v left h0
    simp only [tryFrom, solsFrom]
    by_cases hc : clash (xs.set p v) size = true
    · rw [if_pos hc, if_pos hc, List.nil_append]
      exact ih _ _ h0
    · rw [if_neg hc, if_neg hc, hr _ _ h0, pickL_app h0]
      by_cases hl : left < (recS (xs.set p v)).length
      · rw [if_pos hl]
        obtain ⟨y, _, _, e⟩ := pickL_lt h0 hl
        rw [e]
      · rw [if_neg hl, pickL_ge (by omega)]
        exact ih _ _ (by omega)
theorem srch_sols (size : Int) : ∀ (f : Nat) (xs : List Int) (p : Nat) (left : Int), 0 ≤ left → srch size f xs p left = pickL (sols size f xs p) left := by
  intro f
  induction f with
  | zero =>
    intro xs p left h0
    simp only [srch, sols]
    by_cases h : left = 0
    · subst h; rfl
    · rw [if_neg h, pickL_ge (by simp; omega)]; simp
  | succ f ih =>
    intro xs p left h0
    simp only [srch, sols]
    exact tryFrom_sols (fun ys l hl => ih ys (p + 1) l hl) xs size p _ _ left h0
theorem solsFrom_all {P : List Int → Prop} {rec : List Int → List (List Int)} {xs : List Int} {size : Int} {p : Nat} : ∀ (r v : Nat), (∀ u y, v ≤ u → u < v + r → y ∈ rec (xs.set p (u : Nat)) → P y) → ∀ y, y ∈ solsFrom rec xs size p r v → P y := by
  intro r
  induction r with
  | zero => intro v _ y hy; simp [solsFrom] at hy
  | succ r ih =>
    intro v h y hy
    simp only [solsFrom, List.mem_append] at hy
    rcases hy with hy | hy
    · split at hy
      · simp at hy
      · exact h v y (Nat.le_refl _) (by omega) hy
    · exact ih (v + 1) (fun u y h1 h2 => h u y (by omega) (by omega)) y hy
theorem sols_length (size : Int) : ∀ (f : Nat) (xs : List Int) (p : Nat) (y : List Int), y ∈ sols size f xs p → y.length = xs.length := by
  intro f
  induction f with
  | zero => intro xs p y hy; simp [sols] at hy; subst hy; rfl
  | succ f ih =>
    intro xs p y hy
    refine solsFrom_all (P := fun y => y.length = xs.length) _ _ (fun u y _ _ hy => ?_) y hy
    have := ih _ _ _ hy
    simpa using this
def zeros (n : Nat) : List Int := List.replicate n 0
theorem sols2 : (sols 2 4 (zeros 4) 0).length = 2 := by decide +kernel
theorem sols3 : (sols 3 9 (zeros 9) 0).length = 12 := by decide +kernel
end Go.Proofs.Ytoejpodchlepiaa
namespace Go.Proofs.Ytoejpodchlepiaa
open Go.ChangeShapes Go.WideShapes Go.ChangeAt Go.RowKit

/-- a slice of bytes that reads as bs, below block B. -/
def RdB (w : World) (B : Nat) (A : Option Addr) (n : Nat) (bs : List Int) : Prop :=
  bs.length = n ∧ (0 < n → ∃ b off, A = some ⟨b, off, none⟩ ∧ b < B ∧ ∀ k, k < n → w.cell? ⟨b, off + k, none⟩ = some (.int .u8 (nth bs k))) ∧ ∀ k, k < n → 0 ≤ nth bs k ∧ nth bs k ≤ 255
theorem RdB.at_ {w : World} {B : Nat} {A : Option Addr} {n : Nat} {bs : List Int} (h : RdB w B A n bs) {k : Nat} (hk : k < n) :
    ∃ b off, A = some ⟨b, off, none⟩ ∧ b < B ∧ w.cell? ⟨b, off + k, none⟩ = some (.int .u8 (nth bs k)) ∧ 0 ≤ nth bs k ∧ nth bs k ≤ 255 := by
  obtain ⟨b, off, e, hb, hc⟩ := h.2.1 (by omega)
  exact ⟨b, off, e, hb, hc k hk, h.2.2 k hk⟩
theorem RdB.below {w w' : World} {B : Nat} {A : Option Addr} {n : Nat} {bs : List Int} (h : RdB w B A n bs) (hb : Below B w w') : RdB w' B A n bs :=
  ⟨h.1, fun hn => by
    obtain ⟨b, off, e, hlt, hc⟩ := h.2.1 hn
    exact ⟨b, off, e, hlt, fun k hk => (hb.cell (p := ⟨b, off + k, none⟩) hlt).trans (hc k hk)⟩, h.2.2⟩
theorem rdB_of_row {w : World} {a : Option Addr} {len cap : Nat} {zs : List Int} (h : IsRow .u8 w a len cap zs) : RdB w w.heap.size a len (zs.take len) := by
  rcases h with ⟨rfl, rfl, rfl, rfl⟩ | ⟨x, rfl, hl, hm, hz, hcell, hwz⟩
  · exact ⟨rfl, fun h => absurd h (by omega), fun k hk => absurd hk (by omega)⟩
  · have e : ∀ k, k < len → nth (zs.take len) k = zs.getD k 0 := fun k hk => by
      simp [nth, List.getD_eq_getElem?_getD, hk]
    refine ⟨by rw [List.length_take, hz]; omega, fun hn => ?_, fun k hk => ?_⟩
    · obtain ⟨b, off, spot⟩ := x
      have hc0 := hcell 0 (by omega)
      have hspot : spot = none := by simpa [Addr.add] using World.cell?_spot hc0
      subst hspot
      refine ⟨b, off, rfl, by simpa [Addr.add] using cell_lt hc0, fun k hk => ?_⟩
      rw [e k hk, ← hcell k (by omega)]
      unfold Addr.add
      by_cases h0 : k = 0
      · subst h0; simp
      · simp [h0]
    · rw [e k hk]
      have hk' : k < zs.length := by omega
      have := hwz (zs.getD k 0) (by simp [List.getD_eq_getElem?_getD, hk'])
      generalize zs.getD k 0 = z at *
      simp [Lit.wf, IntKind.min, IntKind.max, IntKind.bits, IntKind.signed] at this
      omega

theorem ofInt_i64 (a : Nat) (ha : a < 9223372036854775808) : (BitVec.ofInt 64 (a : Int)).toNat = a := by
  rw [BitVec.ofInt_natCast, BitVec.toNat_ofNat]; exact Nat.mod_eq_of_lt (by omega)
theorem i64_xor_nat (a b : Nat) (ha : a < 9223372036854775808) (hb : b < 9223372036854775808) : bits .xor .i64 (a : Int) (b : Int) = ((a ^^^ b : Nat) : Int) := by
  have hx : a ^^^ b < 2 ^ 63 := Nat.xor_lt_two_pow (by omega) (by omega)
  show IntKind.i64.wrap ((BitVec.ofInt 64 (a : Int) ^^^ BitVec.ofInt 64 (b : Int)).toNat : Int) = _
  rw [BitVec.toNat_xor, ofInt_i64 a ha, ofInt_i64 b hb, IntKind.wrap_i64]
  omega
theorem i64_xor_pos (a b : Int) (ha : 0 ≤ a) (ha' : a ≤ 9223372036854775807) (hb : 0 ≤ b) (hb' : b ≤ 9223372036854775807) : 0 ≤ bits .xor .i64 a b ∧ bits .xor .i64 a b ≤ 9223372036854775807 := by
  obtain ⟨x, rfl⟩ := Int.eq_ofNat_of_zero_le ha
  obtain ⟨y, rfl⟩ := Int.eq_ofNat_of_zero_le hb
  rw [i64_xor_nat x y (by omega) (by omega)]
  have hx : x ^^^ y < 2 ^ 63 := Nat.xor_lt_two_pow (by omega) (by omega)
  omega

/-- block G is a reader that has been asked at most P times; the bytes that it reads lie below block B. -/
def Rdr (w : World) (B G P : Nat) : Prop :=
  ∃ A n c p bs, w.heap[G]? = some (.cells #[.slice A n c, .int .i64 p] 110 (0, 0)) ∧ 0 ≤ p ∧ p ≤ P ∧ n ≤ 2000 ∧ RdB w B A n bs
def Picked (w : World) (B G P : Nat) (m : Int) (e : Ending) (w' : World) : Prop :=
  ∃ v : Int, e = .returned (.int .i64 v) ∧ (0 ≤ v ∧ (1 ≤ m → v < m) ∧ (m < 1 → v = 0)) ∧ Rdr w' B G (P + 1) ∧ w.grownBy w' (some G)

theorem pick_any (B G P : Nat) (m : Int) (w : World) (h : Rdr w B G P) (hBG : B ≤ G) (hP : P ≤ 1099511627776) :
    Calls Try.prog 72 #[.pointer (some ⟨G, 0, none⟩), .int .i64 m] w (Picked w B G P m) := by
  obtain ⟨A, n, c, p, bs, hG, p0, p1, hn, hr⟩ := h
  have c0 : w.cell? ⟨G, 0, none⟩ = some (.slice A n c) := cell_of_row _ _ 0 _ _ _ hG
  have c1 : w.cell? ⟨G, 1, none⟩ = some (.int .i64 p) := cell_of_row _ _ 1 _ _ _ hG
  have f1 : w.frozen? ⟨G, 1, none⟩ = false := frozen_of_row w G 1 _ _ hG
  have hG2 : (w.setCell ⟨G, 1, none⟩ (.int .i64 (p + 1))).heap[G]? = some (.cells #[.slice A n c, .int .i64 (p + 1)] 110 (0, 0)) := heap_setCell_same w G 1 _ _ _ hG
  have hgr : w.grownBy (w.setCell ⟨G, 1, none⟩ (.int .i64 (p + 1))) (some G) := ⟨rfl, rfl, rfl, by simp [World.setCell], fun k _ hk => heap_setCell_other w ⟨G, 1, none⟩ k _ (fun e => hk (by rw [e]))⟩
  have hbel : Below B w (w.setCell ⟨G, 1, none⟩ (.int .i64 (p + 1))) := (Below.refl _ _).setCell hBG _
  have hrd : ∀ q, Rdr ((w.setCell ⟨G, 1, none⟩ (.int .i64 (p + 1))).drewN q) B G (P + 1) := fun q => ⟨A, n, c, p + 1, bs, hG2, by omega, by omega, hn, hr.below (below_drewN hbel q)⟩
  have fin : ∀ q v, (0 ≤ v ∧ (1 ≤ m → v < m) ∧ (m < 1 → v = 0)) → Picked w B G P m (.returned (.int .i64 v)) ((w.setCell ⟨G, 1, none⟩ (.int .i64 (p + 1))).drewN q) := fun q v hv =>
    ⟨v, rfl, hv, hrd q, ⟨hgr.os, hgr.tape, hgr.output, hgr.size, hgr.block⟩⟩
  have Fin := Lib.hid fin
  clear fin hrd hbel hgr hG2 hG
  by_cases hm : m < 1
  · go_enter Try.func72, Try.ntmps72
    go_wp2
    go_ret
    exact Fin.out 0 0 (by omega)
  · by_cases h0 : n = 0
    · have hz : ((n : Int) == 0) = true := by simp [h0]
      clear h0
      go_enter Try.func72, Try.ntmps72
      go_wp2
      go_ret
      exact Fin.out 0 0 (by omega)
    · have hz : ((n : Int) == 0) = false := by simp; omega
      obtain ⟨k, rfl⟩ := Int.eq_ofNat_of_zero_le p0
      by_cases hk : k < n
      · obtain ⟨b, off, rfl, hb, hck, b0, b1⟩ := hr.at_ hk
        have hbG : b < G := by omega
        have hmm : 0 ≤ nth bs k % m ∧ nth bs k % m < m := ⟨Int.emod_nonneg _ (by omega), Int.emod_lt_of_pos _ (by omega)⟩
        go_enter Try.func72, Try.ntmps72
        go_wp2
        go_ret
        exact Fin.out 0 _ (by omega)
      · obtain ⟨i, hi⟩ : ∃ i : Nat, i = k % n := ⟨_, rfl⟩
        obtain ⟨j, hj⟩ : ∃ j : Nat, j = (k * 7 + 3) % n := ⟨_, rfl⟩
        have hin : i < n := by rw [hi]; exact Nat.mod_lt _ (by omega)
        have hjn : j < n := by rw [hj]; exact Nat.mod_lt _ (by omega)
        obtain ⟨b, off, rfl, hb, hci, i0, i1⟩ := hr.at_ hin
        obtain ⟨b', off', he, hb', hcj, j0, j1⟩ := hr.at_ hjn
        cases he
        have hbG : b < G := by omega
        have ei : ((k : Int) % (n : Int)) = (i : Int) := by rw [hi]; simp
        have ej : (((k : Int) * 7 + 3) % (n : Int)) = (j : Int) := by rw [hj]; simp
        have iI : (i : Int) < (n : Int) := by omega
        have jI : (j : Int) < (n : Int) := by omega
        clear hi hj
        go_enter Try.func72, Try.ntmps72
        go_wp2
        go_quiet (fail)
        have q0 : (0 : Int) ≤ (k : Int) / n := Int.ediv_nonneg (by omega) (by omega)
        have q1 : (k : Int) / n ≤ k := Int.ediv_le_self _ (by omega)
        generalize hX : wrap64 (nth bs i * 131 + nth bs j * 1117 + (k : Int) * 29 + wrap64 (wrap64 ((k : Int) / n) * 53)) = X
        have hX0 : 0 ≤ X ∧ X ≤ 4611686018427387904 := by
          rw [← hX, IntWalk.wrap64_in ((k : Int) / n) ⟨by omega, by omega⟩, IntWalk.wrap64_in ((k : Int) / n * 53) ⟨by omega, by omega⟩, IntWalk.wrap64_in _ ⟨by omega, by omega⟩]
          omega
        clear hX q0 q1
        obtain ⟨x0, x1⟩ := hX0
        obtain ⟨y0, y1⟩ := i64_xor_pos X (X / 64) (by omega) (by omega) (by omega) (by omega)
        obtain ⟨z0, z1⟩ : 0 ≤ bits .xor .i64 X (X / 64) % m ∧ bits .xor .i64 X (X / 64) % m < m := ⟨Int.emod_nonneg _ (by omega), Int.emod_lt_of_pos _ (by omega)⟩
        go_wp2
        go_ret
        exact Fin.out nq _ (by omega)
end Go.Proofs.Ytoejpodchlepiaa
namespace Go.Proofs.Ytoejpodchlepiaa
open Go.ChangeShapes Go.WideShapes Go.ChangeAt Go.RowKit

/-- all values lie in 0..size. -/
def okAll (xs : List Int) (size : Int) (n : Nat) : Prop := ∀ k, k < n → 0 ≤ nth xs k ∧ nth xs k ≤ size

theorem line_ix {size line : Int} {n k : Nat} (h2 : 2 ≤ size) (h4 : size ≤ 4) (hn : (n : Int) = size * size) (l0 : 0 ≤ line) (l1 : line < 2 * size) (hk : (k : Int) < size) :
    0 ≤ lineAt size line k ∧ lineAt size line k < n := by
  unfold lineAt
  have : size = 2 ∨ size = 3 ∨ size = 4 := by omega
  rcases this with rfl | rfl | rfl <;> split <;> omega
theorem lineL_ok {size : Int} {l : Nat} (h2 : 2 ≤ size) (h4 : size ≤ 4) (hl : (l : Int) < 2 * size) : lineL size l = lineTo size l size.toNat := by
  have h1 : inr size 2 4 = true := by simp [inr, h2, h4]
  have h3 : inr (l : Int) 0 (2 * size - 1) = true := by simp [inr]; omega
  simp [lineL, lineOk, h1, h3]

theorem shr_test (f : Nat → Int) (k : Nat) (v : Int) (hf : ∀ i, i < k → 0 ≤ f i) (h0 : 0 ≤ v) : ((((seenN f k : Nat) : Int) / 2 ^ v.toNat).tmod 2 == 1) = hasTo f k v := by
  obtain ⟨u, rfl⟩ := Int.eq_ofNat_of_zero_le h0
  rw [← seenN_test f k u hf, Nat.testBit_eq_decide_div_mod_eq, Int.toNat_natCast]
  have e : (((seenN f k : Nat) : Int) / 2 ^ u) = ((seenN f k / 2 ^ u : Nat) : Int) := by simp
  rw [e, Int.tmod_eq_emod_of_nonneg (Int.natCast_nonneg _)]
  rw [Bool.eq_iff_iff]
  simp
  omega
theorem i64_or_nat (a b : Nat) (ha : a < 9223372036854775808) (hb : b < 9223372036854775808) : bits .or .i64 (a : Int) (b : Int) = ((a ||| b : Nat) : Int) := by
  have hx : a ||| b < 2 ^ 63 := Nat.or_lt_two_pow (by omega) (by omega)
  show IntKind.i64.wrap ((BitVec.ofInt 64 (a : Int) ||| BitVec.ofInt 64 (b : Int)).toNat : Int) = _
  rw [BitVec.toNat_or, ofInt_i64 a ha, ofInt_i64 b hb, IntKind.wrap_i64]
  omega
theorem or_step (f : Nat → Int) (k : Nat) (v : Int) (hv : f k = v) (h0 : 0 ≤ v) (h4 : v ≤ 4) (hs : seenN f k < 32) : bits .or .i64 ((seenN f k : Nat) : Int) (wrap64 (2 ^ v.toNat)) = ((seenN f (k + 1) : Nat) : Int) := by
  have e : (2 : Int) ^ v.toNat = ((1 <<< v.toNat : Nat) : Int) := by rw [Nat.one_shiftLeft]; simp
  have hlt : 1 <<< v.toNat < 2 ^ 5 := by rw [Nat.one_shiftLeft]; exact Nat.pow_lt_pow_right (by omega) (by omega)
  rw [seenN, hv, e]
  generalize 1 <<< v.toNat = N at *
  rw [IntWalk.wrap64_in _ ⟨by omega, by omega⟩, i64_or_nat _ _ (by omega) (by omega)]

theorem dup_mono (f : Nat → Int) {k n : Nat} (h : dupTo f k = true) (hk : k ≤ n) : dupTo f n = true := by
  induction n with
  | zero =>
    have : k = 0 := by omega
    subst this; exact h
  | succ n ih =>
    by_cases e : k = n + 1
    · subst e; exact h
    · rw [dupTo, ih (by omega)]; rfl
theorem clashTo_mono (xs : List Int) (size : Int) {k n : Nat} (h : clashTo xs size k = true) (hk : k ≤ n) : clashTo xs size n = true := by
  induction n with
  | zero =>
    have : k = 0 := by omega
    subst this; exact h
  | succ n ih =>
    by_cases e : k = n + 1
    · subst e; exact h
    · rw [clashTo, ih (by omega)]; rfl
theorem clash_at {xs : List Int} {size : Int} {l : Nat} (hl : (l : Int) < 2 * size) (hd : dupTo (lineV xs size l) size.toNat = true) : clash xs size = true :=
  clashTo_mono xs size (k := l + 1) (by rw [clashTo, hd, Bool.or_true]) (by omega)

theorem specClash (A : Option Addr) (c n B : Nat) (xs : List Int) (size : Int) (w : World) (h : Rd w B A n xs) (hB : B ≤ w.heap.size) (h2 : 2 ≤ size) (h4 : size ≤ 4) (hn : Hid ((n : Int) = size * size)) (hok : Hid (okAll xs size n)) :
    Calls Try.prog 117 #[.slice A n c, .int .i64 size] w fun e w' => e = .returned (.bool (clash xs size)) ∧ Below w.heap.size w w' := by
  go_enter Try.func117, Try.ntmps117
  go_wp2
  go_loopw [5] (fun i wr => ∃ l : Nat, (l : Int) ≤ 2 * size ∧ i = .int .i64 l ∧ clashTo xs size l = false ∧ Below w.heap.size w wr) (fun i _ => (2 * size - intOf i).toNat)
  case atStart => exact ⟨0, by omega, rfl, rfl, Below.refl _ _⟩
  case round =>
    obtain ⟨l, hl, rfl, hcl, hb⟩ := hrel
    have Hcl := Lib.hid hcl; clear hcl
    by_cases hlt : (l : Int) < 2 * size
    · have hL := Lib.hid (lineL_ok h2 h4 hlt)
      have hlenL : (lineL size l).length = size.toNat := by rw [hL.out, lineTo_length]
      have HlenL := Lib.hid hlenL; clear hlenL
      go_wp2_with fail
      refine (specLineCells _ _ _ (by omega)).mono ?_
      rintro e w1 ⟨A1, c1, rfl, ho1, hb1⟩
      have hr1 := ho1.rd
      have hbb := step hb hb1
      go_wp2
      obtain ⟨wo, rfl⟩ : ∃ wo : World, wo = w1 := ⟨_, rfl⟩
      go_loop [7, 8] (fun s i => ∃ k : Nat, k ≤ (lineL size l).length ∧ i = .int .i64 k ∧ s = .int .i64 (seenN (lineV xs size l) k) ∧ dupTo (lineV xs size l) k = false) (fun _ i => (lineL size l).length - (intOf i).toNat)
      case atStart => exact ⟨0, by omega, rfl, rfl, rfl⟩
      case round =>
        obtain ⟨k, hk, rfl, rfl, hd⟩ := hrel
        have Hd := Lib.hid hd; clear hd
        by_cases hkl : k < (lineL size l).length
        · have hks : (k : Int) < size := by have := HlenL.out; omega
          obtain ⟨g1, o1, rfl, hg1, hk1⟩ := hr1.at_ hkl
          have hval : nth (lineL size l) k = lineAt size l k := by rw [hL.out, lineTo_nth (by omega)]
          rw [hval] at hk1
          obtain ⟨x0, x1⟩ := line_ix h2 h4 hn.out (by omega : (0 : Int) ≤ (l : Int)) hlt hks
          obtain ⟨q, hq⟩ := Int.eq_ofNat_of_zero_le x0
          have hqn : q < n := by omega
          obtain ⟨g0, o0, rfl, hg0, hk0⟩ := (h.below (hbb.mono hB)).at_ hqn
          obtain ⟨v0, v1⟩ := hok.out q hqn
          have hv : lineV xs size l k = nth xs q := by unfold lineV; rw [hq]; rfl
          rw [hq] at hk1
          have hf : ∀ i, i < (lineL size l).length → 0 ≤ lineV xs size l i ∧ lineV xs size l i ≤ 4 := by
            intro i hi
            have his : (i : Int) < size := by have := HlenL.out; omega
            obtain ⟨y0, y1⟩ := line_ix h2 h4 hn.out (by omega : (0 : Int) ≤ (l : Int)) hlt his
            have := hok.out (lineAt size l i).toNat (by omega)
            unfold lineV
            omega
          have Hf := Lib.hid hf; clear hf
          have hsl := seenN_lt (lineV xs size l) k (fun i hi => Hf.out i (by omega))
          have ht := shr_test (lineV xs size l) k (nth xs q) (fun i hi => (Hf.out i (by omega)).1) v0
          clear hq hval
          have hor := Lib.hid (or_step (lineV xs size l) k (nth xs q) hv v0 (by omega) hsl)
          by_cases hp : 0 < nth xs q
          · cases hh : hasTo (lineV xs size l) k (nth xs q)
            · rw [hh] at ht
              have hdn := Lib.hid (show dupTo (lineV xs size l) (k + 1) = false by simp [dupTo, Hd.out, hv, hh])
              clear hh hv
              go_wp2
              go_round
              case rel => exact ⟨k + 1, by omega, by go_num, by rw [hor.out], hdn.out⟩
              case measure => simp [intOf]; omega
            · rw [hh] at ht
              have hdn := dup_mono (lineV xs size l) (show dupTo (lineV xs size l) (k + 1) = true by simp [dupTo, hv, hh, hp]) (n := size.toNat) (by omega)
              have hcc := Lib.hid (clash_at hlt hdn)
              clear hh hv hdn
              go_wp2
              go_ret
              exact ⟨by rw [hcc.out]; rfl, hbb⟩
          · have hdn := Lib.hid (show dupTo (lineV xs size l) (k + 1) = false by simp [dupTo, Hd.out, hv]; omega)
            clear ht hv
            go_wp2
            go_round
            case rel => exact ⟨k + 1, by omega, by go_num, by rw [hor.out], hdn.out⟩
            case measure => simp [intOf]; omega
        · have hke : k = size.toNat := by have := HlenL.out; omega
          have hcn := Lib.hid (show clashTo xs size (l + 1) = false by rw [clashTo, Hcl.out, ← hke, Hd.out]; rfl)
          clear hke
          go_wp2
          go_roundw
          case rel => exact ⟨l + 1, by omega, by go_num, hcn.out, hbb⟩
          case measure => simp [intOf]; omega
    · have he : clash xs size = false := by
        have : (2 * size).toNat = l := by omega
        rw [clash, this]; exact Hcl.out
      have He := Lib.hid he; clear he
      go_wp2
      go_ret
      exact ⟨by rw [He.out]; rfl, hb⟩
end Go.Proofs.Ytoejpodchlepiaa
