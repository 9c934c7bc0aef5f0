import Derived.Test.YtgeedgljabdllaaBase
import Derived.Laws.BitsAllLaws
import Derived.Laws.BitsLemmas
namespace Go.Proofs.Ytgeedgljabdllaa
open Go.ChangeShapes Go.WideShapes Go.ChangeAt Go.RowKit

/-- a slice of bytes that reads as bs, below block B. -/
def RdB (w : World) (B : Nat) (A : Option Addr) (n : Nat) (bs : List Int) : Prop :=
  bs.length = n ∧ (0 < n → ∃ b off, A = some ⟨b, off, none⟩ ∧ b < B ∧ ∀ k, k < n → w.cell? ⟨b, off + k, none⟩ = some (.int .u8 (nth bs k))) ∧ ∀ k, k < n → 0 ≤ nth bs k ∧ nth bs k ≤ 255
theorem RdB.at_ {w : World} {B : Nat} {A : Option Addr} {n : Nat} {bs : List Int} (h : RdB w B A n bs) {k : Nat} (hk : k < n) :
    ∃ b off, A = some ⟨b, off, none⟩ ∧ b < B ∧ w.cell? ⟨b, off + k, none⟩ = some (.int .u8 (nth bs k)) ∧ 0 ≤ nth bs k ∧ nth bs k ≤ 255 := by
  obtain ⟨b, off, e, hb, hc⟩ := h.2.1 (by omega)
  exact ⟨b, off, e, hb, hc k hk, h.2.2 k hk⟩
theorem RdB.below {w w' : World} {B : Nat} {A : Option Addr} {n : Nat} {bs : List Int} (h : RdB w B A n bs) (hb : Below B w w') : RdB w' B A n bs :=
  ⟨h.1, fun hn => by
    obtain ⟨b, off, e, hlt, hc⟩ := h.2.1 hn
    exact ⟨b, off, e, hlt, fun k hk => (hb.cell (p := ⟨b, off + k, none⟩) hlt).trans (hc k hk)⟩, h.2.2⟩
theorem rdB_of_row {w : World} {a : Option Addr} {len cap : Nat} {zs : List Int} (h : IsRow .u8 w a len cap zs) : RdB w w.heap.size a len (zs.take len) := by
  rcases h with ⟨rfl, rfl, rfl, rfl⟩ | ⟨x, rfl, hl, hm, hz, hcell, hwz⟩
  · exact ⟨rfl, fun h => absurd h (by omega), fun k hk => absurd hk (by omega)⟩
  · have e : ∀ k, k < len → nth (zs.take len) k = zs.getD k 0 := fun k hk => by
      simp [nth, List.getD_eq_getElem?_getD, hk]
    refine ⟨by rw [List.length_take, hz]; omega, fun hn => ?_, fun k hk => ?_⟩
    · obtain ⟨b, off, spot⟩ := x
      have hc0 := hcell 0 (by omega)
      have hspot : spot = none := by simpa [Addr.add] using World.cell?_spot hc0
      subst hspot
      refine ⟨b, off, rfl, by simpa [Addr.add] using cell_lt hc0, fun k hk => ?_⟩
      rw [e k hk, ← hcell k (by omega)]
      unfold Addr.add
      by_cases h0 : k = 0
      · subst h0; simp
      · simp [h0]
    · rw [e k hk]
      have hk' : k < zs.length := by omega
      have := hwz (zs.getD k 0) (by simp [List.getD_eq_getElem?_getD, hk'])
      generalize zs.getD k 0 = z at *
      simp [Lit.wf, IntKind.min, IntKind.max, IntKind.bits, IntKind.signed] at this
      omega

theorem ofInt_i64 (a : Nat) (ha : a < 9223372036854775808) : (BitVec.ofInt 64 (a : Int)).toNat = a := by
  rw [BitVec.ofInt_natCast, BitVec.toNat_ofNat]; exact Nat.mod_eq_of_lt (by omega)
theorem i64_xor_nat (a b : Nat) (ha : a < 9223372036854775808) (hb : b < 9223372036854775808) : bits .xor .i64 (a : Int) (b : Int) = ((a ^^^ b : Nat) : Int) := by
  have hx : a ^^^ b < 2 ^ 63 := Nat.xor_lt_two_pow (by omega) (by omega)
  show IntKind.i64.wrap ((BitVec.ofInt 64 (a : Int) ^^^ BitVec.ofInt 64 (b : Int)).toNat : Int) = _
  rw [BitVec.toNat_xor, ofInt_i64 a ha, ofInt_i64 b hb, IntKind.wrap_i64]
  omega
theorem i64_xor_pos (a b : Int) (ha : 0 ≤ a) (ha' : a ≤ 9223372036854775807) (hb : 0 ≤ b) (hb' : b ≤ 9223372036854775807) : 0 ≤ bits .xor .i64 a b ∧ bits .xor .i64 a b ≤ 9223372036854775807 := by
  obtain ⟨x, rfl⟩ := Int.eq_ofNat_of_zero_le ha
  obtain ⟨y, rfl⟩ := Int.eq_ofNat_of_zero_le hb
  rw [i64_xor_nat x y (by omega) (by omega)]
  have hx : x ^^^ y < 2 ^ 63 := Nat.xor_lt_two_pow (by omega) (by omega)
  omega

/-- block G is a reader that has been asked at most P times; the bytes that it reads lie below block B. -/
def Rdr (w : World) (B G P : Nat) : Prop :=
  ∃ A n c p bs, w.heap[G]? = some (.cells #[.slice A n c, .int .i64 p] 89 (0, 0)) ∧ 0 ≤ p ∧ p ≤ P ∧ n ≤ 2000 ∧ RdB w B A n bs
def Picked (w : World) (B G P : Nat) (m : Int) (e : Ending) (w' : World) : Prop :=
  ∃ v : Int, e = .returned (.int .i64 v) ∧ (0 ≤ v ∧ (1 ≤ m → v < m) ∧ (m < 1 → v = 0)) ∧ Rdr w' B G (P + 1) ∧ w.grownBy w' (some G)

theorem pick_any (B G P : Nat) (m : Int) (w : World) (h : Rdr w B G P) (hBG : B ≤ G) (hP : P ≤ 1099511627776) :
    Calls Try.prog 66 #[.pointer (some ⟨G, 0, none⟩), .int .i64 m] w (Picked w B G P m) := by
  obtain ⟨A, n, c, p, bs, hG, p0, p1, hn, hr⟩ := h
  have c0 : w.cell? ⟨G, 0, none⟩ = some (.slice A n c) := cell_of_row _ _ 0 _ _ _ hG
  have c1 : w.cell? ⟨G, 1, none⟩ = some (.int .i64 p) := cell_of_row _ _ 1 _ _ _ hG
  have f1 : w.frozen? ⟨G, 1, none⟩ = false := frozen_of_row w G 1 _ _ hG
  have hG2 : (w.setCell ⟨G, 1, none⟩ (.int .i64 (p + 1))).heap[G]? = some (.cells #[.slice A n c, .int .i64 (p + 1)] 89 (0, 0)) := heap_setCell_same w G 1 _ _ _ hG
  have hgr : w.grownBy (w.setCell ⟨G, 1, none⟩ (.int .i64 (p + 1))) (some G) := ⟨rfl, rfl, rfl, by simp [World.setCell], fun k _ hk => heap_setCell_other w ⟨G, 1, none⟩ k _ (fun e => hk (by rw [e]))⟩
  have hbel : Below B w (w.setCell ⟨G, 1, none⟩ (.int .i64 (p + 1))) := (Below.refl _ _).setCell hBG _
  have hrd : ∀ q, Rdr ((w.setCell ⟨G, 1, none⟩ (.int .i64 (p + 1))).drewN q) B G (P + 1) := fun q => ⟨A, n, c, p + 1, bs, hG2, by omega, by omega, hn, hr.below (below_drewN hbel q)⟩
  have fin : ∀ q v, (0 ≤ v ∧ (1 ≤ m → v < m) ∧ (m < 1 → v = 0)) → Picked w B G P m (.returned (.int .i64 v)) ((w.setCell ⟨G, 1, none⟩ (.int .i64 (p + 1))).drewN q) := fun q v hv =>
    ⟨v, rfl, hv, hrd q, ⟨hgr.os, hgr.tape, hgr.output, hgr.size, hgr.block⟩⟩
  have Fin := Lib.hid fin
  clear fin hrd hbel hgr hG2 hG
  by_cases hm : m < 1
  · go_enter Try.func66, Try.ntmps66
    go_wp2
    go_ret
    exact Fin.out 0 0 (by omega)
  · by_cases h0 : n = 0
    · have hz : ((n : Int) == 0) = true := by simp [h0]
      clear h0
      go_enter Try.func66, Try.ntmps66
      go_wp2
      go_ret
      exact Fin.out 0 0 (by omega)
    · have hz : ((n : Int) == 0) = false := by simp; omega
      obtain ⟨k, rfl⟩ := Int.eq_ofNat_of_zero_le p0
      by_cases hk : k < n
      · obtain ⟨b, off, rfl, hb, hck, b0, b1⟩ := hr.at_ hk
        have hbG : b < G := by omega
        have hmm : 0 ≤ nth bs k % m ∧ nth bs k % m < m := ⟨Int.emod_nonneg _ (by omega), Int.emod_lt_of_pos _ (by omega)⟩
        go_enter Try.func66, Try.ntmps66
        go_wp2
        go_ret
        exact Fin.out 0 _ (by omega)
      · obtain ⟨i, hi⟩ : ∃ i : Nat, i = k % n := ⟨_, rfl⟩
        obtain ⟨j, hj⟩ : ∃ j : Nat, j = (k * 7 + 3) % n := ⟨_, rfl⟩
        have hin : i < n := by rw [hi]; exact Nat.mod_lt _ (by omega)
        have hjn : j < n := by rw [hj]; exact Nat.mod_lt _ (by omega)
        obtain ⟨b, off, rfl, hb, hci, i0, i1⟩ := hr.at_ hin
        obtain ⟨b', off', he, hb', hcj, j0, j1⟩ := hr.at_ hjn
        cases he
        have hbG : b < G := by omega
        have ei : ((k : Int) % (n : Int)) = (i : Int) := by rw [hi]; simp
        have ej : (((k : Int) * 7 + 3) % (n : Int)) = (j : Int) := by rw [hj]; simp
        have iI : (i : Int) < (n : Int) := by omega
        have jI : (j : Int) < (n : Int) := by omega
        clear hi hj
        go_enter Try.func66, Try.ntmps66
        go_wp2
        go_quiet (fail)
        have q0 : (0 : Int) ≤ (k : Int) / n := Int.ediv_nonneg (by omega) (by omega)
        have q1 : (k : Int) / n ≤ k := Int.ediv_le_self _ (by omega)
        generalize hX : wrap64 (nth bs i * 131 + nth bs j * 1117 + (k : Int) * 29 + wrap64 (wrap64 ((k : Int) / n) * 53)) = X
        have hX0 : 0 ≤ X ∧ X ≤ 4611686018427387904 := by
          rw [← hX, IntWalk.wrap64_in ((k : Int) / n) ⟨by omega, by omega⟩, IntWalk.wrap64_in ((k : Int) / n * 53) ⟨by omega, by omega⟩, IntWalk.wrap64_in _ ⟨by omega, by omega⟩]
          omega
        clear hX q0 q1
        obtain ⟨x0, x1⟩ := hX0
        obtain ⟨y0, y1⟩ := i64_xor_pos X (X / 64) (by omega) (by omega) (by omega) (by omega)
        obtain ⟨z0, z1⟩ : 0 ≤ bits .xor .i64 X (X / 64) % m ∧ bits .xor .i64 X (X / 64) % m < m := ⟨Int.emod_nonneg _ (by omega), Int.emod_lt_of_pos _ (by omega)⟩
        go_wp2
        go_ret
        exact Fin.out nq _ (by omega)
end Go.Proofs.Ytgeedgljabdllaa
