import Derived.Test.YtcjdjcpappfkgaaGreatDoorGBase
import Derived.Laws.BitsAllLaws
import Derived.Laws.BitsLemmas
namespace Go.Proofs.YtcjdjcpappfkgaaGreatDoor
open Go.ChangeShapes Go.WideShapes Go.ChangeAt Go.RowKit
def RdB (w : World) (B : Nat) (A : Option Addr) (n : Nat) (bs : List Int) : Prop :=
  bs.length = n ∧ (0 < n → ∃ b off, A = some ⟨b, off, none⟩ ∧ b < B ∧ ∀ k, k < n → w.cell? ⟨b, off + k, none⟩ = some (.int .u8 (nth bs k))) ∧ ∀ k, k < n → 0 ≤ nth bs k ∧ nth bs k ≤ 255
theorem RdB.at_ {w : World} {B : Nat} {A : Option Addr} {n : Nat} {bs : List Int} (h : RdB w B A n bs) {k : Nat} (hk : k < n) :
    ∃ b off, A = some ⟨b, off, none⟩ ∧ b < B ∧ w.cell? ⟨b, off + k, none⟩ = some (.int .u8 (nth bs k)) ∧ 0 ≤ nth bs k ∧ nth bs k ≤ 255 := by
  obtain ⟨b, off, e, hb, hc⟩ := h.2.1 (by omega); exact ⟨b, off, e, hb, hc k hk, h.2.2 k hk⟩
theorem RdB.below {w w' : World} {B : Nat} {A : Option Addr} {n : Nat} {bs : List Int} (h : RdB w B A n bs) (hb : Below B w w') : RdB w' B A n bs :=
  ⟨h.1, fun hn => by
    obtain ⟨b, off, e, hlt, hc⟩ := h.2.1 hn
    exact ⟨b, off, e, hlt, fun k hk => (hb.cell (p := ⟨b, off + k, none⟩) hlt).trans (hc k hk)⟩, h.2.2⟩
theorem ofInt_i64 (a : Nat) (ha : a < 9223372036854775808) : (BitVec.ofInt 64 (a : Int)).toNat = a := by
  rw [BitVec.ofInt_natCast, BitVec.toNat_ofNat]; exact Nat.mod_eq_of_lt (by omega)
def Rdr (w : World) (B G P : Nat) : Prop :=
  ∃ A n c p bs, w.heap[G]? = some (.cells #[.slice A n c, .int .i64 p] 106 (0, 0)) ∧ 0 ≤ p ∧ p ≤ P ∧ n ≤ 2000 ∧ RdB w B A n bs
end Go.Proofs.YtcjdjcpappfkgaaGreatDoor
