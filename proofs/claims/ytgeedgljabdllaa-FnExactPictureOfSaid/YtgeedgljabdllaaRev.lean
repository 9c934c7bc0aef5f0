import Derived.Test.YtgeedgljabdllaaBase
import Derived.Test.YtgeedgljabdllaaLw
import Derived.RegionTactic
set_option maxRecDepth 8000
namespace Go.Proofs.Ytgeedgljabdllaa
open Go.ChangeShapes Go.WideShapes Go.ChangeAt Go.RowKit
/-! slices.Reverse of ints. -/
def rvL (xs : List Int) (n k : Nat) : List Int := mapTo (fun p => if p < k ∨ n ≤ p + k then nth xs (n - 1 - p) else nth xs p) n
theorem rvL_zero {xs : List Int} {n : Nat} (h : xs.length = n) : rvL xs n 0 = xs := by
  apply ext_nth (by rw [rvL, mapTo_length]; exact h.symm)
  intro k hk
  rw [rvL, mapTo_length] at hk
  rw [rvL, mapTo_nth hk, if_neg (by omega)]
theorem nth_rev {xs : List Int} {n p : Nat} (h : xs.length = n) (hp : p < n) : nth xs.reverse p = nth xs (n - 1 - p) := by
  simp only [nth, List.getD_eq_getElem?_getD]
  rw [List.getElem?_reverse (by omega), h]
theorem rvL_all {xs : List Int} {n k d : Nat} (h : xs.length = n) (hkd : k + d + 1 = n) (hd : d ≤ k) : rvL xs n k = xs.reverse := by
  apply ext_nth (by rw [rvL, mapTo_length, List.length_reverse]; exact h.symm)
  intro p hp
  rw [rvL, mapTo_length] at hp
  rw [rvL, mapTo_nth hp, nth_rev h hp]
  by_cases e : p < k ∨ n ≤ p + k
  · rw [if_pos e]
  · rw [if_neg e, show n - 1 - p = p by omega]
theorem rvL_at {xs : List Int} {n k d p : Nat} (hkd : k + d + 1 = n) (hlt : k < d) (hp : p = k ∨ p = d) : nth (rvL xs n k) p = nth xs p := by
  rw [rvL, mapTo_nth (by omega), if_neg (by omega)]
theorem rvL_set {xs : List Int} {n k d : Nat} (hkd : k + d + 1 = n) (hlt : k < d) : ((vals (rvL xs n k)).set k (.int .i64 (nth xs d))).set d (.int .i64 (nth xs k)) = vals (rvL xs n (k + 1)) := by
  unfold rvL
  rw [mapTo_set, mapTo_set]
  congr 1
  refine mapTo_congr fun p hp => ?_
  by_cases e1 : p = d
  · subst e1
    rw [if_pos rfl, if_pos (by omega), show n - 1 - p = k by omega]
  · rw [if_neg e1]
    by_cases e2 : p = k
    · subst e2
      rw [if_pos rfl, if_pos (by omega), show n - 1 - p = d by omega]
    · rw [if_neg e2]
      by_cases e3 : p < k ∨ n ≤ p + k
      · rw [if_pos e3, if_pos (by omega)]
      · rw [if_neg e3, if_neg (by omega)]
theorem reverse_any (A : Option Addr) (c n lo : Nat) (xs : List Int) (w : World) (h : Ow w lo A n c xs) (hm : n ≤ 1099511627776) :
    Calls Try.prog 122 #[.slice A n c] w fun e w' => e = .returned (.tuple #[]) ∧ Ow w' lo A n c xs.reverse ∧ w.grownBy w' (Value.slice A n c).ownBlock := by
  have hl := Lib.hid h.len
  by_cases h0 : n = 0
  · subst h0
    have hx : xs = [] := List.length_eq_zero_iff.1 hl.out
    subst hx
    go_enter Try.func122, Try.ntmps122
    go_wp2
    go_loop [2, 3] (fun i j => i = .int .i64 0 ∧ j = .int .i64 (-1)) (fun _ _ => 0)
    case atStart => exact ⟨rfl, rfl⟩
    case round =>
      obtain ⟨rfl, rfl⟩ := hrel
      go_wp2
      go_end0
      exact ⟨rfl, h, World.grownBy.refl _ _⟩
  · obtain ⟨g, rfl, hlo, hg⟩ := h.form (by omega)
    go_enter Try.func122, Try.ntmps122
    go_wp2
    go_loopw [2, 3] (fun i j wr => ∃ k d : Nat, k + d + 1 = n ∧ k ≤ d + 1 ∧ i = .int .i64 k ∧ j = .int .i64 d ∧ Ow wr lo (some ⟨g, 0, none⟩) n c (rvL xs n k) ∧ w.grownBy wr (some g)) (fun i j _ => n - (intOf i).toNat)
    case atStart => exact ⟨0, n - 1, by omega, by omega, rfl, by congr 1; omega, by rw [rvL_zero hl.out]; exact h, World.grownBy.refl _ _⟩
    case round =>
      obtain ⟨k, d, hkd, hk1, rfl, rfl, ho, hgr⟩ := hrel
      by_cases hlt : k < d
      · have hkI : (k : Int) < (d : Int) := by omega
        have ck := ho.cell (show k < n by omega)
        have cd := ho.cell (show d < n by omega)
        rw [rvL_at hkd hlt (.inl rfl)] at ck
        rw [rvL_at hkd hlt (.inr rfl)] at cd
        obtain ⟨ck1, ck2⟩ := ck
        obtain ⟨cd1, cd2⟩ := cd
        have hs1 := World.ownsRow.stored ho k (.int .i64 (nth xs d))
        have hs2 := World.ownsRow.stored hs1.1 d (.int .i64 (nth xs k))
        rw [rvL_set hkd hlt] at hs2
        have Hs := Lib.hid (show Ow (((wr.setCell ⟨g, k, none⟩ (.int .i64 (nth xs d))).setCell ⟨g, d, none⟩ (.int .i64 (nth xs k)))) lo (some ⟨g, 0, none⟩) n c (rvL xs n (k + 1)) ∧ w.grownBy (((wr.setCell ⟨g, k, none⟩ (.int .i64 (nth xs d))).setCell ⟨g, d, none⟩ (.int .i64 (nth xs k)))) (some g) from ⟨hs2.1, (hgr.trans hs1.2).trans hs2.2⟩)
        clear hs1 hs2
        have hne : k ≠ d := by omega
        go_wp2
        go_region
        go_wp2
        go_roundw
        case rel => exact ⟨k + 1, d - 1, by omega, by omega, by go_num, by congr 1; omega, Hs.out.1, ⟨Hs.out.2.os, Hs.out.2.tape, Hs.out.2.output, Hs.out.2.size, Hs.out.2.block⟩⟩
        case measure => simp [intOf]; omega
      · have hE := Lib.hid (rvL_all hl.out hkd (by omega))
        rw [hE.out] at ho
        have hkI : ¬ ((k : Int) < (d : Int)) := by omega
        go_wp2
        go_end0
        exact ⟨rfl, ho, hgr⟩
end Go.Proofs.Ytgeedgljabdllaa
