import Derived.Test.YtgeedgljabdllaaBo
import Derived.Test.YtgeedgljabdllaaEightA
import Derived.Test.YtgeedgljabdllaaC1
set_option maxRecDepth 8000
namespace Go.Proofs.Ytgeedgljabdllaa
open Go.ChangeShapes Go.WideShapes Go.ChangeAt Go.RowKit
/-! the reference's clues. -/
def clueL (L : List Bool) : List Int := if L.length ≤ 8 then cl L else []
def cS (L : List Bool) (k : Nat) : List Int × Nat := (List.range k).foldl (fun s j => stp s (nb L j)) ([], 0)
theorem cS_succ (L : List Bool) (k : Nat) : cS L (k + 1) = stp (cS L k) (nb L k) := by simp [cS, List.range_succ]
theorem take_nb {L : List Bool} {k : Nat} (h : k < L.length) : L.take (k + 1) = L.take k ++ [nb L k] := by
  rw [List.take_add_one, List.getElem?_eq_getElem h]
  simp [nb, List.getD_eq_getElem?_getD, h]
theorem cS_take (L : List Bool) : ∀ k, k ≤ L.length → cS L k = sF (L.take k) := by
  intro k
  induction k with
  | zero => intro _; rfl
  | succ k ih => intro h; rw [cS_succ, ih (by omega), take_nb (by omega), sF_snoc]
theorem cS_all (L : List Bool) : cS L (L.length + 1) = (cl L, 0) := by
  have h0 : nb L L.length = false := by simp [nb, List.getD_eq_getElem?_getD]
  rw [cS_succ, cS_take L _ (Nat.le_refl _), List.take_length, h0]
  unfold stp cl fin
  by_cases h : 0 < (sF L).2 <;> simp [h]
theorem stp_le (s : List Int × Nat) (b : Bool) : (stp s b).1.length ≤ s.1.length + 1 ∧ (stp s b).2 ≤ s.2 + 1 := by
  unfold stp
  cases b
  · by_cases h : 0 < s.2 <;> simp [h]
  · simp
theorem cS_le (L : List Bool) (k : Nat) : (cS L k).1.length ≤ k ∧ (cS L k).2 ≤ k := by
  induction k with
  | zero => simp [cS]
  | succ k ih =>
    rw [cS_succ]
    have := stp_le (cS L k) (nb L k)
    omega
theorem specClueOf (A : Option Addr) (n c B : Nat) (L : List Bool) (w : World) (h : RdF w B A n L) (hB : B ≤ w.heap.size) (hm : n ≤ 1099511627776) :
    Calls Try.prog 55 #[.slice A n c] w (RetSl w (clueL L)) := by
  have hb0 : Below w.heap.size w (w.alloc (.cells #[] 3)) := (Below.refl _ _).alloc (Nat.le_refl _) _
  have hO := Ow.made0 w w.heap.size (Nat.le_refl _)
  have hlen := Lib.hid h.1
  by_cases h8 : n ≤ 8
  · have Hfin := Lib.hid (show (cS L (n + 1)).1 = clueL L by rw [← hlen.out, cS_all]; simp [clueL, hlen.out, h8])
    go_enter Try.func55, Try.ntmps55
    go_wp2
    go_loopw [3, 4, 5] (fun v r i wr => ∃ (k : Nat) (A' : Option Addr) (c' : Nat), k ≤ n + 1 ∧ i = .int .i64 k ∧ r = .int .i64 (cS L k).2 ∧ v = .slice A' (cS L k).1.length c' ∧ Ow wr w.heap.size A' (cS L k).1.length c' (cS L k).1 ∧ Below w.heap.size w wr) (fun _ _ i _ => n + 1 - (intOf i).toNat)
    case atStart => exact ⟨0, _, _, by omega, rfl, rfl, rfl, hO, hb0⟩
    case round =>
      obtain ⟨k, A', c', hk, rfl, rfl, rfl, ho, hb⟩ := hrel
      have hle := cS_le L k
      have hs := cS_succ L k
      obtain ⟨os, hos⟩ : ∃ os, os = (cS L k).1 := ⟨_, rfl⟩
      obtain ⟨r, hr⟩ : ∃ r, r = (cS L k).2 := ⟨_, rfl⟩
      have hpr : cS L k = (os, r) := by rw [hos, hr]
      rw [hpr] at hs hle ho
      rw [hpr]
      simp only at hs hle ho ⊢
      have hq : os.length ≤ 1099511627776 := by omega
      have hr9 : (r : Int) ≤ 9 := by omega
      have HP := Lib.hid hpr
      clear hos hr hpr
      have Hs := Lib.hid hs; clear hs
      by_cases hlt : k < n
      · obtain ⟨b, off, rfl, hbB, hck⟩ := (h.below (hb.mono hB)).at_ hlt
        cases hbit : nb L k
        · have Hs' := Lib.hid Hs.out
          rw [hbit] at hck
          by_cases h0 : 0 < r
          · have e1 := Lib.hid (show cS L (k + 1) = (os ++ [(r : Int)], 0) by rw [Hs'.out, hbit]; simp [stp, h0])
            have h0I : (0 : Int) < (r : Int) := by omega
            clear Hs Hs' hbit
            go_wp2_with (at_builtin; refine push_int rfl (.tmp 32) (.tmp 34) rfl w.heap.size A' _ c' os _ rfl rfl ho hq hb.size ?_; intro A'' c'' w1 ho1 hg1)
            go_roundw
            case rel =>
              refine ⟨k + 1, A'', c'', by omega, by go_num, ?_, ?_, ?_, push_below hb ho (Nat.le_refl _) hb.size hg1⟩
              · rw [e1.out]; rfl
              · rw [e1.out]; simp
              · rw [e1.out]; simpa using ho1
            case measure => simp [intOf]; omega
          · have e1 := Lib.hid (show cS L (k + 1) = (os, 0) by rw [Hs'.out, hbit]; simp [stp, h0])
            obtain rfl : r = 0 := by omega
            clear Hs Hs' hbit h0
            go_wp2
            go_roundw
            case rel => exact ⟨k + 1, A', c', by omega, by go_num, by rw [e1.out] <;> rfl, by rw [e1.out], by rw [e1.out]; exact ho, hb⟩
            case measure => simp [intOf]; omega
        · have e1 := Lib.hid (show cS L (k + 1) = (os, r + 1) by rw [Hs.out, hbit]; simp [stp])
          rw [hbit] at hck
          clear Hs hbit
          go_wp2
          go_roundw
          case rel => exact ⟨k + 1, A', c', by omega, by go_num, by rw [e1.out]; go_num, by rw [e1.out], by rw [e1.out]; exact ho, hb⟩
          case measure => simp [intOf]; omega
      · by_cases hkn : k = n
        · have hbit : nb L k = false := by simp [nb, List.getD_eq_getElem?_getD, List.getElem?_eq_none (show L.length ≤ k by rw [hlen.out]; omega)]
          have Hs' := Lib.hid Hs.out
          have hknI : ¬ ((k : Int) < (n : Int)) := by omega
          have hknI2 : ((k : Int) ≤ (n : Int)) := by omega
          have Hkn := Lib.hid hkn
          clear hkn
          by_cases h0 : 0 < r
          · have e1 := Lib.hid (show cS L (k + 1) = (os ++ [(r : Int)], 0) by rw [Hs'.out, hbit]; simp [stp, h0])
            have h0I : (0 : Int) < (r : Int) := by omega
            clear Hs Hs' hbit
            go_wp2_with (at_builtin; refine push_int rfl (.tmp 32) (.tmp 34) rfl w.heap.size A' _ c' os _ rfl rfl ho hq hb.size ?_; intro A'' c'' w1 ho1 hg1)
            go_roundw
            case rel =>
              have := Hkn.out
              refine ⟨k + 1, A'', c'', by omega, by go_num, ?_, ?_, ?_, push_below hb ho (Nat.le_refl _) hb.size hg1⟩
              · rw [e1.out]; rfl
              · rw [e1.out]; simp
              · rw [e1.out]; simpa using ho1
            case measure => have := Hkn.out; simp [intOf]; omega
          · have e1 := Lib.hid (show cS L (k + 1) = (os, 0) by rw [Hs'.out, hbit]; simp [stp, h0])
            obtain rfl : r = 0 := by omega
            clear Hs Hs' hbit h0
            go_wp2
            go_roundw
            case rel => have := Hkn.out; exact ⟨k + 1, A', c', by omega, by go_num, by rw [e1.out] <;> rfl, by rw [e1.out], by rw [e1.out]; exact ho, hb⟩
            case measure => have := Hkn.out; simp [intOf]; omega
        · have hkI : ¬ ((k : Int) ≤ (n : Int)) := by omega
          have hkN : k = n + 1 := by omega
          have Hk := Lib.hid hkN
          clear hkN hkn hlt
          go_wp2
          go_ret
          have hE : os = clueL L := by rw [← Hfin.out, ← Hk.out, HP.out]
          subst hE
          exact retSl_mk ho hb
  · have hL : clueL L = [] := by simp [clueL, hlen.out, h8]
    have HL := Lib.hid hL; clear hL
    have h8I : ¬ ((n : Int) ≤ 8) := by omega
    go_enter Try.func55, Try.ntmps55
    go_wp2
    go_loopw [3, 4, 5] (fun v r i wr => i = .int .i64 0 ∧ r = .int .i64 0 ∧ v = .slice (some ⟨w.heap.size, 0, none⟩) 0 0 ∧ wr = w.alloc (.cells #[] 3)) (fun _ _ _ _ => 0)
    case atStart => exact ⟨rfl, rfl, rfl, rfl⟩
    case round =>
      obtain ⟨rfl, rfl, rfl, rfl⟩ := hrel
      go_wp2
      go_ret
      rw [HL.out]
      exact ⟨_, _, rfl, hO, hb0⟩
end Go.Proofs.Ytgeedgljabdllaa
