import Derived.Test.YtgeedgljabdllaaLs
set_option maxRecDepth 8000
namespace Go.Proofs.Ytgeedgljabdllaa
open Go.ChangeShapes Go.WideShapes Go.ChangeAt Go.RowKit
/-! what is known of a line; clues that are valid. -/
def kk (known : List Int) (j : Nat) (b : Bool) : Bool := if j < known.length then (if b then nth known j != 0 else nth known j != 1) else !b
def allN (xs : List Int) (lo hi : Int) : Bool := decide (∀ k, k < xs.length → inr (nth xs k) lo hi = true)
def kvB (xs : List Int) : Bool := allN xs (-1) 1 && inr (xs.length : Int) 1 8
def cvB (xs : List Int) (cells : Int) : Bool := allN xs 1 8 && inr cells 1 8 && decide (sI xs xs.length + (xs.length : Int) - 1 ≤ cells)
theorem allN_f {xs : List Int} {lo hi : Int} {k : Nat} (hk : k < xs.length) (h : inr (nth xs k) lo hi = false) : allN xs lo hi = false := by
  simp only [allN, decide_eq_false_iff_not]
  intro H
  have := H k hk
  rw [h] at this
  exact Bool.noConfusion this
theorem allN_t {xs : List Int} {lo hi : Int} {n : Nat} (hn : xs.length = n) (h : ∀ k, k < n → inr (nth xs k) lo hi = true) : allN xs lo hi = true := by
  simp only [allN, decide_eq_true_eq]
  intro k hk
  exact h k (by omega)
theorem allN_at {xs : List Int} {lo hi : Int} (h : allN xs lo hi = true) {k : Nat} (hk : k < xs.length) : lo ≤ nth xs k ∧ nth xs k ≤ hi := by
  simp only [allN, decide_eq_true_eq] at h
  exact inr_t (h k hk)
theorem shr_bit' (M v : Nat) : ((((M : Nat) : Int) / 2 ^ v).tmod 2 == 1) = M.testBit v := by
  rw [Nat.testBit_eq_decide_div_mod_eq]
  have e : (((M : Nat) : Int) / 2 ^ v) = ((M / 2 ^ v : Nat) : Int) := by simp
  rw [e, Int.tmod_eq_emod_of_nonneg (Int.natCast_nonneg _)]
  rw [Bool.eq_iff_iff]
  simp
  omega
theorem specSame12 (A A' : Option Addr) (n c n' c' B B' : Nat) (L : List Bool) (xs : List Int) (w : World) (h : RdF w B A n L) (hB : B ≤ w.heap.size) (hm : n ≤ 1099511627776) (h' : Rd w B' A' n' xs) (hB' : B' ≤ w.heap.size) :
    Calls Try.prog 95 #[.slice A n c, .slice A' n' c'] w fun e w' => e = .returned (.bool (same (clueL L) xs)) ∧ Below w.heap.size w w' := by
  have hc8 : (clueL L).length ≤ 9 := by
    have := cS_le L (L.length + 1)
    rw [cS_all] at this
    unfold clueL
    split
    · simp at this; omega
    · simp
  go_enter Try.func95, Try.ntmps95
  go_wp2_with fail
  refine (specClueOf A n c B L _ h hB hm).mono ?_
  rintro e w1 ⟨A1, c1, rfl, ho1, hb1⟩
  go_wp2_with fail
  refine (specL8Same A1 A' c1 c' _ n' w1.heap.size B' _ _ w1 ho1.rd (h'.below (hb1.mono hB')) (by omega)).mono ?_
  rintro e w2 ⟨rfl, hb2⟩
  go_wp2
  go_ret
  exact ⟨rfl, step hb1 hb2⟩
theorem specLine12 (m n : Nat) (w : World) (hn : n ≤ 9) :
    Calls Try.prog 93 #[.int .i64 m, .int .i64 n] w fun e w' => ∃ A c, e = .returned (.slice A n c) ∧ OwF w' w.heap.size A n c (lnB m n) ∧ Below w.heap.size w w' := by
  have hb0 : Below w.heap.size w (w.alloc (.cells #[] 4)) := (Below.refl _ _).alloc (Nat.le_refl _) _
  have hO := OwF.made0 w w.heap.size (Nat.le_refl _)
  go_enter Try.func93, Try.ntmps93
  go_wp2
  go_loopw [5, 6] (fun v i wr => ∃ (k : Nat) (A' : Option Addr) (c' : Nat), k ≤ n ∧ i = .int .i64 k ∧ v = .slice A' k c' ∧ OwF wr w.heap.size A' k c' (lnB m k) ∧ Below w.heap.size w wr) (fun _ i _ => n - (intOf i).toNat)
  case atStart => exact ⟨0, _, _, by omega, rfl, rfl, hO, hb0⟩
  case round =>
    obtain ⟨k, A', c', hk, rfl, rfl, ho, hb⟩ := hrel
    by_cases hlt : k < n
    · have hkI : (k : Int) < (n : Int) := by omega
      have hk9 : k ≤ 1099511627776 := by omega
      have hsh := shr_bit' m k
      have hs := Lib.hid (lnB_succ m k)
      go_wp2_with (at_builtin; refine push_flag rfl (.tmp 13) (.tmp 19) rfl w.heap.size A' _ c' (lnB m k) _ rfl rfl ho hk9 hb.size ?_; intro A'' c'' w1 ho1 hg1)
      go_roundw
      case rel => exact ⟨k + 1, A'', c'', by omega, by go_num, rfl, by rw [hs.out]; exact ho1, push_belowF hb ho (Nat.le_refl _) hb.size hg1⟩
      case measure => simp [intOf]; omega
    · obtain rfl : k = n := by omega
      go_wp2
      go_ret
      exact ⟨_, _, rfl, ho, hb⟩
theorem specFits12 (A A' : Option Addr) (n c n' c' B B' : Nat) (L : List Bool) (xs : List Int) (w : World) (h : RdF w B A n L) (h' : Rd w B' A' n' xs) (hn : n ≤ n') (hm : n' ≤ 1099511627776) :
    Calls Try.prog 94 #[.slice A n c, .slice A' n' c'] w fun e w' => e = .returned (.bool (ft (kk xs) 0 L)) ∧ w = w' := by
  have hl := Lib.hid h.1
  have hl' := Lib.hid h'.1
  go_enter Try.func94, Try.ntmps94
  go_wp2
  go_loop [5] (fun i => ∃ k : Nat, k ≤ n ∧ i = .int .i64 k ∧ ∀ j, j < k → kk xs j (nb L j) = true) (fun i => n - (intOf i).toNat)
  case atStart => exact ⟨0, Nat.zero_le _, rfl, fun j hj => by omega⟩
  case round =>
    obtain ⟨k, hk, rfl, hall⟩ := hrel
    by_cases hlt : k < n
    · obtain ⟨b, off, rfl, hbB, hck⟩ := h.at_ hlt
      obtain ⟨b', off', rfl, hbB', hck'⟩ := h'.at_ (show k < n' by omega)
      have hkI : (k : Int) < (n : Int) := by omega
      have hkI' : (k : Int) < (n' : Int) := by omega
      have hkk := Lib.hid (show kk xs k (nb L k) = (if nb L k then nth xs k != 0 else nth xs k != 1) by unfold kk; rw [if_pos (by rw [hl'.out]; omega)])
      have Hall := Lib.hid hall; clear hall
      by_cases e0 : nth xs k = 0
      · rw [e0] at hck'
        cases hb : nb L k
        · have Hn := Lib.hid (show kk xs k (nb L k) = true by rw [hkk.out, hb, e0]; rfl)
          rw [hb] at hck
          clear hkk hb e0
          go_wp2
          go_round
          case rel => exact ⟨k + 1, by omega, by go_num, fun j hj => by
            by_cases e : j = k
            · subst e; exact Hn.out
            · exact Hall.out j (by omega)⟩
          case measure => simp [intOf]; omega
        · have Hn := Lib.hid (show kk xs k (nb L k) = false by rw [hkk.out, hb, e0]; rfl)
          rw [hb] at hck
          clear hkk hb e0
          go_wp2
          go_ret
          refine ⟨?_, rfl⟩
          have : ft (kk xs) 0 L = false := by
            rw [← Bool.not_eq_true, ft_iff]
            intro H
            have := H k (by rw [hl.out]; exact hlt)
            rw [Nat.zero_add, Hn.out] at this
            exact Bool.noConfusion this
          rw [this]
          rfl
      · have e0' : (nth xs k == 0) = false := by simpa using e0
        by_cases e1 : nth xs k = 1
        · rw [e1] at hck'
          cases hb : nb L k
          · have Hn := Lib.hid (show kk xs k (nb L k) = false by rw [hkk.out, hb, e1]; rfl)
            rw [hb] at hck
            clear hkk hb e0 e0' e1
            go_wp2
            go_ret
            refine ⟨?_, rfl⟩
            have : ft (kk xs) 0 L = false := by
              rw [← Bool.not_eq_true, ft_iff]
              intro H
              have := H k (by rw [hl.out]; exact hlt)
              rw [Nat.zero_add, Hn.out] at this
              exact Bool.noConfusion this
            rw [this]
            rfl
          · have Hn := Lib.hid (show kk xs k (nb L k) = true by rw [hkk.out, hb, e1]; rfl)
            rw [hb] at hck
            clear hkk hb e0 e0' e1
            go_wp2
            go_round
            case rel => exact ⟨k + 1, by omega, by go_num, fun j hj => by
              by_cases e : j = k
              · subst e; exact Hn.out
              · exact Hall.out j (by omega)⟩
            case measure => simp [intOf]; omega
        · have e1' : (nth xs k == 1) = false := by simpa using e1
          have Hn := Lib.hid (show kk xs k (nb L k) = true by rw [hkk.out]; cases nb L k <;> simp [e0, e1])
          clear hkk e0 e1
          go_wp2
          go_round
          case rel => exact ⟨k + 1, by omega, by go_num, fun j hj => by
            by_cases e : j = k
            · subst e; exact Hn.out
            · exact Hall.out j (by omega)⟩
          case measure => simp [intOf]; omega
    · obtain rfl : k = n := by omega
      go_wp2
      go_ret
      refine ⟨?_, rfl⟩
      have : ft (kk xs) 0 L = true := by
        rw [ft_iff]
        intro j hj
        rw [Nat.zero_add]
        exact hall j (by rw [hl.out] at hj; exact hj)
      rw [this]
      rfl
theorem specKnownValid (A : Option Addr) (n c B : Nat) (xs : List Int) (w : World) (h : Rd w B A n xs) (hm : n ≤ 1099511627776) :
    Calls Try.prog 92 #[.slice A n c] w fun e w' => e = .returned (.bool (kvB xs)) ∧ w = w' := by
  have hl := Lib.hid h.1
  go_enter Try.func92, Try.ntmps92
  go_wp2
  go_loop [3] (fun i => ∃ k : Nat, k ≤ n ∧ i = .int .i64 k ∧ ∀ j, j < k → inr (nth xs j) (-1) 1 = true) (fun i => n - (intOf i).toNat)
  case atStart => exact ⟨0, Nat.zero_le _, rfl, fun j hj => by omega⟩
  case round =>
    obtain ⟨k, hk, rfl, hall⟩ := hrel
    by_cases hlt : k < n
    · obtain ⟨b, off, rfl, hbB, hck⟩ := h.at_ hlt
      have hkI : (k : Int) < (n : Int) := by omega
      have Hall := Lib.hid hall; clear hall
      cases hv : inr (nth xs k) (-1) 1
      · have Hv := Lib.hid (allN_f (xs := xs) (by rw [hl.out]; exact hlt) hv)
        go_wp2_with (go_at_call 49; refine (l1In_any _ _ _ _).mono ?_; rintro e w' ⟨rfl, rfl⟩; rw [hv])
        go_ret
        exact ⟨by unfold kvB; rw [Hv.out]; rfl, rfl⟩
      · have Hv := Lib.hid hv
        go_wp2_with (go_at_call 49; refine (l1In_any _ _ _ _).mono ?_; rintro e w' ⟨rfl, rfl⟩; rw [hv])
        go_round
        case rel => exact ⟨k + 1, by omega, by go_num, fun j hj => by
          by_cases e : j = k
          · subst e; exact Hv.out
          · exact Hall.out j (by omega)⟩
        case measure => simp [intOf]; omega
    · obtain rfl : k = n := by omega
      have Hv := Lib.hid (allN_t hl.out hall)
      clear hall
      go_wp2_with (go_at_call 49; refine (l1In_any _ _ _ _).mono ?_; rintro e w' ⟨rfl, rfl⟩)
      go_ret
      exact ⟨by unfold kvB; rw [Hv.out, hl.out]; rfl, rfl⟩
theorem sI_bound {xs : List Int} {k : Nat} (h : ∀ j, j < k → inr (nth xs j) 1 8 = true) : (k : Int) ≤ sI xs k ∧ sI xs k ≤ 8 * k := by
  induction k with
  | zero => simp [sI]
  | succ k ih =>
    have h1 := ih (fun j hj => h j (by omega))
    have h2 := inr_t (h k (by omega))
    simp only [sI]
    omega
theorem specClueValid (A : Option Addr) (n c B : Nat) (xs : List Int) (cells : Int) (w : World) (h : Rd w B A n xs) (hm : n ≤ 1099511627776) :
    Calls Try.prog 48 #[.slice A n c, .int .i64 cells] w fun e w' => e = .returned (.bool (cvB xs cells)) ∧ w = w' := by
  have hl := Lib.hid h.1
  go_enter Try.func48, Try.ntmps48
  go_wp2
  go_loop [5, 6] (fun t i => ∃ k : Nat, k ≤ n ∧ i = .int .i64 k ∧ t = .int .i64 ((n : Int) - 1 + sI xs k) ∧ ∀ j, j < k → inr (nth xs j) 1 8 = true) (fun _ i => n - (intOf i).toNat)
  case atStart => exact ⟨0, Nat.zero_le _, rfl, by simp [sI], fun j hj => by omega⟩
  case round =>
    obtain ⟨k, hk, rfl, rfl, hall⟩ := hrel
    have hbd := sI_bound hall
    have hs := Lib.hid (show sI xs (k + 1) = sI xs k + nth xs k from rfl)
    generalize hS : sI xs k = S at *
    have HS := Lib.hid hS; clear hS
    by_cases hlt : k < n
    · obtain ⟨b, off, rfl, hbB, hck⟩ := h.at_ hlt
      have hkI : (k : Int) < (n : Int) := by omega
      have Hall := Lib.hid hall; clear hall
      cases hv : inr (nth xs k) 1 8
      · have Hv := Lib.hid (allN_f (xs := xs) (by rw [hl.out]; exact hlt) hv)
        go_wp2_with (go_at_call 49; refine (l1In_any _ _ _ _).mono ?_; rintro e w' ⟨rfl, rfl⟩; rw [hv])
        go_ret
        exact ⟨by unfold cvB; rw [Hv.out]; rfl, rfl⟩
      · have Hv := Lib.hid hv
        obtain ⟨v1, v8⟩ := inr_t hv
        go_wp2_with (go_at_call 49; refine (l1In_any _ _ _ _).mono ?_; rintro e w' ⟨rfl, rfl⟩; rw [hv])
        go_round
        case rel => exact ⟨k + 1, by omega, by go_num, by rw [hs.out]; congr 1; omega, fun j hj => by
          by_cases e : j = k
          · subst e; exact Hv.out
          · exact Hall.out j (by omega)⟩
        case measure => simp [intOf]; omega
    · obtain rfl : k = n := by omega
      have Hv := Lib.hid (allN_t hl.out hall)
      clear hall
      have He := Lib.hid (show cvB xs cells = (inr cells 1 8 && decide ((k : Int) - 1 + S ≤ cells)) by
        unfold cvB; rw [Hv.out, Bool.true_and, hl.out, HS.out]; congr 2; rw [show S + (k : Int) - 1 = (k : Int) - 1 + S by omega])
      cases hv : inr cells 1 8
      · go_wp2_with (go_at_call 49; refine (l1In_any _ _ _ _).mono ?_; rintro e w' ⟨rfl, rfl⟩; rw [hv])
        go_ret
        exact ⟨by rw [He.out, hv]; rfl, rfl⟩
      · go_wp2_with (go_at_call 49; refine (l1In_any _ _ _ _).mono ?_; rintro e w' ⟨rfl, rfl⟩; rw [hv])
        go_ret
        exact ⟨by rw [He.out, hv]; rfl, rfl⟩
end Go.Proofs.Ytgeedgljabdllaa
