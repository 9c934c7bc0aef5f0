import Derived.Test.YtgeedgljabdllaaLt
import Derived.Test.YtgeedgljabdllaaLw
import Derived.Test.YtgeedgljabdllaaIx
set_option maxRecDepth 8000
namespace Go.Proofs.Ytgeedgljabdllaa
open Go.ChangeShapes Go.WideShapes Go.ChangeAt Go.RowKit
/-! the program's clues. -/
theorem lineLength_any (n : Int) (w : World) : Calls Try.prog 108 #[.int .i64 n] w fun e w' => e = .returned (.bool (inr n 1 8)) ∧ w = w' := by
  by_cases h1 : 1 ≤ n
  · by_cases h8 : n ≤ 8
    · have Hr := Lib.hid (show inr n 1 8 = true by simp [inr, h1, h8])
      go_enter Try.func108, Try.ntmps108
      go_wp2
      go_ret
      exact ⟨by rw [Hr.out]; rfl, rfl⟩
    · have Hr := Lib.hid (show inr n 1 8 = false by simp [inr, h8])
      go_enter Try.func108, Try.ntmps108
      go_wp2
      go_ret
      exact ⟨by rw [Hr.out]; rfl, rfl⟩
  · have Hr := Lib.hid (show inr n 1 8 = false by simp [inr, h1])
    go_enter Try.func108, Try.ntmps108
    go_wp2
    go_ret
    exact ⟨by rw [Hr.out]; rfl, rfl⟩
theorem implKnownValid (A : Option Addr) (n c B : Nat) (xs : List Int) (w : World) (h : Rd w B A n xs) (hm : n ≤ 1099511627776) :
    Calls Try.prog 115 #[.slice A n c] w fun e w' => e = .returned (.bool (kvB xs)) ∧ w = w' := by
  have hl := Lib.hid h.1
  cases hn : inr (n : Int) 1 8
  · have He := Lib.hid (show kvB xs = false by simp [kvB, hl.out, hn])
    go_enter Try.func115, Try.ntmps115
    go_wp2_with (go_at_call 108; refine (lineLength_any _ _).mono ?_; rintro e w' ⟨rfl, rfl⟩; rw [hn])
    go_ret
    exact ⟨by rw [He.out]; rfl, rfl⟩
  · have HN := Lib.hid hn
    go_enter Try.func115, Try.ntmps115
    go_wp2_with (go_at_call 108; refine (lineLength_any _ _).mono ?_; rintro e w' ⟨rfl, rfl⟩; rw [hn])
    clear hn
    go_loop [11] (fun i => ∃ k : Nat, k ≤ n ∧ i = .int .i64 k ∧ ∀ j, j < k → inr (nth xs j) (-1) 1 = true) (fun i => n - (intOf i).toNat)
    case atStart => exact ⟨0, Nat.zero_le _, rfl, fun j hj => by omega⟩
    case round =>
      obtain ⟨k, hk, rfl, hall⟩ := hrel
      by_cases hlt : k < n
      · obtain ⟨b, off, rfl, hbB, hck⟩ := h.at_ hlt
        have hkI : (k : Int) < (n : Int) := by omega
        have Hall := Lib.hid hall; clear hall
        cases hv : inr (nth xs k) (-1) 1
        · have Hv := Lib.hid (allN_f (xs := xs) (by rw [hl.out]; exact hlt) hv)
          have hv2 := inr_f hv
          clear hv
          by_cases hlo : nth xs k < -1
          · clear hv2
            go_wp2
            go_ret
            exact ⟨by unfold kvB; rw [Hv.out]; rfl, rfl⟩
          · have hhi : 1 < nth xs k := by omega
            clear hv2
            go_wp2
            go_ret
            exact ⟨by unfold kvB; rw [Hv.out]; rfl, rfl⟩
        · have Hv := Lib.hid hv
          obtain ⟨v1, v2⟩ := inr_t hv
          clear hv
          go_wp2
          go_round
          case rel => exact ⟨k + 1, by omega, by go_num, fun j hj => by
            by_cases e : j = k
            · subst e; exact Hv.out
            · exact Hall.out j (by omega)⟩
          case measure => simp [intOf]; omega
      · obtain rfl : k = n := by omega
        have Hv := Lib.hid (allN_t hl.out hall)
        clear hall
        go_wp2
        go_ret
        exact ⟨by unfold kvB; rw [Hv.out, hl.out, HN.out]; rfl, rfl⟩
theorem sI_mono {xs : List Int} {k m : Nat} (h : ∀ j, k ≤ j → j < m → 1 ≤ nth xs j) (hkm : k ≤ m) : sI xs k + k ≤ sI xs m + m ∧ sI xs k ≤ sI xs m := by
  induction m with
  | zero => have : k = 0 := by omega
            subst this; omega
  | succ m ih =>
    by_cases e : k = m + 1
    · subst e; omega
    · have h1 := ih (fun j a b => h j a (by omega)) (by omega)
      have h2 := h m (by omega) (by omega)
      simp only [sI]
      omega
/-- the sum so far leaves room. -/
def room (xs : List Int) (cells : Int) (k : Nat) : Prop := ∀ j, j < k → 1 ≤ nth xs j ∧ sI xs (j + 1) + (j : Int) + 1 ≤ cells + 1
theorem cv_bad {xs : List Int} {cells : Int} {k : Nat} (hk : k < xs.length) (h : nth xs k < 1 ∨ cells + 1 - sI xs k - k ≤ nth xs k) : cvB xs cells = false := by
  cases h0 : cvB xs cells
  · rfl
  · unfold cvB at h0
    simp only [Bool.and_eq_true, decide_eq_true_eq] at h0
    obtain ⟨⟨h1, h2⟩, h3⟩ := h0
    have hall : ∀ j, j < xs.length → 1 ≤ nth xs j := fun j hj => (allN_at h1 hj).1
    have := hall k hk
    have hm := (sI_mono (xs := xs) (k := k + 1) (m := xs.length) (fun j _ hj => hall j hj) hk).1
    simp only [sI] at hm
    omega
theorem cv_good {xs : List Int} {cells : Int} (hc : inr cells 1 8 = true) (h : room xs cells xs.length) : cvB xs cells = true := by
  have h8 := inr_t hc
  have hall : ∀ j, j < xs.length → 1 ≤ nth xs j := fun j hj => (h j hj).1
  unfold cvB
  simp only [Bool.and_eq_true, decide_eq_true_eq]
  refine ⟨⟨allN_t rfl fun j hj => ?_, hc⟩, ?_⟩
  · have h1 := h j hj
    have h2 := (sI_mono (xs := xs) (k := 0) (m := j) (fun i _ hi => hall i (by omega)) (by omega)).2
    simp only [sI] at h1 h2
    simp only [inr, decide_eq_true_eq]
    omega
  · cases e : xs.length with
    | zero => simp [sI]; omega
    | succ q =>
      have h1 := (h q (by omega)).2
      omega
theorem room_sum {xs : List Int} {cells : Int} {k : Nat} (h : room xs cells k) (hc : cells ≤ 8) : 0 ≤ sI xs k ∧ sI xs k + k ≤ 9 ∧ (0 ≤ cells → sI xs k + k ≤ cells + 1) ∧ k ≤ 4 := by
  have h2 := sI_mono (xs := xs) (k := 0) (m := k) (fun i _ hi => (h i hi).1) (by omega)
  have h3 : (k : Int) ≤ sI xs k := by
    clear h2
    induction k with
    | zero => simp [sI]
    | succ k ih =>
      have := ih (fun j hj => h j (by omega))
      have := (h k (by omega)).1
      simp only [sI]; omega
  cases k with
  | zero => simp [sI]; omega
  | succ q =>
    have h1 := (h q (by omega)).2
    simp only [sI] at h1 h2 h3 ⊢
    omega
theorem implClueValid (A : Option Addr) (n c B : Nat) (xs : List Int) (cells : Int) (w : World) (h : Rd w B A n xs) (hm : n ≤ 1099511627776) (hx : B64 xs) :
    Calls Try.prog 100 #[.slice A n c, .int .i64 cells] w fun e w' => e = .returned (.bool (cvB xs cells)) ∧ w = w' := by
  have hl := Lib.hid h.1
  cases hn : inr cells 1 8
  · have He := Lib.hid (show cvB xs cells = false by simp [cvB, hn])
    go_enter Try.func100, Try.ntmps100
    go_wp2_with (go_at_call 108; refine (lineLength_any _ _).mono ?_; rintro e w' ⟨rfl, rfl⟩; rw [hn])
    go_ret
    exact ⟨by rw [He.out]; rfl, rfl⟩
  · have HN := Lib.hid hn
    obtain ⟨c1, c8⟩ := inr_t hn
    go_enter Try.func100, Try.ntmps100
    go_wp2_with (go_at_call 108; refine (lineLength_any _ _).mono ?_; rintro e w' ⟨rfl, rfl⟩; rw [hn])
    clear hn
    go_loop [5, 15] (fun t i => ∃ k : Nat, k ≤ n ∧ i = .int .i64 k ∧ t = .int .i64 (cells + 1 - sI xs k - k) ∧ room xs cells k) (fun _ i => n - (intOf i).toNat)
    case atStart => exact ⟨0, Nat.zero_le _, rfl, by simp [sI], fun j hj => by omega⟩
    case round =>
      obtain ⟨k, hk, rfl, rfl, hall⟩ := hrel
      have hrs := room_sum hall c8
      have hs := Lib.hid (show sI xs (k + 1) = sI xs k + nth xs k from rfl)
      have Hbad := Lib.hid (fun (hk : k < xs.length) hh => cv_bad (xs := xs) (cells := cells) hk hh)
      generalize hS : sI xs k = S at *
      clear hS
      have Hall := Lib.hid hall; clear hall
      by_cases hlt : k < n
      · obtain ⟨b, off, rfl, hbB, hck⟩ := h.at_ hlt
        have hkI : (k : Int) < (n : Int) := by omega
        have hxk := hx k
        by_cases h1 : nth xs k < 1
        · have Hv := Lib.hid (Hbad.out (by rw [hl.out]; exact hlt) (.inl h1))
          go_wp2
          go_ret
          exact ⟨by rw [Hv.out]; rfl, rfl⟩
        · by_cases h2 : cells + 1 - S - k ≤ nth xs k
          · have Hv := Lib.hid (Hbad.out (by rw [hl.out]; exact hlt) (.inr h2))
            go_wp2
            go_ret
            exact ⟨by rw [Hv.out]; rfl, rfl⟩
          · have h2' : nth xs k < cells + 1 - S - k := by omega
            have H1 := Lib.hid h1
            clear h1
            have h1 : 1 ≤ nth xs k := by have := H1.out; omega
            go_wp2
            go_round
            case rel => exact ⟨k + 1, by omega, by go_num, by rw [hs.out]; congr 1; omega, fun j hj => by
              by_cases e : j = k
              · subst e; rw [hs.out]; omega
              · exact Hall.out j (by omega)⟩
            case measure => simp [intOf]; omega
      · obtain rfl : k = n := by omega
        have Hv := Lib.hid (cv_good (xs := xs) HN.out (by rw [hl.out]; exact Hall.out))
        go_wp2
        go_ret
        exact ⟨by rw [Hv.out]; rfl, rfl⟩
end Go.Proofs.Ytgeedgljabdllaa
