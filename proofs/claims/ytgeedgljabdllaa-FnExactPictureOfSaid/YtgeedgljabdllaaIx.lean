import Derived.Test.YtgeedgljabdllaaBase
namespace Go.Proofs.Ytgeedgljabdllaa
open Go.ChangeShapes Go.WideShapes Go.ChangeAt Go.RowKit

/-- whether v is among the first n. -/
def memTo (xs : List Int) (v : Int) : Nat → Bool
  | 0 => false
  | k + 1 => memTo xs v k || (nth xs k == v)
theorem memTo_hit {xs : List Int} {v : Int} {k n : Nat} (hk : k < n) (e : nth xs k = v) : memTo xs v n = true := by
  induction n with
  | zero => omega
  | succ n ih =>
    simp only [memTo, Bool.or_eq_true, beq_iff_eq]
    by_cases h : k = n
    · subst h; exact .inr e
    · exact .inl (ih (by omega))
theorem memTo_congr {xs ys : List Int} {v : Int} {n : Nat} (h : ∀ i, i < n → nth xs i = nth ys i) : memTo xs v n = memTo ys v n := by
  induction n with
  | zero => rfl
  | succ n ih => simp only [memTo, ih (fun i hi => h i (by omega)), h n (by omega)]
theorem nth_take {xs : List Int} {k i : Nat} (h : i < k) : nth (xs.take k) i = nth xs i := by
  simp only [nth, List.getD_eq_getElem?_getD, List.getElem?_take, if_pos h]
theorem Rd.take {w : World} {B : Nat} {A : Option Addr} {n k : Nat} {xs : List Int} (h : Rd w B A n xs) (hk : k ≤ n) : Rd w B A k (xs.take k) :=
  ⟨by rw [List.length_take, h.1]; omega, fun h0 => by
    obtain ⟨b, off, e, hb, hc⟩ := h.2 (by omega)
    exact ⟨b, off, e, hb, fun i hi => by rw [nth_take hi]; exact hc i (by omega)⟩⟩

theorem index_any (A : Option Addr) (c n B : Nat) (xs : List Int) (v : Int) (w : World) (h : Rd w B A n xs) (hm : n ≤ 1099511627776) :
    Calls Try.prog 123 #[.slice A n c, .int .i64 v] w fun e w' => ∃ r : Int, e = .returned (.int .i64 r) ∧ decide (0 ≤ r) = memTo xs v n ∧ w = w' := by
  go_enter Try.func123, Try.ntmps123
  go_wp2
  go_loop [8] (fun i => ∃ k : Nat, k ≤ n ∧ i = .int .i64 k ∧ memTo xs v k = false) (fun i => n - (intOf i).toNat)
  case atStart => exact ⟨0, Nat.zero_le _, rfl, rfl⟩
  case round =>
    obtain ⟨k, hk, rfl, hno⟩ := hrel
    by_cases hlt : k < n
    · obtain ⟨b, off, rfl, hbB, hck⟩ := h.at_ hlt
      cases e : (v == nth xs k)
      · have Hn := Lib.hid (show memTo xs v (k + 1) = false by
          simp only [memTo, hno, Bool.false_or]
          simp only [beq_eq_false_iff_ne, ne_eq] at e ⊢
          exact fun h => e h.symm)
        go_wp2
        go_round
        case rel => exact ⟨k + 1, by omega, by go_num, Hn.out⟩
        case measure => simp [intOf]; omega
      · have Hn := Lib.hid (memTo_hit (v := v) hlt (by simpa using (beq_iff_eq.1 e).symm))
        go_wp2
        go_ret
        exact ⟨_, rfl, by rw [Hn.out]; simp, rfl⟩
    · obtain rfl : k = n := by omega
      have Hn := Lib.hid hno
      go_wp2
      go_ret
      exact ⟨_, rfl, by first | decide | (rw [Hn.out]; rfl), rfl⟩
theorem contains_any (A : Option Addr) (c n B : Nat) (xs : List Int) (v : Int) (w : World) (h : Rd w B A n xs) (hm : n ≤ 1099511627776) :
    Calls Try.prog 121 #[.slice A n c, .int .i64 v] w fun e w' => e = .returned (.bool (memTo xs v n)) ∧ w = w' := by
  go_enter Try.func121, Try.ntmps121
  go_wp2_with fail
  refine (index_any _ _ _ _ _ _ _ h hm).mono ?_
  rintro e w' ⟨r, rfl, hr, rfl⟩
  have Hr := Lib.hid hr; clear hr
  go_wp2
  go_ret
  exact ⟨by rw [← Hr.out]; rfl, rfl⟩
end Go.Proofs.Ytgeedgljabdllaa
