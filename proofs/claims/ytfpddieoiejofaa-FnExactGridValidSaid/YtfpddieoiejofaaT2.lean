import Derived.Test.YtfpddieoiejofaaRows
import Derived.WalkKit
import Derived.ProofKit
import Derived.OpenShut
import Derived.ShutString
import Derived.ChangeOld
import Derived.Below
import Derived.Lib.Hide
namespace Go.Proofs.Ytfpddieoiejofaa
open Go.ChangeShapes Go.WideShapes Go.ChangeAt Go.RowKit

def inr (n lo hi : Int) : Bool := decide (lo ≤ n ∧ n ≤ hi)
def nth (xs : List Int) (k : Nat) : Int := xs.getD k 0

theorem inr_t {n lo hi : Int} (h : inr n lo hi = true) : lo ≤ n ∧ n ≤ hi := by simpa [inr] using h
theorem inr_f {n lo hi : Int} (h : inr n lo hi = false) : ¬ (lo ≤ n ∧ n ≤ hi) := by simpa [inr] using h

theorem l1In_any (n lo hi : Int) (w : World) : Calls Try.prog 40 #[.int .i64 n, .int .i64 lo, .int .i64 hi] w fun e w' => e = .returned (.bool (inr n lo hi)) ∧ w = w' := by
  by_cases h1 : lo ≤ n
  · go_enter Try.func40, Try.ntmps40
    go_wp2
    go_ret
    exact ⟨by simp [inr, h1], rfl⟩
  · go_enter Try.func40, Try.ntmps40
    go_wp2
    go_ret
    exact ⟨by simp [inr]; omega, rfl⟩

theorem sizeValid_any (n : Int) (w : World) : Calls Try.prog 46 #[.int .i64 n] w fun e w' => e = .returned (.bool (inr n 2 4)) ∧ w = w' := by
  by_cases h1 : 2 ≤ n
  · go_enter Try.func46, Try.ntmps46
    go_wp2
    go_ret
    exact ⟨by simp [inr, h1], rfl⟩
  · go_enter Try.func46, Try.ntmps46
    go_wp2
    go_ret
    exact ⟨by simp [inr]; omega, rfl⟩

def Rd (w : World) (B : Nat) (A : Option Addr) (n : Nat) (xs : List Int) : Prop :=
  xs.length = n ∧ (0 < n → ∃ b off, A = some ⟨b, off, none⟩ ∧ b < B ∧ ∀ k, k < n → w.cell? ⟨b, off + k, none⟩ = some (.int .i64 (nth xs k)))

theorem Rd.at_ {w : World} {B : Nat} {A : Option Addr} {n : Nat} {xs : List Int} (h : Rd w B A n xs) {k : Nat} (hk : k < n) :
    ∃ b off, A = some ⟨b, off, none⟩ ∧ b < B ∧ w.cell? ⟨b, off + k, none⟩ = some (.int .i64 (nth xs k)) := by
  obtain ⟨b, off, e, hb, hc⟩ := h.2 (by omega)
  exact ⟨b, off, e, hb, hc k hk⟩

def okTo (xs : List Int) (size : Int) (k : Nat) : Prop := ∀ j, j < k → inr (nth xs j) 0 size = true
theorem okTo_zero {xs : List Int} {size : Int} : okTo xs size 0 := fun j hj => by omega
theorem okTo_succ {xs : List Int} {size : Int} {k : Nat} (h : okTo xs size k) (hv : inr (nth xs k) 0 size = true) : okTo xs size (k + 1) := fun j hj => by
  by_cases e : j = k
  · subst e; exact hv
  · exact h j (by omega)
def gv (xs : List Int) (size : Int) : Bool := inr size 2 4 && ((xs.length : Int) == size * size) && xs.all (fun x => inr x 0 size)

theorem okTo_all {xs : List Int} {size : Int} {n : Nat} (h : okTo xs size n) (hn : xs.length = n) : xs.all (fun x => inr x 0 size) = true := by
  subst hn
  rw [List.all_eq_true]
  intro x hx
  obtain ⟨j, hj, rfl⟩ := List.getElem_of_mem hx
  have := h j hj
  simpa [nth, List.getD_eq_getElem?_getD, hj] using this
theorem not_all {xs : List Int} {size : Int} {n k : Nat} (hn : xs.length = n) (hk : k < n) (h : inr (nth xs k) 0 size = false) : gv xs size = false := by
  subst hn
  have : xs.all (fun x => inr x 0 size) = false := by
    rw [List.all_eq_false]
    exact ⟨xs[k], List.getElem_mem hk, by simpa [nth, List.getD_eq_getElem?_getD, hk] using h⟩
  simp only [gv, this, Bool.and_false]

theorem specGridValid (A : Option Addr) (c n B : Nat) (xs : List Int) (size : Int) (w : World) (h : Rd w B A n xs) (hm : n ≤ 1099511627776) :
    Calls Try.prog 16 #[.slice A n c, .int .i64 size] w fun e w' => e = .returned (.bool (gv xs size)) ∧ w = w' := by
  go_enter Try.func16, Try.ntmps16
  go_wp2
  go_loop [5] (fun i => ∃ k : Nat, k ≤ n ∧ i = .int .i64 k ∧ okTo xs size k) (fun i => n - (intOf i).toNat)
  case atStart => exact ⟨0, Nat.zero_le _, rfl, okTo_zero⟩
  case round =>
    obtain ⟨k, hk, rfl, hok⟩ := hrel
    by_cases hlt : k < n
    · have hlen := Lib.hid h.1
      obtain ⟨b, off, rfl, hb, hck⟩ := h.at_ hlt
      cases hv : inr (nth xs k) 0 size
      · go_wp2_with (go_at_call 40; refine (l1In_any _ _ _ _).mono ?_; rintro e w' ⟨rfl, rfl⟩)
        go_ret
        exact ⟨by rw [not_all hlen.out hlt hv]; rfl, rfl⟩
      · go_wp2_with (go_at_call 40; refine (l1In_any _ _ _ _).mono ?_; rintro e w' ⟨rfl, rfl⟩)
        go_round
        case rel => exact ⟨k + 1, by omega, by go_num, okTo_succ hok hv⟩
        case measure => simp [intOf]; omega
    · obtain rfl : k = n := by omega
      have hall := Lib.hid (okTo_all hok h.1)
      have hlen := Lib.hid h.1
      cases hs : inr size 2 4
      · go_wp2_with (go_at_call 40; refine (l1In_any _ _ _ _).mono ?_; rintro e w' ⟨rfl, rfl⟩)
        go_ret
        exact ⟨by simp [gv, hs], rfl⟩
      · obtain ⟨h2, h4⟩ := inr_t hs
        have hsq : size = 2 ∨ size = 3 ∨ size = 4 := by omega
        rcases hsq with rfl | rfl | rfl
        all_goals
          go_wp2_with (go_at_call 40; refine (l1In_any _ _ _ _).mono ?_; rintro e w' ⟨rfl, rfl⟩)
          go_ret
          exact ⟨by simp [gv, hs, hall.out, hlen.out], rfl⟩
end Go.Proofs.Ytfpddieoiejofaa
