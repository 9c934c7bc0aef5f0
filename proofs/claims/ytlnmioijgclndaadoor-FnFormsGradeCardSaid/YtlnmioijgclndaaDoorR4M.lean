import Derived.Test.YtlnmioijgclndaaDoorR4X
import Derived.Test.YtlnmioijgclndaaDoorC3G
set_option maxRecDepth 8000
namespace Go.Proofs.YtlnmioijgclndaaDoor
open Go.ChangeShapes Go.WideShapes Go.ChangeAt Go.RowKit

theorem rv_facts {k v s : Int} {xs : List Int} {n : Nat} (hl : xs.length = n) (h : rv k xs v s = true) : (2 ≤ s ∧ s ≤ 4) ∧ (1 ≤ n ∧ n ≤ 4) ∧ (k = 1 ∨ k = 2 ∨ k = 3 ∨ 2 ≤ n) ∧ ∀ i, i < n → 0 ≤ nth xs i ∧ nth xs i ≤ s * s - 1 := by
  simp only [rv, Bool.and_eq_true, decide_eq_true_eq, List.all_eq_true, List.mem_range] at h
  obtain ⟨⟨⟨h1, h2⟩, h3⟩, h4⟩ := h
  rw [hl] at h2 h3 h4
  have hs := inr_t h1
  refine ⟨hs, ?_, ?_, fun i hi => ?_⟩
  · refine ⟨?_, h2⟩
    unfold kindOk at h4
    split at h4
    · simp only [Bool.and_eq_true, decide_eq_true_eq] at h4; omega
    · split at h4
      · simp only [Bool.and_eq_true, decide_eq_true_eq] at h4; omega
      · split at h4
        · simp only [Bool.and_eq_true, decide_eq_true_eq] at h4; omega
        · split at h4
          · simp only [Bool.and_eq_true, decide_eq_true_eq] at h4; omega
          · split at h4
            · simp only [Bool.and_eq_true, decide_eq_true_eq] at h4; omega
            · cases h4
  · unfold kindOk at h4
    split at h4
    · exact .inl (by assumption)
    · split at h4
      · exact .inr (.inl (by assumption))
      · split at h4
        · exact .inr (.inr (.inl (by assumption)))
        · split at h4
          · simp only [Bool.and_eq_true, decide_eq_true_eq] at h4; omega
          · split at h4
            · simp only [Bool.and_eq_true, decide_eq_true_eq] at h4; omega
            · cases h4
  · have := h3 i hi
    simp only [cellOk, Bool.and_eq_true] at this
    exact inr_t this.1
theorem mvd_b64' {xs : List Int} {size : Int} (h : mvd xs size = true) : B64 xs := b64_of rfl fun k hk => by
  have := (mvd_at h).2.2.2 k hk
  omega
def zerosN (n : Nat) : List Nat := List.replicate n 0
theorem nats_zeros (n : Nat) : nats (zerosN n) = part [] 0 n := by
  apply ext_nth (by rw [nats_length, part_length]; simp [zerosN])
  intro k hk
  rw [nats_length] at hk
  have hk' : k < n := by simpa [zerosN] using hk
  rw [nats_nth, part_nth _ _ _ _ hk', if_neg (by omega)]
  simp [zerosN, List.getD_eq_getElem?_getD, hk']
theorem zeros_lt (n : Nat) : lt32 (zerosN n) := fun i => by
  by_cases h : i < n
  · simp [zerosN, List.getD_eq_getElem?_getD, h]
  · simp [zerosN, List.getD_eq_getElem?_getD, List.getElem?_eq_none (by simp; omega : (List.replicate n 0).length ≤ i)]
theorem Rd.ne {w : World} {B : Nat} {A : Option Addr} {n : Nat} {xs : List Int} (h : Rd w B A n xs) (hn : 0 < n) {G : Nat} (hG : B ≤ G) : ∀ b off, A = some ⟨b, off, none⟩ → b ≠ G := fun b off e => by
  obtain ⟨b', off', e', hlt, _⟩ := h.at_ hn
  rw [e] at e'
  cases e'
  omega
/-- the masks that a rule leaves to its cells. -/
def rmN (k : Int) (xs : List Int) (v : Int) (ms : List Int) : List Nat := waysF k v xs ms xs.length [] (zerosN xs.length)
def rmL (k : Int) (xs : List Int) (v : Int) (ms : List Int) (s : Int) : List Int := if (rv k xs v s && mvd ms s) = true then nats (rmN k xs v ms) else []
theorem rmN_inv (k : Int) (xs : List Int) (v : Int) (ms : List Int) : (rmN k xs v ms).length = xs.length ∧ lt32 (rmN k xs v ms) :=
  waysF_inv k v xs ms xs.length xs.length [] (zerosN xs.length) (by simp) (fun i hi => absurd hi (by simp)) (by simp [zerosN]) (zeros_lt _)

end Go.Proofs.YtlnmioijgclndaaDoor
