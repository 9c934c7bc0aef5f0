import Derived.Test.YtlnmioijgclndaaAdj
import Derived.Test.YtlnmioijgclndaaDrawH
namespace Go.Proofs.Ytlnmioijgclndaa
open Go.ChangeShapes Go.WideShapes Go.ChangeAt Go.RowKit

def sqFits (xs : List Int) (size : Int) : Bool := gv xs size && !clash xs size
def sqSolved (xs : List Int) (size : Int) : Bool := sqFits xs size && (gf xs size == size * size)

theorem cnz_full {xs : List Int} {n : Nat} : cnz xs n = n ↔ ∀ k, k < n → nth xs k ≠ 0 := by
  induction n with
  | zero => simp [cnz]
  | succ n ih =>
    have hle := cnz_le xs n
    constructor
    · intro h
      by_cases e : nth xs n = 0
      · rw [cnz_z e] at h; omega
      · rw [cnz_nz e] at h
        have h' := ih.1 (by omega)
        intro k hk
        by_cases ek : k = n
        · subst ek; exact e
        · exact h' k (by omega)
    · intro h
      rw [cnz_nz (h n (by omega)), ih.2 (fun k hk => h k (by omega))]
theorem solved_iff {xs : List Int} {size : Int} {n : Nat} (hl : xs.length = n) : sqSolved xs size = true ↔ gv xs size = true ∧ clash xs size = false ∧ ∀ k, k < n → nth xs k ≠ 0 := by
  subst hl
  unfold sqSolved sqFits
  simp only [Bool.and_eq_true, Bool.not_eq_true', beq_iff_eq]
  constructor
  · rintro ⟨⟨h1, h2⟩, h3⟩
    refine ⟨h1, h2, ?_⟩
    have := gv_len h1
    unfold gf at h3
    rw [if_pos h1] at h3
    exact cnz_full.1 (by omega)
  · rintro ⟨h1, h2, h3⟩
    refine ⟨⟨h1, h2⟩, ?_⟩
    have := gv_len h1
    unfold gf
    rw [if_pos h1, cnz_full.2 h3]
    omega

/-- in a line of s different values of 1..s every one of them stands. -/
def pigB2 (a b v : Nat) : Bool := (a == 0 || b == 0 || v == 0) || ((a == b) || (a == v || b == v))
theorem pig2 : ∀ a, a < 3 → ∀ b, b < 3 → ∀ v, v < 3 → pigB2 a b v = true := by decide +kernel
def pigB3 (a b c v : Nat) : Bool := (a == 0 || b == 0 || c == 0 || v == 0) || ((a == b || a == c || b == c) || (a == v || b == v || c == v))
theorem pig3 : ∀ a, a < 4 → ∀ b, b < 4 → ∀ c, c < 4 → ∀ v, v < 4 → pigB3 a b c v = true := by decide +kernel
def pigB4 (a b c d v : Nat) : Bool := (a == 0 || b == 0 || c == 0 || d == 0 || v == 0) || ((a == b || a == c || a == d || b == c || b == d || c == d) || (a == v || b == v || c == v || d == v))
theorem pig4 : ∀ a, a < 5 → ∀ b, b < 5 → ∀ c, c < 5 → ∀ d, d < 5 → ∀ v, v < 5 → pigB4 a b c d v = true := by decide +kernel
theorem pig {f : Nat → Int} {s : Nat} (hs : s ∈ [2, 3, 4]) (hf : ∀ i, i < s → 1 ≤ f i ∧ f i ≤ s) (hd : dupTo f s = false) {v : Int} (v1 : 1 ≤ v) (v2 : v ≤ s) : hasTo f s v = true := by
  have hne : ∀ i j, i < j → j < s → f i ≠ f j := by
    intro i j hij hj he
    have : dupTo f s = true := dupTo_iff.2 ⟨i, j, hij, hj, he, by have := hf j hj; omega⟩
    rw [hd] at this; cases this
  have hT : ∀ i, i < s → ((f i).toNat : Int) = f i := fun i hi => Int.toNat_of_nonneg (by have := hf i hi; omega)
  simp at hs
  rw [hasTo_iff]
  rcases hs with rfl | rfl | rfl
  · have b0 := hf 0 (by omega); have b1 := hf 1 (by omega)
    have n01 := hne 0 1 (by omega) (by omega)
    have hp := pig2 (f 0).toNat (by omega) (f 1).toNat (by omega) v.toNat (by omega)
    simp only [pigB2, Bool.or_eq_true, beq_iff_eq] at hp
    have hp' : (f 0).toNat = v.toNat ∨ (f 1).toNat = v.toNat := by omega
    clear hp
    rcases hp' with h | h
    · exact ⟨0, by omega, by omega⟩
    · exact ⟨1, by omega, by omega⟩
  · have b0 := hf 0 (by omega); have b1 := hf 1 (by omega); have b2 := hf 2 (by omega)
    have n01 := hne 0 1 (by omega) (by omega); have n02 := hne 0 2 (by omega) (by omega); have n12 := hne 1 2 (by omega) (by omega)
    have hp := pig3 (f 0).toNat (by omega) (f 1).toNat (by omega) (f 2).toNat (by omega) v.toNat (by omega)
    simp only [pigB3, Bool.or_eq_true, beq_iff_eq] at hp
    have hp' : (f 0).toNat = v.toNat ∨ (f 1).toNat = v.toNat ∨ (f 2).toNat = v.toNat := by omega
    clear hp
    rcases hp' with h | h | h
    · exact ⟨0, by omega, by omega⟩
    · exact ⟨1, by omega, by omega⟩
    · exact ⟨2, by omega, by omega⟩
  · have b0 := hf 0 (by omega); have b1 := hf 1 (by omega); have b2 := hf 2 (by omega); have b3 := hf 3 (by omega)
    have n01 := hne 0 1 (by omega) (by omega); have n02 := hne 0 2 (by omega) (by omega); have n03 := hne 0 3 (by omega) (by omega)
    have n12 := hne 1 2 (by omega) (by omega); have n13 := hne 1 3 (by omega) (by omega); have n23 := hne 2 3 (by omega) (by omega)
    have hp := pig4 (f 0).toNat (by omega) (f 1).toNat (by omega) (f 2).toNat (by omega) (f 3).toNat (by omega) v.toNat (by omega)
    simp only [pigB4, Bool.or_eq_true, beq_iff_eq] at hp
    have hp' : (f 0).toNat = v.toNat ∨ (f 1).toNat = v.toNat ∨ (f 2).toNat = v.toNat ∨ (f 3).toNat = v.toNat := by omega
    clear hp
    rcases hp' with h | h | h | h
    · exact ⟨0, by omega, by omega⟩
    · exact ⟨1, by omega, by omega⟩
    · exact ⟨2, by omega, by omega⟩
    · exact ⟨3, by omega, by omega⟩

/-- xs comes before ys: at the first place where they differ its value is less. -/
def lexlt (n : Nat) (xs ys : List Int) : Prop := ∃ k, k < n ∧ (∀ j, j < k → nth xs j = nth ys j) ∧ nth xs k < nth ys k
theorem sols_prefix {size : Int} : ∀ (f : Nat) (xs : List Int) (p : Nat) (y : List Int), y ∈ sols size f xs p → p + f ≤ xs.length → ∀ k, k < p → nth y k = nth xs k := by
  intro f
  induction f with
  | zero => intro xs p y hy _ k _; simp [sols] at hy; subst hy; rfl
  | succ f ih =>
    intro xs p y hy hl
    refine solsFrom_all (P := fun y => ∀ k, k < p → nth y k = nth xs k) _ _ (fun u y _ _ hy k hk => ?_) y hy
    rw [ih _ _ _ hy (by rw [List.length_set]; omega) k (by omega), nth_set (by omega), if_neg (by omega)]
theorem sols_at {size : Int} {f : Nat} {xs : List Int} {p : Nat} {u : Int} {y : List Int} (hy : y ∈ sols size f (xs.set p u) (p + 1)) (hl : p + 1 + f ≤ xs.length) : nth y p = u := by
  rw [sols_prefix f _ _ y hy (by rw [List.length_set]; omega) p (by omega), nth_set (by omega), if_pos rfl]
theorem sols_sorted {size : Int} (n : Nat) : ∀ (f : Nat) (xs : List Int) (p : Nat), p + f = n → xs.length = n → List.Pairwise (lexlt n) (sols size f xs p) := by
  intro f
  induction f with
  | zero => intro xs p _ _; simp [sols]
  | succ f ih =>
    intro xs p hp hl
    simp only [sols]
    have key : ∀ (r v : Nat), List.Pairwise (lexlt n) (solsFrom (fun ys => sols size f ys (p + 1)) xs size p r v) := by
      intro r
      induction r with
      | zero => intro v; simp [solsFrom]
      | succ r ihr =>
        intro v
        simp only [solsFrom]
        rw [List.pairwise_append]
        refine ⟨?_, ihr (v + 1), ?_⟩
        · split
          · exact List.Pairwise.nil
          · exact ih _ _ (by omega) (by rw [List.length_set]; exact hl)
        · intro a ha b hb
          have ha' : a ∈ sols size f (xs.set p (v : Int)) (p + 1) := by
            split at ha
            · simp at ha
            · exact ha
          refine solsFrom_all (P := fun b => lexlt n a b) _ _ (fun u b h1 _ hb => ?_) b hb
          refine ⟨p, by omega, fun j hj => ?_, ?_⟩
          · rw [sols_prefix f _ _ a ha' (by rw [List.length_set]; omega) j (by omega), sols_prefix f _ _ b hb (by rw [List.length_set]; omega) j (by omega), nth_set (by omega), nth_set (by omega), if_neg (by omega), if_neg (by omega)]
          · rw [sols_at ha' (by omega), sols_at hb (by omega)]
            omega
    exact key _ _
theorem sols_clash {size : Int} : ∀ (f : Nat) (xs : List Int) (p : Nat) (y : List Int), y ∈ sols size (f + 1) xs p → clash y size = false := by
  intro f
  induction f with
  | zero =>
    intro xs p y hy
    simp only [sols] at hy
    have key : ∀ (r v : Nat), y ∈ solsFrom (fun ys => [ys]) xs size p r v → clash y size = false := by
      intro r
      induction r with
      | zero => intro v h; simp [solsFrom] at h
      | succ r ihr =>
        intro v h
        simp only [solsFrom, List.mem_append] at h
        rcases h with h | h
        · by_cases hc : clash (xs.set p (v : Int)) size = true
          · rw [if_pos hc] at h; simp at h
          · rw [if_neg hc] at h
            simp at h
            subst h
            simpa using hc
        · exact ihr _ h
    exact key _ _ hy
  | succ f ih =>
    intro xs p y hy
    rw [sols] at hy
    exact solsFrom_all (P := fun y => clash y size = false) _ _ (fun u y _ _ hy => ih _ _ _ hy) y hy
theorem sols_pos {size : Int} : ∀ (f : Nat) (xs : List Int) (p : Nat) (y : List Int), y ∈ sols size f xs p → p + f ≤ xs.length → (∀ k, k < p → 1 ≤ nth xs k) → ∀ k, k < p + f → 1 ≤ nth y k := by
  intro f
  induction f with
  | zero => intro xs p y hy _ h k hk; simp [sols] at hy; subst hy; exact h k (by omega)
  | succ f ih =>
    intro xs p y hy hl h
    refine solsFrom_all (P := fun y => ∀ k, k < p + (f + 1) → 1 ≤ nth y k) _ _ (fun u y h1 _ hy k hk => ?_) y hy
    refine ih _ _ _ hy (by rw [List.length_set]; omega) (fun j hj => ?_) k (by omega)
    rw [nth_set (by omega)]
    split
    · omega
    · exact h j (by omega)
theorem sols_solved {size : Int} {n : Nat} (h2 : 2 ≤ size) (h4 : size ≤ 4) (hn : (n : Int) = size * size) {y : List Int} (hy : y ∈ sols size n (zeros n) 0) : y.length = n ∧ sqSolved y size = true := by
  have hl : y.length = n := by rw [sols_length size _ _ _ _ hy, zeros_length]
  obtain ⟨q4, q16⟩ := sq_bd h2 h4
  obtain ⟨m, rfl⟩ : ∃ m, n = m + 1 := ⟨n - 1, by omega⟩
  refine ⟨hl, (solved_iff hl).2 ⟨?_, sols_clash m _ _ _ hy, fun k hk => ?_⟩⟩
  · exact okAll_gv hl hn h2 h4 (sols_ok (by omega) _ _ _ _ (okAll_zeros (by omega) _) _ hy)
  · have := sols_pos _ _ _ _ hy (by rw [zeros_length]; omega) (fun k hk => absurd hk (by omega)) k (by omega)
    omega
end Go.Proofs.Ytlnmioijgclndaa
