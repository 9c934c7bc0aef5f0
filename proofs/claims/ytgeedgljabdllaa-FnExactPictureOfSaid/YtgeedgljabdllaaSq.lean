import Derived.Test.YtgeedgljabdllaaC1L
namespace Go.Proofs.Ytgeedgljabdllaa
open Go.ChangeShapes Go.WideShapes Go.ChangeAt Go.RowKit

def hasTo (f : Nat → Int) (k : Nat) (v : Int) : Bool := (List.range k).any fun i => f i == v
def dupTo (f : Nat → Int) : Nat → Bool
  | 0 => false
  | k + 1 => dupTo f k || (decide (0 < f k) && hasTo f k (f k))
def lineV (xs : List Int) (size line : Int) (k : Nat) : Int := nth xs (lineAt size line k).toNat
def clashTo (xs : List Int) (size : Int) : Nat → Bool
  | 0 => false
  | l + 1 => clashTo xs size l || dupTo (lineV xs size l) size.toNat
def clash (xs : List Int) (size : Int) : Bool := clashTo xs size (2 * size).toNat

/-- the values of the first k, as bits. -/
def seenN (f : Nat → Int) : Nat → Nat
  | 0 => 0
  | k + 1 => seenN f k ||| 1 <<< (f k).toNat
theorem hasTo_succ (f : Nat → Int) (k : Nat) (v : Int) : hasTo f (k + 1) v = (hasTo f k v || (f k == v)) := by
  simp [hasTo, List.range_succ, List.any_append]
theorem seenN_test (f : Nat → Int) (k v : Nat) (hf : ∀ i, i < k → 0 ≤ f i) : (seenN f k).testBit v = hasTo f k v := by
  induction k with
  | zero => simp [seenN, hasTo]
  | succ k ih =>
    rw [hasTo_succ, ← ih (fun i hi => hf i (by omega))]
    rw [seenN, Nat.testBit_or, Nat.one_shiftLeft, Nat.testBit_two_pow]
    congr 1
    have := hf k (by omega)
    rw [Bool.eq_iff_iff]
    simp
    omega
theorem seenN_lt (f : Nat → Int) (k : Nat) (hf : ∀ i, i < k → 0 ≤ f i ∧ f i ≤ 4) : seenN f k < 32 := by
  induction k with
  | zero => simp [seenN]
  | succ k ih =>
    have h1 := ih (fun i hi => hf i (by omega))
    have h2 := hf k (by omega)
    have h3 : 1 <<< (f k).toNat < 2 ^ 5 := by
      rw [Nat.one_shiftLeft]
      exact Nat.pow_lt_pow_right (by omega) (by omega)
    exact Nat.or_lt_two_pow (by omega) h3

def tryFrom (rec : List Int → Int → Option (List Int) × Int) (xs : List Int) (size : Int) (p : Nat) : Nat → Nat → Int → Option (List Int) × Int
  | 0, _, left => (none, left)
  | r + 1, v, left =>
    if clash (xs.set p v) size = true then tryFrom rec xs size p r (v + 1) left
    else match rec (xs.set p v) left with
      | (some y, l) => (some y, l)
      | (none, l) => tryFrom rec xs size p r (v + 1) l
def srch (size : Int) : Nat → List Int → Nat → Int → Option (List Int) × Int
  | 0, xs, _, left => if left = 0 then (some xs, left) else (none, left - 1)
  | f + 1, xs, p, left => tryFrom (fun ys l => srch size f ys (p + 1) l) xs size p size.toNat 1 left
def solsFrom (rec : List Int → List (List Int)) (xs : List Int) (size : Int) (p : Nat) : Nat → Nat → List (List Int)
  | 0, _ => []
  | r + 1, v => (if clash (xs.set p v) size = true then [] else rec (xs.set p v)) ++ solsFrom rec xs size p r (v + 1)
/-- all grids that the search finds, in order. -/
def sols (size : Int) : Nat → List Int → Nat → List (List Int)
  | 0, xs, _ => [xs]
  | f + 1, xs, p => solsFrom (fun ys => sols size f ys (p + 1)) xs size p size.toNat 1

def pickL (L : List (List Int)) (l : Int) : Option (List Int) × Int :=
  match L[l.toNat]? with
  | some y => (some y, 0)
  | none => (none, l - L.length)
theorem pickL_lt {L : List (List Int)} {l : Int} (h0 : 0 ≤ l) (h : l < L.length) : ∃ y, y ∈ L ∧ L[l.toNat]? = some y ∧ pickL L l = (some y, 0) := by
  have hl : l.toNat < L.length := by omega
  refine ⟨L[l.toNat], List.getElem_mem hl, List.getElem?_eq_getElem hl, ?_⟩
  simp [pickL, List.getElem?_eq_getElem hl]
theorem pickL_ge {L : List (List Int)} {l : Int} (h : (L.length : Int) ≤ l) : pickL L l = (none, l - L.length) := by
  have hl : L.length ≤ l.toNat := by omega
  simp [pickL, List.getElem?_eq_none hl]
theorem pickL_app {A B : List (List Int)} {l : Int} (h0 : 0 ≤ l) : pickL (A ++ B) l = if l < A.length then pickL A l else pickL B (l - A.length) := by
  by_cases h : l < A.length
  · rw [if_pos h]
    have hl : l.toNat < A.length := by omega
    simp [pickL, List.getElem?_append_left hl, List.getElem?_eq_getElem hl]
  · rw [if_neg h]
    have hl : A.length ≤ l.toNat := by omega
    have e : l.toNat - A.length = (l - A.length).toNat := by omega
    simp only [pickL, List.getElem?_append_right hl, e, List.length_append]
    cases B[(l - A.length).toNat]? with
    | some y => rfl
    | none => simp; omega
theorem tryFrom_sols {rec : List Int → Int → Option (List Int) × Int} {recS : List Int → List (List Int)} (hr : ∀ ys l, 0 ≤ l → rec ys l = pickL (recS ys) l) (xs : List Int) (size : Int) (p : Nat) :
    ∀ (r v : Nat) (left : Int), 0 ≤ left → tryFrom rec xs size p r v left = pickL (solsFrom recS xs size p r v) left := by
  intro r
  induction r with
  | zero => intro v left _; simp [tryFrom, solsFrom, pickL]
  | succ r ih =>
    intro v left h0
    simp only [tryFrom, solsFrom]
    by_cases hc : clash (xs.set p v) size = true
    · rw [if_pos hc, if_pos hc, List.nil_append]
      exact ih _ _ h0
    · rw [if_neg hc, if_neg hc, hr _ _ h0, pickL_app h0]
      by_cases hl : left < (recS (xs.set p v)).length
      · rw [if_pos hl]
        obtain ⟨y, _, _, e⟩ := pickL_lt h0 hl
        rw [e]
      · rw [if_neg hl, pickL_ge (by omega)]
        exact ih _ _ (by omega)
theorem srch_sols (size : Int) : ∀ (f : Nat) (xs : List Int) (p : Nat) (left : Int), 0 ≤ left → srch size f xs p left = pickL (sols size f xs p) left := by
  intro f
  induction f with
  | zero =>
    intro xs p left h0
    simp only [srch, sols]
    by_cases h : left = 0
    · subst h; rfl
    · rw [if_neg h, pickL_ge (by simp; omega)]; simp
  | succ f ih =>
    intro xs p left h0
    simp only [srch, sols]
    exact tryFrom_sols (fun ys l hl => ih ys (p + 1) l hl) xs size p _ _ left h0
theorem solsFrom_all {P : List Int → Prop} {rec : List Int → List (List Int)} {xs : List Int} {size : Int} {p : Nat} : ∀ (r v : Nat), (∀ u y, v ≤ u → u < v + r → y ∈ rec (xs.set p (u : Nat)) → P y) → ∀ y, y ∈ solsFrom rec xs size p r v → P y := by
  intro r
  induction r with
  | zero => intro v _ y hy; simp [solsFrom] at hy
  | succ r ih =>
    intro v h y hy
    simp only [solsFrom, List.mem_append] at hy
    rcases hy with hy | hy
    · split at hy
      · simp at hy
      · exact h v y (Nat.le_refl _) (by omega) hy
    · exact ih (v + 1) (fun u y h1 h2 => h u y (by omega) (by omega)) y hy
theorem sols_length (size : Int) : ∀ (f : Nat) (xs : List Int) (p : Nat) (y : List Int), y ∈ sols size f xs p → y.length = xs.length := by
  intro f
  induction f with
  | zero => intro xs p y hy; simp [sols] at hy; subst hy; rfl
  | succ f ih =>
    intro xs p y hy
    refine solsFrom_all (P := fun y => y.length = xs.length) _ _ (fun u y _ _ hy => ?_) y hy
    have := ih _ _ _ hy
    simpa using this
def zeros (n : Nat) : List Int := List.replicate n 0
theorem sols2 : (sols 2 4 (zeros 4) 0).length = 2 := by decide +kernel
theorem sols3 : (sols 3 9 (zeros 9) 0).length = 12 := by decide +kernel
end Go.Proofs.Ytgeedgljabdllaa
