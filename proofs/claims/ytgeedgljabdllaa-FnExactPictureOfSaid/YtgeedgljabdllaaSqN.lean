import Derived.Test.YtgeedgljabdllaaSq
namespace Go.Proofs.Ytgeedgljabdllaa
open Go.ChangeShapes Go.WideShapes Go.ChangeAt Go.RowKit

/-- two of four are the same and not 0. -/
def dup4 (a b c d : Int) : Bool := (decide (0 < b) && a == b) || ((decide (0 < c) && (a == c || b == c)) || (decide (0 < d) && (a == d || (b == d || c == d))))
def fast16 : List Int → Bool
  | [a, b, c, d, e, f, g, h, i, j, k, l, m, n, o, p] => dup4 a b c d || (dup4 e f g h || (dup4 i j k l || (dup4 m n o p || (dup4 a e i m || (dup4 b f j n || (dup4 c g k o || dup4 d h l p))))))
  | _ => false
theorem dup4_is (f : Nat → Int) : dupTo f 4 = dup4 (f 0) (f 1) (f 2) (f 3) := by
  simp [dupTo, dup4, hasTo, List.range_succ, Bool.or_assoc]
theorem fast16_is (xs : List Int) (h : xs.length = 16) : clash xs 4 = fast16 xs := by
  match xs, h with
  | [a, b, c, d, e, f, g, h, i, j, k, l, m, n, o, p], _ =>
    have e8 : ((2 : Int) * 4).toNat = 8 := rfl
    have e4 : (4 : Int).toNat = 4 := rfl
    simp only [clash, e8, e4, clashTo, dup4_is, Bool.false_or, Bool.or_assoc, fast16]
    rfl

def solsFG (rec : List Int → List (List Int)) (chk : List Int → Bool) (xs : List Int) (p : Nat) : Nat → Nat → List (List Int)
  | 0, _ => []
  | r + 1, v => (if chk (xs.set p v) = true then [] else rec (xs.set p v)) ++ solsFG rec chk xs p r (v + 1)
def solsG (chk : List Int → Bool) (m : Nat) : Nat → List Int → Nat → List (List Int)
  | 0, xs, _ => [xs]
  | f + 1, xs, p => solsFG (fun ys => solsG chk m f ys (p + 1)) chk xs p m 1
theorem solsFG_is {rec rec' : List Int → List (List Int)} {chk : List Int → Bool} {size : Int} {n : Nat} (hc : ∀ ys, ys.length = n → clash ys size = chk ys) (hr : ∀ ys, ys.length = n → rec ys = rec' ys) {xs : List Int} (hx : xs.length = n) (p : Nat) :
    ∀ r v, solsFrom rec xs size p r v = solsFG rec' chk xs p r v := by
  intro r
  induction r with
  | zero => intro v; rfl
  | succ r ih =>
    intro v
    have hl : (xs.set p (v : Int)).length = n := by simpa using hx
    simp only [solsFrom, solsFG]
    rw [hc _ hl, hr _ hl, ih]
theorem solsG_is {chk : List Int → Bool} {size : Int} {n : Nat} (hc : ∀ ys, ys.length = n → clash ys size = chk ys) : ∀ (f : Nat) (xs : List Int) (p : Nat), xs.length = n → sols size f xs p = solsG chk size.toNat f xs p := by
  intro f
  induction f with
  | zero => intro xs p _; rfl
  | succ f ih =>
    intro xs p hx
    simp only [sols, solsG]
    exact solsFG_is hc (fun ys hy => ih ys (p + 1) hy) hx p _ _
theorem solsG4 : (solsG fast16 4 16 (zeros 16) 0).length = 576 := by decide +kernel
theorem sols4 : (sols 4 16 (zeros 16) 0).length = 576 := by
  rw [solsG_is fast16_is 16 (zeros 16) 0 (by decide)]
  exact solsG4
end Go.Proofs.Ytgeedgljabdllaa
