import Derived.Test.YtkeoflnmbcdmfaaDoorWy
import Derived.Test.YtkeoflnmbcdmfaaDoorQ4S
import Derived.Test.YtkeoflnmbcdmfaaDoorR4P
set_option maxRecDepth 8000
namespace Go.Proofs.YtkeoflnmbcdmfaaDoor
open Go.ChangeShapes Go.WideShapes Go.ChangeAt Go.RowKit
/-! What a rule leaves to its cells, by the list of all ways. -/
theorem maskVals_ok {m : Int} (h0 : 0 ≤ m) (h1 : m ≤ 30) (h2 : m.tmod 2 = 0) : maskVals m = bitsTo m.toNat 4 := by
  unfold maskVals
  rw [if_pos (by simp only [mvOk, inr, Bool.and_eq_true, decide_eq_true_eq, beq_iff_eq]; exact ⟨⟨h0, h1⟩, h2⟩)]
def waysN (k v : Int) (pm : List Int) (n : Nat) : List (List Int) := (allW pm n []).filter (holdsB k v)
theorem rm_ways {k v s : Int} {xs ms : List Int} {n : Nat} (hl : xs.length = n) (hv : rv k xs v s = true) (hm : mvd ms s = true) :
    rmL k xs v ms s = nats ((waysN k v (pks ms xs n) n).foldl orAll (zerosN n)) := by
  subst hl
  obtain ⟨hs, _, _, hx⟩ := rv_facts rfl hv
  obtain ⟨_, hml, _, hmk⟩ := mvd_at hm
  unfold rmL rmN waysN
  rw [hv, hm, Bool.true_and, if_pos rfl, waysF_fold k v xs ms (pks ms xs xs.length) _ _ _ (fun i h1 h2 => ?_), fold_filter]
  have hi : i < xs.length := by simpa using h2
  obtain ⟨a, b⟩ := hx i hi
  obtain ⟨m0, m1, m2⟩ := hmk (nth xs i).toNat (by omega)
  rw [pks_nth hi]
  exact maskVals_ok m0 m1 m2
theorem em_pks {g xs : List Int} {s : Int} {n : Nat} (hx : ∀ i, i < n → (nth xs i).toNat < g.length) : pks (emL g s) xs n = emL (pks g xs n) s := by
  apply ext_nth (by rw [pks_length]; unfold emL; rw [mapTo_length, pks_length])
  intro i hi
  rw [pks_length] at hi
  rw [pks_nth hi]
  unfold emL
  rw [mapTo_nth (hx i hi), mapTo_nth (by rw [pks_length]; exact hi)]
  unfold emG emN
  rw [pks_nth hi]
theorem rp_ways {k v : Int} {s : Nat} {xs g : List Int} {n : Nat} (hl : xs.length = n) (hv : rv k xs v s = true) (hg : gv g s = true) (hs : s ∈ [2, 3, 4]) :
    rpB k xs v g s = !((allW (emL (pks g xs n) s) n []).filter (holdsB k v)).isEmpty := by
  obtain ⟨_, ⟨hn1, hn4⟩, _, _⟩ := rv_facts hl hv
  obtain ⟨_, hin⟩ := pks_small hl hv hg
  unfold rpB
  rw [hv, hg, Bool.true_and, Bool.true_and, rm_ways hl hv (emL_valid hs hg), foldAll_zero _ _ (by omega), em_pks (fun i hi => by have := hin i hi; omega)]
  rfl
end Go.Proofs.YtkeoflnmbcdmfaaDoor
