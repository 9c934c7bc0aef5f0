import Derived.Test.YtigkcgfhiakikaaBo
import Derived.Deep.Grids
import Derived.Lib.SmallJoins
set_option maxRecDepth 8000
namespace Go.Proofs.Ytigkcgfhiakikaa
open Go.ChangeShapes Go.WideShapes Go.ChangeAt Go.RowKit Go.Deep
/-! a slice of bools that came in, as it reads. -/
theorem rdF_of_cells {w : World} {a : Addr} {len cap : Nat} {F : Nat → Bool} (hl : len ≤ cap) (hc : ∀ i, i < cap → w.cell? (a.add i) = some (.bool (F i))) : RdF w w.heap.size (some a) len ((List.range len).map F) := by
  refine ⟨by simp, fun hn => ?_⟩
  obtain ⟨b, off, spot⟩ := a
  have hc0 := hc 0 (by omega)
  have hspot : spot = none := by simpa [Addr.add] using World.cell?_spot hc0
  subst hspot
  refine ⟨b, off, rfl, by simpa [Addr.add] using cell_lt hc0, fun k hk => ?_⟩
  have := hc k (by omega)
  rw [show nb ((List.range len).map F) k = F k by simp [nb, List.getD_eq_getElem?_getD, hk], ← this]
  unfold Addr.add
  by_cases h0 : k = 0
  · subst h0; simp
  · simp [h0]
theorem open_flags {H : Type} {enc : TypeId × Value → H} {P : Program} {W : World} {base : Nat} {held : Bool} {t e : TypeId} {fuel : Nat} {v : Value} {x : DataW H × List MemPlace} (ht : P.underlying t = some (.slice e)) (he : P.underlying e = some .bool) (hc : P.cellsOf e = 1)
    (h : DataW.trod enc P W base (fun _ => true) held fuel t [v] = some x) : ∃ A len cap L, v = .slice A len cap ∧ RdF W W.heap.size A len L ∧ len ≤ 9223372036854775807 := by
  rcases open_bools ht he hc h with ⟨hcs, _⟩ | ⟨a, len, cap, F, hcs, _, hl, hm, _, hcell⟩
  · injection hcs with hcs
    exact ⟨none, 0, 0, [], hcs, ⟨rfl, fun hn => absurd hn (by omega)⟩, by omega⟩
  · injection hcs with hcs
    refine ⟨_, _, _, _, hcs, rdF_of_cells hl hcell, by simp only [maxLen] at hm; omega⟩
end Go.Proofs.Ytigkcgfhiakikaa
