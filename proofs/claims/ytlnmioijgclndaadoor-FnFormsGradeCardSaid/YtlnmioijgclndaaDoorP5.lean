import Derived.Test.YtlnmioijgclndaaDoorR4P
import Derived.Deep.RegionHeld3
set_option maxRecDepth 8000
namespace Go.Proofs.YtlnmioijgclndaaDoor
open Go.ChangeShapes Go.WideShapes Go.ChangeAt Go.RowKit

/-- a rule as it reads. -/
structure RuleM where
  k : Int
  xs : List Int
  v : Int
def rnone : RuleM := ⟨0, [], 0⟩
def rat (rs : List RuleM) (i : Nat) : RuleM := rs.getD i rnone
/-- a slice of rules. -/
def RdRs (w : World) (B : Nat) (A : Option Addr) (n : Nat) (rs : List RuleM) : Prop :=
  rs.length = n ∧ (0 < n → ∃ b off, A = some ⟨b, off, none⟩ ∧ b < B ∧ ∀ i, i < n → ∃ A' c', w.cell? ⟨b, off + i * 3, none⟩ = some (.int .i64 (rat rs i).k) ∧ w.cell? ⟨b, off + i * 3 + 1, none⟩ = some (.slice A' (rat rs i).xs.length c') ∧ w.cell? ⟨b, off + i * 3 + 2, none⟩ = some (.int .i64 (rat rs i).v) ∧ Rd w B A' (rat rs i).xs.length (rat rs i).xs ∧ (rat rs i).xs.length ≤ 1099511627776)
theorem RdRs.below {w w' : World} {B : Nat} {A : Option Addr} {n : Nat} {rs : List RuleM} (h : RdRs w B A n rs) (hb : Below B w w') : RdRs w' B A n rs :=
  ⟨h.1, fun hn => by
    obtain ⟨b, off, e, hlt, hc⟩ := h.2 hn
    refine ⟨b, off, e, hlt, fun i hi => ?_⟩
    obtain ⟨A', c', h0, h1, h2, h3, h4⟩ := hc i hi
    exact ⟨A', c', (hb.cell (p := ⟨b, off + i * 3, none⟩) hlt).trans h0, (hb.cell (p := ⟨b, off + i * 3 + 1, none⟩) hlt).trans h1, (hb.cell (p := ⟨b, off + i * 3 + 2, none⟩) hlt).trans h2, h3.below hb, h4⟩⟩
/-- a puzzle's three cells in block g. -/
def PBox (w : World) (g : Nat) (s : Int) (Ag : Option Addr) (ng cg : Nat) (Ar : Option Addr) (nr cr : Nat) : Prop := w.cell? ⟨g, 0, none⟩ = some (.int .i64 s) ∧ w.cell? ⟨g, 1, none⟩ = some (.slice Ag ng cg) ∧ w.cell? ⟨g, 2, none⟩ = some (.slice Ar nr cr)
theorem PBox.below {w w' : World} {g B : Nat} {s : Int} {Ag : Option Addr} {ng cg : Nat} {Ar : Option Addr} {nr cr : Nat} (h : PBox w g s Ag ng cg Ar nr cr) (hg : g < B) (hb : Below B w w') : PBox w' g s Ag ng cg Ar nr cr :=
  ⟨(hb.cell (p := ⟨g, 0, none⟩) hg).trans h.1, (hb.cell (p := ⟨g, 1, none⟩) hg).trans h.2.1, (hb.cell (p := ⟨g, 2, none⟩) hg).trans h.2.2⟩
theorem pbox_new (w : World) (s : Int) (Ag : Option Addr) (ng cg : Nat) (Ar : Option Addr) (nr cr : Nat) (t : TypeId) : PBox (w.alloc (.cells #[.int .i64 s, .slice Ag ng cg, .slice Ar nr cr] t)) w.heap.size s Ag ng cg Ar nr cr :=
  ⟨cell_of_row _ _ 0 _ _ (0, 0) (heap_alloc_new w _), cell_of_row _ _ 1 _ _ (0, 0) (heap_alloc_new w _), cell_of_row _ _ 2 _ _ (0, 0) (heap_alloc_new w _)⟩
/-- the first k rules pass a test. -/
def allR (p : RuleM → Bool) (rs : List RuleM) (k : Nat) : Prop := ∀ i, i < k → p (rat rs i) = true
def rvR (s : Int) (r : RuleM) : Bool := rv r.k r.xs r.v s
def pvB (s : Int) (g : List Int) (rs : List RuleM) : Bool := ((List.range rs.length).all fun i => rvR s (rat rs i)) && gv g s && decide (rs.length ≤ 20)
theorem all_rat {p : RuleM → Bool} {rs : List RuleM} {n : Nat} (hl : rs.length = n) (h : allR p rs n) : ((List.range rs.length).all fun i => p (rat rs i)) = true :=
  List.all_eq_true.2 (fun i hi => h i (by rw [List.mem_range] at hi; omega))
theorem not_all_rat {p : RuleM → Bool} {rs : List RuleM} {n i : Nat} (hl : rs.length = n) (hi : i < n) (h : p (rat rs i) = false) : ((List.range rs.length).all fun i => p (rat rs i)) = false := by
  cases e : (List.range rs.length).all fun i => p (rat rs i)
  · rfl
  · have := List.all_eq_true.1 e i (List.mem_range.2 (by omega))
    rw [h] at this; cases this

end Go.Proofs.YtlnmioijgclndaaDoor
