import Derived.Test.YtlnmioijgclndaaDoorP5F
set_option maxRecDepth 8000
namespace Go.Proofs.YtlnmioijgclndaaDoor
open Go.ChangeShapes Go.WideShapes Go.ChangeAt Go.RowKit

def fpB (s : Int) (gi : List Int) (rs : List RuleM) (g : List Int) : Bool := pvB s gi rs && gv g s && fitB s gi rs g
def psB (s : Int) (gi : List Int) (rs : List RuleM) (g : List Int) : Bool := fpB s gi rs g && (gf g s == (g.length : Int))
theorem pv_gv {s : Int} {gi : List Int} {rs : List RuleM} (h : pvB s gi rs = true) : gv gi s = true ∧ rs.length ≤ 20 ∧ allR (rvR s) rs rs.length := by
  simp only [pvB, Bool.and_eq_true, decide_eq_true_eq, List.all_eq_true, List.mem_range] at h
  exact ⟨h.1.2, h.2, h.1.1⟩
/-- a puzzle and a grid that read. -/
structure PGs (w : World) (s : Int) (Ag : Option Addr) (ng cg Bg : Nat) (gi : List Int) (Ar : Option Addr) (nr cr Br : Nat) (rs : List RuleM) : Prop where
  g : Rd w Bg Ag ng gi
  gB : Bg ≤ w.heap.size
  gm : ng ≤ 1099511627776
  r : RdRs w Br Ar nr rs
  rB : Br ≤ w.heap.size
  rm : nr ≤ 1099511627776
theorem PGs.below {w w' : World} {s : Int} {Ag : Option Addr} {ng cg Bg : Nat} {gi : List Int} {Ar : Option Addr} {nr cr Br : Nat} {rs : List RuleM} (h : PGs w s Ag ng cg Bg gi Ar nr cr Br rs) (hb : Below w.heap.size w w') : PGs w' s Ag ng cg Bg gi Ar nr cr Br rs :=
  ⟨h.g.below (hb.mono h.gB), Nat.le_trans h.gB hb.size, h.gm, h.r.below (hb.mono h.rB), Nat.le_trans h.rB hb.size, h.rm⟩

end Go.Proofs.YtlnmioijgclndaaDoor
