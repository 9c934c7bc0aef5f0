import Derived.Test.YtgeedgljabdllaaPh
import Derived.Test.YtgeedgljabdllaaLw
import Derived.Test.YtgeedgljabdllaaBo
set_option maxRecDepth 8000
namespace Go.Proofs.Ytgeedgljabdllaa
open Go.ChangeShapes Go.WideShapes Go.ChangeAt Go.RowKit
/-! slices of slices that read; picture puzzles by value. -/
def Rr {α : Type} (P : World → Nat → Option Addr → Nat → List α → Prop) (w : World) (B : Nat) (A : Option Addr) (n : Nat) (Ls : List (List α)) : Prop :=
  Ls.length = n ∧ (0 < n → ∃ b off, A = some ⟨b, off, none⟩ ∧ b < B ∧ ∀ k, k < n → ∃ A' c', w.cell? ⟨b, off + k, none⟩ = some (.slice A' (gtl Ls k).length c') ∧ P w B A' (gtl Ls k).length (gtl Ls k))
theorem Rr.at_ {α : Type} {P : World → Nat → Option Addr → Nat → List α → Prop} {w : World} {B : Nat} {A : Option Addr} {n : Nat} {Ls : List (List α)} (h : Rr P w B A n Ls) {k : Nat} (hk : k < n) :
    ∃ b off A' c', A = some ⟨b, off, none⟩ ∧ b < B ∧ w.cell? ⟨b, off + k, none⟩ = some (.slice A' (gtl Ls k).length c') ∧ P w B A' (gtl Ls k).length (gtl Ls k) := by
  obtain ⟨b, off, e, hb, hc⟩ := h.2 (by omega)
  obtain ⟨A', c', h1, h2⟩ := hc k hk
  exact ⟨b, off, A', c', e, hb, h1, h2⟩
theorem Rr.map {α : Type} {P Q : World → Nat → Option Addr → Nat → List α → Prop} {w w' : World} {B B' : Nat} {A : Option Addr} {n : Nat} {Ls : List (List α)} (h : Rr P w B A n Ls) (hB : B ≤ B') (hw : ∀ b i, b < B → w'.cell? ⟨b, i, none⟩ = w.cell? ⟨b, i, none⟩) (hP : ∀ A' m L, P w B A' m L → Q w' B' A' m L) : Rr Q w' B' A n Ls :=
  ⟨h.1, fun hn => by
    obtain ⟨b, off, e, hb, hc⟩ := h.2 hn
    refine ⟨b, off, e, by omega, fun k hk => ?_⟩
    obtain ⟨A', c', h1, h2⟩ := hc k hk
    exact ⟨A', c', (hw b _ hb).trans h1, hP _ _ _ h2⟩⟩
/-- rows of numbers that came in. -/
structure Lns (w : World) (B : Nat) (A : Option Addr) (n : Nat) (Ls : List (List Int)) : Prop where
  r : Rr Rd w B A n Ls
  m : n ≤ 1099511627776
  ms : ∀ k, k < n → (gtl Ls k).length ≤ 1099511627776
  b : ∀ k, k < n → B64 (gtl Ls k)
/-- rows of cells. -/
structure Fns (w : World) (B : Nat) (A : Option Addr) (n : Nat) (Ls : List (List Bool)) : Prop where
  r : Rr RdF w B A n Ls
  m : n ≤ 1099511627776
  ms : ∀ k, k < n → (gtl Ls k).length ≤ 1099511627776
section
variable {w w' : World} {B B' : Nat} {A : Option Addr} {n : Nat}
theorem Lns.below {Ls : List (List Int)} (h : Lns w B A n Ls) (hb : Below B w w') : Lns w' B A n Ls :=
  ⟨h.r.map (Nat.le_refl _) (fun b i hlt => hb.cell (p := ⟨b, i, none⟩) hlt) fun _ _ _ hr => hr.below hb, h.m, h.ms, h.b⟩
theorem Lns.more {Ls : List (List Int)} (h : Lns w B A n Ls) (hB : B ≤ B') : Lns w B' A n Ls :=
  ⟨h.r.map hB (fun _ _ _ => rfl) fun _ _ _ hr => hr.more hB, h.m, h.ms, h.b⟩
theorem Fns.below {Ls : List (List Bool)} (h : Fns w B A n Ls) (hb : Below B w w') : Fns w' B A n Ls :=
  ⟨h.r.map (Nat.le_refl _) (fun b i hlt => hb.cell (p := ⟨b, i, none⟩) hlt) fun _ _ _ hr => hr.below hb, h.m, h.ms⟩
theorem Fns.more {Ls : List (List Bool)} (h : Fns w B A n Ls) (hB : B ≤ B') : Fns w B' A n Ls :=
  ⟨h.r.map hB (fun _ _ _ => rfl) fun _ _ _ hr => hr.more hB, h.m, h.ms⟩
theorem Lns.len {Ls : List (List Int)} (h : Lns w B A n Ls) : Ls.length = n := h.r.1
theorem Fns.len {Ls : List (List Bool)} (h : Fns w B A n Ls) : Ls.length = n := h.r.1
end
/-- a picture puzzle by value. -/
structure PicR (w : World) (B : Nat) (RA : Option Addr) (nr : Nat) (rc : List (List Int)) (CA : Option Addr) (nc : Nat) (cc : List (List Int)) : Prop where
  r : Lns w B RA nr rc
  c : Lns w B CA nc cc
theorem PicR.below {w w' : World} {B : Nat} {RA : Option Addr} {nr : Nat} {rc : List (List Int)} {CA : Option Addr} {nc : Nat} {cc : List (List Int)} (h : PicR w B RA nr rc CA nc cc) (hb : Below B w w') : PicR w' B RA nr rc CA nc cc := ⟨h.r.below hb, h.c.below hb⟩
theorem PicR.more {w : World} {B B' : Nat} {RA : Option Addr} {nr : Nat} {rc : List (List Int)} {CA : Option Addr} {nc : Nat} {cc : List (List Int)} (h : PicR w B RA nr rc CA nc cc) (hB : B ≤ B') : PicR w B' RA nr rc CA nc cc := ⟨h.r.more hB, h.c.more hB⟩
/-- all clues of these lines are valid. -/
def csB (Ls : List (List Int)) (cells : Int) (k : Nat) : Prop := ∀ j, j < k → cvB (gtl Ls j) cells = true
def clsB (Ls : List (List Int)) (cells : Int) : Bool := decide (∀ j, j < Ls.length → cvB (gtl Ls j) cells = true)
theorem clsB_t {Ls : List (List Int)} {cells : Int} {n : Nat} (hn : Ls.length = n) (h : csB Ls cells n) : clsB Ls cells = true := by
  subst hn
  unfold clsB
  exact decide_eq_true h
theorem clsB_f {Ls : List (List Int)} {cells : Int} {k : Nat} (hk : k < Ls.length) (h : cvB (gtl Ls k) cells = false) : clsB Ls cells = false := by
  simp only [clsB, decide_eq_false_iff_not]
  intro H
  rw [H k hk] at h
  cases h
theorem clsB_at {Ls : List (List Int)} {cells : Int} (h : clsB Ls cells = true) {k : Nat} (hk : k < Ls.length) : cvB (gtl Ls k) cells = true := by
  simp only [clsB, decide_eq_true_eq] at h
  exact h k hk
/-- whether a picture puzzle is valid. -/
def pcB (rc cc : List (List Int)) : Bool := (inr (rc.length : Int) 1 5 && inr (cc.length : Int) 1 5) && (clsB rc (cc.length : Int) && clsB cc (rc.length : Int))
theorem pcB_PV {rc cc : List (List Int)} (h : pcB rc cc = true) : PV rc cc ∧ rc.length ≤ 5 ∧ cc.length ≤ 5 := by
  unfold pcB at h
  simp only [Bool.and_eq_true] at h
  obtain ⟨⟨h1, h2⟩, h3, h4⟩ := h
  have a1 := inr_t h1
  have a2 := inr_t h2
  refine ⟨⟨⟨by omega, by omega⟩, ⟨by omega, by omega⟩, fun l hl => ?_⟩, by omega, by omega⟩
  unfold lnC lnN
  by_cases hr : l < rc.length
  · rw [if_pos hr, if_pos hr]
    exact clsB_at h3 hr
  · rw [if_neg hr, if_neg hr]
    exact clsB_at h4 (by omega)
/-- a picture puzzle in a block of its own. -/
def PcBox (w : World) (g : Nat) (RA : Option Addr) (nr cr : Nat) (CA : Option Addr) (nc c2 : Nat) : Prop := w.cell? ⟨g, 0, none⟩ = some (.slice RA nr cr) ∧ w.cell? ⟨g, 1, none⟩ = some (.slice CA nc c2)
theorem PcBox.below {w w' : World} {g : Nat} {RA : Option Addr} {nr cr : Nat} {CA : Option Addr} {nc c2 B : Nat} (h : PcBox w g RA nr cr CA nc c2) (hg : g < B) (hb : Below B w w') : PcBox w' g RA nr cr CA nc c2 :=
  ⟨(hb.cell (p := ⟨g, 0, none⟩) hg).trans h.1, (hb.cell (p := ⟨g, 1, none⟩) hg).trans h.2⟩
theorem pcbox_new (w : World) (RA : Option Addr) (nr cr : Nat) (CA : Option Addr) (nc c2 : Nat) (t : TypeId) : PcBox (w.alloc (.cells #[.slice RA nr cr, .slice CA nc c2] t)) w.heap.size RA nr cr CA nc c2 :=
  ⟨cell_of_row _ _ 0 _ _ (0, 0) (heap_alloc_new w _), cell_of_row _ _ 1 _ _ (0, 0) (heap_alloc_new w _)⟩
theorem l1In_s (n lo hi : Int) (w : World) : Calls Try.prog 49 #[.int .i64 n, .int .i64 lo, .int .i64 hi] w fun e w' => e = .returned (.bool (inr n lo hi)) ∧ w' = w :=
  (l1In_any n lo hi w).mono fun _ _ h => ⟨h.1, h.2.symm⟩
end Go.Proofs.Ytgeedgljabdllaa
