import Derived.Test.YtgeedgljabdllaaPl
set_option maxRecDepth 8000
namespace Go.Proofs.Ytgeedgljabdllaa
open Go.ChangeShapes Go.WideShapes Go.ChangeAt Go.RowKit
/-! slices of bools. -/
def RdF (w : World) (B : Nat) (A : Option Addr) (n : Nat) (L : List Bool) : Prop :=
  L.length = n ∧ (0 < n → ∃ b off, A = some ⟨b, off, none⟩ ∧ b < B ∧ ∀ k, k < n → w.cell? ⟨b, off + k, none⟩ = some (.bool (nb L k)))

theorem RdF.at_ {w : World} {B : Nat} {A : Option Addr} {n : Nat} {L : List Bool} (h : RdF w B A n L) {k : Nat} (hk : k < n) :
    ∃ b off, A = some ⟨b, off, none⟩ ∧ b < B ∧ w.cell? ⟨b, off + k, none⟩ = some (.bool (nb L k)) := by
  obtain ⟨b, off, e, hb, hc⟩ := h.2 (by omega)
  exact ⟨b, off, e, hb, hc k hk⟩

theorem bool_info : (Try.prog.info? 4).map (fun i => (i.zero, i.size, i.bytes)) = some (some (.bool false), 1, 1) := by kernel_rfl
def bvals (L : List Bool) : List Value := L.map (Value.bool)
theorem bvals_length (L : List Bool) : (bvals L).length = L.length := by simp [bvals]
theorem bvals_get {L : List Bool} {k : Nat} (h : k < L.length) : (bvals L)[k]? = some (.bool (nb L k)) := by
  simp [bvals, nb, h, List.getD_eq_getElem?_getD]
/-- the call's own slice of ints. -/
def OwF (w : World) (lo : Nat) (A : Option Addr) (n c : Nat) (L : List Bool) : Prop := w.ownsRow lo 4 1 (.slice A n c) n (bvals L)

section
variable {w w' : World} {lo : Nat} {A : Option Addr} {n c : Nat} {L : List Bool}
theorem OwF.len (h : OwF w lo A n c L) : L.length = n := by have := h.1; simpa [bvals] using this
theorem OwF.form (h : OwF w lo A n c L) (hn : 0 < n) : ∃ g, A = some ⟨g, 0, none⟩ ∧ lo ≤ g ∧ g < w.heap.size := by
  obtain ⟨g, cap, hv, h1, h2⟩ := World.ownsRow.form h hn
  injection hv with hA
  exact ⟨g, hA, h1, h2⟩
theorem OwF.rd (h : OwF w lo A n c L) : RdF w w.heap.size A n L := by
  refine ⟨h.len, fun hn => ?_⟩
  obtain ⟨g, rfl, hlo, hg⟩ := h.form hn
  refine ⟨g, 0, rfl, hg, fun k hk => ?_⟩
  have := World.ownsRow.cellAt h k (by omega)
  rw [Nat.zero_add, this]
  exact bvals_get (by rw [h.len]; exact hk)
theorem OwF.below (h : OwF w lo A n c L) (hb : Below w.heap.size w w') : OwF w' lo A n c L :=
  World.ownsRow.kept h (row := none) ⟨hb.os, hb.tape, hb.output, hb.size, fun k hk _ => hb.block k hk⟩ (by
    cases e : (Value.slice A n c).ownBlock
    · exact .inl rfl
    · exact .inr (by simp))
theorem OwF.mono (h : OwF w lo A n c L) {lo' : Nat} (hl : lo' ≤ lo) : OwF w lo' A n c L := World.ownsRow.mono h hl
theorem RdF.below {B : Nat} (h : RdF w B A n L) (hb : Below B w w') : RdF w' B A n L :=
  ⟨h.1, fun hn => by
    obtain ⟨b, off, e, hlt, hc⟩ := h.2 hn
    exact ⟨b, off, e, hlt, fun k hk => (hb.cell (p := ⟨b, off + k, none⟩) hlt).trans (hc k hk)⟩⟩
theorem RdF.more {B B' : Nat} (h : RdF w B A n L) (hB : B ≤ B') : RdF w B' A n L :=
  ⟨h.1, fun hn => by
    obtain ⟨b, off, e, hlt, hc⟩ := h.2 hn
    exact ⟨b, off, e, by omega, hc⟩⟩
end

theorem OwF.own_lo {w : World} {lo : Nat} {A : Option Addr} {n c : Nat} {L : List Bool} (h : OwF w lo A n c L) : ∀ g, (Value.slice A n c).ownBlock = some g → lo ≤ g := fun g hg => (World.ownsRow.lt h g hg).1

theorem OwF.nil_ (w : World) (lo : Nat) : OwF w lo none 0 0 [] := World.ownsRow_nil w lo _ _
theorem OwF.made0 (w : World) (lo : Nat) (h : lo ≤ w.heap.size) : OwF (w.alloc (.cells #[] 4)) lo (some ⟨w.heap.size, 0, none⟩) 0 0 [] := World.ownsRow_made w #[] 0 h (by simp [maxLen]) rfl
theorem bvals_append (L : List Bool) (v : Bool) : bvals (L ++ [v]) = bvals L ++ [.bool v] := by simp [bvals]

/-- 'out = append(out, v)', out the call's own: the walk goes on with a slice that owns one element more. -/
theorem push_flag {w : World} {ops : Array Oper} {rest : List Oper} {o : Oper} {a : Act} {Q : Exit → Act → World → Prop} (hgd : o.guard = none) (s x : Operand)
    (ho : o.op = .call { callee := .builtin .append, args := #[s, x], argTypes := #[41, 41] })
    (lo : Nat) (A : Option Addr) (n c : Nat) (L : List Bool) (v : Bool) (hs : a.eval s = .slice A n c) (hx : a.eval x = .slice (some ⟨w.heap.size, 0, none⟩) 1 1) (hown : OwF w lo A n c L) (hn : n ≤ 1099511627776) (hlo : lo ≤ w.heap.size)
    (h : ∀ A' c' w', OwF w' lo A' (n + 1) c' (L ++ [v]) → (w.alloc (.cells #[.bool v] 4)).grownBy w' (Value.slice A n c).ownBlock → wpList Try.prog ops Q rest (a.put o.dst (.slice A' (n + 1) c')) w') :
    wpList Try.prog ops Q (o :: rest) a (w.alloc (.cells #[.bool v] 4)) := by
  obtain ⟨i0, hi, hz0, hz1, hz2⟩ := info_parts bool_info
  refine wpList_append_own (P := Try.prog) _ hgd s x 41 ho lo 4 i0 (.bool false) 1 1 Try.underlying41 hi hz0 hz1 hz2 rfl (by decide) _ n (bvals L) hs (World.ownsRow.alloc hown _) ⟨w.heap.size, 0, none⟩ 1 1 [.bool v] hx rfl ?_ ?_ (by simp only [maxLen]; omega) (by omega) (by simp; omega) ?_
  · intro j u hj
    match j, hj with
    | 0, hj =>
      simp at hj
      subst hj
      simp [Addr.add]
  · intro u hu
    simp at hu
    subst hu
    rfl
  · intro v' w' h2 h3 _
    obtain ⟨g, cap, hv, _, _⟩ := World.ownsRow.form h2 (by omega)
    subst hv
    exact h _ _ _ (by unfold OwF; rw [bvals_append]; exact h2) h3
theorem step_push_flag {W : World} {ops : Array Oper} {o : Oper} {a : Act} {K : Act → World → Prop} {Q : Exit → Act → World → Prop} {E : Prop} (hgd : o.guard = none) (s x : Operand)
    (ho : o.op = .call { callee := .builtin .append, args := #[s, x], argTypes := #[41, 41] })
    (lo : Nat) (A : Option Addr) (n c : Nat) (L : List Bool) (v : Bool) (hs : a.eval s = .slice A n c) (hx : a.eval x = .slice (some ⟨W.heap.size, 0, none⟩) 1 1) (hown : OwF W lo A n c L) (hn : n ≤ 1099511627776) (hlo : lo ≤ W.heap.size)
    (h : ∀ A' c' w', OwF w' lo A' (n + 1) c' (L ++ [v]) → (W.alloc (.cells #[.bool v] 4)).grownBy w' (Value.slice A n c).ownBlock → K (a.put o.dst (.slice A' (n + 1) c')) w') :
    if Region.wanted o (yielded ops a.tmps) = true then Oper.wp Try.prog o a (W.alloc (.cells #[.bool v] 4)).drew K Q else E := by
  obtain ⟨i0, hi, hz0, hz1, hz2⟩ := info_parts bool_info
  refine step_append_lies (P := Try.prog) _ hgd s x 41 ho lo 4 i0 (.bool false) 1 1 Try.underlying41 hi hz0 hz1 hz2 rfl (by decide) _ n (bvals L) hs (World.ownsRow.drew (World.ownsRow.alloc hown _)) ⟨W.heap.size, 0, none⟩ 1 1 [.bool v] hx rfl (World.news_of_block (cs := #[.bool v]) (t := 4) (fr := (0, 0)) (heap_alloc_new W _)) (by simp [Value.oneCell']) (by omega) (by simp only [maxLen]; omega) (by omega) (by simp; omega) (W.heap.size + 1) (by simp) ?_
  intro g cap w' h2 h3 _ _
  exact h _ _ _ (by unfold OwF; rw [bvals_append]; exact h2) ⟨h3.os, h3.tape, h3.output, h3.size, h3.block⟩
theorem push_belowF {B : Nat} {w0 w w' : World} {lo : Nat} {A : Option Addr} {n c : Nat} {L : List Bool} {o : Obj} (hb : Below B w0 w) (hown : OwF w lo A n c L) (hlo : B ≤ lo) (hB : B ≤ w.heap.size) (hg : (w.alloc o).grownBy w' (Value.slice A n c).ownBlock) : Below B w0 w' :=
  (hb.alloc hB o).grown hg (by simp; omega) (fun k hk => Nat.le_trans hlo (hown.own_lo k hk))

theorem OwF.own_hi {w : World} {lo : Nat} {A : Option Addr} {n c : Nat} {L : List Bool} (h : OwF w lo A n c L) : ∀ g, (Value.slice A n c).ownBlock = some g → g < w.heap.size := fun g hg => (World.ownsRow.lt h g hg).2
/-- the post of a call that hands back a slice of its own that reads L. -/
def RetFl (w : World) (L : List Bool) (e : Ending) (w' : World) : Prop := ∃ A c, e = .returned (.slice A L.length c) ∧ OwF w' w.heap.size A L.length c L ∧ Below w.heap.size w w'
theorem retFl_mk {w w' : World} {A : Option Addr} {n c : Nat} {L : List Bool} (h : OwF w' w.heap.size A n c L) (hb : Below w.heap.size w w') : RetFl w L (.returned (.slice A n c)) w' := by
  obtain rfl := h.len
  exact ⟨A, c, rfl, h, hb⟩
theorem RdF.alloc {w : World} {B : Nat} {A : Option Addr} {n : Nat} {L : List Bool} (h : RdF w B A n L) (hB : B ≤ w.heap.size) (o : Obj) : RdF (w.alloc o) B A n L := h.below ((Below.refl _ _).alloc hB o)
theorem OwF.stored {w : World} {lo g n c : Nat} {L : List Bool} (h : OwF w lo (some ⟨g, 0, none⟩) n c L) (k : Nat) (v : Bool) : w.ownsRow lo 4 1 (.slice (some ⟨g, 0, none⟩) n c) n (bvals L) ∧ (w.setCell ⟨g, k, none⟩ (.bool v)).ownsRow lo 4 1 (.slice (some ⟨g, 0, none⟩) n c) n ((bvals L).set k (.bool v)) :=
  ⟨h, (World.ownsRow.stored h k (.bool v)).1⟩
theorem OwF.cell {w : World} {lo g n c : Nat} {L : List Bool} (h : OwF w lo (some ⟨g, 0, none⟩) n c L) {k : Nat} (hk : k < n) : w.cell? ⟨g, k, none⟩ = some (.bool (nb L k)) ∧ w.frozen? ⟨g, k, none⟩ = false := by
  refine ⟨?_, World.ownsRow.frozenAt h k⟩
  rw [World.ownsRow.cellAt h k (by omega), bvals_get (by rw [h.len]; exact hk)]
theorem Ow.keptB {w w' : World} {lo g n c : Nat} {xs : List Int} {v : Value} (h : Ow w lo (some ⟨g, 0, none⟩) n c xs) (hg : w.grownBy w' v.ownBlock) (hne : ∀ k, v.ownBlock = some k → g < k) : Ow w' lo (some ⟨g, 0, none⟩) n c xs :=
  World.ownsRow.kept h hg (.inr fun e => by
    have e' : some g = v.ownBlock := e
    have := hne g e'.symm
    omega)
theorem OwF.keptF {w w' : World} {lo n c : Nat} {A : Option Addr} {L : List Bool} {v : Value} (h : OwF w lo A n c L) (hg : w.grownBy w' v.ownBlock) (hlt : ∀ g, v.ownBlock = some g → g < lo) : OwF w' lo A n c L := by
  refine World.ownsRow.kept h hg ?_
  cases e : (Value.slice A n c).ownBlock with
  | none => exact .inl rfl
  | some g =>
    refine .inr fun he => ?_
    have h1 := h.own_lo g e
    have h2 := hlt g he.symm
    omega
end Go.Proofs.Ytgeedgljabdllaa
