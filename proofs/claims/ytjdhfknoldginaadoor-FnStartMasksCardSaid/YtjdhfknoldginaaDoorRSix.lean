import Derived.Test.YtjdhfknoldginaaDoorP5A
import Derived.Test.YtjdhfknoldginaaDoorRM3
import Derived.Test.YtjdhfknoldginaaDoorSqNum
import Derived.Test.YtjdhfknoldginaaDoorC3
import Derived.Test.YtjdhfknoldginaaDoorC3C
import Derived.Test.YtjdhfknoldginaaDoorC3G
import Derived.Test.YtjdhfknoldginaaDoorDraw
import Derived.Test.YtjdhfknoldginaaDoorC1
import Derived.Test.YtjdhfknoldginaaDoorOwn
set_option maxRecDepth 8000
namespace Go.Proofs.YtjdhfknoldginaaDoor
open Go.ChangeShapes Go.WideShapes Go.ChangeAt Go.RowKit
/-! What the reference's search finds: of all full grids in rising order those that fit, as many as are wanted. -/
def seqN (v : Nat) : Nat → List Int
  | 0 => []
  | r + 1 => (v : Int) :: seqN (v + 1) r
def rep (s : Nat) : List Int := seqN 1 s
theorem seqN_mem {x : Int} : ∀ {r v : Nat}, x ∈ seqN v r ↔ ∃ u : Nat, x = u ∧ v ≤ u ∧ u < v + r := by
  intro r
  induction r with
  | zero => intro v; simp [seqN]
  | succ r ih =>
    intro v
    simp only [seqN, List.mem_cons, ih]
    constructor
    · rintro (rfl | ⟨u, rfl, h1, h2⟩)
      · exact ⟨v, rfl, by omega, by omega⟩
      · exact ⟨u, rfl, by omega, by omega⟩
    · rintro ⟨u, rfl, h1, h2⟩
      by_cases e : u = v
      · subst e; exact .inl rfl
      · exact .inr ⟨u, rfl, by omega, by omega⟩
theorem rep_mem {x : Int} {s : Nat} : x ∈ rep s ↔ ∃ u : Nat, x = u ∧ 1 ≤ u ∧ u ≤ s := by
  unfold rep
  rw [seqN_mem]
  constructor
  · rintro ⟨u, e, h1, h2⟩; exact ⟨u, e, h1, by omega⟩
  · rintro ⟨u, e, h1, h2⟩; exact ⟨u, e, h1, by omega⟩
theorem seqN_snoc (v r : Nat) : seqN v (r + 1) = seqN v r ++ [((v + r : Nat) : Int)] := by
  induction r generalizing v with
  | zero => rfl
  | succ r ih =>
    rw [seqN, ih (v + 1), seqN]
    simp only [List.cons_append]
    rw [show v + 1 + r = v + (r + 1) by omega]
def enS (s : Nat) : Nat → List Int → Nat → List (List Int)
  | 0, g, _ => [g]
  | f + 1, g, p => if 0 < nth g p then enS s f g (p + 1) else (rep s).flatMap fun x => enS s f (g.set p x) (p + 1)
theorem take_take {α : Type} (m : Nat) (X Y : List α) : (X.take m ++ Y).take m = (X ++ Y).take m := by
  by_cases h : X.length ≤ m
  · rw [List.take_of_length_le h]
  · have h1 : (X.take m).length = m := by rw [List.length_take]; omega
    rw [List.take_append_of_le_length (by omega), List.take_append_of_le_length (by omega), List.take_take, Nat.min_self]
theorem take_self {α : Type} {m : Nat} {X : List α} (Y : List α) (h : X.length = m) : (X ++ Y).take m = X := by
  rw [List.take_append_of_le_length (by omega), List.take_of_length_le (by omega)]
theorem s5_is {fit : List Int → Bool} {s most : Nat} (In : Nat → List Int → Nat → Prop)
    (h1 : ∀ f g p, In (f + 1) g p → 0 < nth g p → In f g (p + 1)) (h2 : ∀ f g p x, In (f + 1) g p → ¬ 0 < nth g p → x ∈ rep s → In f (g.set p x) (p + 1))
    (hm : ∀ f g p y, In f g p → y ∈ enS s f g p → fit y = true → fit g = true) :
    ∀ f g p Ls, In f g p → fit g = true → Ls.length < most → s5 fit s most f g p Ls = (Ls ++ (enS s f g p).filter fit).take most := by
  intro f
  induction f with
  | zero =>
    intro g p Ls _ hf hl
    simp only [s5, enS]
    rw [List.filter_cons_of_pos hf, List.filter_nil, List.take_of_length_le (by simp; omega)]
  | succ f ih =>
    intro g p Ls hI hf hl
    simp only [s5, enS]
    by_cases hp : 0 < nth g p
    · rw [if_pos hp, if_pos hp]
      exact ih g (p + 1) Ls (h1 f g p hI hp) hf hl
    · rw [if_neg hp, if_neg hp]
      have key : ∀ r v Ls, (∀ x ∈ seqN v r, x ∈ rep s) → Ls.length ≤ most →
          tryV fit (fun g' L' => s5 fit s most f g' (p + 1) L') g p most r v Ls = (Ls ++ ((seqN v r).flatMap fun x => enS s f (g.set p x) (p + 1)).filter fit).take most := by
        intro r
        induction r with
        | zero => intro v Ls _ hle; simp only [tryV, seqN, List.flatMap_nil, List.filter_nil, List.append_nil]; exact (List.take_of_length_le hle).symm
        | succ r ihr =>
          intro v Ls hin hle
          simp only [tryV, seqN, List.flatMap_cons, List.filter_append]
          by_cases hlt : Ls.length < most
          · rw [if_pos hlt]
            have hv := hin (v : Int) (by simp [seqN])
            have hIv := h2 f g p v hI hp hv
            have e : (if fit (g.set p (v : Int)) = true then s5 fit s most f (g.set p (v : Int)) (p + 1) Ls else Ls) = (Ls ++ (enS s f (g.set p (v : Int)) (p + 1)).filter fit).take most := by
              by_cases hfit : fit (g.set p (v : Int)) = true
              · rw [if_pos hfit]; exact ih _ _ _ hIv hfit hlt
              · rw [if_neg hfit]
                have : (enS s f (g.set p (v : Int)) (p + 1)).filter fit = [] := by
                  rw [List.filter_eq_nil_iff]
                  intro y hy hfy
                  exact hfit (hm _ _ _ y hIv hy hfy)
                rw [this, List.append_nil, List.take_of_length_le hle]
            rw [e, ihr (v + 1) _ (fun x hx => hin x (by simp [seqN, hx])) (by rw [List.length_take]; omega), take_take, List.append_assoc]
          · rw [if_neg hlt]
            exact (take_self _ (by omega)).symm
      exact key s 1 Ls (fun x hx => hx) (by omega)
theorem enS_in {s : Nat} : ∀ f g p y, y ∈ enS s f g p → p + f = g.length → y.length = g.length ∧ (∀ i, i < p → nth y i = nth g i) ∧ ∀ i, p ≤ i → i < g.length → (0 < nth g i → nth y i = nth g i) ∧ (¬ 0 < nth g i → nth y i ∈ rep s) := by
  intro f
  induction f with
  | zero =>
    intro g p y hy hl
    simp only [enS, List.mem_singleton] at hy
    subst hy
    exact ⟨rfl, fun _ _ => rfl, fun i h1 h2 => absurd h2 (by omega)⟩
  | succ f ih =>
    intro g p y hy hl
    simp only [enS] at hy
    split at hy
    · next hp =>
      obtain ⟨a, b, c⟩ := ih g (p + 1) y hy (by omega)
      refine ⟨a, fun i hi => b i (by omega), fun i h1 h2 => ?_⟩
      by_cases e : i = p
      · subst e; exact ⟨fun _ => b i (by omega), fun h => absurd hp h⟩
      · exact c i (by omega) h2
    · next hp =>
      obtain ⟨x, hx, hy⟩ := List.mem_flatMap.1 hy
      obtain ⟨a, b, c⟩ := ih _ (p + 1) y hy (by rw [List.length_set]; omega)
      rw [List.length_set] at a c
      refine ⟨a, fun i hi => ?_, fun i h1 h2 => ?_⟩
      · rw [b i (by omega), nth_set (by omega), if_neg (by omega)]
      · by_cases e : i = p
        · subst e
          refine ⟨fun h => absurd h hp, fun _ => ?_⟩
          rw [b i (by omega), nth_set (by omega), if_pos rfl]
          exact hx
        · have := c i (by omega) h2
          rw [nth_set (by omega), if_neg (by omega)] at this
          exact this
/-- a grid whose cells are those of a fitting one, or empty, fits. -/
theorem fit_mono {s : Nat} {gi : List Int} {rs : List RuleM} {g y : List Int} (hs : s ∈ [2, 3, 4]) (hr : ∀ i, i < rs.length → rvR s (rat rs i) = true) (hgy : gv y s = true) (hgg : gv g s = true) (hl : y.length = g.length) (h : ∀ i, i < y.length → nth g i = nth y i ∨ nth g i = 0) (hf : fitB s gi rs y = true) : fitB s gi rs g = true := by
  simp only [fitB, Bool.and_eq_true, List.all_eq_true, List.mem_range, Bool.not_eq_true'] at hf ⊢
  obtain ⟨⟨f1, f2⟩, f3⟩ := hf
  have hln : y.length = s * s := by
    have := gv_len hgy
    simp at hs
    rcases hs with rfl | rfl | rfl <;> omega
  refine ⟨⟨fun i hi => ?_, fun i hi => ?_⟩, ?_⟩
  · rcases h i (by omega) with e | e
    · have := f1 i (by omega)
      unfold giveOk at this ⊢
      rw [e]; exact this
    · unfold giveOk
      rw [e]
      simp
  · have h1 := f2 i hi
    have h2 := hr i hi
    unfold rpR at h1 ⊢
    exact rp_mono h2 hgy hgg hs h h1
  · cases hc : clash g s
    · rfl
    · obtain ⟨i, j, hi, hj, ha, e, h0⟩ := (clash_iff hs).1 hc
      have ei : nth g i = nth y i := (h i (by omega)).resolve_right (by omega)
      have ej : nth g j = nth y j := (h j (by omega)).resolve_right (by omega)
      have : clash y s = true := (clash_iff hs).2 ⟨i, j, hi, hj, ha, by rw [← ei, ← ej, e], by rw [← ej]; exact h0⟩
      rw [f3] at this; cases this
theorem okAll_gv' {s : Nat} {y : List Int} (hs : s ∈ [2, 3, 4]) (hl : y.length = s * s) (h : ∀ i, i < s * s → 0 ≤ nth y i ∧ nth y i ≤ s) : gv y s = true := by
  simp at hs
  exact okAll_gv hl (by rcases hs with rfl | rfl | rfl <;> decide) (by omega) (by omega) h
/-- all solutions of a puzzle, in rising order. -/
def solL (s : Nat) (gi : List Int) (rs : List RuleM) : List (List Int) := (enS s gi.length gi 0).filter (fitB s gi rs)
theorem enS_full {s : Nat} {y : List Int} (hs : s ∈ [2, 3, 4]) {f : Nat} {g : List Int} {p : Nat} (hp : p + f = g.length) (hlg : g.length = s * s) (hg : ∀ i, i < s * s → 0 ≤ nth g i ∧ nth g i ≤ s) (hy : y ∈ enS s f g p) : y.length = s * s ∧ gv y s = true ∧ ∀ i, i < s * s → nth g i = nth y i ∨ nth g i = 0 := by
  obtain ⟨a, b, c⟩ := enS_in f g p y hy hp
  have key : ∀ i, i < s * s → (nth g i = nth y i ∨ nth g i = 0) ∧ (0 ≤ nth y i ∧ nth y i ≤ s) := fun i hi => by
    have hgi := hg i hi
    by_cases h1 : i < p
    · rw [b i h1]; exact ⟨.inl rfl, hgi⟩
    · obtain ⟨c1, c2⟩ := c i (by omega) (by omega)
      by_cases h0 : 0 < nth g i
      · rw [c1 h0]; exact ⟨.inl rfl, hgi⟩
      · obtain ⟨u, e, u1, u2⟩ := rep_mem.1 (c2 h0)
        exact ⟨.inr (by omega), by omega⟩
  exact ⟨a.trans hlg, okAll_gv' hs (a.trans hlg) (fun i hi => (key i hi).2), fun i hi => (key i hi).1⟩
theorem allS_is {s : Nat} {gi : List Int} {rs : List RuleM} {most n : Nat} (hl : gi.length = n) (hv : pvB s gi rs = true) (h0 : 0 < most) : allS s most n gi rs = (solL s gi rs).take most := by
  obtain ⟨t, ht, hs, hn, _, hok⟩ := pv_grid hv hl
  obtain rfl : s = t := by omega
  obtain ⟨hgi, _, hr⟩ := pv_gv hv
  have hn' : n = s * s := by
    simp at hs
    rcases hs with rfl | rfl | rfl <;> omega
  subst hn'
  let In : Nat → List Int → Nat → Prop := fun f g p => p + f = s * s ∧ g.length = s * s ∧ ∀ i, i < s * s → 0 ≤ nth g i ∧ nth g i ≤ (s : Int)
  have hmono : ∀ f g p y, In f g p → y ∈ enS s f g p → fitB s gi rs y = true → fitB s gi rs g = true := by
    rintro f g p y ⟨i1, i2, i3⟩ hy hf
    obtain ⟨q1, q2, q3⟩ := enS_full hs (by omega) i2 i3 hy
    exact fit_mono hs hr q2 (okAll_gv' hs i2 i3) (by omega) (fun i hi => q3 i (by omega)) hf
  have hI0 : In (s * s) gi 0 := ⟨by omega, hl, hok⟩
  unfold allS solL
  rw [hl]
  by_cases hf : fpB s gi rs gi = true
  · have hfit : fitB s gi rs gi = true := by simp only [fpB, Bool.and_eq_true] at hf; exact hf.2
    rw [if_pos hf, Int.toNat_natCast]
    have := s5_is (fit := fitB s gi rs) (s := s) (most := most) In ?_ ?_ hmono (s * s) gi 0 [] hI0 hfit (by simpa using h0)
    · rw [this, List.nil_append]
    · rintro f g p ⟨i1, i2, i3⟩ _
      exact ⟨by omega, i2, i3⟩
    · rintro f g p x ⟨i1, i2, i3⟩ _ hx
      refine ⟨by omega, by rw [List.length_set]; exact i2, fun i hi => ?_⟩
      rw [nth_set (by omega)]
      split
      · obtain ⟨u, e, u1, u2⟩ := rep_mem.1 hx
        omega
      · exact i3 i hi
  · rw [if_neg hf]
    have : (enS s (s * s) gi 0).filter (fitB s gi rs) = [] := by
      rw [List.filter_eq_nil_iff]
      intro y hy hfy
      apply hf
      have := hmono _ _ _ y hI0 hy hfy
      simp only [fpB, Bool.and_eq_true]
      exact ⟨⟨hv, hgi⟩, this⟩
    rw [this, List.take_nil]

/-! The program's search by exact cover, cell by cell. -/
/-- the last of a rule's cells. -/
def lastN (xs : List Int) : Nat → Nat
  | 0 => 0
  | k + 1 => max (lastN xs k) (nth xs k).toNat
theorem lastN_ge {xs : List Int} : ∀ {n i : Nat}, i < n → (nth xs i).toNat ≤ lastN xs n := by
  intro n
  induction n with
  | zero => intro i h; omega
  | succ n ih =>
    intro i h
    simp only [lastN]
    by_cases e : i = n
    · subst e; omega
    · have := ih (i := i) (by omega); omega
theorem lastN_at {xs : List Int} : ∀ {n : Nat}, 0 < n → ∃ i, i < n ∧ (nth xs i).toNat = lastN xs n := by
  intro n
  induction n with
  | zero => intro h; omega
  | succ n ih =>
    intro _
    simp only [lastN]
    by_cases e : n = 0
    · subst e; exact ⟨0, by omega, by simp [lastN]⟩
    · obtain ⟨i, h1, h2⟩ := ih (by omega)
      by_cases h : lastN xs n ≤ (nth xs n).toNat
      · exact ⟨n, by omega, by omega⟩
      · exact ⟨i, by omega, by omega⟩
def lastR (r : RuleM) : Nat := lastN r.xs r.xs.length
def rulesAt (rs : List RuleM) (p : Nat) : List RuleM := rs.filter fun r => lastR r == p
/-- the cell's value stands in neither of its lines ahead of it. -/
def noConf (s : Nat) (us : List Int) (p : Nat) : Bool := (List.range p).all fun i => !(adj s i p && (nth us i == nth us p))
def rlOk (rs : List RuleM) (us : List Int) (p : Nat) : Bool := (rulesAt rs p).all fun r => holdsB r.k r.v (pks us r.xs r.xs.length)
def stB (s : Nat) (rs : List RuleM) (us : List Int) (p : Nat) : Bool := noConf s us p && rlOk rs us p
def cv (s : Nat) (gi : List Int) (rs : List RuleM) : Nat → List Int → List (List Int)
  | 0, vs => [vs]
  | f + 1, vs => (bitsTo (candN gi s vs.length) 4).flatMap fun v => if stB s rs (vs ++ [v]) vs.length = true then cv s gi rs f (vs ++ [v]) else []
theorem flat_none {α β : Type} {L : List α} {f : α → List β} (h : ∀ x ∈ L, f x = []) : L.flatMap f = [] := by
  induction L with
  | nil => rfl
  | cons a L ih => rw [List.flatMap_cons, h a (List.mem_cons_self ..), List.nil_append, ih (fun x hx => h x (List.mem_cons_of_mem _ hx))]
theorem flat_congr {α β : Type} {L : List α} {f g : α → List β} (h : ∀ x ∈ L, f x = g x) : L.flatMap f = L.flatMap g := by
  induction L with
  | nil => rfl
  | cons a L ih => rw [List.flatMap_cons, List.flatMap_cons, h a (List.mem_cons_self ..), ih (fun x hx => h x (List.mem_cons_of_mem _ hx))]
theorem bits_rep {β : Type} {M s : Nat} (f : Int → List β) (hs : s ≤ 4) (hM : ∀ u, s < u → M.testBit u = false) : (bitsTo M 4).flatMap f = (rep s).flatMap fun v => if M.testBit v.toNat = true then f v else [] := by
  have h1 : ∀ u, (bitsTo M u).flatMap f = (rep u).flatMap fun v => if M.testBit v.toNat = true then f v else [] := by
    intro u
    induction u with
    | zero => rfl
    | succ u ih =>
      rw [bits_flat, ih]
      unfold rep
      rw [seqN_snoc, List.flatMap_append]
      have e : ((1 + u : Nat) : Int) = (u : Int) + 1 := by omega
      have e2 : ((u : Int) + 1).toNat = u + 1 := by omega
      simp only [List.flatMap_cons, List.flatMap_nil, List.append_nil, e, e2]
  have h2 : ∀ d, (rep (s + d)).flatMap (fun v => if M.testBit v.toNat = true then f v else []) = (rep s).flatMap fun v => if M.testBit v.toNat = true then f v else [] := by
    intro d
    induction d with
    | zero => rfl
    | succ d ih =>
      rw [← ih]
      unfold rep
      rw [show s + (d + 1) = (s + d) + 1 by omega, seqN_snoc, List.flatMap_append]
      simp only [List.flatMap_cons, List.flatMap_nil, List.append_nil]
      rw [show (((1 + (s + d) : Nat) : Int)).toNat = 1 + (s + d) by omega, hM _ (by omega)]
      simp
  rw [h1, ← h2 (4 - s), show s + (4 - s) = 4 by omega]
/-- of a full grid, which fits: every cell, with those ahead of it, passes. -/
theorem pks_take {y xs : List Int} {m n p : Nat} (hx : ∀ i, i < n → (nth xs i).toNat < p) (hp : p ≤ m) : pks (y.take m) xs n = pks y xs n := by
  unfold pks
  apply ext_nth (by rw [mapTo_length, mapTo_length])
  intro k hk
  rw [mapTo_length] at hk
  rw [mapTo_nth hk, mapTo_nth hk]
  have := hx k hk
  simp only [nth, List.getD_eq_getElem?_getD, List.getElem?_take]
  unfold nth at this
  rw [List.getD_eq_getElem?_getD] at this
  rw [if_pos (by omega)]
theorem rv_cells {s : Nat} {r : RuleM} (h : rvR s r = true) : 0 < r.xs.length ∧ ∀ i, i < r.xs.length → 0 ≤ nth r.xs i ∧ (nth r.xs i).toNat < s * s := by
  obtain ⟨_, h2, _, h4⟩ := rv_facts rfl h
  refine ⟨by omega, fun i hi => ?_⟩
  obtain ⟨a, b⟩ := h4 i hi
  refine ⟨a, ?_⟩
  have e : ((s * s : Nat) : Int) = (s : Int) * s := by simp
  omega
theorem last_lt {s : Nat} {r : RuleM} (h : rvR s r = true) : lastR r < s * s := by
  obtain ⟨h0, h1⟩ := rv_cells h
  obtain ⟨i, hi, e⟩ := lastN_at (xs := r.xs) h0
  unfold lastR
  rw [← e]
  exact (h1 i hi).2
theorem rat_mem {rs : List RuleM} {r : RuleM} (h : r ∈ rs) : ∃ i, i < rs.length ∧ rat rs i = r := by
  obtain ⟨i, hi, e⟩ := List.getElem_of_mem h
  exact ⟨i, hi, by simp [rat, List.getD_eq_getElem?_getD, hi, e]⟩
theorem full_holds {s : Nat} {r : RuleM} {y : List Int} (hr : rvR s r = true) (hg : gv y s = true) (hf : ∀ i, i < s * s → nth y i ≠ 0) : rpR s y r = holdsB r.k r.v (pks y r.xs r.xs.length) := by
  obtain ⟨_, h1⟩ := rv_cells hr
  exact rp_full hr hg (fun i hi => by unfold pks; rw [mapTo_nth hi]; exact hf _ (h1 i hi).2)
theorem fit_st {s : Nat} {gi y : List Int} {rs : List RuleM} (hs : s ∈ [2, 3, 4]) (hr : ∀ i, i < rs.length → rvR s (rat rs i) = true) (hl : y.length = s * s) (hg : gv y s = true) (hf : ∀ i, i < s * s → nth y i ≠ 0) (h : fitB s gi rs y = true) {p : Nat} (hp : p < s * s) : stB s rs (y.take (p + 1)) p = true := by
  simp only [fitB, Bool.and_eq_true, List.all_eq_true, List.mem_range, Bool.not_eq_true'] at h
  obtain ⟨⟨_, f2⟩, f3⟩ := h
  simp only [stB, noConf, rlOk, Bool.and_eq_true, List.all_eq_true, List.mem_range, Bool.not_eq_true', Bool.and_eq_false_iff]
  constructor
  · intro i hi
    rw [nth_take (by omega), nth_take (by omega)]
    cases ha : adj s i p
    · exact .inl rfl
    · refine .inr ?_
      rw [beq_eq_false_iff_ne]
      intro e
      have h0 := hf p hp
      have hgp := gv_nth hg (k := p) (by omega)
      have : clash y s = true := (clash_iff hs).2 ⟨i, p, by omega, hp, ha, e, by omega⟩
      rw [f3] at this; cases this
  · intro r hrm
    obtain ⟨hr1, hr2⟩ := List.mem_filter.1 hrm
    rw [beq_iff_eq] at hr2
    obtain ⟨i, hi, rfl⟩ := rat_mem hr1
    rw [pks_take (p := p + 1) (fun j hj => by have := lastN_ge (xs := (rat rs i).xs) hj; unfold lastR at hr2; omega) (Nat.le_refl _), ← full_holds (hr i hi) hg hf]
    exact f2 i hi
theorem st_fit {s : Nat} {gi y : List Int} {rs : List RuleM} (hs : s ∈ [2, 3, 4]) (hr : ∀ i, i < rs.length → rvR s (rat rs i) = true) (hl : y.length = s * s) (hg : gv y s = true) (hf : ∀ i, i < s * s → nth y i ≠ 0) (hgi : ∀ i, i < s * s → 0 < nth gi i → nth y i = nth gi i) (h : ∀ p, p < s * s → stB s rs (y.take (p + 1)) p = true) : fitB s gi rs y = true := by
  have hc : ∀ i j, i < j → j < s * s → adj s i j = true → nth y i ≠ nth y j := fun i j hij hj ha e => by
    have := h j hj
    simp only [stB, noConf, Bool.and_eq_true, List.all_eq_true, List.mem_range, Bool.not_eq_true', Bool.and_eq_false_iff] at this
    rcases this.1 i hij with h1 | h1
    · rw [ha] at h1; cases h1
    · rw [nth_take (by omega), nth_take (by omega), e] at h1
      simp at h1
  simp only [fitB, Bool.and_eq_true, List.all_eq_true, List.mem_range, Bool.not_eq_true']
  refine ⟨⟨fun i hi => ?_, fun i hi => ?_⟩, ?_⟩
  · unfold giveOk
    by_cases h0 : 0 < nth gi i
    · rw [hgi i (by omega) h0]; simp
    · simp [h0]
  · rw [full_holds (hr i hi) hg hf]
    have := h (lastR (rat rs i)) (last_lt (hr i hi))
    simp only [stB, rlOk, Bool.and_eq_true, List.all_eq_true] at this
    have := this.2 (rat rs i) (List.mem_filter.2 ⟨by
      have : rat rs i = rs[i] := by simp [rat, List.getD_eq_getElem?_getD, hi]
      rw [this]; exact List.getElem_mem _, by simp⟩)
    rw [pks_take (p := lastR (rat rs i) + 1) (fun j hj => by have := lastN_ge (xs := (rat rs i).xs) hj; unfold lastR; omega) (Nat.le_refl _)] at this
    exact this
  · cases e : clash y s
    · rfl
    · obtain ⟨i, j, hi, hj, ha, e1, _⟩ := (clash_iff hs).1 e
      have hne := (adj_ne s i j).1 ha
      rcases Nat.lt_or_gt_of_ne hne with hlt | hlt
      · exact absurd e1 (hc i j hlt hj ha)
      · exact absurd e1.symm (hc j i hlt hi (by rw [← adj_sym s hs i hi j hj]; exact ha))
theorem cv_is {s : Nat} {gi : List Int} {rs : List RuleM} (hv : pvB s gi rs = true) : cv s gi rs gi.length [] = solL s gi rs := by
  obtain ⟨t, ht, hs, hn, _, hok⟩ := pv_grid hv rfl
  obtain rfl : s = t := by omega
  obtain ⟨hgi, _, hr⟩ := pv_gv hv
  have hl : gi.length = s * s := by
    simp at hs
    rcases hs with rfl | rfl | rfl <;> omega
  have hs4 : s ≤ 4 := by simp at hs; omega
  rw [hl] at hok
  unfold solL
  rw [hl]
  -- a prefix that has passed so far
  have key : ∀ f vs, vs.length + f = s * s → (∀ i, i < vs.length → 1 ≤ nth vs i ∧ nth vs i ≤ (s : Int) ∧ (0 < nth gi i → nth vs i = nth gi i)) → (∀ p, p < vs.length → stB s rs (vs.take (p + 1)) p = true) →
      cv s gi rs f vs = (enS s f (vs ++ gi.drop vs.length) vs.length).filter (fitB s gi rs) := by
    intro f
    induction f with
    | zero =>
      intro vs hf hvs hst
      simp only [cv, enS]
      have hd : gi.drop vs.length = [] := List.drop_of_length_le (by omega)
      rw [hd, List.append_nil]
      have hgv : gv vs s = true := okAll_gv' hs (by omega) (fun i hi => by have := hvs i (by omega); omega)
      rw [List.filter_cons_of_pos (st_fit hs hr (by omega) hgv (fun i hi => by have := hvs i (by omega); omega) (fun i hi h0 => (hvs i (by omega)).2.2 h0) (fun p hp => hst p (by omega))), List.filter_nil]
    | succ f ih =>
      intro vs hf hvs hst
      have hpn : vs.length < s * s := by omega
      have hlen : (vs ++ gi.drop vs.length).length = s * s := by rw [List.length_append, List.length_drop]; omega
      have hgp : nth (vs ++ gi.drop vs.length) vs.length = nth gi vs.length := by
        simp only [nth, List.getD_eq_getElem?_getD]
        rw [List.getElem?_append_right (Nat.le_refl _), Nat.sub_self, List.getElem?_drop, Nat.add_zero]
      have hset : ∀ x, (vs ++ gi.drop vs.length).set vs.length x = (vs ++ [x]) ++ gi.drop (vs ++ [x]).length := fun x => by
        rw [List.length_append, List.length_singleton]
        have : gi.drop vs.length = gi[vs.length]'(by omega) :: gi.drop (vs.length + 1) := List.drop_eq_getElem_cons (by omega)
        rw [this, List.set_append_right _ _ (Nat.le_refl _), Nat.sub_self, List.set_cons_zero, List.append_assoc]
        rfl
      have hgrid : ∀ i, i < s * s → 0 ≤ nth (vs ++ gi.drop vs.length) i ∧ nth (vs ++ gi.drop vs.length) i ≤ (s : Int) := fun i hi => by
        by_cases h : i < vs.length
        · have : nth (vs ++ gi.drop vs.length) i = nth vs i := by simp [nth, List.getD_eq_getElem?_getD, List.getElem?_append_left h]
          rw [this]; have := hvs i h; omega
        · have : nth (vs ++ gi.drop vs.length) i = nth gi i := by
            simp [nth, List.getD_eq_getElem?_getD, List.getElem?_append_right (show vs.length ≤ i by omega), show vs.length + (i - vs.length) = i by omega]
          rw [this]; exact hok i hi
      -- one value: if it passes, go on; if not, nothing that begins so fits
      have one : ∀ x, 1 ≤ x → x ≤ (s : Int) → (0 < nth gi vs.length → x = nth gi vs.length) → (if stB s rs (vs ++ [x]) vs.length = true then cv s gi rs f (vs ++ [x]) else []) = (enS s f ((vs ++ [x]) ++ gi.drop (vs ++ [x]).length) (vs.length + 1)).filter (fitB s gi rs) := fun x x1 x2 xg => by
        by_cases h : stB s rs (vs ++ [x]) vs.length = true
        · rw [if_pos h, ih (vs ++ [x]) (by rw [List.length_append, List.length_singleton]; omega) ?_ ?_]
          · rw [List.length_append, List.length_singleton]
          · intro i hi
            rw [List.length_append, List.length_singleton] at hi
            rw [nth_push rfl]
            by_cases e : i < vs.length
            · rw [if_pos e]; exact hvs i e
            · obtain rfl : i = vs.length := by omega
              rw [if_neg e, if_pos rfl]; exact ⟨x1, x2, xg⟩
          · intro p hp
            rw [List.length_append, List.length_singleton] at hp
            by_cases e : p < vs.length
            · rw [List.take_append_of_le_length (by omega)]; exact hst p e
            · obtain rfl : p = vs.length := by omega
              rw [List.take_of_length_le (by simp)]; exact h
        · rw [if_neg h]
          symm
          rw [List.filter_eq_nil_iff]
          intro y hy hfy
          rw [← hset x] at hy
          have hl2 : ((vs ++ gi.drop vs.length).set vs.length x).length = s * s := by rw [List.length_set]; exact hlen
          have hg2 : ∀ i, i < s * s → 0 ≤ nth ((vs ++ gi.drop vs.length).set vs.length x) i ∧ nth ((vs ++ gi.drop vs.length).set vs.length x) i ≤ (s : Int) := fun i hi => by
            rw [nth_set (by omega)]
            split
            · omega
            · exact hgrid i hi
          obtain ⟨q1, q2, _⟩ := enS_full hs (by omega) hl2 hg2 hy
          obtain ⟨_, b, c⟩ := enS_in f _ _ y hy (by omega)
          have hpre : ∀ i, i < vs.length + 1 → nth y i = nth (vs ++ [x]) i := fun i hi => by
            rw [b i hi, nth_set (by omega), nth_push rfl]
            by_cases e : i < vs.length
            · rw [if_neg (by omega), if_pos e]
              simp [nth, List.getD_eq_getElem?_getD, List.getElem?_append_left e]
            · rw [if_pos (by omega), if_neg e, if_pos (by omega)]
          have hfull : ∀ i, i < s * s → nth y i ≠ 0 := fun i hi => by
            by_cases e : i < vs.length + 1
            · rw [hpre i e, nth_push rfl]
              by_cases e2 : i < vs.length
              · rw [if_pos e2]; have := hvs i e2; omega
              · rw [if_neg e2, if_pos (by omega)]; omega
            · obtain ⟨c1, c2⟩ := c i (by omega) (by omega)
              by_cases h0 : 0 < nth ((vs ++ gi.drop vs.length).set vs.length x) i
              · rw [c1 h0]; omega
              · obtain ⟨u, e3, u1, _⟩ := rep_mem.1 (c2 h0)
                omega
          have htake : y.take (vs.length + 1) = vs ++ [x] := by
            apply ext_nth (by rw [List.length_take, q1, List.length_append, List.length_singleton]; omega)
            intro k hk
            rw [List.length_take] at hk
            rw [nth_take (by omega)]
            exact hpre k (by omega)
          have := fit_st hs hr q1 q2 hfull hfy hpn
          rw [htake] at this
          exact h this
      simp only [cv, enS]
      rw [hgp]
      by_cases h0 : 0 < nth gi vs.length
      · rw [if_pos h0]
        have ho := hok _ hpn
        obtain ⟨u, hu⟩ := Int.eq_ofNat_of_zero_le (show 0 ≤ nth gi vs.length by omega)
        have hc : candN gi s vs.length = 2 ^ u := by unfold candN; rw [if_pos h0, hu, Int.toNat_natCast]
        rw [hc, bits_pow u (by omega) (by omega)]
        simp only [List.flatMap_cons, List.flatMap_nil, List.append_nil]
        rw [← hu, one (nth gi vs.length) (by omega) (by omega) (fun _ => rfl), ← hset]
        have : (vs ++ gi.drop vs.length).set vs.length (nth gi vs.length) = vs ++ gi.drop vs.length := by
          apply ext_nth (by rw [List.length_set])
          intro k hk
          rw [List.length_set] at hk
          rw [nth_set (by omega)]
          split
          · next e => subst e; exact hgp.symm
          · rfl
        rw [this]
      · rw [if_neg h0]
        have ho := hok _ hpn
        have hc : candN gi s vs.length = candTo gi s vs.length s := by unfold candN; rw [if_neg h0, Int.toNat_natCast]
        rw [hc, bits_rep _ hs4 (fun u hu => by
          cases hb : (candTo gi s vs.length s).testBit u
          · rfl
          · have := (candTo_test gi s vs.length u s).1 hb; omega), List.filter_flatMap]
        apply flat_congr
        intro x hx
        obtain ⟨u, rfl, u1, u2⟩ := rep_mem.1 hx
        rw [Int.toNat_natCast, hset, ← one u (by omega) (by omega) (fun h => absurd h h0)]
        by_cases hb : (candTo gi s vs.length s).testBit u = true
        · rw [if_pos hb]
        · rw [if_neg hb]
          symm
          rw [one u (by omega) (by omega) (fun h => absurd h h0), List.filter_eq_nil_iff]
          intro y hy hfy
          rw [← hset] at hy
          have hl2 : ((vs ++ gi.drop vs.length).set vs.length (u : Int)).length = s * s := by rw [List.length_set]; exact hlen
          have hg2 : ∀ i, i < s * s → 0 ≤ nth ((vs ++ gi.drop vs.length).set vs.length (u : Int)) i ∧ nth ((vs ++ gi.drop vs.length).set vs.length (u : Int)) i ≤ (s : Int) := fun i hi => by
            rw [nth_set (by omega)]
            split
            · omega
            · exact hgrid i hi
          obtain ⟨q1, q2, _⟩ := enS_full hs (by omega) hl2 hg2 hy
          obtain ⟨_, b, c⟩ := enS_in f _ _ y hy (by omega)
          apply hb
          rw [candTo_test, Int.toNat_natCast]
          refine ⟨u1, u2, (ok3_adj hs hpn _).2 (fun i hi ha e => ?_)⟩
          -- a given cell in a line with this one has the value
          simp only [fitB, Bool.and_eq_true, List.all_eq_true, List.mem_range, Bool.not_eq_true'] at hfy
          obtain ⟨⟨f1, _⟩, f3⟩ := hfy
          have hyp : nth y vs.length = (u : Int) := by rw [b _ (by omega), nth_set (by omega), if_pos rfl]
          have hne := (adj_ne s i vs.length).1 ha
          have hgy : giveOk gi y i = true := f1 i (by omega)
          have hy0 : 0 < nth y i := by
            by_cases e2 : i < vs.length + 1
            · rw [b i e2, nth_set (by omega), if_neg (by omega)]
              have : nth (vs ++ gi.drop vs.length) i = nth vs i := by simp [nth, List.getD_eq_getElem?_getD, List.getElem?_append_left (show i < vs.length by omega)]
              rw [this]; have := hvs i (by omega); omega
            · obtain ⟨c1, c2⟩ := c i (by omega) (by omega)
              by_cases h3 : 0 < nth ((vs ++ gi.drop vs.length).set vs.length (u : Int)) i
              · rw [c1 h3]; exact h3
              · obtain ⟨u', e3, u1', _⟩ := rep_mem.1 (c2 h3)
                omega
          have hyi : nth y i = (u : Int) := by
            unfold giveOk at hgy
            rw [e] at hgy
            simp [hy0] at hgy
            exact hgy.resolve_left (by omega)
          have : clash y s = true := (clash_iff hs).2 ⟨i, vs.length, hi, hpn, ha, by rw [hyi, hyp], by omega⟩
          rw [f3] at this; cases this
  have := key (s * s) [] (by simp) (fun i hi => absurd hi (by simp)) (fun p hp => absurd hp (by simp))
  simpa using this
end Go.Proofs.YtjdhfknoldginaaDoor
namespace Go.Proofs.YtjdhfknoldginaaDoor
open Go.ChangeShapes Go.WideShapes Go.ChangeAt Go.RowKit
def sqCnt (s : Int) : Int := if s = 2 then 2 else if s = 3 then 12 else 576
theorem sols_cnt {s : Int} (h2 : 2 ≤ s) (h4 : s ≤ 4) : ((sols s (s * s).toNat (zeros (s * s).toNat) 0).length : Int) = sqCnt s := by
  have : s = 2 ∨ s = 3 ∨ s = 4 := by omega
  rcases this with rfl | rfl | rfl
  · exact congrArg Int.ofNat sols2
  · exact congrArg Int.ofNat sols3
  · exact congrArg Int.ofNat sols4
theorem sqn_none {s n : Int} (h2 : 2 ≤ s) (h4 : s ≤ 4) (h : n < 0 ∨ sqCnt s ≤ n) : sqn s n = [] := by
  unfold sqn
  split
  · next hh =>
    have hc := sols_cnt h2 h4
    rw [List.getElem?_eq_none (by omega)]
    rfl
  · rfl
theorem sqn_bad {s n : Int} (h : ¬ (2 ≤ s ∧ s ≤ 4)) : sqn s n = [] := by
  have : inr s 2 4 = false := by simp only [inr, decide_eq_false_iff_not]; exact h
  simp [sqn, this]
/-- the grid with a number is solved; the next one is a later one. -/
theorem sqn_some {s n : Int} (h2 : 2 ≤ s) (h4 : s ≤ 4) (n0 : 0 ≤ n) (n1 : n < sqCnt s) : (sqn s n).length = (s * s).toNat ∧ sqSolved (sqn s n) s = true ∧ (n + 1 < sqCnt s → (sqn s (n + 1)).length = (s * s).toNat ∧ lexlt (s * s).toNat (sqn s n) (sqn s (n + 1))) := by
  obtain ⟨q4, q16⟩ := sq_bd h2 h4
  have hs : inr s 2 4 = true := by simp [inr, h2, h4]
  have hc := sols_cnt h2 h4
  have hnn : (((s * s).toNat : Nat) : Int) = s * s := Int.toNat_of_nonneg (by omega)
  have get : ∀ m : Int, 0 ≤ m → (hm : m < sqCnt s) → ∃ h : m.toNat < (sols s (s * s).toNat (zeros (s * s).toNat) 0).length, sqn s m = (sols s (s * s).toNat (zeros (s * s).toNat) 0)[m.toNat] := fun m m0 hm => by
    have h : m.toNat < (sols s (s * s).toNat (zeros (s * s).toNat) 0).length := by omega
    refine ⟨h, ?_⟩
    unfold sqn
    rw [if_pos ⟨hs, m0⟩, List.getElem?_eq_getElem h]
    rfl
  obtain ⟨hl, e⟩ := get n n0 n1
  have hmem := List.getElem_mem hl
  obtain ⟨a1, a2⟩ := sols_solved h2 h4 hnn hmem
  rw [e]
  refine ⟨a1, a2, fun n2 => ?_⟩
  obtain ⟨hl2, e2⟩ := get (n + 1) (by omega) n2
  rw [e2]
  refine ⟨(sols_solved h2 h4 hnn (List.getElem_mem hl2)).1, ?_⟩
  have hs := sols_sorted (size := s) (s * s).toNat (s * s).toNat (zeros (s * s).toNat) 0 (Nat.zero_add _) (zeros_length _)
  rw [List.pairwise_iff_getElem] at hs
  exact hs n.toNat (n + 1).toNat hl hl2 (by omega)
end Go.Proofs.YtjdhfknoldginaaDoor
namespace Go.Proofs.YtjdhfknoldginaaDoor
open Go.ChangeShapes Go.WideShapes Go.ChangeAt Go.RowKit

theorem subset_and (a m : Nat) (ha : a < 2 ^ 64) (hm : m < 2 ^ 64) (h : a &&& (2 ^ 64 - (m + 1)) = 0) : a = a &&& m := by
  apply Nat.eq_of_testBit_eq
  intro i
  rw [Nat.testBit_and]
  cases hai : a.testBit i
  · rfl
  · have hi : i < 64 := by
      rcases Nat.lt_or_ge i 64 with h | h
      · exact h
      · have := Nat.testBit_lt_two_pow (Nat.lt_of_lt_of_le ha (Nat.pow_le_pow_right (by decide) h))
        rw [hai] at this; cases this
    have h2 := congrArg (fun z => z.testBit i) h
    simp only [Nat.testBit_and, hai, Nat.testBit_two_pow_sub_succ hm, hi, Nat.zero_testBit, decide_true, Bool.true_and, Bool.not_eq_false'] at h2
    rw [h2]; rfl
theorem small_and : ∀ s, s < 5 → ∀ a, a < 32 → a ≤ 2 ^ (s + 1) - 2 → a % 2 = 0 → a &&& (18446744073709551616 - (2 ^ (s + 1) - 2 + 1)) = 0 := by decide +kernel
theorem even_and : ∀ s, s < 5 → ∀ a, a % 2 = 1 → a &&& (2 ^ (s + 1) - 2) ≠ a := by
  intro s hs a ha h
  have h0 := congrArg (fun z => z.testBit 0) h
  have e : (2 ^ (s + 1) - 2).testBit 0 = false := by
    have : s = 0 ∨ s = 1 ∨ s = 2 ∨ s = 3 ∨ s = 4 := by omega
    rcases this with rfl | rfl | rfl | rfl | rfl <;> rfl
  simp only [Nat.testBit_and, e, Bool.and_false] at h0
  rw [Nat.testBit_zero] at h0
  simp [ha] at h0
theorem andNot_ok (x : Int) (s : Nat) (hs : s ≤ 4) (hx : -9223372036854775808 ≤ x ∧ x ≤ 9223372036854775807) :
    (bits .andNot .i64 x ((2 ^ (s + 1) - 2 : Nat) : Int) == 0) = mkOk ((2 : Int) ^ (s + 1) - 2) x := by
  have hp : (2 : Int) ^ (s + 1) - 2 = ((2 ^ (s + 1) - 2 : Nat) : Int) := by
    have : s = 0 ∨ s = 1 ∨ s = 2 ∨ s = 3 ∨ s = 4 := by omega
    rcases this with rfl | rfl | rfl | rfl | rfl <;> rfl
  have hm30 : 2 ^ (s + 1) - 2 ≤ 30 := by
    have : s = 0 ∨ s = 1 ∨ s = 2 ∨ s = 3 ∨ s = 4 := by omega
    rcases this with rfl | rfl | rfl | rfl | rfl <;> decide
  rw [hp]
  have hsa := small_and s (by omega)
  have hev := even_and s (by omega)
  generalize 2 ^ (s + 1) - 2 = m at *
  have hmm : (BitVec.ofInt 64 (m : Int)).toNat = m := ofInt_i64 m (by omega)
  have hb : bits .andNot .i64 x (m : Int) = IntKind.i64.wrap (((BitVec.ofInt 64 x).toNat &&& (2 ^ 64 - (m + 1)) : Nat) : Int) := by
    show IntKind.i64.wrap ((BitVec.ofInt 64 x &&& ~~~BitVec.ofInt 64 (m : Int)).toNat : Int) = _
    rw [BitVec.toNat_and, BitVec.toNat_not, hmm]
    congr 3
    omega
  have hA : (BitVec.ofInt 64 x).toNat < 2 ^ 64 := (BitVec.ofInt 64 x).isLt
  have hAx : ((BitVec.ofInt 64 x).toNat : Int) = x % 2 ^ 64 := by
    rw [BitVec.toNat_ofInt]; exact Int.toNat_of_nonneg (Int.emod_nonneg _ (by decide))
  rw [hb]
  generalize (BitVec.ofInt 64 x).toNat = a at *
  have hlt : a &&& (2 ^ 64 - (m + 1)) < 2 ^ 64 := Nat.and_lt_two_pow _ (by omega)
  have hw : (IntKind.i64.wrap ((a &&& (2 ^ 64 - (m + 1)) : Nat) : Int) == 0) = (a &&& (2 ^ 64 - (m + 1)) == 0) := by
    rw [IntKind.wrap_i64]
    rw [Bool.eq_iff_iff, beq_iff_eq, beq_iff_eq]
    generalize a &&& (2 ^ 64 - (m + 1)) = y at *
    omega
  rw [hw, Bool.eq_iff_iff, beq_iff_eq]
  simp only [mkOk, inr, Bool.and_eq_true, decide_eq_true_eq, beq_iff_eq]
  constructor
  · intro h
    have e := subset_and a m hA (by omega) h
    have hle : a ≤ m := by rw [e]; exact Nat.and_le_right
    have h2 : a % 2 = 0 := by
      rcases Nat.mod_two_eq_zero_or_one a with h' | h'
      · exact h'
      · exact absurd e.symm (hev a h')
    have hxa : x = a := by omega
    refine ⟨⟨by omega, by omega⟩, ?_⟩
    rw [Int.tmod_eq_emod_of_nonneg (by omega)]; omega
  · rintro ⟨⟨h1, h2⟩, h3⟩
    rw [Int.tmod_eq_emod_of_nonneg h1] at h3
    exact hsa a (by omega) (by omega) (by omega)
theorem allValues_any (s : Nat) (hs : s ∈ [2, 3, 4]) (w : World) :
    Calls Tryd.prog 79 #[.int .i64 s] w fun e w' => e = .returned (.int .i64 ((2 ^ (s + 1) - 2 : Nat) : Int)) ∧ w = w' := by
  simp only [List.mem_cons, List.not_mem_nil, or_false] at hs
  rcases hs with rfl | rfl | rfl
  all_goals
    go_enter Tryd.func79, Tryd.ntmps79
    go_wp2
    go_ret
    exact ⟨rfl, rfl⟩
end Go.Proofs.YtjdhfknoldginaaDoor
namespace Go.Proofs.YtjdhfknoldginaaDoor
open Go.ChangeShapes Go.WideShapes Go.ChangeAt Go.RowKit

/- what the program's own functions of chapter 3 must be shown to do. -/
def ICandidatesOf : Prop := ∀ (A : Option Addr) (c n B : Nat) (xs : List Int) (size : Int) (w : World), Rd w B A n xs → B ≤ w.heap.size → n ≤ 1099511627776 →
    Calls Tryd.prog 109 #[.slice A n c, .int .i64 size] w (RetSl w (candL xs size))
def IMasksValid : Prop := ∀ (A : Option Addr) (c n B : Nat) (xs : List Int) (size : Int) (w : World), Rd w B A n xs → B64 xs → B ≤ w.heap.size → n ≤ 1099511627776 → (-9223372036854775808 ≤ size ∧ size ≤ 9223372036854775807) →
    Calls Tryd.prog 18 #[.slice A n c, .int .i64 size] w fun e w' => e = .returned (.bool (mvd xs size)) ∧ Below w.heap.size w w'
def IMaskValues : Prop := ∀ (m : Int) (w : World), (-9223372036854775808 ≤ m ∧ m ≤ 9223372036854775807) → Calls Tryd.prog 16 #[.int .i64 m] w (RetSl w (maskVals m))
theorem candL_length (xs : List Int) (size : Int) : (candL xs size).length ≤ 16 := by
  unfold candL
  split
  · next h =>
    obtain ⟨h2, h4⟩ := gv_size h
    have := sq_bd h2 h4
    have := gv_len h
    rw [mapTo_length]; omega
  · simp
theorem mgL_length (xs : List Int) (size : Int) : (mgL xs size).length ≤ 16 := by
  unfold mgL
  split
  · next h => rw [mapTo_length]; exact (mvd_at h).2.2.1
  · simp
end Go.Proofs.YtjdhfknoldginaaDoor
namespace Go.Proofs.YtjdhfknoldginaaDoor
open Go.ChangeShapes Go.WideShapes Go.ChangeAt Go.RowKit

theorem maskValid_any (x : Int) (s : Nat) (w : World) (hs : s ∈ [2, 3, 4]) (hx : -9223372036854775808 ≤ x ∧ x ≤ 9223372036854775807) :
    Calls Tryd.prog 45 #[.int .i64 x, .int .i64 s] w fun e w' => e = .returned (.bool (mkOk ((2 : Int) ^ (s + 1) - 2) x)) ∧ w = w' := by
  have hs4 : s ≤ 4 := by simp at hs; omega
  have ha := andNot_ok x s hs4 hx
  obtain ⟨m, hm⟩ : ∃ m, 2 ^ (s + 1) - 2 = m := ⟨_, rfl⟩
  rw [hm] at ha
  go_enter Tryd.func45, Tryd.ntmps45
  go_wp2_with (go_at_call 79; refine (allValues_any s hs _).mono ?_; rw [hm]; rintro e w' ⟨rfl, rfl⟩)
  go_ret
  exact ⟨by rw [← ha]; rfl, rfl⟩
theorem implMasksValid : IMasksValid := by
  intro A c n B xs size w h hx64 hB hm hsz
  have hlen := Lib.hid h.1
  cases hs : inr size 2 4
  · have HL := Lib.hid (show mvd xs size = false by simp [mvd, hs])
    go_enter Tryd.func18, Tryd.ntmps18
    go_wp2_with (go_at_call 49; refine (sizeValid_any _ _).mono ?_; rintro e w' ⟨rfl, rfl⟩)
    go_ret
    exact ⟨by rw [HL.out]; rfl, Below.refl _ _⟩
  · obtain ⟨h2, h4⟩ := inr_t hs
    have hw := sq_wrap h2 h4
    cases hsq : ((n : Int) == size * size)
    · have HL := Lib.hid (show mvd xs size = false by simp only [mvd, hlen.out, hsq]; simp)
      have hsq2 : ((n : Int) != wrap64 (size * size)) = true := by rw [hw, bne, hsq]; rfl
      clear hw hsq
      go_enter Tryd.func18, Tryd.ntmps18
      go_wp2_with (go_at_call 49; refine (sizeValid_any _ _).mono ?_; rintro e w' ⟨rfl, rfl⟩)
      go_ret
      exact ⟨by rw [HL.out]; rfl, Below.refl _ _⟩
    · obtain ⟨s, rfl⟩ := Int.eq_ofNat_of_zero_le (by omega : 0 ≤ size)
      have hsm : s ∈ [2, 3, 4] := by
        have : s = 2 ∨ s = 3 ∨ s = 4 := by omega
        simpa using this
      have HL := Lib.hid (show mvd xs s = xs.all (mkOk ((2 : Int) ^ (s + 1) - 2)) by simp only [mvd, hlen.out, hsq, hs, Int.toNat_natCast, Bool.true_and])
      have hsq2 : ((n : Int) != wrap64 ((s : Int) * s)) = false := by rw [hw, bne, hsq]; rfl
      clear hw hsq
      go_enter Tryd.func18, Tryd.ntmps18
      go_wp2_with (go_at_call 49; refine (sizeValid_any _ _).mono ?_; rintro e w' ⟨rfl, rfl⟩)
      go_loop [20] (fun i => ∃ k : Nat, k ≤ n ∧ i = .int .i64 k ∧ Hid (allTo (mkOk ((2 : Int) ^ (s + 1) - 2)) xs k)) (fun i => n - (intOf i).toNat)
      case atStart => exact ⟨0, Nat.zero_le _, rfl, Lib.hid (fun j hj => absurd hj (by omega))⟩
      case round =>
        obtain ⟨k, hk, rfl, hall⟩ := hrel
        by_cases hlt : k < n
        · obtain ⟨b, off, rfl, hb, hck⟩ := h.at_ hlt
          cases hok : mkOk ((2 : Int) ^ (s + 1) - 2) (nth xs k)
          · have Hf := Lib.hid (show mvd xs s = false by rw [HL.out]; exact all_not hlen.out hlt hok)
            go_wp2_with (go_at_call 45; refine (maskValid_any (nth xs k) s _ hsm (hx64 k)).mono ?_; rw [hok]; rintro e w' ⟨rfl, rfl⟩)
            go_ret
            exact ⟨by rw [Hf.out]; rfl, Below.refl _ _⟩
          · have hn2 := Lib.hid (allTo_succ hall.out hok)
            go_wp2_with (go_at_call 45; refine (maskValid_any (nth xs k) s _ hsm (hx64 k)).mono ?_; rw [hok]; rintro e w' ⟨rfl, rfl⟩)
            go_round
            case rel => exact ⟨k + 1, by omega, by go_num, hn2⟩
            case measure => simp [intOf]; omega
        · obtain rfl : k = n := by omega
          have Hf := Lib.hid (show mvd xs s = true by rw [HL.out]; exact allTo_all hall.out hlen.out)
          go_wp2
          go_ret
          exact ⟨by rw [Hf.out]; rfl, Below.refl _ _⟩
end Go.Proofs.YtjdhfknoldginaaDoor
set_option maxRecDepth 8000
namespace Go.Proofs.YtjdhfknoldginaaDoor
open Go.ChangeShapes Go.WideShapes Go.ChangeAt Go.RowKit

theorem pow_int (v : Nat) : ((2 : Int) ^ v) = ((2 ^ v : Nat) : Int) := by simp
theorem and_pow (a v : Nat) (ha : a < 32) (hv : v ≤ 4) : (bits .and .i64 (a : Int) (wrap64 (2 ^ v)) != 0) = a.testBit v := by
  have hlt : 2 ^ v < 2 ^ 5 := Nat.pow_lt_pow_right (by omega) (by omega)
  have hb : (a &&& 2 ^ v) = (a.testBit v).toNat * 2 ^ v := by
    have : v = 0 ∨ v = 1 ∨ v = 2 ∨ v = 3 ∨ v = 4 := by omega
    have key : ∀ a, a < 32 → ∀ v, v < 5 → (a &&& 2 ^ v) = (a.testBit v).toNat * 2 ^ v := by decide
    exact key a ha v (by omega)
  have hp0 : 0 < 2 ^ v := Nat.two_pow_pos v
  rw [pow_int]
  generalize 2 ^ v = p at *
  rw [IntWalk.wrap64_in _ ⟨by omega, by omega⟩]
  have h : bits .and .i64 (a : Int) (p : Int) = ((a &&& p : Nat) : Int) := by
    have hx : a &&& p ≤ a := Nat.and_le_left
    show IntKind.i64.wrap ((BitVec.ofInt 64 (a : Int) &&& BitVec.ofInt 64 (p : Int)).toNat : Int) = _
    rw [BitVec.toNat_and, ofInt_i64 a (by omega), ofInt_i64 p (by omega), IntKind.wrap_i64]
    omega
  rw [h, hb]
  cases a.testBit v
  · simp
  · simp; omega
theorem and_pow0 (a v : Nat) (ha : a < 32) (hv : v ≤ 4) : (bits .and .i64 (a : Int) (wrap64 (2 ^ v)) == 0) = !a.testBit v := by
  have h := and_pow a v ha hv
  rw [← h]
  simp [bne]
end Go.Proofs.YtjdhfknoldginaaDoor
set_option maxRecDepth 8000
namespace Go.Proofs.YtjdhfknoldginaaDoor
open Go.ChangeShapes Go.WideShapes Go.ChangeAt Go.RowKit
/-- how many values the first k masks have. -/
def mcTo (m : List Int) : Nat → Nat
  | 0 => 0
  | k + 1 => mcTo m k + (maskVals (nth m k)).length
def mcI (m : List Int) (s : Int) : Int := if mvd m s = true then (mcTo m m.length : Nat) else -1
theorem mcTo_le (m : List Int) (k : Nat) : mcTo m k ≤ 4 * k := by
  induction k with
  | zero => exact Nat.le_refl _
  | succ k ih => have := maskVals_length (nth m k); simp only [mcTo]; omega
/-- whether a full grid is in masks. -/
def inMask (m g : List Int) (k : Nat) : Bool := (nth m k).toNat.testBit (nth g k).toNat
def mhB (m : List Int) (s : Int) (g : List Int) : Bool := mvd m s && gv g s && (List.range g.length).all (inMask m g)
theorem all_stop {f : Nat → Bool} {n k : Nat} (hk : k < n) (h : f k = false) : (List.range n).all f = false := by
  rw [List.all_eq_false]
  exact ⟨k, List.mem_range.2 hk, by simp [h]⟩
theorem all_done {f : Nat → Bool} {n : Nat} (h : ∀ k, k < n → f k = true) : (List.range n).all f = true := by
  rw [List.all_eq_true]
  exact fun k hk => h k (List.mem_range.1 hk)
theorem shr_bit0 (M v : Nat) : ((((M : Nat) : Int) / 2 ^ v).tmod 2 == 0) = !M.testBit v := by
  have h := shr_bit M v
  have h0 : (0 : Int) ≤ ((M : Nat) : Int) / 2 ^ v := Int.ediv_nonneg (by omega) (Int.le_of_lt (Int.pow_pos (by decide)))
  rw [Int.tmod_eq_emod_of_nonneg h0] at h ⊢
  rw [← h, Bool.eq_iff_iff]
  simp only [beq_iff_eq, Bool.not_eq_true', beq_eq_false_iff_ne]
  omega
end Go.Proofs.YtjdhfknoldginaaDoor
set_option maxRecDepth 8000
namespace Go.Proofs.YtjdhfknoldginaaDoor
open Go.ChangeShapes Go.WideShapes Go.ChangeAt Go.RowKit
set_option maxHeartbeats 1000000 in
theorem implMasksHave (A : Option Addr) (c n B : Nat) (m : List Int) (s : Int) (Ag : Option Addr) (cg ng Bg : Nat) (g : List Int) (w : World) (h : Rd w B A n m) (hm64 : B64 m) (hB : B ≤ w.heap.size) (hm : n ≤ 1099511627776) (hg : Rd w Bg Ag ng g) (hBg : Bg ≤ w.heap.size) (hmg : ng ≤ 1099511627776) (hsb : -9223372036854775808 ≤ s ∧ s ≤ 9223372036854775807) :
    Calls Tryd.prog 19 #[.slice A n c, .int .i64 s, .slice Ag ng cg] w fun e w' => e = .returned (.bool (mhB m s g)) ∧ Below w.heap.size w w' := by
  have hlen := Lib.hid h.1
  have hleng := Lib.hid hg.1
  have HV := Lib.hid (implMasksValid A c n B m s w h hm64 hB hm hsb)
  have HG := Lib.hid (fun w' (hb : Below w.heap.size w w') => implGridValid Ag cg ng Bg g s w' (hg.below (hb.mono hBg)) (Nat.le_trans hBg hb.size) hmg)
  cases hv : mvd m s
  · have HL := Lib.hid (show mhB m s g = false by simp [mhB, hv])
    go_enter Tryd.func19, Tryd.ntmps19
    go_wp2_with (go_at_call 18; refine HV.out.mono ?_; rintro e w1 ⟨rfl, hb1⟩; rw [hv])
    go_ret
    exact ⟨by rw [HL.out]; rfl, hb1⟩
  · cases hgv : gv g s
    · have HL := Lib.hid (show mhB m s g = false by simp [mhB, hgv])
      go_enter Tryd.func19, Tryd.ntmps19
      go_wp2_with (first | (go_at_call 18; refine HV.out.mono ?_; rintro e w1 ⟨rfl, hb1⟩; rw [hv]) | (go_at_call 50; refine (HG.out _ hb1).mono ?_; rintro e w2 ⟨rfl, hb2⟩; rw [hgv]))
      go_ret
      exact ⟨by rw [HL.out]; rfl, step hb1 hb2⟩
    · have HL := Lib.hid (show mhB m s g = (List.range ng).all (inMask m g) by simp [mhB, hv, hgv, hleng.out])
      obtain ⟨_, hsq, hn16, hrng⟩ := mvd_at hv
      rw [hlen.out] at hsq hn16 hrng
      have hlg := gv_len hgv
      rw [hleng.out] at hlg
      obtain rfl : n = ng := by omega
      have Hrng := Lib.hid hrng
      have Hg := Lib.hid (fun k (hk : k < n) => gv_nth hgv (show k < g.length by rw [hleng.out]; exact hk))
      obtain ⟨s2, s4⟩ := gv_size hgv
      clear hrng hsq hlg
      go_enter Tryd.func19, Tryd.ntmps19
      go_wp2_with (first | (go_at_call 18; refine HV.out.mono ?_; rintro e w1 ⟨rfl, hb1⟩; rw [hv]) | (go_at_call 50; refine (HG.out _ hb1).mono ?_; rintro e w2 ⟨rfl, hb2⟩; rw [hgv]; have h02 := step hb1 hb2))
      go_loop [21] (fun i => ∃ k : Nat, k ≤ n ∧ i = .int .i64 k ∧ Hid (∀ j, j < k → inMask m g j = true)) (fun i => n - (intOf i).toNat)
      case atStart => exact ⟨0, Nat.zero_le _, rfl, Lib.hid (fun j hj => absurd hj (by omega))⟩
      case round =>
        obtain ⟨k, hk, rfl, hall⟩ := hrel
        by_cases hlt : k < n
        · obtain ⟨b, off, rfl, hbB, hck⟩ := (h.below (h02.mono hB)).at_ hlt
          obtain ⟨b', off', rfl, hbB', hck'⟩ := (hg.below (h02.mono hBg)).at_ hlt
          obtain ⟨x0, x1, _⟩ := Hrng.out k hlt
          obtain ⟨y0, y1⟩ := Hg.out k hlt
          obtain ⟨M, hM⟩ := Int.eq_ofNat_of_zero_le x0
          obtain ⟨v, hV⟩ := Int.eq_ofNat_of_zero_le y0
          have hbit : inMask m g k = M.testBit v := by simp only [inMask, hM, hV, Int.toNat_natCast]
          have hsh := and_pow0 M v (by omega) (by omega)
          rw [hM] at hck x1
          rw [hV] at hck' y1
          have hvs : v < 64 := by omega
          cases hh : M.testBit v
          · rw [hh] at hsh hbit
            have Hf := Lib.hid (show mhB m s g = false by rw [HL.out]; exact all_stop hlt hbit)
            clear hh hbit hM hV x0 y0
            go_wp2
            go_ret
            exact ⟨by rw [Hf.out]; rfl, h02⟩
          · rw [hh] at hsh hbit
            have Hn := Lib.hid (show ∀ j, j < k + 1 → inMask m g j = true from fun j hj => by
              by_cases e : j = k
              · subst e; exact hbit
              · exact hall.out j (by omega))
            clear hh hbit hM hV x0 y0
            go_wp2
            go_round
            case rel => exact ⟨k + 1, by omega, by go_num, Hn⟩
            case measure => simp [intOf]; omega
        · obtain rfl : k = n := by omega
          have Hf := Lib.hid (show mhB m s g = true by rw [HL.out]; exact all_done hall.out)
          go_wp2
          go_ret
          exact ⟨by rw [Hf.out]; rfl, h02⟩
end Go.Proofs.YtjdhfknoldginaaDoor
set_option maxRecDepth 8000
namespace Go.Proofs.YtjdhfknoldginaaDoor
open Go.ChangeShapes Go.WideShapes Go.ChangeAt Go.RowKit

theorem specL6Copy (A : Option Addr) (n c B : Nat) (xs : List Int) (w : World) (h : Rd w B A n xs) (hB : B ≤ w.heap.size) (hm : n ≤ 1099511627776) :
    Calls Tryd.prog 59 #[.slice A n c] w fun e w' => ∃ A' c', e = .returned (.slice A' n c') ∧ Ow w' w.heap.size A' n c' xs ∧ Below w.heap.size w w' := by
  have hb0 : Below w.heap.size w (w.alloc (.cells #[] 3)) := (Below.refl _ _).alloc (Nat.le_refl _) _
  have HO := Lib.hid (Ow.made0 w w.heap.size (Nat.le_refl _))
  have HR := Lib.hid (h.below (hb0.mono hB))
  have hsO : w.heap.size ≤ (w.alloc (.cells #[] 3)).heap.size := by simp
  go_enter Tryd.func59, Tryd.ntmps59
  go_wp2_with (at_builtin; (refine push_new rfl (.tmp 3) (.tmp 4) rfl w.heap.size (some ⟨w.heap.size, 0, none⟩) A n c B xs rfl rfl HO.out HR.out hm hsO ?_); intro A1 c1 w1 ho1 hg1; have hb1 := hb0.grown hg1 hb0.size (fun k hk => HO.out.own_lo k hk))
  go_ret
  exact ⟨_, _, rfl, ho1, hb1⟩
/-- what a cell may have at first. -/
def startC (gi : List Int) (s : Nat) (j : Nat) : Int := if 0 < nth gi j then 2 ^ (nth gi j).toNat else 2 ^ (s + 1) - 2
def startL (s : Int) (gi : List Int) (rs : List RuleM) (n : Nat) : List Int := if pvB s gi rs = true then mapTo (startC gi s.toNat) n else []
set_option maxHeartbeats 2000000 in
theorem specStartMasks (s : Int) (Ag : Option Addr) (n cg Bg : Nat) (gi : List Int) (Ar : Option Addr) (nr cr Br : Nat) (rs : List RuleM) (w : World) (hp : PGs w s Ag n cg Bg gi Ar nr cr Br rs) :
    Calls Tryd.prog 13 #[.agg #[.int .i64 s, .slice Ag n cg, .slice Ar nr cr]] w (RetSl w (startL s gi rs n)) := by
  have hx0 := pbox_new w s Ag n cg Ar nr cr 26
  have hb0 : Below w.heap.size w (w.alloc (.cells #[.int .i64 s, .slice Ag n cg, .slice Ar nr cr] 26)) := (Below.refl _ _).alloc (Nat.le_refl _) _
  have hs0 : w.heap.size < (w.alloc (.cells #[.int .i64 s, .slice Ag n cg, .slice Ar nr cr] 26)).heap.size := by simp
  have HP := Lib.hid (fun w' (hb : Below w.heap.size w w') => specPuzzleValid s Ag n cg Bg gi Ar nr cr Br rs w' (hp.below hb).g (hp.below hb).gB hp.gm (hp.below hb).r (hp.below hb).rB hp.rm)
  have hlen := Lib.hid hp.g.1
  have hm := hp.gm
  cases hv : pvB s gi rs
  · have HL := Lib.hid (show startL s gi rs n = [] by simp [startL, hv])
    go_enter Tryd.func13, Tryd.ntmps13
    go_wp2
    obtain ⟨W0, hW0⟩ : ∃ W0, W0 = w.alloc (.cells #[.int .i64 s, .slice Ag n cg, .slice Ar nr cr] 26) := ⟨_, rfl⟩
    rw [← hW0] at hx0 hb0 hs0
    rw [← hW0]
    have hsW : W0.heap.size = w.heap.size + 1 := by rw [hW0]; simp
    clear hW0
    have hb1 : Below W0.heap.size W0 (W0.alloc (.cells #[] 3)) := (Below.refl _ _).alloc (Nat.le_refl _) _
    have hO := Ow.made0 W0 W0.heap.size (Nat.le_refl _)
    obtain ⟨c0, c1, c2⟩ := hx0.below hs0 hb1
    have hb1' := step hb0 hb1
    rw [hsW] at hO
    go_loopw [3, 4] (fun v i wr => v = .slice (some ⟨w.heap.size + 1, 0, none⟩) 0 0 ∧ i = .int .i64 0 ∧ wr = W0.alloc (.cells #[] 3)) (fun _ _ _ => 0)
    case atStart => exact ⟨by first | rfl | rw [hsW], rfl, rfl⟩
    case round =>
      obtain ⟨rfl, rfl, rfl⟩ := hrel
      by_cases hlt : 0 < n
      · have hlt' : (0 : Int) < (n : Int) := by omega
        go_wp2_with (go_at_call 14; refine (HP.out _ hb1').mono ?_; rintro e w1 ⟨rfl, hb2⟩; rw [hv])
        go_ret
        rw [HL.out]
        exact ⟨_, _, rfl, ((show Ow _ (w.heap.size + 1) _ 0 0 [] from hO).below hb2).mono (by omega), step hb1' hb2⟩
      · obtain rfl : n = 0 := by omega
        go_wp2
        go_ret
        rw [HL.out]
        exact ⟨_, _, rfl, (show Ow _ (w.heap.size + 1) _ 0 0 [] from hO).mono (by omega), hb1'⟩
  · obtain ⟨t, hst, hs, hn', hn16, hok'⟩ := pv_grid hv hp.g.1
    have hs3 : s = 2 ∨ s = 3 ∨ s = 4 := by rw [hst]; simp at hs; omega
    rw [← hst] at hok'
    have hok := Lib.hid hok'
    clear hn' hok' hst hs
    rcases hs3 with rfl | rfl | rfl
    · have HL := Lib.hid (show startL 2 gi rs n = mapTo (startC gi 2) n by simp [startL, hv])
      go_enter Tryd.func13, Tryd.ntmps13
      go_wp2
      obtain ⟨W0, hW0⟩ : ∃ W0, W0 = w.alloc (.cells #[.int .i64 2, .slice Ag n cg, .slice Ar nr cr] 26) := ⟨_, rfl⟩
      rw [← hW0] at hx0 hb0 hs0
      rw [← hW0]
      have hsW : W0.heap.size = w.heap.size + 1 := by rw [hW0]; simp
      clear hW0
      have hb1 : Below W0.heap.size W0 (W0.alloc (.cells #[] 3)) := (Below.refl _ _).alloc (Nat.le_refl _) _
      have hO := Ow.made0 W0 W0.heap.size (Nat.le_refl _)
      go_loopw [3, 4] (fun v i wr => ∃ (u : Nat) (A' : Option Addr) (c' : Nat), u ≤ n ∧ i = .int .i64 u ∧ v = .slice A' u c' ∧ Ow wr W0.heap.size A' u c' (mapTo (startC gi 2) u) ∧ Below W0.heap.size W0 wr) (fun _ i _ => n - (intOf i).toNat)
      case atStart => exact ⟨0, _, _, Nat.zero_le _, rfl, by first | rfl | rw [hsW], hO, hb1⟩
      case round =>
        obtain ⟨u, A', c', hu, rfl, rfl, ho, hb⟩ := hrel
        obtain ⟨c0, c1, c2⟩ := hx0.below hs0 hb
        by_cases hlt : u < n
        · have hbw := step hb0 hb
          have hsw := hb.size
          have hlow : W0.heap.size ≤ wr.heap.size := hsw
          obtain ⟨b, off, hA, hbB, hck⟩ := (hp.below hbw).g.at_ hlt
          subst hA
          have hbwr : b < wr.heap.size := Nat.lt_of_lt_of_le hbB (hp.below hbw).gB
          have hu1 : u ≤ 1099511627776 := by omega
          have hx4 := hok.out u hlt
          have hcase : nth gi u = 0 ∨ nth gi u = 1 ∨ nth gi u = 2 ∨ nth gi u = 3 ∨ nth gi u = 4 := by
            have : (0 : Int) ≤ 0 := by omega
            omega
          have hwr0 : w.heap.size < wr.heap.size := by omega
          rcases hcase with h | h | h | h | h
          · rw [h] at hck
            have hq : startC gi 2 u = 6 := by simp [startC, h]
            clear h
            go_wp2_with (first
              | (go_at_call 14; refine (HP.out _ hbw).mono ?_; rintro e w1 ⟨rfl, hb2⟩; rw [hv]; obtain ⟨d0, d1, d2⟩ := PBox.below ⟨c0, c1, c2⟩ hwr0 hb2; have hck1 := (hb2.cell (p := ⟨b, off + u, none⟩) hbwr).trans hck; have ho2 := ho.below hb2; have hs2 := Nat.le_trans hlow hb2.size)
              | (at_builtin; refine push_int rfl (.tmp 32) (.tmp 38) rfl W0.heap.size A' u c' (mapTo (startC gi 2) u) _ rfl rfl ho2 hu1 hs2 ?_; intro A5 c5 w5 ho5 hg5))
            go_roundw
            case rel => exact ⟨u + 1, _, _, by omega, by go_num, rfl, by rw [mapTo_succ, hq]; exact ho5, push_below (hb.trans (hb2.mono hlow)) ho2 (Nat.le_refl _) hs2 hg5⟩
            case measure => simp [intOf]; omega
          · rw [h] at hck
            have hq : startC gi 2 u = 2 := by simp [startC, h]
            clear h
            go_wp2_with (first
              | (go_at_call 14; refine (HP.out _ hbw).mono ?_; rintro e w1 ⟨rfl, hb2⟩; rw [hv]; obtain ⟨d0, d1, d2⟩ := PBox.below ⟨c0, c1, c2⟩ hwr0 hb2; have hck1 := (hb2.cell (p := ⟨b, off + u, none⟩) hbwr).trans hck; have ho2 := ho.below hb2; have hs2 := Nat.le_trans hlow hb2.size)
              | (at_builtin; refine push_int rfl (.tmp 23) (.tmp 30) rfl W0.heap.size A' u c' (mapTo (startC gi 2) u) _ rfl rfl ho2 hu1 hs2 ?_; intro A5 c5 w5 ho5 hg5))
            go_roundw
            case rel => exact ⟨u + 1, _, _, by omega, by go_num, rfl, by rw [mapTo_succ, hq]; exact ho5, push_below (hb.trans (hb2.mono hlow)) ho2 (Nat.le_refl _) hs2 hg5⟩
            case measure => simp [intOf]; omega
          · rw [h] at hck
            have hq : startC gi 2 u = 4 := by simp [startC, h]
            clear h
            go_wp2_with (first
              | (go_at_call 14; refine (HP.out _ hbw).mono ?_; rintro e w1 ⟨rfl, hb2⟩; rw [hv]; obtain ⟨d0, d1, d2⟩ := PBox.below ⟨c0, c1, c2⟩ hwr0 hb2; have hck1 := (hb2.cell (p := ⟨b, off + u, none⟩) hbwr).trans hck; have ho2 := ho.below hb2; have hs2 := Nat.le_trans hlow hb2.size)
              | (at_builtin; refine push_int rfl (.tmp 23) (.tmp 30) rfl W0.heap.size A' u c' (mapTo (startC gi 2) u) _ rfl rfl ho2 hu1 hs2 ?_; intro A5 c5 w5 ho5 hg5))
            go_roundw
            case rel => exact ⟨u + 1, _, _, by omega, by go_num, rfl, by rw [mapTo_succ, hq]; exact ho5, push_below (hb.trans (hb2.mono hlow)) ho2 (Nat.le_refl _) hs2 hg5⟩
            case measure => simp [intOf]; omega
          · rw [h] at hck
            have hq : startC gi 2 u = 8 := by simp [startC, h]
            clear h
            go_wp2_with (first
              | (go_at_call 14; refine (HP.out _ hbw).mono ?_; rintro e w1 ⟨rfl, hb2⟩; rw [hv]; obtain ⟨d0, d1, d2⟩ := PBox.below ⟨c0, c1, c2⟩ hwr0 hb2; have hck1 := (hb2.cell (p := ⟨b, off + u, none⟩) hbwr).trans hck; have ho2 := ho.below hb2; have hs2 := Nat.le_trans hlow hb2.size)
              | (at_builtin; refine push_int rfl (.tmp 23) (.tmp 30) rfl W0.heap.size A' u c' (mapTo (startC gi 2) u) _ rfl rfl ho2 hu1 hs2 ?_; intro A5 c5 w5 ho5 hg5))
            go_roundw
            case rel => exact ⟨u + 1, _, _, by omega, by go_num, rfl, by rw [mapTo_succ, hq]; exact ho5, push_below (hb.trans (hb2.mono hlow)) ho2 (Nat.le_refl _) hs2 hg5⟩
            case measure => simp [intOf]; omega
          · rw [h] at hck
            have hq : startC gi 2 u = 16 := by simp [startC, h]
            clear h
            go_wp2_with (first
              | (go_at_call 14; refine (HP.out _ hbw).mono ?_; rintro e w1 ⟨rfl, hb2⟩; rw [hv]; obtain ⟨d0, d1, d2⟩ := PBox.below ⟨c0, c1, c2⟩ hwr0 hb2; have hck1 := (hb2.cell (p := ⟨b, off + u, none⟩) hbwr).trans hck; have ho2 := ho.below hb2; have hs2 := Nat.le_trans hlow hb2.size)
              | (at_builtin; refine push_int rfl (.tmp 23) (.tmp 30) rfl W0.heap.size A' u c' (mapTo (startC gi 2) u) _ rfl rfl ho2 hu1 hs2 ?_; intro A5 c5 w5 ho5 hg5))
            go_roundw
            case rel => exact ⟨u + 1, _, _, by omega, by go_num, rfl, by rw [mapTo_succ, hq]; exact ho5, push_below (hb.trans (hb2.mono hlow)) ho2 (Nat.le_refl _) hs2 hg5⟩
            case measure => simp [intOf]; omega
        · obtain rfl : u = n := by omega
          go_wp2
          go_ret
          rw [HL.out]
          exact retSl_mk (ho.mono (by omega)) (step hb0 hb)
    · have HL := Lib.hid (show startL 3 gi rs n = mapTo (startC gi 3) n by simp [startL, hv])
      go_enter Tryd.func13, Tryd.ntmps13
      go_wp2
      obtain ⟨W0, hW0⟩ : ∃ W0, W0 = w.alloc (.cells #[.int .i64 3, .slice Ag n cg, .slice Ar nr cr] 26) := ⟨_, rfl⟩
      rw [← hW0] at hx0 hb0 hs0
      rw [← hW0]
      have hsW : W0.heap.size = w.heap.size + 1 := by rw [hW0]; simp
      clear hW0
      have hb1 : Below W0.heap.size W0 (W0.alloc (.cells #[] 3)) := (Below.refl _ _).alloc (Nat.le_refl _) _
      have hO := Ow.made0 W0 W0.heap.size (Nat.le_refl _)
      go_loopw [3, 4] (fun v i wr => ∃ (u : Nat) (A' : Option Addr) (c' : Nat), u ≤ n ∧ i = .int .i64 u ∧ v = .slice A' u c' ∧ Ow wr W0.heap.size A' u c' (mapTo (startC gi 3) u) ∧ Below W0.heap.size W0 wr) (fun _ i _ => n - (intOf i).toNat)
      case atStart => exact ⟨0, _, _, Nat.zero_le _, rfl, by first | rfl | rw [hsW], hO, hb1⟩
      case round =>
        obtain ⟨u, A', c', hu, rfl, rfl, ho, hb⟩ := hrel
        obtain ⟨c0, c1, c2⟩ := hx0.below hs0 hb
        by_cases hlt : u < n
        · have hbw := step hb0 hb
          have hsw := hb.size
          have hlow : W0.heap.size ≤ wr.heap.size := hsw
          obtain ⟨b, off, hA, hbB, hck⟩ := (hp.below hbw).g.at_ hlt
          subst hA
          have hbwr : b < wr.heap.size := Nat.lt_of_lt_of_le hbB (hp.below hbw).gB
          have hu1 : u ≤ 1099511627776 := by omega
          have hx4 := hok.out u hlt
          have hcase : nth gi u = 0 ∨ nth gi u = 1 ∨ nth gi u = 2 ∨ nth gi u = 3 ∨ nth gi u = 4 := by
            have : (0 : Int) ≤ 0 := by omega
            omega
          have hwr0 : w.heap.size < wr.heap.size := by omega
          rcases hcase with h | h | h | h | h
          · rw [h] at hck
            have hq : startC gi 3 u = 14 := by simp [startC, h]
            clear h
            go_wp2_with (first
              | (go_at_call 14; refine (HP.out _ hbw).mono ?_; rintro e w1 ⟨rfl, hb2⟩; rw [hv]; obtain ⟨d0, d1, d2⟩ := PBox.below ⟨c0, c1, c2⟩ hwr0 hb2; have hck1 := (hb2.cell (p := ⟨b, off + u, none⟩) hbwr).trans hck; have ho2 := ho.below hb2; have hs2 := Nat.le_trans hlow hb2.size)
              | (at_builtin; refine push_int rfl (.tmp 32) (.tmp 38) rfl W0.heap.size A' u c' (mapTo (startC gi 3) u) _ rfl rfl ho2 hu1 hs2 ?_; intro A5 c5 w5 ho5 hg5))
            go_roundw
            case rel => exact ⟨u + 1, _, _, by omega, by go_num, rfl, by rw [mapTo_succ, hq]; exact ho5, push_below (hb.trans (hb2.mono hlow)) ho2 (Nat.le_refl _) hs2 hg5⟩
            case measure => simp [intOf]; omega
          · rw [h] at hck
            have hq : startC gi 3 u = 2 := by simp [startC, h]
            clear h
            go_wp2_with (first
              | (go_at_call 14; refine (HP.out _ hbw).mono ?_; rintro e w1 ⟨rfl, hb2⟩; rw [hv]; obtain ⟨d0, d1, d2⟩ := PBox.below ⟨c0, c1, c2⟩ hwr0 hb2; have hck1 := (hb2.cell (p := ⟨b, off + u, none⟩) hbwr).trans hck; have ho2 := ho.below hb2; have hs2 := Nat.le_trans hlow hb2.size)
              | (at_builtin; refine push_int rfl (.tmp 23) (.tmp 30) rfl W0.heap.size A' u c' (mapTo (startC gi 3) u) _ rfl rfl ho2 hu1 hs2 ?_; intro A5 c5 w5 ho5 hg5))
            go_roundw
            case rel => exact ⟨u + 1, _, _, by omega, by go_num, rfl, by rw [mapTo_succ, hq]; exact ho5, push_below (hb.trans (hb2.mono hlow)) ho2 (Nat.le_refl _) hs2 hg5⟩
            case measure => simp [intOf]; omega
          · rw [h] at hck
            have hq : startC gi 3 u = 4 := by simp [startC, h]
            clear h
            go_wp2_with (first
              | (go_at_call 14; refine (HP.out _ hbw).mono ?_; rintro e w1 ⟨rfl, hb2⟩; rw [hv]; obtain ⟨d0, d1, d2⟩ := PBox.below ⟨c0, c1, c2⟩ hwr0 hb2; have hck1 := (hb2.cell (p := ⟨b, off + u, none⟩) hbwr).trans hck; have ho2 := ho.below hb2; have hs2 := Nat.le_trans hlow hb2.size)
              | (at_builtin; refine push_int rfl (.tmp 23) (.tmp 30) rfl W0.heap.size A' u c' (mapTo (startC gi 3) u) _ rfl rfl ho2 hu1 hs2 ?_; intro A5 c5 w5 ho5 hg5))
            go_roundw
            case rel => exact ⟨u + 1, _, _, by omega, by go_num, rfl, by rw [mapTo_succ, hq]; exact ho5, push_below (hb.trans (hb2.mono hlow)) ho2 (Nat.le_refl _) hs2 hg5⟩
            case measure => simp [intOf]; omega
          · rw [h] at hck
            have hq : startC gi 3 u = 8 := by simp [startC, h]
            clear h
            go_wp2_with (first
              | (go_at_call 14; refine (HP.out _ hbw).mono ?_; rintro e w1 ⟨rfl, hb2⟩; rw [hv]; obtain ⟨d0, d1, d2⟩ := PBox.below ⟨c0, c1, c2⟩ hwr0 hb2; have hck1 := (hb2.cell (p := ⟨b, off + u, none⟩) hbwr).trans hck; have ho2 := ho.below hb2; have hs2 := Nat.le_trans hlow hb2.size)
              | (at_builtin; refine push_int rfl (.tmp 23) (.tmp 30) rfl W0.heap.size A' u c' (mapTo (startC gi 3) u) _ rfl rfl ho2 hu1 hs2 ?_; intro A5 c5 w5 ho5 hg5))
            go_roundw
            case rel => exact ⟨u + 1, _, _, by omega, by go_num, rfl, by rw [mapTo_succ, hq]; exact ho5, push_below (hb.trans (hb2.mono hlow)) ho2 (Nat.le_refl _) hs2 hg5⟩
            case measure => simp [intOf]; omega
          · rw [h] at hck
            have hq : startC gi 3 u = 16 := by simp [startC, h]
            clear h
            go_wp2_with (first
              | (go_at_call 14; refine (HP.out _ hbw).mono ?_; rintro e w1 ⟨rfl, hb2⟩; rw [hv]; obtain ⟨d0, d1, d2⟩ := PBox.below ⟨c0, c1, c2⟩ hwr0 hb2; have hck1 := (hb2.cell (p := ⟨b, off + u, none⟩) hbwr).trans hck; have ho2 := ho.below hb2; have hs2 := Nat.le_trans hlow hb2.size)
              | (at_builtin; refine push_int rfl (.tmp 23) (.tmp 30) rfl W0.heap.size A' u c' (mapTo (startC gi 3) u) _ rfl rfl ho2 hu1 hs2 ?_; intro A5 c5 w5 ho5 hg5))
            go_roundw
            case rel => exact ⟨u + 1, _, _, by omega, by go_num, rfl, by rw [mapTo_succ, hq]; exact ho5, push_below (hb.trans (hb2.mono hlow)) ho2 (Nat.le_refl _) hs2 hg5⟩
            case measure => simp [intOf]; omega
        · obtain rfl : u = n := by omega
          go_wp2
          go_ret
          rw [HL.out]
          exact retSl_mk (ho.mono (by omega)) (step hb0 hb)
    · have HL := Lib.hid (show startL 4 gi rs n = mapTo (startC gi 4) n by simp [startL, hv])
      go_enter Tryd.func13, Tryd.ntmps13
      go_wp2
      obtain ⟨W0, hW0⟩ : ∃ W0, W0 = w.alloc (.cells #[.int .i64 4, .slice Ag n cg, .slice Ar nr cr] 26) := ⟨_, rfl⟩
      rw [← hW0] at hx0 hb0 hs0
      rw [← hW0]
      have hsW : W0.heap.size = w.heap.size + 1 := by rw [hW0]; simp
      clear hW0
      have hb1 : Below W0.heap.size W0 (W0.alloc (.cells #[] 3)) := (Below.refl _ _).alloc (Nat.le_refl _) _
      have hO := Ow.made0 W0 W0.heap.size (Nat.le_refl _)
      go_loopw [3, 4] (fun v i wr => ∃ (u : Nat) (A' : Option Addr) (c' : Nat), u ≤ n ∧ i = .int .i64 u ∧ v = .slice A' u c' ∧ Ow wr W0.heap.size A' u c' (mapTo (startC gi 4) u) ∧ Below W0.heap.size W0 wr) (fun _ i _ => n - (intOf i).toNat)
      case atStart => exact ⟨0, _, _, Nat.zero_le _, rfl, by first | rfl | rw [hsW], hO, hb1⟩
      case round =>
        obtain ⟨u, A', c', hu, rfl, rfl, ho, hb⟩ := hrel
        obtain ⟨c0, c1, c2⟩ := hx0.below hs0 hb
        by_cases hlt : u < n
        · have hbw := step hb0 hb
          have hsw := hb.size
          have hlow : W0.heap.size ≤ wr.heap.size := hsw
          obtain ⟨b, off, hA, hbB, hck⟩ := (hp.below hbw).g.at_ hlt
          subst hA
          have hbwr : b < wr.heap.size := Nat.lt_of_lt_of_le hbB (hp.below hbw).gB
          have hu1 : u ≤ 1099511627776 := by omega
          have hx4 := hok.out u hlt
          have hcase : nth gi u = 0 ∨ nth gi u = 1 ∨ nth gi u = 2 ∨ nth gi u = 3 ∨ nth gi u = 4 := by
            have : (0 : Int) ≤ 0 := by omega
            omega
          have hwr0 : w.heap.size < wr.heap.size := by omega
          rcases hcase with h | h | h | h | h
          · rw [h] at hck
            have hq : startC gi 4 u = 30 := by simp [startC, h]
            clear h
            go_wp2_with (first
              | (go_at_call 14; refine (HP.out _ hbw).mono ?_; rintro e w1 ⟨rfl, hb2⟩; rw [hv]; obtain ⟨d0, d1, d2⟩ := PBox.below ⟨c0, c1, c2⟩ hwr0 hb2; have hck1 := (hb2.cell (p := ⟨b, off + u, none⟩) hbwr).trans hck; have ho2 := ho.below hb2; have hs2 := Nat.le_trans hlow hb2.size)
              | (at_builtin; refine push_int rfl (.tmp 32) (.tmp 38) rfl W0.heap.size A' u c' (mapTo (startC gi 4) u) _ rfl rfl ho2 hu1 hs2 ?_; intro A5 c5 w5 ho5 hg5))
            go_roundw
            case rel => exact ⟨u + 1, _, _, by omega, by go_num, rfl, by rw [mapTo_succ, hq]; exact ho5, push_below (hb.trans (hb2.mono hlow)) ho2 (Nat.le_refl _) hs2 hg5⟩
            case measure => simp [intOf]; omega
          · rw [h] at hck
            have hq : startC gi 4 u = 2 := by simp [startC, h]
            clear h
            go_wp2_with (first
              | (go_at_call 14; refine (HP.out _ hbw).mono ?_; rintro e w1 ⟨rfl, hb2⟩; rw [hv]; obtain ⟨d0, d1, d2⟩ := PBox.below ⟨c0, c1, c2⟩ hwr0 hb2; have hck1 := (hb2.cell (p := ⟨b, off + u, none⟩) hbwr).trans hck; have ho2 := ho.below hb2; have hs2 := Nat.le_trans hlow hb2.size)
              | (at_builtin; refine push_int rfl (.tmp 23) (.tmp 30) rfl W0.heap.size A' u c' (mapTo (startC gi 4) u) _ rfl rfl ho2 hu1 hs2 ?_; intro A5 c5 w5 ho5 hg5))
            go_roundw
            case rel => exact ⟨u + 1, _, _, by omega, by go_num, rfl, by rw [mapTo_succ, hq]; exact ho5, push_below (hb.trans (hb2.mono hlow)) ho2 (Nat.le_refl _) hs2 hg5⟩
            case measure => simp [intOf]; omega
          · rw [h] at hck
            have hq : startC gi 4 u = 4 := by simp [startC, h]
            clear h
            go_wp2_with (first
              | (go_at_call 14; refine (HP.out _ hbw).mono ?_; rintro e w1 ⟨rfl, hb2⟩; rw [hv]; obtain ⟨d0, d1, d2⟩ := PBox.below ⟨c0, c1, c2⟩ hwr0 hb2; have hck1 := (hb2.cell (p := ⟨b, off + u, none⟩) hbwr).trans hck; have ho2 := ho.below hb2; have hs2 := Nat.le_trans hlow hb2.size)
              | (at_builtin; refine push_int rfl (.tmp 23) (.tmp 30) rfl W0.heap.size A' u c' (mapTo (startC gi 4) u) _ rfl rfl ho2 hu1 hs2 ?_; intro A5 c5 w5 ho5 hg5))
            go_roundw
            case rel => exact ⟨u + 1, _, _, by omega, by go_num, rfl, by rw [mapTo_succ, hq]; exact ho5, push_below (hb.trans (hb2.mono hlow)) ho2 (Nat.le_refl _) hs2 hg5⟩
            case measure => simp [intOf]; omega
          · rw [h] at hck
            have hq : startC gi 4 u = 8 := by simp [startC, h]
            clear h
            go_wp2_with (first
              | (go_at_call 14; refine (HP.out _ hbw).mono ?_; rintro e w1 ⟨rfl, hb2⟩; rw [hv]; obtain ⟨d0, d1, d2⟩ := PBox.below ⟨c0, c1, c2⟩ hwr0 hb2; have hck1 := (hb2.cell (p := ⟨b, off + u, none⟩) hbwr).trans hck; have ho2 := ho.below hb2; have hs2 := Nat.le_trans hlow hb2.size)
              | (at_builtin; refine push_int rfl (.tmp 23) (.tmp 30) rfl W0.heap.size A' u c' (mapTo (startC gi 4) u) _ rfl rfl ho2 hu1 hs2 ?_; intro A5 c5 w5 ho5 hg5))
            go_roundw
            case rel => exact ⟨u + 1, _, _, by omega, by go_num, rfl, by rw [mapTo_succ, hq]; exact ho5, push_below (hb.trans (hb2.mono hlow)) ho2 (Nat.le_refl _) hs2 hg5⟩
            case measure => simp [intOf]; omega
          · rw [h] at hck
            have hq : startC gi 4 u = 16 := by simp [startC, h]
            clear h
            go_wp2_with (first
              | (go_at_call 14; refine (HP.out _ hbw).mono ?_; rintro e w1 ⟨rfl, hb2⟩; rw [hv]; obtain ⟨d0, d1, d2⟩ := PBox.below ⟨c0, c1, c2⟩ hwr0 hb2; have hck1 := (hb2.cell (p := ⟨b, off + u, none⟩) hbwr).trans hck; have ho2 := ho.below hb2; have hs2 := Nat.le_trans hlow hb2.size)
              | (at_builtin; refine push_int rfl (.tmp 23) (.tmp 30) rfl W0.heap.size A' u c' (mapTo (startC gi 4) u) _ rfl rfl ho2 hu1 hs2 ?_; intro A5 c5 w5 ho5 hg5))
            go_roundw
            case rel => exact ⟨u + 1, _, _, by omega, by go_num, rfl, by rw [mapTo_succ, hq]; exact ho5, push_below (hb.trans (hb2.mono hlow)) ho2 (Nat.le_refl _) hs2 hg5⟩
            case measure => simp [intOf]; omega
        · obtain rfl : u = n := by omega
          go_wp2
          go_ret
          rw [HL.out]
          exact retSl_mk (ho.mono (by omega)) (step hb0 hb)
end Go.Proofs.YtjdhfknoldginaaDoor
