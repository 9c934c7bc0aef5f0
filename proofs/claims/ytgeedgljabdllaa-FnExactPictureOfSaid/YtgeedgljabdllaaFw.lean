import Derived.Test.YtgeedgljabdllaaIm2
import Derived.Deep.MidRow
import Derived.Deep.CutRange
import Derived.Deep.CutBlock
set_option maxRecDepth 8000
namespace Go.Proofs.Ytgeedgljabdllaa
open Go.ChangeShapes Go.WideShapes Go.ChangeAt Go.RowKit
/-! the table of ways. -/
def fcells (T : Nat → Nat → Int) : Array Value := ((List.range 50).map fun p => Value.int .i64 (T (p / 5) (p % 5))).toArray
theorem fcells_size (T : Nat → Nat → Int) : (fcells T).size = 50 := by simp [fcells]
theorem fcells_get (T : Nat → Nat → Int) {p : Nat} (h : p < 50) : (fcells T)[p]? = some (.int .i64 (T (p / 5) (p % 5))) := by
  simp [fcells, h]
theorem fcells_at (T : Nat → Nat → Int) {j i : Nat} (hj : j < 10) (hi : i < 5) : (fcells T)[j * 5 + i]? = some (.int .i64 (T j i)) := by
  rw [fcells_get T (by omega), show (j * 5 + i) / 5 = j by omega, show (j * 5 + i) % 5 = i by omega]
theorem fcells_congr {T T' : Nat → Nat → Int} (h : ∀ j i, j < 10 → i < 5 → T j i = T' j i) : fcells T = fcells T' := by
  unfold fcells
  congr 1
  refine List.map_congr_left fun p hp => ?_
  rw [List.mem_range] at hp
  rw [h _ _ (by omega) (by omega)]
theorem fcells_one (T : Nat → Nat → Int) : (fcells T).all (·.oneCell') = true := by
  unfold fcells
  refine all_oneCell_toArray fun v hv => ?_
  obtain ⟨p, _, rfl⟩ := List.mem_map.1 hv
  rfl
def FBox (w : World) (g : Nat) (T : Nat → Nat → Int) : Prop := w.heap[g]? = some (.cells (fcells T) 127 (0, 0))
theorem front_info (T : Nat → Nat → Int) : (Try.prog.info? 127).map (·.size) = some (fcells T).size := by
  rw [fcells_size]
  kernel_rfl
theorem FBox.cell {w : World} {g : Nat} {T : Nat → Nat → Int} (h : FBox w g T) {j i : Nat} (hj : j < 10) (hi : i < 5) : w.cell? ⟨g, j * 5 + i, none⟩ = some (.int .i64 (T j i)) :=
  (cell_of_row _ _ (j * 5 + i) _ _ (0, 0) h).trans (fcells_at T hj hi)
theorem FBox.frozen {w : World} {g : Nat} {T : Nat → Nat → Int} (h : FBox w g T) (p : Nat) : w.frozen? ⟨g, p, none⟩ = false := frozen_of_row w g p _ _ h
theorem FBox.below {w w' : World} {g B : Nat} {T : Nat → Nat → Int} (h : FBox w g T) (hg : g < B) (hb : Below B w w') : FBox w' g T := (hb.block g hg).trans h
theorem FBox.congr {w : World} {g : Nat} {T T' : Nat → Nat → Int} (h : FBox w g T) (e : ∀ j i, j < 10 → i < 5 → T j i = T' j i) : FBox w g T' := by
  unfold FBox
  rw [← fcells_congr e]
  exact h
theorem FBox.setP {w : World} {g p : Nat} {T T' : Nat → Nat → Int} {v : Int} (h : FBox w g T) (hp : p < 50) (h1 : T' (p / 5) (p % 5) = v) (h2 : ∀ q, q < 50 → q ≠ p → T' (q / 5) (q % 5) = T (q / 5) (q % 5)) : FBox (w.setCell ⟨g, p, none⟩ (.int .i64 v)) g T' := by
  unfold FBox
  rw [heap_setCell_same w g p _ _ _ h]
  congr 2
  apply Array.ext_getElem?
  intro q
  by_cases hq : q < 50
  · rw [fcells_get T' hq]
    by_cases e : p = q
    · subst e
      rw [Array.getElem?_setIfInBounds_self_of_lt (by rw [fcells_size]; exact hp), h1]
    · rw [Array.getElem?_setIfInBounds_ne e, fcells_get T hq, h2 q hq (fun e' => e e'.symm)]
  · rw [Array.getElem?_eq_none (by rw [Array.size_setIfInBounds, fcells_size]; omega), Array.getElem?_eq_none (by rw [fcells_size]; omega)]
theorem FBox.setOne {w : World} {g j i : Nat} {T : Nat → Nat → Int} {v : Int} (h : FBox w g T) (hj : j < 10) (hi : i < 5) : FBox (w.setCell ⟨g, j * 5 + i, none⟩ (.int .i64 v)) g (fun j' i' => if j' = j ∧ i' = i then v else T j' i') := by
  refine h.setP (by omega) (if_pos ⟨by omega, by omega⟩) (fun q hq hne => if_neg ?_)
  rintro ⟨e1, e2⟩
  omega
def rowL (T : Nat → Nat → Int) (j : Nat) : List Value := [.int .i64 (T j 0), .int .i64 (T j 1), .int .i64 (T j 2), .int .i64 (T j 3), .int .i64 (T j 4)]
theorem FBox.range {w : World} {g j : Nat} {T : Nat → Nat → Int} (h : FBox w g T) (hj : j < 10) : w.rangeAt g (j * 5) (rowL T j) := by
  intro k v hv
  have hk : k < 5 := (List.getElem?_eq_some_iff.1 hv).1
  rw [h.cell hj hk, ← hv]
  have : k = 0 ∨ k = 1 ∨ k = 2 ∨ k = 3 ∨ k = 4 := by omega
  rcases this with rfl | rfl | rfl | rfl | rfl <;> rfl
theorem FBox.there {w : World} {g j : Nat} {T : Nat → Nat → Int} (h : FBox w g T) (hj : j < 10) : w.there g (j * 5) 5 := by
  intro k hk
  rw [h.cell hj hk]
  exact ⟨rfl, h.frozen _⟩
theorem FBox.setRow {w : World} {g j j0 : Nat} {T : Nat → Nat → Int} (h : FBox w g T) (hj : j < 10) : FBox (w.setCells g (j * 5) (rowL T j0)) g (fun j' i' => if j' = j then T j0 i' else T j' i') := by
  have h0 := h.setOne (v := T j0 0) hj (show 0 < 5 by omega)
  have h1 := h0.setOne (v := T j0 1) hj (show 1 < 5 by omega)
  have h2 := h1.setOne (v := T j0 2) hj (show 2 < 5 by omega)
  have h3 := h2.setOne (v := T j0 3) hj (show 3 < 5 by omega)
  have h4 := h3.setOne (v := T j0 4) hj (show 4 < 5 by omega)
  refine FBox.congr (T := _) h4 (fun j' i' _ hi' => ?_)
  by_cases e : j' = j
  · subst e
    have : i' = 0 ∨ i' = 1 ∨ i' = 2 ∨ i' = 3 ∨ i' = 4 := by omega
    rcases this with rfl | rfl | rfl | rfl | rfl <;> simp
  · simp [e]
/-- the table's entries. -/
def tb (ks cs : List Int) (j i : Nat) : Int := if i ≤ cs.length then (fr (kk ks) cs j i : Int) else 0
def TT (ks cs : List Int) (L : Nat) : Nat → Nat → Int := fun j i => if j ≤ L then tb ks cs j i else 0
def TI (ks cs : List Int) (L m : Nat) : Nat → Nat → Int := fun j i => if j = L + 1 then (if i ≤ m then tb ks cs (L + 1) i else tb ks cs L i) else TT ks cs L j i
theorem tb_le (ks cs : List Int) {j i : Nat} (hj : j ≤ 9) : 0 ≤ tb ks cs j i ∧ tb ks cs j i ≤ 512 := by
  unfold tb
  split
  · have := fr_le (kk ks) cs j i
    have : 2 ^ j ≤ 2 ^ 9 := Nat.pow_le_pow_right (by omega) hj
    omega
  · omega
theorem tb_zero (ks cs : List Int) (i : Nat) : tb ks cs 0 i = if i = 0 then 1 else 0 := by
  unfold tb
  by_cases h : i ≤ cs.length
  · rw [if_pos h, fr_zero _ _ _ h]
    split <;> rfl
  · rw [if_neg h, if_neg (by omega)]
theorem tb_no {ks cs : List Int} (hc : ∀ v ∈ cs, 1 ≤ v) {L : Nat} (h : kk ks L false = false) (i : Nat) : tb ks cs (L + 1) i = 0 := by
  unfold tb
  split
  · rw [fr_succ _ _ hc L i (by assumption), h]
    rfl
  · rfl
theorem tb_first {ks cs : List Int} (hc : ∀ v ∈ cs, 1 ≤ v) {L : Nat} (h : kk ks L false = true) : tb ks cs (L + 1) 0 = tb ks cs L 0 := by
  unfold tb
  rw [if_pos (by omega), if_pos (by omega), fr_succ _ _ hc L 0 (by omega), h]
  simp
theorem tb_add {ks cs : List Int} (hc : ∀ v ∈ cs, 1 ≤ v) {L m s r : Nat} (h : kk ks L false = true) (hm : m < cs.length) (hr : nth cs m = (r : Int)) (hs : s + r = L) (ha : allK (kk ks) s L = true) : tb ks cs (L + 1) (m + 1) = tb ks cs L (m + 1) + tb ks cs s m := by
  have e : (nth cs m).toNat = r := by rw [hr]; rfl
  unfold tb
  rw [if_pos (by omega), if_pos (by omega), if_pos (by omega), fr_succ _ _ hc L (m + 1) (by omega), h, show m + 1 - 1 = m by omega, e, show L - r = s by omega, ha, if_pos rfl, if_pos ⟨by omega, by omega, rfl⟩]
  simp
theorem tb_skip {ks cs : List Int} (hc : ∀ v ∈ cs, 1 ≤ v) {L m : Nat} (h : kk ks L false = true) (hm : m < cs.length) (ha : ¬ (nth cs m ≤ L ∧ allK (kk ks) (L - (nth cs m).toNat) L = true)) : tb ks cs (L + 1) (m + 1) = tb ks cs L (m + 1) := by
  unfold tb
  rw [if_pos (by omega), if_pos (by omega), fr_succ _ _ hc L (m + 1) (by omega), h, show m + 1 - 1 = m by omega, if_pos rfl, if_neg (fun q => ha q.2)]
  simp
theorem TI_zero {ks cs : List Int} (hc : ∀ v ∈ cs, 1 ≤ v) {L : Nat} (h : kk ks L false = true) (j i : Nat) : (if j = L + 1 then TT ks cs L L i else TT ks cs L j i) = TI ks cs L 0 j i := by
  unfold TI
  by_cases e : j = L + 1
  · rw [if_pos e, if_pos e]
    by_cases e0 : i ≤ 0
    · obtain rfl : i = 0 := by omega
      rw [if_pos (by omega), tb_first hc h]
      simp [TT]
    · rw [if_neg e0]
      simp [TT]
  · rw [if_neg e, if_neg e]
theorem TI_all {ks cs : List Int} {L : Nat} (j i : Nat) : TI ks cs L cs.length j i = TT ks cs (L + 1) j i := by
  unfold TI TT
  by_cases e : j = L + 1
  · subst e
    rw [if_pos rfl, if_pos (Nat.le_refl _)]
    by_cases h : i ≤ cs.length
    · rw [if_pos h]
    · rw [if_neg h]
      unfold tb
      rw [if_neg h, if_neg h]
  · rw [if_neg e]
    by_cases h : j ≤ L
    · rw [if_pos h, if_pos (by omega)]
    · rw [if_neg h, if_neg (by omega)]
theorem TT_no {ks cs : List Int} (hc : ∀ v ∈ cs, 1 ≤ v) {L : Nat} (h : kk ks L false = false) (j i : Nat) : TT ks cs L j i = TT ks cs (L + 1) j i := by
  unfold TT
  by_cases e : j = L + 1
  · subst e
    rw [if_neg (by omega), if_pos (Nat.le_refl _), tb_no hc h]
  · by_cases h : j ≤ L
    · rw [if_pos h, if_pos (by omega)]
    · rw [if_neg h, if_neg (by omega)]
theorem TI_add {ks cs : List Int} {L m : Nat} (j i : Nat) : (if j = L + 1 ∧ i = m + 1 then tb ks cs (L + 1) (m + 1) else TI ks cs L m j i) = TI ks cs L (m + 1) j i := by
  unfold TI
  by_cases e : j = L + 1
  · subst e
    by_cases e2 : i = m + 1
    · subst e2
      simp
    · rw [if_neg (fun q => e2 q.2), if_pos rfl, if_pos rfl]
      by_cases h : i ≤ m
      · rw [if_pos h, if_pos (by omega)]
      · rw [if_neg h, if_neg (by omega)]
  · rw [if_neg (fun q => e q.1), if_neg e, if_neg e]
theorem TI_skip {ks cs : List Int} {L m : Nat} (h : tb ks cs (L + 1) (m + 1) = tb ks cs L (m + 1)) (j i : Nat) : TI ks cs L m j i = TI ks cs L (m + 1) j i := by
  rw [← TI_add, h]
  by_cases e : j = L + 1 ∧ i = m + 1
  · rw [if_pos e]
    unfold TI
    rw [if_pos e.1, if_neg (by omega), e.2]
  · rw [if_neg e]
theorem TI_at {ks cs : List Int} {L m : Nat} : TI ks cs L m (L + 1) (m + 1) = tb ks cs L (m + 1) := by
  unfold TI
  rw [if_pos rfl, if_neg (by omega)]
theorem TI_old {ks cs : List Int} {L m s i : Nat} (h : s ≤ L) : TI ks cs L m s i = tb ks cs s i := by
  unfold TI TT
  rw [if_neg (by omega), if_pos h]
theorem grownSetF {w : World} {g o : Nat} {v : Value} : w.grownBy (w.setCell ⟨g, o, none⟩ v) (some g) :=
  ⟨rfl, rfl, rfl, by simp [World.setCell], fun k _ hne => heap_setCell_other w ⟨g, o, none⟩ k v (fun e => hne (by rw [e]))⟩
theorem grownSetsF {g : Nat} : ∀ (vs : List Value) (o : Nat) (w : World), w.grownBy (w.setCells g o vs) (some g)
  | [], _, w => World.grownBy.refl w _
  | _ :: vs, o, w => (grownSetF (w := w) (g := g) (o := o)).trans (grownSetsF vs (o + 1) _)
theorem row_info (T : Nat → Nat → Int) (j : Nat) : (Try.prog.info? 125).map (·.size) = some (rowL T j).length := by
  show _ = some 5
  kernel_rfl
theorem row_info' (T : Nat → Nat → Int) (j : Nat) : (Try.prog.info? 125).map (·.size) = some (rowL T j).toArray.size := row_info T j
theorem row_one (T : Nat → Nat → Int) (j : Nat) : (rowL T j).toArray.all (·.oneCell') = true := all_oneCell_toArray fun v hv => by
  simp only [rowL, List.mem_cons, List.not_mem_nil, or_false] at hv
  rcases hv with rfl | rfl | rfl | rfl | rfl <;> rfl
theorem FBox.there' {w : World} {g j j0 : Nat} {T T0 : Nat → Nat → Int} (h : FBox w g T) (hj : j < 10) : w.there g (j * 5) (rowL T0 j0).toArray.size := h.there hj
def FS (w wr : World) (A : Option Addr) (m c : Nat) (A' : Option Addr) (n c' : Nat) (T : Nat → Nat → Int) : Prop :=
  Below w.heap.size w wr ∧ LBox wr w.heap.size A m c A' n c' ∧ FBox wr (w.heap.size + 1) (fun _ _ => 0) ∧ FBox wr (w.heap.size + 1 + 1) T ∧ w.heap.size + 3 ≤ wr.heap.size
theorem FS.call {w wr w1 : World} {A : Option Addr} {m c : Nat} {A' : Option Addr} {n c' : Nat} {T : Nat → Nat → Int} (h : FS w wr A m c A' n c' T) (hb : Below wr.heap.size wr w1) : FS w w1 A m c A' n c' T := by
  obtain ⟨h1, h2, h3, h4, h5⟩ := h
  have := hb.size
  exact ⟨step h1 hb, (hb.block _ (by omega)).trans h2, h3.below (by omega) hb, h4.below (by omega) hb, by omega⟩
theorem FS.put {w wr w1 : World} {A : Option Addr} {m c : Nat} {A' : Option Addr} {n c' : Nat} {T T' : Nat → Nat → Int} (h : FS w wr A m c A' n c' T) (hg : wr.grownBy w1 (some (w.heap.size + 1 + 1))) (hT : FBox w1 (w.heap.size + 1 + 1) T') : FS w w1 A m c A' n c' T' := by
  obtain ⟨h1, h2, h3, h4, h5⟩ := h
  have := hg.size
  refine ⟨⟨hg.os.trans h1.os, hg.tape.trans h1.tape, hg.output.trans h1.output, by have := h1.size; omega, fun k hk => (hg.block k (by have := h1.size; omega) (fun e => by have := Option.some.inj e; omega)).trans (h1.block k hk)⟩, (hg.block _ (by omega) (fun e => by have := Option.some.inj e; omega)).trans h2, (hg.block _ (by omega) (fun e => by have := Option.some.inj e; omega)).trans h3, hT, by omega⟩
theorem f0 : fcells (fun _ _ => 0) = #[.int .i64 0, .int .i64 0, .int .i64 0, .int .i64 0, .int .i64 0, .int .i64 0, .int .i64 0, .int .i64 0, .int .i64 0, .int .i64 0, .int .i64 0, .int .i64 0, .int .i64 0, .int .i64 0, .int .i64 0, .int .i64 0, .int .i64 0, .int .i64 0, .int .i64 0, .int .i64 0, .int .i64 0, .int .i64 0, .int .i64 0, .int .i64 0, .int .i64 0, .int .i64 0, .int .i64 0, .int .i64 0, .int .i64 0, .int .i64 0, .int .i64 0, .int .i64 0, .int .i64 0, .int .i64 0, .int .i64 0, .int .i64 0, .int .i64 0, .int .i64 0, .int .i64 0, .int .i64 0, .int .i64 0, .int .i64 0, .int .i64 0, .int .i64 0, .int .i64 0, .int .i64 0, .int .i64 0, .int .i64 0, .int .i64 0, .int .i64 0] := rfl
set_option maxHeartbeats 1000000 in
theorem frontWays_any (A : Option Addr) (m c B : Nat) (cs : List Int) (A' : Option Addr) (n c' B' : Nat) (ks : List Int) (w : World) (h : Rd w B A m cs) (hB : B ≤ w.heap.size) (hm : m ≤ 4) (hcs : ∀ v ∈ cs, 1 ≤ v ∧ v ≤ 8) (h' : Rd w B' A' n ks) (hB' : B' ≤ w.heap.size) (hn : n ≤ 8) (hc : n ≤ c') (hc2 : c' ≤ 9223372036854775807) :
    Calls Try.prog 116 #[.agg #[.slice A m c, .slice A' n c']] w fun e w' => e = .returned (.agg (fcells (TT ks cs (n + 1)))) ∧ Below w.heap.size w w' := by
  have hl := Lib.hid h.1
  have hl' := Lib.hid h'.1
  have hc1 : ∀ v ∈ cs, 1 ≤ v := fun v hv => (hcs v hv).1
  obtain ⟨V, hV⟩ : ∃ V, ((w.alloc (.cells #[.slice A m c, .slice A' n c'] 124)).alloc (.cells (fcells fun _ _ => 0) 127)).alloc (.cells (fcells fun _ _ => 0) 127) = V := ⟨_, rfl⟩
  have hFS : FS w V A m c A' n c' (fun _ _ => 0) := by
    rw [← hV]
    refine ⟨(((Below.refl _ _).alloc (Nat.le_refl _) _).alloc (by simp) _).alloc (by simp; omega) _, ?_, ?_, ?_, by simp⟩
    · exact (heap_alloc_old _ _ (by simp; omega)).trans ((heap_alloc_old _ _ (by simp)).trans (heap_alloc_new w _))
    · have := heap_alloc_new (w.alloc (.cells #[.slice A m c, .slice A' n c'] 124)) (.cells (fcells fun _ _ => 0) 127)
      rw [World.size_alloc] at this
      exact (heap_alloc_old _ _ (by simp)).trans this
    · have := heap_alloc_new ((w.alloc (.cells #[.slice A m c, .slice A' n c'] 124)).alloc (.cells (fcells fun _ _ => 0) 127)) (.cells (fcells fun _ _ => 0) 127)
      rw [World.size_alloc, World.size_alloc] at this
      exact this
  have HV := Lib.hid hV
  clear hV
  go_enter Try.func116, Try.ntmps116
  go_upto_region 2 with fail
  rw [← f0, HV.out]
  have HFS := Lib.hid hFS
  obtain ⟨hVb, hVl, _, hVf, hVs⟩ := id hFS
  have z0 := cell_of_row _ _ 0 _ _ (0, 0) hVl
  have z1 := cell_of_row _ _ 1 _ _ (0, 0) hVl
  simp at z0 z1
  have c00 := hVf.cell (j := 0) (i := 0) (by omega) (by omega)
  have f00 := hVf.frozen 0
  simp only [Nat.zero_mul, Nat.zero_add] at c00
  have hne : w.heap.size ≠ w.heap.size + 1 + 1 := by omega
  have HT0 := Lib.hid (show FS w (V.setCell ⟨w.heap.size + 1 + 1, 0, none⟩ (.int .i64 1)) A m c A' n c' (TT ks cs 0) from hFS.put (grownSetF) (hVf.setP (by omega) (by simp [TT, tb_zero]) (fun q hq hne => by
    unfold TT
    by_cases e : q / 5 ≤ 0
    · rw [if_pos e, show q / 5 = 0 by omega, tb_zero, if_neg (by omega)]
    · rw [if_neg e])))
  clear hFS hVb hVl hVf hVs
  go_wp2
  clear z0 z1 c00 f00
  go_loopw [14] (fun i wr => ∃ L : Nat, L ≤ n + 1 ∧ i = .int .i64 L ∧ FS w wr A m c A' n c' (TT ks cs L)) (fun i _ => n + 1 - (intOf i).toNat)
  case atStart => exact ⟨0, by omega, rfl, HT0.out⟩
  case round =>
    obtain ⟨L, hL, rfl, hf⟩ := hrel
    obtain ⟨hb, hlb, _, hfb, hsz⟩ := id hf
    have z0 := cell_of_row _ _ 0 _ _ (0, 0) hlb
    have z1 := cell_of_row _ _ 1 _ _ (0, 0) hlb
    simp at z0 z1
    have hrC := h'.below (hb.mono hB')
    have hBw : B' ≤ wr.heap.size := Nat.le_trans hB' hb.size
    by_cases hlt : L < n + 1
    · have hLI : (L : Int) < (n : Int) + 1 := by omega
      cases hke : kk ks L false
      · have HT := Lib.hid (show FS w wr A m c A' n c' (TT ks cs (L + 1)) → True from fun _ => trivial)
        go_wp2_with (go_at_call 118; refine (canBeEmpty_any A m c A' n c' B' ks L wr hrC hBw (by omega)).mono ?_; rintro e w1 ⟨rfl, hb1⟩; rw [hke])
        go_roundw
        case rel =>
          have hf1 := hf.call hb1
          exact ⟨L + 1, by omega, by go_num, ⟨hf1.1, hf1.2.1, hf1.2.2.1, hf1.2.2.2.1.congr (fun j i _ _ => TT_no hc1 hke j i), hf1.2.2.2.2⟩⟩
        case measure => simp [intOf]; omega
      · have HF0 := Lib.hid hf
        clear hf hfb hb hlb
        go_wp2_with (first
          | (go_at_call 118; refine (canBeEmpty_any A m c A' n c' B' ks L wr hrC hBw (by omega)).mono ?_; rintro e w1 ⟨rfl, hb1⟩; rw [hke]; have hf1 := HF0.out.call hb1; have hrg := hf1.2.2.2.1.range (j := L) (by omega); have hth := hf1.2.2.2.1.there' (j := L + 1) (j0 := L) (T0 := TT ks cs L) (by omega))
          | (refine wpList_load_mid rfl 125 (.tmp 24) rfl (w.heap.size + 1 + 1) (L * 5) rfl (rowL (TT ks cs L) L) _ hrg Try.underlying125 rfl (row_info _ _) ?_; clear hrg)
          | (refine wpList_store_mid rfl 125 (.tmp 26) (.tmp 25) rfl (w.heap.size + 1 + 1) ((L + 1) * 5) (rowL (TT ks cs L) L).toArray rfl rfl hth (row_info' _ _) (row_one _ _) ?_; clear hth; obtain ⟨w2, hw2⟩ : ∃ w2, w1.setCells (w.heap.size + 1 + 1) ((L + 1) * 5) (rowL (TT ks cs L) L).toArray.toList = w2 := ⟨_, rfl⟩; rw [hw2]; have hf2 : FS w w2 A m c A' n c' (TI ks cs L 0) := (by rw [← hw2]; exact hf1.put (grownSetsF _ _ _) ((hf1.2.2.2.1.setRow (j := L + 1) (j0 := L) (by omega)).congr (fun j i _ _ => TI_zero hc1 hke j i))); clear hw2 hf1; obtain ⟨_, hlb2, _⟩ := id hf2; have y0 := cell_of_row _ _ 0 _ _ (0, 0) hlb2; have y1 := cell_of_row _ _ 1 _ _ (0, 0) hlb2; simp at y0 y1; clear hlb2)
          | fail)
        clear HF0 z0 z1 y0 y1
        go_loopw [30] (fun i wr => ∃ p : Nat, p ≤ m ∧ i = .int .i64 p ∧ FS w wr A m c A' n c' (TI ks cs L p)) (fun i _ => m - (intOf i).toNat)
        case atStart => exact ⟨0, Nat.zero_le _, rfl, hf2⟩
        case round =>
          obtain ⟨p, hp, rfl, hf⟩ := hrel
          obtain ⟨hb, hlb, _, hfb, hsz⟩ := id hf
          have z0 := cell_of_row _ _ 0 _ _ (0, 0) hlb
          have z1 := cell_of_row _ _ 1 _ _ (0, 0) hlb
          simp at z0 z1
          have hrC := h'.below (hb.mono hB')
          have hBw : B' ≤ wr.heap.size := Nat.le_trans hB' hb.size
          by_cases hltp : p < m
          · have hpI : (p : Int) < (m : Int) := by omega
            have hp5 : (p : Int) + 1 < 5 := by omega
            have hL10 : (L : Int) + 1 < 10 := by omega
            obtain ⟨b, off, rfl, hbB, hck⟩ := (h.below (hb.mono hB)).at_ hltp
            have hpl : p < cs.length := by rw [hl.out]; exact hltp
            obtain ⟨r, hr⟩ : ∃ r : Nat, nth cs p = (r : Int) := by
              have := hcs _ (List.getElem_mem hpl)
              have e : nth cs p = cs[p] := by simp [nth, List.getD_eq_getElem?_getD, hpl]
              exact ⟨(nth cs p).toNat, by omega⟩
            have hr8 : 1 ≤ r ∧ r ≤ 8 := by
              have := hcs _ (List.getElem_mem hpl)
              have e : nth cs p = cs[p] := by simp [nth, List.getD_eq_getElem?_getD, hpl]
              omega
            have Hr := Lib.hid hr
            rw [hr] at hck
            clear hr
            have HF0 := Lib.hid hf
            by_cases hrL : r ≤ L
            · have hrI : (r : Int) ≤ (L : Int) := by omega
              have HCR := Lib.hid (show Calls Try.prog 119 #[.agg #[.slice (some ⟨b, off, none⟩) m c, .slice A' n c'], .int .i64 ((L : Int) - (r : Int)), .int .i64 L] wr fun e' w' => e' = .returned (.bool (allK (kk ks) (L - r) L)) ∧ Below wr.heap.size wr w' from by
                rw [show (L : Int) - (r : Int) = ((L - r : Nat) : Int) by omega]
                exact canBeRun_any _ m c A' n c' B' ks (L - r) L wr hrC hBw hn hc hc2 (by omega) (by omega))
              clear hf hfb hb hlb
              cases hak : allK (kk ks) (L - r) L
              · have HT := Lib.hid (tb_skip hc1 hke hpl (by rw [Hr.out]; rintro ⟨_, q⟩; rw [Int.toNat_natCast, hak] at q; cases q))
                go_wp2_with (go_at_call 119; refine HCR.out.mono ?_; rintro e w1 ⟨rfl, hb1⟩; rw [hak]; have hf1 := HF0.out.call hb1)
                go_roundw
                case rel => exact ⟨p + 1, by omega, by go_num, ⟨hf1.1, hf1.2.1, hf1.2.2.1, hf1.2.2.2.1.congr (fun j i _ _ => TI_skip HT.out j i), hf1.2.2.2.2⟩⟩
                case measure => simp [intOf]; omega
              · have HT := Lib.hid (tb_add hc1 hke hpl Hr.out (show L - r + r = L by omega) hak)
                have hs10 : L - r < 10 := by omega
                have hb1 := tb_le ks cs (j := L) (i := p + 1) (by omega)
                have hb2 := tb_le ks cs (j := L - r) (i := p) (by omega)
                go_wp2_with (first | (go_at_call 119; refine HCR.out.mono ?_; rintro e w1 ⟨rfl, hb1'⟩; rw [hak]; have hf1 := HF0.out.call hb1'; have k1 := hf1.2.2.2.1.cell (j := L + 1) (i := p + 1) (by omega) (by omega); rw [TI_at] at k1; have k2 := hf1.2.2.2.1.cell (j := L - r) (i := p) hs10 (by omega); rw [TI_old (by omega)] at k2; have k3 := hf1.2.2.2.1.frozen ((L + 1) * 5 + (p + 1))) | fail)
                go_region
                go_wp2
                refine ⟨⟨p + 1, by omega, by go_num, ?_⟩, by simp [intOf]; omega⟩
                rw [← HT.out]
                have hg2 := grownSetF (w := w1) (g := w.heap.size + 1 + 1) (o := (L + 1) * 5 + (p + 1)) (v := .int .i64 (tb ks cs (L + 1) (p + 1)))
                exact hf1.put (w1 := (w1.setCell ⟨w.heap.size + 1 + 1, (L + 1) * 5 + (p + 1), none⟩ (.int .i64 (tb ks cs (L + 1) (p + 1)))).drew) ⟨hg2.os, hg2.tape, hg2.output, hg2.size, hg2.block⟩ ((hf1.2.2.2.1.setOne (by omega) (by omega)).congr (fun j i _ _ => TI_add j i))
            · have hrI : ¬ ((r : Int) ≤ (L : Int)) := by omega
              have hrI2 : (L : Int) < (r : Int) := by omega
              have HT := Lib.hid (tb_skip hc1 hke hpl (by rw [Hr.out]; rintro ⟨q, _⟩; omega))
              clear hf hfb hb hlb
              go_wp2
              go_roundw
              case rel => exact ⟨p + 1, by omega, by go_num, ⟨HF0.out.1, HF0.out.2.1, HF0.out.2.2.1, HF0.out.2.2.2.1.congr (fun j i _ _ => TI_skip HT.out j i), HF0.out.2.2.2.2⟩⟩
              case measure => simp [intOf]; omega
          · have hpm : p = cs.length := by rw [hl.out]; omega
            have hpI : ¬ ((p : Int) < (m : Int)) := by omega
            have HF1 := Lib.hid (show FS w wr A m c A' n c' (TT ks cs (L + 1)) from ⟨hf.1, hf.2.1, hf.2.2.1, hf.2.2.2.1.congr (fun j i _ _ => by rw [hpm]; exact TI_all j i), hf.2.2.2.2⟩)
            clear hf hfb hb hlb hpm hltp hp
            go_wp2
            go_roundw
            case rel => exact ⟨L + 1, by omega, by go_num, HF1.out⟩
            case measure => simp [intOf]; omega
    · have hLI : ¬ ((L : Int) < (n : Int) + 1) := by omega
      have hLn : L = n + 1 := by omega
      rw [hLn] at hf hfb
      obtain ⟨h1, h2, h3, h4, h5⟩ := hf
      clear hLn hlb hfb hlt hL
      have H3 := Lib.hid h3
      have H4 := Lib.hid h4
      have Hi := Lib.hid (front_info (TT ks cs (n + 1)))
      have Hone := Lib.hid (fcells_one (TT ks cs (n + 1)))
      have Hs := Lib.hid (show (fcells fun _ _ => 0).size = (fcells (TT ks cs (n + 1))).size by rw [fcells_size, fcells_size])
      clear h3 h4 h2 z0 z1
      go_wp2_with (first
        | (refine wpList_load_row rfl 127 (.tmp 3) rfl (w.heap.size + 1 + 1) rfl 127 (fcells (TT ks cs (n + 1))) (0, 0) _ H4.out Try.underlying127 rfl Hi.out ?_; clear H4)
        | (refine wpList_store_row rfl 127 (.tmp 2) (.tmp 63) rfl (w.heap.size + 1) (fcells (TT ks cs (n + 1))) rfl rfl 127 (fcells fun _ _ => 0) H3.out Hi.out Hs.out Hone.out ?_))
      refine bodyPost_ret (v := .agg (fcells (TT ks cs (n + 1)))) (results_cell_row (by rfl) _ _ (w.heap.size + 1) 127 _ (0, 0) _ rfl (setRow_heap _ _ _ _ _ _ H3.out) Try.underlying127 rfl Hi.out) rfl ⟨rfl, ?_⟩
      exact h1.trans ⟨rfl, rfl, rfl, by simp, fun k hk => by unfold World.setRow; simp only [Array.getElem?_modify]; rw [if_neg (by omega)]⟩
end Go.Proofs.Ytgeedgljabdllaa
