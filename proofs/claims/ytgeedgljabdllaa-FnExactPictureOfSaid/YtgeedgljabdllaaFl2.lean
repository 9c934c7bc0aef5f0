import Derived.Test.YtgeedgljabdllaaWy2
import Derived.Test.YtgeedgljabdllaaIr
set_option maxRecDepth 8000
namespace Go.Proofs.Ytgeedgljabdllaa
open Go.ChangeShapes Go.WideShapes Go.ChangeAt Go.RowKit
theorem Ow.caps {w : World} {lo : Nat} {A : Option Addr} {n c : Nat} {xs : List Int} (h : Ow w lo A n c xs) : n ≤ c ∧ c ≤ 9223372036854775807 := by
  rcases h.2 with ⟨hv, hn⟩ | ⟨g, cap, cur, hv, _, _, hle, hm, _⟩
  · injection hv with _ _ hc
    omega
  · injection hv with _ _ hc
    simp only [maxLen] at hm
    omega
theorem kk_rev {ks : List Int} {n : Nat} (h : ks.length = n) : ∀ j b, j < n → kk ks.reverse j b = kk ks (n - 1 - j) b := fun j b hj => by
  unfold kk
  rw [List.length_reverse, nth_rev h hj, if_pos (show j < ks.length by omega), if_pos (show n - 1 - j < ks.length by omega)]
theorem tE_run {K K' : Nat → Bool → Bool} {c : List Int} {n m x : Nat} : tE K K' c n m x (rnC c m) = 0 := sN_zero _ fun e he => if_neg (by simp only [inn, decide_eq_true_eq]; omega)
theorem tM_bound {K K' : Nat → Bool → Bool} {n : Nat} (hK : ∀ j b, j < n → K' j b = K (n - 1 - j) b) (c : List Int) (hc : ∀ v ∈ c, 1 ≤ v) {x : Nat} (hx : x < n) {M E : Nat} (hM : M < c.length) (hE : E ≤ n + 1) : tM K K' c n x M + tE K K' c n M x E ≤ 2 ^ n := by
  have h1 : tE K K' c n M x E ≤ tE K K' c n M x (n + 1) := sN_le _ hE
  have h2 : tM K K' c n x (M + 1) ≤ tM K K' c n x c.length := sN_le _ (by omega)
  rw [tM_fl hK c hc hx] at h2
  have h3 : flC K c n x ≤ 2 ^ n := sm_le (fun L => by split <;> omega)
  have h4 : tM K K' c n x (M + 1) = tM K K' c n x M + tE K K' c n M x (n + 1) := rfl
  omega
/-- what is filled so far. -/
def fAt (ks cs : List Int) (n M E x : Nat) : Int := ((tM (kk ks) (kk ks.reverse) cs n x M + tE (kk ks) (kk ks.reverse) cs n M x E : Nat) : Int)
def wAt (ks cs : List Int) (n M E : Nat) : Int := ((tm (kk ks) (kk ks.reverse) cs n M E : Nat) : Int)
theorem fAt_succ (ks cs : List Int) (n M E x : Nat) : fAt ks cs n M (E + 1) x = fAt ks cs n M E x + if inn cs M E x then wAt ks cs n M E else 0 := by
  unfold fAt wAt
  have : tE (kk ks) (kk ks.reverse) cs n M x (E + 1) = tE (kk ks) (kk ks.reverse) cs n M x E + if inn cs M E x then tm (kk ks) (kk ks.reverse) cs n M E else 0 := rfl
  rw [this]
  split <;> simp <;> omega
theorem fAt_run (ks cs : List Int) (n M x : Nat) : fAt ks cs n M (rnC cs M) x = ((tM (kk ks) (kk ks.reverse) cs n x M : Nat) : Int) := by
  unfold fAt
  rw [tE_run, Nat.add_zero]
theorem fAt_end (ks cs : List Int) (n M x : Nat) : fAt ks cs n M (n + 1) x = ((tM (kk ks) (kk ks.reverse) cs n x (M + 1) : Nat) : Int) := rfl
theorem wAt_no {ks cs : List Int} {n M E : Nat} (h : allK (kk ks) (E - rnC cs M) E = false) : wAt ks cs n M E = 0 := by
  unfold wAt tm
  rw [h]
  rfl
theorem wAt_yes {ks cs : List Int} {n M E : Nat} (hM : M < cs.length) (h : allK (kk ks) (E - rnC cs M) E = true) : wAt ks cs n M E = tb ks cs (E - rnC cs M) M * tb ks.reverse cs.reverse (n - E) (cs.length - 1 - M) := by
  unfold wAt tm tb
  rw [h, if_pos rfl, if_pos (by omega), if_pos (by rw [List.length_reverse]; omega)]
  simp
/-- from s on up to x the ways are added. -/
def fMid (ks cs : List Int) (n M E s x : Nat) : List Int := mapTo (fun i => if s ≤ i ∧ i < x then fAt ks cs n M E i + wAt ks cs n M E else fAt ks cs n M E i) n
theorem fMid_start (ks cs : List Int) (n M E s : Nat) : fMid ks cs n M E s s = mapTo (fAt ks cs n M E) n := mapTo_congr fun i _ => if_neg (by omega)
theorem fMid_end {ks cs : List Int} {n M E s : Nat} (hs : s + rnC cs M = E) : fMid ks cs n M E s E = mapTo (fAt ks cs n M (E + 1)) n := mapTo_congr fun i _ => by
  rw [fAt_succ]
  by_cases h : s ≤ i ∧ i < E
  · rw [if_pos h, if_pos (by simp only [inn, decide_eq_true_eq]; omega)]
  · rw [if_neg h, if_neg (by simp only [inn, decide_eq_true_eq]; omega)]; simp
theorem fMid_set {ks cs : List Int} {n M E s x : Nat} (hs : s ≤ x) : (vals (fMid ks cs n M E s x)).set x (.int .i64 (fAt ks cs n M E x + wAt ks cs n M E)) = vals (fMid ks cs n M E s (x + 1)) := by
  unfold fMid
  rw [mapTo_set]
  congr 1
  refine mapTo_congr fun i _ => ?_
  by_cases e : i = x
  · subst e; rw [if_pos rfl, if_pos (by omega)]
  · rw [if_neg e]
    by_cases h : s ≤ i ∧ i < x
    · rw [if_pos h, if_pos (by omega)]
    · rw [if_neg h, if_neg (by omega)]
theorem fMid_at {ks cs : List Int} {n M E s x : Nat} (hx : x < n) : nth (fMid ks cs n M E s x) x = fAt ks cs n M E x := by
  unfold fMid
  rw [mapTo_nth hx, if_neg (by omega)]
theorem fAll {ks cs : List Int} {n : Nat} (h : ks.length = n) (hc : ∀ v ∈ cs, 1 ≤ v) : mapTo (fun x => ((tM (kk ks) (kk ks.reverse) cs n x cs.length : Nat) : Int)) n = mapTo (fun x => (flC (kk ks) cs n x : Int)) n := mapTo_congr fun i hi => by
  rw [tM_fl (kk_rev h) cs hc hi]
def FlS (w wr : World) (G g g' : Nat) (A : Option Addr) (m c : Nat) (A' : Option Addr) (n c' : Nat) (T1 T2 : Nat → Nat → Int) (ys : List Int) : Prop :=
  Below w.heap.size w wr ∧ LBox wr w.heap.size A m c A' n c' ∧ FBox wr g T1 ∧ FBox wr g' T2 ∧ Ow wr G (some ⟨G, 0, none⟩) n n ys ∧ (w.heap.size < G ∧ g < G ∧ g' < G ∧ G < wr.heap.size)
theorem FlS.call {w wr w1 : World} {G g g' : Nat} {A : Option Addr} {m c : Nat} {A' : Option Addr} {n c' : Nat} {T1 T2 : Nat → Nat → Int} {ys : List Int} (h : FlS w wr G g g' A m c A' n c' T1 T2 ys) (hb : Below wr.heap.size wr w1) : FlS w w1 G g g' A m c A' n c' T1 T2 ys := by
  obtain ⟨h1, h2, h3, h4, h5, h6⟩ := h
  have := hb.size
  exact ⟨step h1 hb, (hb.block _ (by omega)).trans h2, h3.below (by omega) hb, h4.below (by omega) hb, h5.below hb, by omega⟩
theorem FlS.put {w wr : World} {G g g' : Nat} {A : Option Addr} {m c : Nat} {A' : Option Addr} {n c' : Nat} {T1 T2 : Nat → Nat → Int} {ys zs : List Int} {x : Nat} {v : Int} (h : FlS w wr G g g' A m c A' n c' T1 T2 ys) (hz : (vals ys).set x (.int .i64 v) = vals zs) : FlS w (wr.setCell ⟨G, x, none⟩ (.int .i64 v)) G g g' A m c A' n c' T1 T2 zs := by
  obtain ⟨h1, h2, h3, h4, h5, h6⟩ := h
  have hst := World.ownsRow.stored h5 x (.int .i64 v)
  rw [hz] at hst
  have hg := hst.2
  have hgs := hg.size
  refine ⟨h1.setCell (by show w.heap.size ≤ G; omega) _, (hg.block _ (by omega) (fun e => by have := Option.some.inj e; omega)).trans h2, (hg.block _ (by omega) (fun e => by have := Option.some.inj e; omega)).trans h3, (hg.block _ (by omega) (fun e => by have := Option.some.inj e; omega)).trans h4, hst.1, by omega⟩
structure FwJ (V : World) (m : Nat) (n : Nat) (rcs rks : List Int) (ln : Value) (C C' Z : Array Value) (D : Nat → Bool) (e : Nat → Value) (w : World) : Prop where
  bel : Below V.heap.size V w
  c0 : D 0 = true → e 12 = ln
  c1 : D 1 = true → e 13 = .agg C
  c2 : D 2 = true → e 14 = ln
  c3 : D 3 = true → ∃ A1 c1 A2 c2, e 15 = .agg #[.slice A1 m c1, .slice A2 n c2] ∧ Ow w V.heap.size A1 m c1 rcs ∧ Ow w V.heap.size A2 n c2 rks
  c4 : D 4 = true → e 16 = .agg C'
  c5 : D 5 = true → ∃ g, e 3 = .pointer (some ⟨g, 0, none⟩) ∧ V.heap.size ≤ g ∧ g < w.heap.size ∧ w.heap[g]? = some (.cells (bif D 7 then C else Z) 127 (0, 0))
  c6 : D 6 = true → ∃ g, e 4 = .pointer (some ⟨g, 0, none⟩) ∧ V.heap.size ≤ g ∧ g < w.heap.size ∧ w.heap[g]? = some (.cells (bif D 8 then C' else Z) 127 (0, 0))
  c7 : D 5 = true → D 6 = true → e 3 ≠ e 4
  c8 : (D 7 = true → D 5 = true) ∧ (D 8 = true → D 6 = true)
set_option maxHeartbeats 4000000 in
theorem filledWays_any (A : Option Addr) (m c B : Nat) (cs : List Int) (A' : Option Addr) (n c' B' : Nat) (ks : List Int) (w : World) (h : Rd w B A m cs) (hB : B ≤ w.heap.size) (hm : m ≤ 4) (hcs' : ∀ v ∈ cs, 1 ≤ v ∧ v ≤ n) (h' : Rd w B' A' n ks) (hB' : B' ≤ w.heap.size) (hn1 : 1 ≤ n) (hn : n ≤ 8) (hc : n ≤ c') (hc2 : c' ≤ 9223372036854775807) :
    Calls Try.prog 117 #[.agg #[.slice A m c, .slice A' n c']] w (RetSl w (mapTo (fun x => (flC (kk ks) cs n x : Int)) n)) := by
  have hl := Lib.hid h.1
  have hl' := Lib.hid h'.1
  have hcs : ∀ v ∈ cs, 1 ≤ v ∧ v ≤ 8 := fun v hv => ⟨(hcs' v hv).1, by have := (hcs' v hv).2; omega⟩
  have hc1 : ∀ v ∈ cs, 1 ≤ v := fun v hv => (hcs v hv).1
  obtain ⟨i0, hi, hz0, hz1, hz2⟩ := info_parts int_info
  have hFin := Lib.hid (fAll (cs := cs) hl'.out hc1)
  have hb0 : Below w.heap.size w (w.alloc (.cells #[.slice A m c, .slice A' n c'] 124)) := (Below.refl _ _).alloc (Nat.le_refl _) _
  obtain ⟨V, hV⟩ : ∃ V, V = w.alloc (.cells #[.slice A m c, .slice A' n c'] 124) := ⟨_, rfl⟩
  rw [← hV] at hb0
  have hsV : V.heap.size = w.heap.size + 1 := by rw [hV]; simp
  have hx0 : LBox V w.heap.size A m c A' n c' := by rw [hV]; exact heap_alloc_new w _
  have hrV := h.below (hb0.mono hB)
  have hrV' := h'.below (hb0.mono hB')
  have HX := Lib.hid (fun (w' : World) (hb : Below V.heap.size V w') => show LBox w' w.heap.size A m c A' n c' from (hb.block _ (by omega)).trans hx0)
  have HF1 := Lib.hid (fun (w' : World) (hb : Below V.heap.size V w') => frontWays_any A m c B cs A' n c' B' ks w' (hrV.below (hb.mono (Nat.le_trans hB hb0.size))) (Nat.le_trans hB (Nat.le_trans hb0.size hb.size)) hm hcs (hrV'.below (hb.mono (Nat.le_trans hB' hb0.size))) (Nat.le_trans hB' (Nat.le_trans hb0.size hb.size)) hn hc hc2)
  have HR := Lib.hid (fun (w' : World) (hb : Below V.heap.size V w') => reversed_any A m c B cs A' n c' B' ks w' (hrV.below (hb.mono (Nat.le_trans hB hb0.size))) (Nat.le_trans hB (Nat.le_trans hb0.size hb.size)) (by omega) (hrV'.below (hb.mono (Nat.le_trans hB' hb0.size))) (Nat.le_trans hB' (Nat.le_trans hb0.size hb.size)) (by omega))
  have HF2 := Lib.hid (fun (w' : World) (A1 : Option Addr) (c1 : Nat) (A2 : Option Addr) (c2 : Nat) (o1 : Ow w' V.heap.size A1 m c1 cs.reverse) (o2 : Ow w' V.heap.size A2 n c2 ks.reverse) => frontWays_any A1 m c1 w'.heap.size cs.reverse A2 n c2 w'.heap.size ks.reverse w' o1.rd (Nat.le_refl _) hm (fun v hv => hcs v (List.mem_reverse.1 hv)) o2.rd (Nat.le_refl _) hn o2.caps.1 o2.caps.2)
  obtain ⟨C, hC⟩ : ∃ C, C = fcells (TT ks cs (n + 1)) := ⟨_, rfl⟩
  obtain ⟨C', hC'⟩ : ∃ C, C = fcells (TT ks.reverse cs.reverse (n + 1)) := ⟨_, rfl⟩
  obtain ⟨Z, hZ⟩ : ∃ Z, Z = fcells (fun _ _ => 0) := ⟨_, rfl⟩
  have HC := Lib.hid hC
  have HC' := Lib.hid hC'
  have HZ := Lib.hid (hZ.trans f0)
  have hi1 := Lib.hid (show (Try.prog.info? 127).map (·.size) = some C.size by rw [hC]; exact front_info _)
  have hi2 := Lib.hid (show (Try.prog.info? 127).map (·.size) = some C'.size by rw [hC']; exact front_info _)
  have ho1 := Lib.hid (show C.all (·.oneCell') = true by rw [hC]; exact fcells_one _)
  have ho2 := Lib.hid (show C'.all (·.oneCell') = true by rw [hC']; exact fcells_one _)
  have hsz1 := Lib.hid (show Z.size = C.size by rw [hC, hZ, fcells_size, fcells_size])
  have hsz2 := Lib.hid (show Z.size = C'.size by rw [hC', hZ, fcells_size, fcells_size])
  rw [← hC] at HF1
  rw [← hC'] at HF2
  have HV := Lib.hid hV
  clear hV hC hC' hZ hrV hrV' hx0
  go_enter Try.func117, Try.ntmps117
  go_wp2_with fail
  rw [← HV.out]
  refine wp_region_E [12, 13, 14, 15, 16, 3, 4] (FwJ V m n cs.reverse ks.reverse (.agg #[.slice A m c, .slice A' n c']) C C' Z) (by rfl) (by kernel_rfl) (by kernel_rfl) (by simp) ?init ?step ?fin
  case init => exact ⟨(Below.refl _ _).drew, nofun, nofun, nofun, nofun, nofun, nofun, nofun, nofun, ⟨nofun, nofun⟩⟩
  case step =>
    intro i o D a w1 K hi hoo hDi hdep hoff hJ hK hKn
    have hsz := hJ.bel.size
    have hl := HX.out w1 hJ.bel
    have z0 : w1.cell? ⟨w.heap.size, 0, none⟩ = some (.slice A m c) := (cell_of_row _ _ 0 _ _ (0, 0) hl).trans rfl
    have z1 : w1.cell? ⟨w.heap.size, 1, none⟩ = some (.slice A' n c') := (cell_of_row _ _ 1 _ _ (0, 0) hl).trans rfl
    have e1 : a.eval (.tmp 1) = .pointer (some ⟨w.heap.size, 0, none⟩) := hoff 1 (by decide)
    have keep : ∀ {w2 : World} {T : Array Value} {g : Nat}, Below w1.heap.size w1 w2 → (V.heap.size ≤ g ∧ g < w1.heap.size ∧ w1.heap[g]? = some (.cells T 127 (0, 0))) → (V.heap.size ≤ g ∧ g < w2.heap.size ∧ w2.heap[g]? = some (.cells T 127 (0, 0))) := fun hb q => ⟨q.1, by have := hb.size; omega, (hb.block _ q.2.1).trans q.2.2⟩
    have hiN : i < 9 := hi
    have : i = 0 ∨ i = 1 ∨ i = 2 ∨ i = 3 ∨ i = 4 ∨ i = 5 ∨ i = 6 ∨ i = 7 ∨ i = 8 := by omega
    rcases this with rfl | rfl | rfl | rfl | rfl | rfl | rfl | rfl | rfl
    all_goals
      simp only [List.getElem?_toArray, List.getElem?_cons_zero, List.getElem?_cons_succ, Option.some.injEq] at hoo
      subst hoo
    · refine oper_valJ (v := .agg #[.slice A m c, .slice A' n c']) (w' := w1) ?_ (hK _ _ _ rfl ?_)
      · unfold execOp
        simp only [e1]
        go_simp
      · exact ⟨hJ.bel, fun _ => rfl, hJ.c1, hJ.c2, hJ.c3, hJ.c4, hJ.c5, hJ.c6, hJ.c7, hJ.c8⟩
    · have p := hJ.c0 (hdep ⟨0, .data⟩ (by simp) rfl)
      refine oper_callJ (f := 116) (args := #[.agg #[.slice A m c, .slice A' n c']]) ?_ (HF1.out w1 hJ.bel) ?_
      · unfold execOp
        go_simp
        exact by simpa [Act.eval] using p
      · rintro e w2 ⟨rfl, hb⟩
        refine ⟨_, rfl, hK _ _ _ rfl ⟨hJ.bel.trans (hb.mono hsz), hJ.c0, fun _ => rfl, hJ.c2, fun hd => ?_, hJ.c4, fun hd => ?_, fun hd => ?_, hJ.c7, hJ.c8⟩⟩
        · obtain ⟨A1, c1, A2, c2, q1, q2, q3⟩ := hJ.c3 hd
          exact ⟨A1, c1, A2, c2, q1, q2.below hb, q3.below hb⟩
        · obtain ⟨g, q, r⟩ := hJ.c5 hd
          exact ⟨g, q, keep hb r⟩
        · obtain ⟨g, q, r⟩ := hJ.c6 hd
          exact ⟨g, q, keep hb r⟩
    · refine oper_valJ (v := .agg #[.slice A m c, .slice A' n c']) (w' := w1) ?_ (hK _ _ _ rfl ?_)
      · unfold execOp
        simp only [e1]
        go_simp
      · exact ⟨hJ.bel, hJ.c0, hJ.c1, fun _ => rfl, hJ.c3, hJ.c4, hJ.c5, hJ.c6, hJ.c7, hJ.c8⟩
    · have p := hJ.c2 (hdep ⟨2, .data⟩ (by simp) rfl)
      refine oper_callJ (f := 120) (args := #[.agg #[.slice A m c, .slice A' n c']]) ?_ (HR.out w1 hJ.bel) ?_
      · unfold execOp
        go_simp
        exact by simpa [Act.eval] using p
      · rintro e w2 ⟨A1, c1, A2, c2, rfl, o1, o2, hb⟩
        refine ⟨_, rfl, hK _ _ _ rfl ⟨hJ.bel.trans (hb.mono hsz), hJ.c0, hJ.c1, hJ.c2, fun _ => ⟨A1, c1, A2, c2, rfl, o1.mono hsz, o2.mono hsz⟩, hJ.c4, fun hd => ?_, fun hd => ?_, hJ.c7, hJ.c8⟩⟩
        · obtain ⟨g, q, r⟩ := hJ.c5 hd
          exact ⟨g, q, keep hb r⟩
        · obtain ⟨g, q, r⟩ := hJ.c6 hd
          exact ⟨g, q, keep hb r⟩
    · obtain ⟨A1, c1, A2, c2, q1, q2, q3⟩ := hJ.c3 (hdep ⟨3, .data⟩ (by simp) rfl)
      refine oper_callJ (f := 116) (args := #[.agg #[.slice A1 m c1, .slice A2 n c2]]) ?_ (HF2.out w1 A1 c1 A2 c2 q2 q3) ?_
      · unfold execOp
        go_simp
        exact by simpa [Act.eval] using q1
      · rintro e w2 ⟨rfl, hb⟩
        refine ⟨_, rfl, hK _ _ _ rfl ⟨hJ.bel.trans (hb.mono hsz), hJ.c0, hJ.c1, hJ.c2, fun _ => ⟨A1, c1, A2, c2, q1, q2.below hb, q3.below hb⟩, fun _ => rfl, fun hd => ?_, fun hd => ?_, hJ.c7, hJ.c8⟩⟩
        · obtain ⟨g, q, r⟩ := hJ.c5 hd
          exact ⟨g, q, keep hb r⟩
        · obtain ⟨g, q, r⟩ := hJ.c6 hd
          exact ⟨g, q, keep hb r⟩
    · have hb : Below w1.heap.size w1 (w1.alloc (.cells Z 127)) := (Below.refl _ _).alloc (Nat.le_refl _) _
      have d7 : D 7 = false := by cases e : D 7; rfl; rw [hJ.c8.1 e] at hDi; cases hDi
      refine oper_valJ (v := .pointer (some ⟨w1.heap.size, 0, none⟩)) (w' := w1.alloc (.cells Z 127)) ?_ (hK _ _ _ rfl ?_)
      · unfold execOp
        rw [HZ.out]
        go_simp
      · refine ⟨hJ.bel.trans (hb.mono hsz), hJ.c0, hJ.c1, hJ.c2, fun hd => ?_, hJ.c4, fun hd => ⟨w1.heap.size, rfl, hsz, by simp, ?_⟩, fun hd => ?_, fun _ hd => ?_, ⟨fun _ => rfl, hJ.c8.2⟩⟩
        · obtain ⟨A1, c1, A2, c2, q1, q2, q3⟩ := hJ.c3 hd
          exact ⟨A1, c1, A2, c2, q1, q2.below hb, q3.below hb⟩
        · show (w1.alloc (.cells Z 127)).heap[w1.heap.size]? = some (.cells (bif D 7 then C else Z) 127 (0, 0))
          rw [d7]
          exact heap_alloc_new _ _
        · obtain ⟨g, q, r⟩ := hJ.c6 hd
          exact ⟨g, q, keep hb r⟩
        · obtain ⟨g, q, r⟩ := hJ.c6 hd
          intro e
          have e' : Value.pointer (some ⟨w1.heap.size, 0, none⟩) = a.eval (.tmp 4) := e
          rw [show a.eval (.tmp 4) = .pointer (some ⟨g, 0, none⟩) from q] at e'
          injection e' with e'
          injection e' with e'
          injection e' with e'
          omega
    · have hb : Below w1.heap.size w1 (w1.alloc (.cells Z 127)) := (Below.refl _ _).alloc (Nat.le_refl _) _
      have d7 : D 8 = false := by cases e : D 8; rfl; rw [hJ.c8.2 e] at hDi; cases hDi
      refine oper_valJ (v := .pointer (some ⟨w1.heap.size, 0, none⟩)) (w' := w1.alloc (.cells Z 127)) ?_ (hK _ _ _ rfl ?_)
      · unfold execOp
        rw [HZ.out]
        go_simp
      · refine ⟨hJ.bel.trans (hb.mono hsz), hJ.c0, hJ.c1, hJ.c2, fun hd => ?_, hJ.c4, fun hd => ?_, fun hd => ⟨w1.heap.size, rfl, hsz, by simp, ?_⟩, fun hd _ => ?_, ⟨hJ.c8.1, fun _ => rfl⟩⟩
        · obtain ⟨A1, c1, A2, c2, q1, q2, q3⟩ := hJ.c3 hd
          exact ⟨A1, c1, A2, c2, q1, q2.below hb, q3.below hb⟩
        · obtain ⟨g, q, r⟩ := hJ.c5 hd
          exact ⟨g, q, keep hb r⟩
        · show (w1.alloc (.cells Z 127)).heap[w1.heap.size]? = some (.cells (bif D 8 then C' else Z) 127 (0, 0))
          rw [d7]
          exact heap_alloc_new _ _
        · obtain ⟨g, q, r⟩ := hJ.c5 hd
          intro e
          have e' : a.eval (.tmp 3) = Value.pointer (some ⟨w1.heap.size, 0, none⟩) := e
          rw [show a.eval (.tmp 3) = .pointer (some ⟨g, 0, none⟩) from q] at e'
          injection e' with e'
          injection e' with e'
          injection e' with e'
          omega
    · have d5 := hdep ⟨5, .phase⟩ (by simp) rfl
      have d6 := hdep ⟨6, .phase⟩ (by simp) rfl
      obtain ⟨g, q, r1, r2, r3⟩ := hJ.c5 d5
      obtain ⟨g', q', r1', r2', r3'⟩ := hJ.c6 d6
      have hne : g ≠ g' := fun e => hJ.c7 d5 d6 (by rw [e] at q; exact q.trans q'.symm)
      have p := hJ.c1 (hdep ⟨1, .data⟩ (by simp) rfl)
      rw [hDi] at r3
      refine wp_store_row 127 (.tmp 3) (.tmp 13) rfl g C q p 127 _ r3 hi1.out hsz1.out ho1.out (hKn _ rfl ?_)
      have hb : Below V.heap.size w1 (w1.setRow g C) := ⟨rfl, rfl, rfl, by simp, fun k hk => by unfold World.setRow; simp only [Array.getElem?_modify]; rw [if_neg (by omega)]⟩
      refine ⟨hJ.bel.trans hb, hJ.c0, hJ.c1, hJ.c2, fun hd => ?_, hJ.c4, fun _ => ⟨g, q, r1, by simpa using r2, setRow_heap w1 g _ _ _ _ r3⟩, fun _ => ⟨g', q', r1', by simpa using r2', ?_⟩, hJ.c7, ⟨fun _ => d5, hJ.c8.2⟩⟩
      · obtain ⟨A1, c1, A2, c2, q1, q2, q3⟩ := hJ.c3 hd
        exact ⟨A1, c1, A2, c2, q1, q2.setT r3 (by decide), q3.setT r3 (by decide)⟩
      · refine Eq.trans ?_ r3'
        unfold World.setRow
        simp only [Array.getElem?_modify]
        rw [if_neg hne]
    · have d5 := hdep ⟨5, .phase⟩ (by simp) rfl
      have d6 := hdep ⟨6, .phase⟩ (by simp) rfl
      obtain ⟨g, q, r1, r2, r3⟩ := hJ.c6 d6
      obtain ⟨g', q', r1', r2', r3'⟩ := hJ.c5 d5
      have hne : g ≠ g' := fun e => hJ.c7 d5 d6 (by rw [e] at q; exact q'.trans q.symm)
      have p := hJ.c4 (hdep ⟨4, .data⟩ (by simp) rfl)
      rw [hDi] at r3
      refine wp_store_row 127 (.tmp 4) (.tmp 16) rfl g C' q p 127 _ r3 hi2.out hsz2.out ho2.out (hKn _ rfl ?_)
      have hb : Below V.heap.size w1 (w1.setRow g C') := ⟨rfl, rfl, rfl, by simp, fun k hk => by unfold World.setRow; simp only [Array.getElem?_modify]; rw [if_neg (by omega)]⟩
      refine ⟨hJ.bel.trans hb, hJ.c0, hJ.c1, hJ.c2, fun hd => ?_, hJ.c4, fun _ => ⟨g', q', r1', by simpa using r2', ?_⟩, fun _ => ⟨g, q, r1, by simpa using r2, setRow_heap w1 g _ _ _ _ r3⟩, hJ.c7, ⟨hJ.c8.1, fun _ => d6⟩⟩
      · obtain ⟨A1, c1, A2, c2, q1, q2, q3⟩ := hJ.c3 hd
        exact ⟨A1, c1, A2, c2, q1, q2.setT r3 (by decide), q3.setT r3 (by decide)⟩
      · refine Eq.trans ?_ r3'
        unfold World.setRow
        simp only [Array.getElem?_modify]
        rw [if_neg hne]
  case fin =>
    intro D a w1 hall hdf htm hJ
    obtain ⟨g, q3, s1, s2, s3⟩ := hJ.c5 (hall 5 (by decide))
    obtain ⟨g', q4, s1', s2', s3'⟩ := hJ.c6 (hall 6 (by decide))
    rw [hall 7 (by decide)] at s3
    rw [hall 8 (by decide)] at s3'
    have hbl := hJ.bel
    have F1 : FBox w1 g (TT ks cs (n + 1)) := by unfold FBox; rw [← HC.out]; exact s3
    have F2 : FBox w1 g' (TT ks.reverse cs.reverse (n + 1)) := by unfold FBox; rw [← HC'.out]; exact s3'
    have r3 : a.tmps.getD 3 undef = .pointer (some ⟨g, 0, none⟩) := q3
    have r4 : a.tmps.getD 4 undef = .pointer (some ⟨g', 0, none⟩) := q4
    obtain ⟨v12, r12⟩ : ∃ v, a.tmps.getD 12 undef = v := ⟨_, rfl⟩
    obtain ⟨v13, r13⟩ : ∃ v, a.tmps.getD 13 undef = v := ⟨_, rfl⟩
    obtain ⟨v14, r14⟩ : ∃ v, a.tmps.getD 14 undef = v := ⟨_, rfl⟩
    obtain ⟨v15, r15⟩ : ∃ v, a.tmps.getD 15 undef = v := ⟨_, rfl⟩
    obtain ⟨v16, r16⟩ : ∃ v, a.tmps.getD 16 undef = v := ⟨_, rfl⟩
    simp only [List.foldl_cons, List.foldl_nil, r3, r4, r12, r13, r14, r15, r16, List.setIfInBounds_toArray, List.set_cons_succ, List.set_cons_zero] at htm
    clear hJ hall r3 r4 r12 r13 r14 r15 r16 q3 q4 s3 s3'
    obtain ⟨tm, df⟩ := a
    dsimp only at htm hdf
    subst htm hdf
    clear HF1 HR HF2 HC HC' HZ hi1 hi2 ho1 ho2 hsz1 hsz2 HV
    have hbw : Below w.heap.size w w1 := hb0.trans (hbl.mono hb0.size)
    have hl1 := HX.out w1 hbl
    have hs1 := hbl.size
    have z1 : w1.cell? ⟨w.heap.size, 1, none⟩ = some (.slice A' n c') := (cell_of_row _ _ 1 _ _ (0, 0) hl1).trans rfl
    have HQ := Lib.hid (fun (w2 : World) (hb : Below w1.heap.size w1 w2) (ho : Ow w2 w1.heap.size (some ⟨w1.heap.size, 0, none⟩) n n (mapTo (fun _ => 0) n)) => show FlS w w2 w1.heap.size g g' A m c A' n c' (TT ks cs (n + 1)) (TT ks.reverse cs.reverse (n + 1)) (mapTo (fun x => ((tM (kk ks) (kk ks.reverse) cs n x 0 : Nat) : Int)) n) from
      ⟨step hbw hb, (hb.block _ (by omega)).trans hl1, F1.below s2 hb, F2.below s2' hb, ho, by omega, s2, s2', by obtain ⟨_, e, _, hg⟩ := ho.form (by omega); cases e; exact hg⟩)
    clear HX hb0 hbl F1 F2 hl1 s1 s1'
    go_wp2_with (refine wpList_make_full _ rfl (.tmp 19) (.tmp 19) 28 rfl w1.heap.size 3 i0 (.int .i64 0) 1 Try.underlying28 hi hz0 hz1 .i64 .i64 n n n rfl rfl rfl rfl (by rw [hz2]; omega) (by simp only [maxLen]; omega) (Nat.le_refl _) ?_; intro w2 hown hgr; have ho1 := made_part ks hown; have hb1 := made_below hgr (Nat.le_refl w1.heap.size); rw [part_zero'] at ho1; have hS := HQ.out w2 hb1 ho1; clear hown hgr ho1 z1; have y0 : w2.cell? ⟨w.heap.size, 0, none⟩ = some (.slice A m c) := (cell_of_row _ _ 0 _ _ (0, 0) hS.2.1).trans rfl; have y1 : w2.cell? ⟨w.heap.size, 1, none⟩ = some (.slice A' n c') := (cell_of_row _ _ 1 _ _ (0, 0) hS.2.1).trans rfl)
    clear y0 y1 HQ hi hz0 hz1 hz2 hb1 hbw
    generalize w1.heap.size = G at *
    go_loopw [24] (fun i wr => ∃ M : Nat, M ≤ m ∧ i = .int .i64 M ∧ FlS w wr G g g' A m c A' n c' (TT ks cs (n + 1)) (TT ks.reverse cs.reverse (n + 1)) (mapTo (fun x => ((tM (kk ks) (kk ks.reverse) cs n x M : Nat) : Int)) n)) (fun i _ => m - (intOf i).toNat)
    case atStart => exact ⟨0, Nat.zero_le _, rfl, hS⟩
    case round =>
      obtain ⟨M, hM, rfl, hf⟩ := hrel
      by_cases hltM : M < m
      · have hMI : (M : Int) < (m : Int) := by omega
        obtain ⟨b, off, rfl, hbB, hck⟩ := (h.below (hf.1.mono hB)).at_ hltM
        have hpl : M < cs.length := by rw [hl.out]; exact hltM
        obtain ⟨r, hr, hr1, hrn⟩ : ∃ r : Nat, nth cs M = (r : Int) ∧ 1 ≤ r ∧ r ≤ n := by
          have := hcs' _ (List.getElem_mem hpl)
          have e : nth cs M = cs[M] := by simp [nth, List.getD_eq_getElem?_getD, hpl]
          exact ⟨(nth cs M).toNat, by omega, by omega, by omega⟩
        have Hrun := Lib.hid (show rnC cs M = r by unfold rnC; rw [hr]; rfl)
        rw [hr] at hck
        have hS2 := Lib.hid (show FlS w wr G g g' (some ⟨b, off, none⟩) m c A' n c' (TT ks cs (n + 1)) (TT ks.reverse cs.reverse (n + 1)) (mapTo (fAt ks cs n M r) n) by
          rw [← Hrun.out]
          exact (show mapTo (fAt ks cs n M (rnC cs M)) n = _ from mapTo_congr fun x _ => fAt_run ks cs n M x) ▸ hf)
        clear hr hf
        go_wp2
        go_loopw [8] (fun i wr => ∃ E : Nat, r ≤ E ∧ E ≤ n + 1 ∧ i = .int .i64 E ∧ FlS w wr G g g' (some ⟨b, off, none⟩) m c A' n c' (TT ks cs (n + 1)) (TT ks.reverse cs.reverse (n + 1)) (mapTo (fAt ks cs n M E) n)) (fun i _ => n + 1 - (intOf i).toNat)
        case atStart => exact ⟨r, Nat.le_refl _, by omega, rfl, hS2.out⟩
        case round =>
          obtain ⟨E, hrE, hEn, rfl, hf⟩ := hrel
          obtain ⟨hb, hlb, _, _, ho, hGs⟩ := id hf
          have z0 : wr.cell? ⟨w.heap.size, 0, none⟩ = some (.slice (some ⟨b, off, none⟩) m c) := (cell_of_row _ _ 0 _ _ (0, 0) hlb).trans rfl
          have z1 : wr.cell? ⟨w.heap.size, 1, none⟩ = some (.slice A' n c') := (cell_of_row _ _ 1 _ _ (0, 0) hlb).trans rfl
          have hrC := h'.below (hb.mono hB')
          have hBw : B' ≤ wr.heap.size := Nat.le_trans hB' hb.size
          have HF0 := Lib.hid hf
          by_cases hltE : E ≤ n
          · have hEI : (E : Int) ≤ (n : Int) := by omega
            have hrI : (r : Int) ≤ (E : Int) := by omega
            have HCR := Lib.hid (show Calls Try.prog 119 #[.agg #[.slice (some ⟨b, off, none⟩) m c, .slice A' n c'], .int .i64 ((E : Int) - (r : Int)), .int .i64 E] wr fun e' w' => e' = .returned (.bool (allK (kk ks) (E - r) E)) ∧ Below wr.heap.size wr w' from by
              rw [show (E : Int) - (r : Int) = ((E - r : Nat) : Int) by omega]
              exact canBeRun_any _ m c A' n c' B' ks (E - r) E wr hrC hBw hn hc hc2 (by omega) (by omega))
            clear hf hlb hb ho
            cases hak : allK (kk ks) (E - r) E
            · have HT := Lib.hid (show mapTo (fAt ks cs n M E) n = mapTo (fAt ks cs n M (E + 1)) n from mapTo_congr fun x _ => by rw [fAt_succ, wAt_no (by rw [Hrun.out]; exact hak)]; simp)
              go_wp2_with (go_at_call 119; refine HCR.out.mono ?_; rintro e w3 ⟨rfl, hb3⟩; rw [hak]; have hf3 := HF0.out.call hb3)
              go_roundw
              case rel => exact ⟨E + 1, by omega, by omega, by go_num, by rw [← HT.out]; exact hf3⟩
              case measure => simp [intOf]; omega
            · obtain ⟨X1, hX1⟩ : ∃ X, X = tb ks cs (E - r) M := ⟨_, rfl⟩
              obtain ⟨d, hd⟩ : ∃ d : Nat, d = n - E := ⟨_, rfl⟩
              obtain ⟨q, hq⟩ : ∃ q : Nat, q = m - 1 := ⟨_, rfl⟩
              obtain ⟨p, hp⟩ : ∃ p : Nat, p = q - M := ⟨_, rfl⟩
              obtain ⟨X2, hX2⟩ : ∃ X, X = tb ks.reverse cs.reverse d p := ⟨_, rfl⟩
              have HW := Lib.hid (show wAt ks cs n M E = X1 * X2 by
                rw [wAt_yes hpl (by rw [Hrun.out]; exact hak), hX1, hX2, Hrun.out, hl.out, hp, hq, hd])
              have hb1 : 0 ≤ X1 ∧ X1 ≤ 512 := by rw [hX1]; exact tb_le ks cs (by omega)
              have hb2 : 0 ≤ X2 ∧ X2 ≤ 512 := by rw [hX2]; exact tb_le _ _ (by omega)
              have hprod : 0 ≤ X1 * X2 ∧ X1 * X2 ≤ 262144 := ⟨Int.mul_nonneg hb1.1 hb2.1, by
                have := Int.mul_le_mul hb1.2 hb2.2 hb2.1 (by omega)
                omega⟩
              have hw1 : IntKind.i64.wrap ((n : Int) - (E : Int)) = (d : Int) := by rw [IntWalk.i64_in _ (by omega)]; omega
              have hw2 : IntKind.i64.wrap ((m : Int) - 1) = (q : Int) := by rw [IntWalk.i64_in _ (by omega)]; omega
              have hw3 : IntKind.i64.wrap ((q : Int) - (M : Int)) = (p : Int) := by rw [IntWalk.i64_in _ (by omega)]; omega
              have hw4 : IntKind.i64.wrap (X1 * X2) = X1 * X2 := IntWalk.i64_in _ (by omega)
              have hp5 : p < 5 := by omega
              have hd10 : d < 10 := by omega
              have hpI : (p : Int) < 5 := by omega
              have hdI : (d : Int) < 10 := by omega
              have hK1 := Lib.hid (fun (w3 : World) (hb3 : Below wr.heap.size wr w3) => show w3.cell? ⟨g, (E - r) * 5 + M, none⟩ = some (.int .i64 X1) ∧ w3.cell? ⟨g', d * 5 + p, none⟩ = some (.int .i64 X2) from by
                have hf3 := HF0.out.call hb3
                have k1 := hf3.2.2.1.cell (j := E - r) (i := M) (by omega) (by omega)
                have k2 := hf3.2.2.2.1.cell (j := d) (i := p) hd10 hp5
                rw [show TT ks cs (n + 1) (E - r) M = X1 by rw [hX1]; exact if_pos (by omega)] at k1
                rw [show TT ks.reverse cs.reverse (n + 1) d p = X2 by rw [hX2]; exact if_pos (by omega)] at k2
                exact ⟨k1, k2⟩)
              clear hX1 hX2 hb1 hb2 hd hq hp
              go_wp2_with (first | (go_at_call 119; refine HCR.out.mono ?_; rintro e w3 ⟨rfl, hb3⟩; rw [hak]; have hf3 := HF0.out.call hb3; obtain ⟨k1, k2⟩ := hK1.out w3 hb3; have y0 : w3.cell? ⟨w.heap.size, 0, none⟩ = some (.slice (some ⟨b, off, none⟩) m c) := (cell_of_row _ _ 0 _ _ (0, 0) hf3.2.1).trans rfl; have y1 : w3.cell? ⟨w.heap.size, 1, none⟩ = some (.slice A' n c') := (cell_of_row _ _ 1 _ _ (0, 0) hf3.2.1).trans rfl) | fail)
              go_region
              go_wp2
              have HF3 := Lib.hid hf3
              clear k1 k2 y0 y1 z0 z1 hw1 hw2 hw3 hf3
              go_loopw [11] (fun i wr => ∃ x : Nat, E - r ≤ x ∧ x ≤ E ∧ i = .int .i64 x ∧ FlS w wr G g g' (some ⟨b, off, none⟩) m c A' n c' (TT ks cs (n + 1)) (TT ks.reverse cs.reverse (n + 1)) (fMid ks cs n M E (E - r) x)) (fun i _ => E - (intOf i).toNat)
              case atStart => exact ⟨E - r, Nat.le_refl _, by omega, by congr 1; omega, by rw [fMid_start]; exact ⟨⟨HF3.out.1.os, HF3.out.1.tape, HF3.out.1.output, HF3.out.1.size, HF3.out.1.block⟩, HF3.out.2.1, HF3.out.2.2.1, HF3.out.2.2.2.1, HF3.out.2.2.2.2.1, HF3.out.2.2.2.2.2⟩⟩
              case round =>
                obtain ⟨x, hx1, hx2, rfl, hf⟩ := hrel
                obtain ⟨_, _, _, _, ho, hGs'⟩ := id hf
                by_cases hltx : x < E
                · have hxI : (x : Int) < (E : Int) := by omega
                  have hxn : (x : Int) < (n : Int) := by omega
                  have hcx := ho.cell (show x < n by omega)
                  rw [fMid_at (show x < n by omega)] at hcx
                  obtain ⟨cx1, cx2⟩ := hcx
                  have HS := Lib.hid (hf.put (x := x) (v := fAt ks cs n M E x + X1 * X2) (zs := fMid ks cs n M E (E - r) (x + 1)) (by rw [← HW.out]; exact fMid_set hx1))
                  have hbd : 0 ≤ fAt ks cs n M E x ∧ fAt ks cs n M E x ≤ 256 := by
                    have := tM_bound (kk_rev hl'.out) cs hc1 (show x < n by omega) hpl (show E ≤ n + 1 by omega)
                    have h8 : 2 ^ n ≤ 2 ^ 8 := Nat.pow_le_pow_right (by omega) hn
                    unfold fAt
                    omega
                  clear hf ho
                  generalize fAt ks cs n M E x = Y at *
                  go_wp2
                  go_roundw
                  case rel => exact ⟨x + 1, by omega, by omega, by go_num, HS.out⟩
                  case measure => simp [intOf]; omega
                · have hxE : x = E := by omega
                  have HS := Lib.hid (show FlS w wr G g g' (some ⟨b, off, none⟩) m c A' n c' (TT ks cs (n + 1)) (TT ks.reverse cs.reverse (n + 1)) (mapTo (fAt ks cs n M (E + 1)) n) by
                    rw [← fMid_end (s := E - r) (by rw [Hrun.out]; omega), ← hxE]
                    rw [← hxE] at hf
                    exact hf)
                  have hxI : ¬ ((x : Int) < (E : Int)) := by omega
                  clear hf ho hxE hltx hx1 hx2
                  go_wp2
                  go_roundw
                  case rel => exact ⟨E + 1, by omega, by omega, by go_num, HS.out⟩
                  case measure => simp [intOf]; omega
          · have hEE : E = n + 1 := by omega
            have hEI : ¬ ((E : Int) ≤ (n : Int)) := by omega
            have HS := Lib.hid (show FlS w wr G g g' (some ⟨b, off, none⟩) m c A' n c' (TT ks cs (n + 1)) (TT ks.reverse cs.reverse (n + 1)) (mapTo (fun x => ((tM (kk ks) (kk ks.reverse) cs n x (M + 1) : Nat) : Int)) n) by
              rw [hEE] at hf
              exact (show mapTo (fAt ks cs n M (n + 1)) n = _ from mapTo_congr fun x _ => fAt_end ks cs n M x) ▸ hf)
            clear hf hlb hb ho hEE hltE hEn
            go_wp2
            go_roundw
            case rel => exact ⟨M + 1, by omega, by go_num, HS.out⟩
            case measure => simp [intOf]; omega
      · have hMm : M = cs.length := by rw [hl.out]; omega
        have hMI : ¬ ((M : Int) < (m : Int)) := by omega
        obtain ⟨hb, _, _, _, ho, hGs⟩ := hf
        rw [hMm, hFin.out] at ho
        clear hMm hltM hM
        go_wp2
        go_ret
        exact retSl_mk (ho.mono (by omega)) hb
end Go.Proofs.Ytgeedgljabdllaa
