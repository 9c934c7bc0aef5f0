import Derived.Test.YtchcmgaohcldjaaGreatDoorHTb
import Derived.Test.YtchcmgaohcldjaaGreatDoorHNr
import Derived.Test.YtchcmgaohcldjaaGreatDoorBase
import Derived.Test.YtchcmgaohcldjaaGreatDoorOwn
import Derived.Lib.SliceRun
import Derived.Test.YtchcmgaohcldjaaGreatDoorHM3
import Derived.Test.YtchcmgaohcldjaaGreatDoorPushAll
import Derived.Laws.Append
import Derived.Test.YtchcmgaohcldjaaGreatDoorP5A
import Derived.Deep.RegionHeld3
set_option maxRecDepth 8000
namespace Go.Proofs.YtchcmgaohcldjaaGreatDoor
open Go.ChangeShapes Go.WideShapes Go.ChangeAt Go.RowKit
theorem grown_sr0 {w : World} {g : Nat} {cs : Array Value} : w.grownBy (w.setRow g cs) (some g) :=
  ⟨rfl, rfl, rfl, by simp, fun k hk hne => by unfold World.setRow; simp only [Array.getElem?_modify]; rw [if_neg (fun e => hne (by rw [e]))]⟩
theorem grown_cell0 {w w' : World} {OB b i : Nat} {v : Value} (h : w.grownBy w' (some OB)) (hc : w.cell? ⟨b, i, none⟩ = some v) (hb : b ≠ OB) : w'.cell? ⟨b, i, none⟩ = some v :=
  (h.cell_far ⟨b, i, none⟩ (cell_lt hc) (fun e => hb (Option.some.inj e))).trans hc
theorem grown_of_below6 {w w' : World} {r : Option Nat} (h : Below w.heap.size w w') : w.grownBy w' r := ⟨h.os, h.tape, h.output, h.size, fun k hk _ => h.block k hk⟩
theorem grown_t2 {a b c : World} {r : Option Nat} (h : a.grownBy b r) (k : b.grownBy c r) : a.grownBy c r := h.trans k
theorem grown_ownS0 {w w1 w2 : World} {OB : Nat} {r : Option Nat} (h : w.grownBy w1 (some OB)) (h2 : w1.grownBy w2 r) (hr : ∀ g, r = some g → w.heap.size ≤ g) : w.grownBy w2 (some OB) :=
  ⟨h2.os.trans h.os, h2.tape.trans h.tape, h2.output.trans h.output, Nat.le_trans h.size h2.size, fun k hk hne => (h2.block k (Nat.lt_of_lt_of_le hk h.size) (fun e => by have := hr k e.symm; omega)).trans (h.block k hk hne)⟩
def zeroTab : Array Value := #[.slice none 0 0, .int .u64 0, .int .u64 0, .int .u64 0, .int .u64 0, .int .u64 0, .int .u64 0, .int .u64 0, .int .u64 0, .int .u64 0, .int .u64 0, .int .u64 0, .int .u64 0, .int .u64 0, .int .u64 0, .int .u64 0, .int .u64 0, .int .u64 0, .int .u64 0, .int .u64 0, .int .u64 0]
theorem tab_info : (Tryz.prog.info? 138).map (fun i => (i.zero, i.size, i.bytes)) = some (some (.agg zeroTab), 21, 184) := by kernel_rfl
theorem nar_info (v0 v1 : Value) : (Tryz.prog.info? 84).map (·.size) = some (#[v0, v1] : Array Value).size := by
  show _ = some 2
  kernel_rfl
def NpG (NB P0 : Nat) (s : Int) (A : Option Addr) (u cap : Nat) (rule cells : Array Value) (lo : Nat) (vs : List Value) : Nat → Value → World → Prop
  | 0, v, _ => v = .pointer (some ⟨NB, 1, none⟩)
  | 1, v, _ => v = .slice A u cap
  | 2, v, _ => v = .agg rule
  | 3, v, _ => v = .pointer (some ⟨P0, 0, none⟩)
  | 4, v, _ => v = .int .i64 s
  | 5, v, _ => v = .agg cells
  | 6, v, w => ∃ g, v = .slice (some ⟨g, 0, none⟩) 1 1 ∧ w.heap[g]? = some (.cells cells 138) ∧ (Value.slice A u cap).ownBlock ≠ some g
  | 7, v, w => ∃ g' cap', v = .slice (some ⟨g', 0, none⟩) (u + 1) cap' ∧ w.ownsRow lo 138 21 (.slice (some ⟨g', 0, none⟩) (u + 1) cap') (u + 1) (vs ++ cells.toList)
  | 8, v, _ => v = .pointer (some ⟨NB, 1, none⟩)
  | _, _, _ => True
theorem npG_eff {NB P0 : Nat} {s : Int} {A : Option Addr} {u cap : Nat} {rule cells : Array Value} {lo : Nat} {vs : List Value} (j i : Nat) (v : Value) (w1 w2 : World) (hji : j ≠ i) (he : (i = 7 → w1.grownBy w2 (Value.slice A u cap).ownBlock) ∧ (i ≠ 7 → Below w1.heap.size w1 w2)) (h : NpG NB P0 s A u cap rule cells lo vs j v w1) : NpG NB P0 s A u cap rule cells lo vs j v w2 := by
  unfold NpG at h ⊢
  split at h
  all_goals first
    | exact h
    | (obtain ⟨g, e, h1, h2⟩ := h
       refine ⟨g, e, ?_, h2⟩
       by_cases hi : i = 7
       · exact ((he.1 hi).block g (Array.getElem?_eq_some_iff.1 h1).1 (fun e2 => h2 e2.symm)).trans h1
       · exact ((he.2 hi).block g (Array.getElem?_eq_some_iff.1 h1).1).trans h1)
    | (obtain ⟨g', cap', e, h1⟩ := h
       exact ⟨g', cap', e, own_below8 h1 (he.2 (fun e2 => hji e2.symm))⟩)
def NrOk (w : World) (L B Br s : Nat) (rs : List RuleM) (most : Nat) (A : Option Addr) (n : Nat) : Prop := 4 ≤ most → TbR w L B Br s rs A n
set_option maxHeartbeats 4000000 in
theorem narrower_any (s : Nat) (Ag : Option Addr) (ng cg Bg : Nat) (gi : List Int) (Ar : Option Addr) (nr cr Br : Nat) (rs : List RuleM) (most : Nat) (w : World) (hp : PGc w s Ag ng cg Bg gi Ar nr cr Br rs) (hv : pvB s gi rs = true) (hs : s ∈ [2, 3, 4]) (hmost : most ≤ 4) :
    Calls Tryz.prog 82 #[.agg #[.int .i64 s, .slice Ag ng cg, .slice Ar nr cr], .int .i64 most] w fun e w' => ∃ A n c, e = .returned (.agg #[.int .i64 s, .slice A n c]) ∧ NrOk w' w.heap.size w'.heap.size Br s rs most A n ∧ Below w.heap.size w w' := by
  have hx0 := pbox_new w s Ag ng cg Ar nr cr 26; obtain ⟨Wa, hWa⟩ : ∃ Wa, w.alloc (.cells #[.int .i64 s, .slice Ag ng cg, .slice Ar nr cr] 26) = Wa := ⟨_, rfl⟩; rw [hWa] at hx0
  have hba : Below w.heap.size w Wa := by rw [← hWa]; exact (Below.refl _ _).alloc (Nat.le_refl _) _
  have hsa : Wa.heap.size = w.heap.size + 1 := by rw [← hWa]; simp
  obtain ⟨Wb, hWb⟩ : ∃ Wb, Wa.alloc (.cells #[.int .i64 0, .slice none 0 0] 84) = Wb := ⟨_, rfl⟩
  have hbb : Below Wa.heap.size Wa Wb := by rw [← hWb]; exact (Below.refl _ _).alloc (Nat.le_refl _) _
  have hsb : Wb.heap.size = w.heap.size + 1 + 1 := by rw [← hWb]; simp [hsa]
  have hrb : Wb.heap[w.heap.size + 1]? = some (.cells #[.int .i64 0, .slice none 0 0] 84) := by rw [← hWb, ← hsa]; exact heap_alloc_new Wa _
  obtain ⟨Wd, hWd⟩ : ∃ Wd, Wb.alloc (.cells #[.int .i64 0, .slice none 0 0] 84) = Wd := ⟨_, rfl⟩
  have hbd : Below Wb.heap.size Wb Wd := by rw [← hWd]; exact (Below.refl _ _).alloc (Nat.le_refl _) _
  have hsd : Wd.heap.size = w.heap.size + 1 + 1 + 1 := by rw [← hWd]; simp [hsb]
  have hrd : Wd.heap[w.heap.size + 1 + 1]? = some (.cells #[.int .i64 0, .slice none 0 0] 84) := by rw [← hWd, ← hsb]; exact heap_alloc_new Wb _
  obtain ⟨Wc, hWc⟩ : ∃ Wc, Wd.setRow (w.heap.size + 1 + 1) #[.int .i64 s, .slice none 0 0] = Wc := ⟨_, rfl⟩
  have hbc : Below Wb.heap.size Wb Wc := by rw [← hWc]; exact hbd.grown grown_sr0 hbd.size (fun k e => by have := Option.some.inj e; omega)
  have hsc : Wc.heap.size = w.heap.size + 1 + 1 + 1 := by rw [← hWc, ← hsd]; simp [World.setRow]
  have hrc : Wc.heap[w.heap.size + 1 + 1]? = some (.cells #[.int .i64 s, .slice none 0 0] 84) := by rw [← hWc]; exact setRow_heap (w := Wd) _ _ _ _ _ hrd
  have hrb2 := (hbc.block (w.heap.size + 1) (by omega)).trans hrb; have hx1 := hx0.below (by omega) hbb; have hx2 := hx1.below (by omega) hbc; obtain ⟨a0, a1, a2⟩ := id hx1; have Hi := Lib.hid nar_info; have hbw : Below w.heap.size w Wc := (hba.trans (hbb.mono (by omega))).trans (hbc.mono (by omega))
  by_cases h4 : most < 4
  · have h4I : (most : Int) < 4 := by omega
    have HB := Lib.hid hbw; have hst := Lib.hid (setRow_heap (w := Wc) (w.heap.size + 1) _ #[.int .i64 s, .slice none 0 0] 84 _ hrb2); have hgs : Wc.grownBy (Wc.setRow (w.heap.size + 1) #[.int .i64 s, .slice none 0 0]) (some (w.heap.size + 1)) := grown_sr0; have HB2 := Lib.hid (hbw.grown hgs hbw.size (fun k e => by have := Option.some.inj e; omega)); clear hbw hgs hba hbb hbc hbd hx0 hx1 hx2
    go_enter Tryz.func82, Tryz.ntmps82
    go_wp2_with (first
      | (refine wpList_store_row rfl 84 _ _ rfl (w.heap.size + 1 + 1) #[.int .i64 s, .slice none 0 0] rfl rfl 84 #[.int .i64 0, .slice none 0 0] hrd (Hi.out _ _) rfl (by simp [Value.oneCell']) ?_)
      | (refine wpList_load_row rfl 84 _ rfl (w.heap.size + 1 + 1) rfl 84 #[.int .i64 s, .slice none 0 0] (0, 0) _ hrc Tryz.underlying84 rfl (Hi.out _ _) ?_)
      | (refine wpList_store_row rfl 84 _ _ rfl (w.heap.size + 1) #[.int .i64 s, .slice none 0 0] rfl rfl 84 #[.int .i64 0, .slice none 0 0] hrb2 (Hi.out _ _) rfl (by simp [Value.oneCell']) ?_))
    refine bodyPost_ret (v := .agg #[.int .i64 s, .slice none 0 0]) (results_cell_row (by rfl) _ _ (w.heap.size + 1) 84 _ (0, 0) _ rfl hst.out Tryz.underlying84 rfl (Hi.out _ _)) rfl ?_; exact ⟨none, 0, 0, rfl, fun h => absurd h (by omega), HB2.out⟩
  · obtain rfl : most = 4 := by omega
    obtain ⟨br, offr, RA, RC, hRA, hRu⟩ := rdrc_fun8 hp.r; have hrl := hp.r.1
    have hnr : nr ≤ 20 := by rw [← hrl]; exact (pv_gv hv).2.1
    have hall := (pv_gv hv).2.2; have HRA := Lib.hid hRA; have HRu := Lib.hid hRu; have HAL := Lib.hid hall; have HBw := Lib.hid hbw; have hBr := hp.rB; have HX := Lib.hid hx2; obtain ⟨q0, q1, q2⟩ := id hx2; have hrbH := Lib.hid hrb2; clear hRA hRu hall hba hbb hbc hbd hx0 hx1 hx2 hrb hrb2 hp hbw
    go_enter Tryz.func82, Tryz.ntmps82
    go_wp2_with (refine wpList_store_row rfl 84 _ _ rfl (w.heap.size + 1 + 1) #[.int .i64 s, .slice none 0 0] rfl rfl 84 #[.int .i64 0, .slice none 0 0] hrd (Hi.out _ _) rfl (by simp [Value.oneCell']) ?_)
    clear hrd q0 q1 q2 a0 a1 a2
    go_loopw [17] (fun i wr => ∃ (u : Nat) (A : Option Addr) (cap : Nat), u ≤ nr ∧ i = .int .i64 u ∧ wr.heap[w.heap.size + 1 + 1]? = some (.cells #[.int .i64 s, .slice A u cap] 84) ∧ wr.ownsRow Wc.heap.size 138 21 (.slice A u cap) u (tabV s RA RC rs u) ∧ Wc.grownBy wr (some (w.heap.size + 1 + 1))) (fun i _ => nr - (intOf i).toNat)
    case atStart => exact ⟨0, none, 0, Nat.zero_le _, rfl, hrc, World.ownsRow_nil _ _ _ _, World.grownBy.refl _ _⟩
    case round =>
      clear hrc; obtain ⟨u, A, cap, hu, rfl, hrn, hown, hg⟩ := hrel
      by_cases hlt : u < nr
      · have hltI : (u : Int) < (nr : Int) := (by omega); obtain ⟨hAre, hbr⟩ := HRA.out (by omega); obtain ⟨k0, k1, k2, hrd, hrcap⟩ := HRu.out u hlt; have hv0 := HAL.out u (by omega); obtain ⟨_, ⟨hn1, hn4⟩, hk2, _⟩ := rv_facts rfl hv0; have hk := rv_kind hv0; have HPu : Hid (tabV s RA RC rs (u + 1) = tabV s RA RC rs u ++ (tcells (rtF s (rat rs u)) (RA u) (rat rs u).xs.length (RC u)).toList) := Lib.hid rfl; have hFF : rtF s (rat rs u) = tF (rW (rat rs u).k (rat rs u).v (rat rs u).xs.length s) (rat rs u).xs.length := rfl; obtain ⟨F, hF⟩ : ∃ F, F = rtF s (rat rs u) := ⟨_, rfl⟩; obtain ⟨rk, hrk⟩ : ∃ x, x = (rat rs u).k := ⟨_, rfl⟩
        obtain ⟨l, hrx⟩ : ∃ x, x = (rat rs u).xs.length := ⟨_, rfl⟩; obtain ⟨rvv, hrvv⟩ : ∃ x, x = (rat rs u).v := ⟨_, rfl⟩; obtain ⟨A', hA'⟩ : ∃ x, x = RA u := ⟨_, rfl⟩; obtain ⟨C', hC'⟩ : ∃ x, x = RC u := ⟨_, rfl⟩; rw [← hF, ← hA', ← hrx, ← hC'] at HPu; rw [← hF, ← hrk, ← hrx, ← hrvv] at hFF; rw [← hrk] at k0 hk hk2; rw [← hrx] at k1 hn1 hn4 hk2; rw [← hrvv] at k2; rw [← hA', ← hC'] at k1; have hB1 : Below Br w wr := (HBw.out.mono hBr).trans ((Below.refl Br Wc).grown hg (by omega) (fun k e => by have := Option.some.inj e; omega)); have k0 := (hB1.cell (p := ⟨br, offr + u * 3, none⟩) hbr).trans k0
        have k1 := (hB1.cell (p := ⟨br, offr + u * 3 + 1, none⟩) hbr).trans k1; have k2 := (hB1.cell (p := ⟨br, offr + u * 3 + 2, none⟩) hbr).trans k2
        obtain ⟨x0, x1, x2⟩ : PBox wr w.heap.size s Ag ng cg Ar nr cr := by
          obtain ⟨y0, y1, y2⟩ := HX.out; exact ⟨grown_cell0 hg y0 (by omega), grown_cell0 hg y1 (by omega), grown_cell0 hg y2 (by omega)⟩
        obtain ⟨W, hW⟩ : ∃ W, wr.alloc (.cells #[.int .i64 rk, .slice A' l C', .int .i64 rvv] 73) = W := ⟨_, rfl⟩; have hbW : Below wr.heap.size wr W := (by rw [← hW]; exact (Below.refl _ _).alloc (Nat.le_refl _) _); have hsW : W.heap.size = wr.heap.size + 1 := (by rw [← hW]; simp); have hr0 : W.heap[wr.heap.size]? = some (.cells #[.int .i64 rk, .slice A' l C', .int .i64 rvv] 73) := (by rw [← hW]; exact heap_alloc_new wr _); have y0 : W.cell? ⟨wr.heap.size, 0, none⟩ = some (.int .i64 rk) := cell_of_row _ _ 0 _ _ (0, 0) hr0; have y1 : W.cell? ⟨wr.heap.size, 1, none⟩ = some (.slice A' l C') := cell_of_row _ _ 1 _ _ (0, 0) hr0
        have y2 : W.cell? ⟨wr.heap.size, 2, none⟩ = some (.int .i64 rvv) := cell_of_row _ _ 2 _ _ (0, 0) hr0; have HTb := Lib.hid (fun w' => table_any A' C' l rk rvv s w' hs hn1 hn4 hk hk2); rw [← hFF] at HTb; have hgs := hg.size; have hrnW := (hbW.block _ (Array.getElem?_eq_some_iff.1 hrn).1).trans hrn; have z1 : W.cell? ⟨w.heap.size + 1 + 1, 1, none⟩ = some (.slice A u cap) := cell_of_row _ _ 1 _ _ (0, 0) hrnW; have p0 : W.cell? ⟨w.heap.size, 0, none⟩ = some (.int .i64 s) := (hbW.cell (p := ⟨w.heap.size, 0, none⟩) (cell_lt x0)).trans x0; have hownW := own_below8 hown hbW; have HOW := Lib.hid (fun w' (hb : Below W.heap.size W w') => own_below8 hownW hb)
        have Hown := Lib.hid (fun (g : Nat) (e : (Value.slice A u cap).ownBlock = some g) => (⟨(World.ownsRow.lt hown g e).1, (World.ownsRow.lt hown g e).2⟩ : Wc.heap.size ≤ g ∧ g < wr.heap.size)); have HF := Lib.hid (fun (w' : World) (hg : W.grownBy w' (Value.slice A u cap).ownBlock) => (⟨(hg.cell_far ⟨w.heap.size + 1 + 1, 1, none⟩ (cell_lt z1) (fun e => by have := Hown.out (w.heap.size + 1 + 1) e.symm; omega)).trans z1, (hg.cell_far ⟨w.heap.size, 0, none⟩ (cell_lt p0) (fun e => by have := Hown.out (w.heap.size) e.symm; omega)).trans p0, (hg.cell_far ⟨wr.heap.size, 0, none⟩ (cell_lt y0) (fun e => by have := Hown.out (wr.heap.size) e.symm; omega)).trans y0, (hg.cell_far ⟨wr.heap.size, 1, none⟩ (cell_lt y1) (fun e => by have := Hown.out (wr.heap.size) e.symm; omega)).trans y1, (hg.cell_far ⟨wr.heap.size, 2, none⟩ (cell_lt y2) (fun e => by have := Hown.out (wr.heap.size) e.symm; omega)).trans y2, (hg.block _ (Array.getElem?_eq_some_iff.1 hrnW).1 (fun e => by have := Hown.out (w.heap.size + 1 + 1) e.symm; omega)).trans hrnW⟩ : w'.cell? ⟨w.heap.size + 1 + 1, 1, none⟩ = some (.slice A u cap) ∧ w'.cell? ⟨w.heap.size, 0, none⟩ = some (.int .i64 s) ∧ w'.cell? ⟨wr.heap.size, 0, none⟩ = some (.int .i64 rk) ∧ w'.cell? ⟨wr.heap.size, 1, none⟩ = some (.slice A' l C') ∧ w'.cell? ⟨wr.heap.size, 2, none⟩ = some (.int .i64 rvv) ∧ w'.heap[w.heap.size + 1 + 1]? = some (.cells #[.int .i64 s, .slice A u cap] 84)))
        obtain ⟨i0, hi0, hz0, hz1, hz2⟩ := info_parts tab_info; have Hlt := Lib.hid hlt; have Hg := Lib.hid hg; have HbW := Lib.hid hbW; obtain ⟨vs, hvs⟩ : ∃ vs, vs = tabV s RA RC rs u := ⟨_, rfl⟩; rw [← hvs] at HOW HPu; subst hAre; clear hvs hF hFF hrk hrx hrvv hA' hC' hownW hown hrd hrcap hv0 hk hk2 hB1 hr0 hrnW hg z1 p0 y0 y1 y2 hbW
        go_wp2
        refine wp_region_dsS [21, 22, 23, 24, 25, 26, 27, 28, 29] (NpG (w.heap.size + 1 + 1) w.heap.size s A u cap #[.int .i64 rk, .slice A' l C', .int .i64 rvv] (tcells F A' l C') Wc.heap.size vs) (fun w1 w2 => w1.grownBy w2 (Value.slice A u cap).ownBlock) (fun i w1 w2 => (i = 7 → w1.grownBy w2 (Value.slice A u cap).ownBlock) ∧ (i ≠ 7 → Below w1.heap.size w1 w2)) (fun j w' => j = 7 → w'.ownsRow Wc.heap.size 138 21 (.slice A u cap) u vs) (fun _ _ => HOW.out _ ((Below.refl _ _).drew)) (grown_drew (World.grownBy.refl W _)) (fun _ _ h h' => h.trans h') (by kernel_rfl) (by kernel_rfl) (by simp) (fun j i v w1 w2 hji _ he hg => npG_eff j i v w1 w2 hji he hg) ?step ?last
        case step =>
          intro i o a w' K D hD hcl hi hoo hrel hfr hpre hC hK; have eN : a.eval (.tmp 5) = .pointer (some ⟨w.heap.size + 1 + 1, 0, none⟩) := hfr 5 (by simp); have eR : a.eval (.tmp 7) = .pointer (some ⟨wr.heap.size, 0, none⟩) := hfr 7 (by simp); have eP : a.eval (.tmp 2) = .pointer (some ⟨w.heap.size, 0, none⟩) := hfr 2 (by simp); obtain ⟨kN, kP, k0, k1, k2, _⟩ := HF.out w' hrel
          have hkeep : ∀ (v : Value), i ≠ 7 → NpG (w.heap.size + 1 + 1) w.heap.size s A u cap #[.int .i64 rk, .slice A' l C', .int .i64 rvv] (tcells F A' l C') Wc.heap.size vs i v w' → K (a.put o.dst v) w' := fun v h10 hv => hK v w' (World.grownBy.refl _ _) ⟨fun e => absurd e h10, fun _ => Below.refl _ _⟩ (fun j _ _ h => h) hv
          have hi9 : i < 9 := hi; have : i = 0 ∨ i = 1 ∨ i = 2 ∨ i = 3 ∨ i = 4 ∨ i = 5 ∨ i = 6 ∨ i = 7 ∨ i = 8 := (by omega)
          rcases this with rfl | rfl | rfl | rfl | rfl | rfl | rfl | rfl | rfl
          all_goals
            simp only [List.getElem?_toArray, List.getElem?_cons_zero, List.getElem?_cons_succ, Option.some.injEq] at hoo; subst hoo
          · refine oper_val (v := .pointer (some ⟨w.heap.size + 1 + 1, 1, none⟩)) (w' := w') ?_ (hkeep _ (by decide) rfl); unfold execOp; simp only [eN]
            go_simp
          · have p0 : a.eval (.tmp 21) = .pointer (some ⟨w.heap.size + 1 + 1, 1, none⟩) := hpre ⟨0, .data⟩ (by simp) rfl; refine oper_val (v := .slice A u cap) (w' := w') ?_ (hkeep _ (by decide) rfl); unfold execOp; simp only [p0]
            go_simp
          · refine oper_val (v := .agg #[.int .i64 rk, .slice A' l C', .int .i64 rvv]) (w' := w') ?_ (hkeep _ (by decide) rfl); unfold execOp; simp only [eR]
            go_simp
          · refine oper_val (v := .pointer (some ⟨w.heap.size, 0, none⟩)) (w' := w') ?_ (hkeep _ (by decide) rfl); unfold execOp; simp only [eP]
            go_simp
          · have p3 : a.eval (.tmp 24) = .pointer (some ⟨w.heap.size, 0, none⟩) := hpre ⟨3, .data⟩ (by simp) rfl; refine oper_val (v := .int .i64 s) (w' := w') ?_ (hkeep _ (by decide) rfl); unfold execOp; simp only [p3]
            go_simp
          · have p2 : a.eval (.tmp 23) = .agg #[.int .i64 rk, .slice A' l C', .int .i64 rvv] := hpre ⟨2, .data⟩ (by simp) rfl; have p4 : a.eval (.tmp 25) = .int .i64 s := hpre ⟨4, .data⟩ (by simp) rfl; refine oper_call (f := 127) (args := #[.agg #[.int .i64 rk, .slice A' l C', .int .i64 rvv], .int .i64 s]) ?_ (HTb.out w') ?_
            · unfold execOp
              go_simp
              exact ⟨by simpa [Act.eval] using p2, by simpa [Act.eval] using p4⟩
            · rintro e w6 ⟨rfl, hb6⟩; exact ⟨_, rfl, hK _ w6 (grown_of_below6 hb6) ⟨fun e => absurd e (by decide), fun _ => hb6⟩ (fun j hj _ h e => own_below8 (h e) hb6) rfl⟩
          · have p5 : a.eval (.tmp 26) = .agg (tcells F A' l C') := hpre ⟨5, .data⟩ (by simp) rfl; have p5' : a.tmps[26]?.getD undef = .agg (tcells F A' l C') := (by simpa [Act.eval] using p5); refine oper_val (v := .slice (some ⟨w'.heap.size, 0, none⟩) 1 1) (w' := w'.alloc (.cells (tcells F A' l C') 138)) ?_ (hK _ _ (only_alloc (World.grownBy.refl _ _) _) ⟨fun e => by omega, fun _ => (Below.refl _ _).alloc (Nat.le_refl _) _⟩ (fun j hj hd h e => own_below8 (h e) ((Below.refl _ _).alloc (Nat.le_refl _) _)) ⟨w'.heap.size, rfl, heap_alloc_new _ _, fun e => by have h1 := Hown.out _ e; have h2 := hrel.size; omega⟩)
            unfold execOp; unfold tcells at p5' ⊢
            go_simp
          · have p1 : a.eval (.tmp 22) = .slice A u cap := hpre ⟨1, .data⟩ (by simp) rfl; obtain ⟨g9, p6, q6, _⟩ : ∃ g, a.eval (.tmp 27) = .slice (some ⟨g, 0, none⟩) 1 1 ∧ w'.heap[g]? = some (.cells (tcells F A' l C') 138) ∧ (Value.slice A u cap).ownBlock ≠ some g := hpre ⟨6, .data⟩ (by simp) rfl; have hw's := hrel.size; obtain ⟨g', cap', wz, hrun, h1, h2, h3, _⟩ := run_append_lies (P := Tryz.prog) w' 82 82 Wc.heap.size 138 i0 (.agg zeroTab) 21 184 Tryz.underlying82 hi0 hz0 hz1 hz2 rfl (by decide) (.slice A u cap) u vs (hC rfl) ⟨g9, 0, none⟩ 1 1 (tcells F A' l C').toList rfl (World.news_of_block (cs := tcells F A' l C') q6) (by simp [tcells, Value.oneCell']) (by decide) (by simp only [maxLen]; omega) (by omega) (by omega) _ rfl
            refine oper_val (v := .slice (some ⟨g', 0, none⟩) (u + 1) cap') (w' := wz) ?_ (hK _ _ h2 ⟨fun _ => h2, fun e => absurd rfl e⟩ (fun j hj _ _ e => absurd e hj) ⟨g', cap', rfl, h1⟩); unfold execOp; simp only [resolve, invoke, builtin, Sem.run_bind, Sem.run_pure, Result.andThen_ok, List.map_toArray, List.map_cons, List.map_nil, p1, p6, hrun]
          · refine oper_val (v := .pointer (some ⟨w.heap.size + 1 + 1, 1, none⟩)) (w' := w') ?_ (hkeep _ (by decide) rfl); unfold execOp; simp only [eN]
            go_simp
        case last =>
          intro o a w5 hoo hrel hdef htm hfr hpre; simp only [List.length_cons, List.length_nil, Nat.reduceAdd, List.getElem?_toArray, List.getElem?_cons_zero, List.getElem?_cons_succ, Option.some.injEq] at hoo; subst hoo; have g0 : a.tmps.getD 21 undef = .pointer (some ⟨w.heap.size + 1 + 1, 1, none⟩) := hpre 0 (by simp); have g1 : a.tmps.getD 22 undef = .slice A u cap := hpre 1 (by simp); have g2 : a.tmps.getD 23 undef = .agg #[.int .i64 rk, .slice A' l C', .int .i64 rvv] := hpre 2 (by simp); have g3 : a.tmps.getD 24 undef = .pointer (some ⟨w.heap.size, 0, none⟩) := hpre 3 (by simp); have g4 : a.tmps.getD 25 undef = .int .i64 s := hpre 4 (by simp)
          have g5 : a.tmps.getD 26 undef = .agg (tcells F A' l C') := hpre 5 (by simp); obtain ⟨b6, g6, _⟩ : ∃ g, a.tmps.getD 27 undef = .slice (some ⟨g, 0, none⟩) 1 1 ∧ _ := hpre 6 (by simp); obtain ⟨g', cap', g7, h4⟩ : ∃ g' cap', a.tmps.getD 28 undef = .slice (some ⟨g', 0, none⟩) (u + 1) cap' ∧ w5.ownsRow Wc.heap.size 138 21 (.slice (some ⟨g', 0, none⟩) (u + 1) cap') (u + 1) (vs ++ (tcells F A' l C').toList) := hpre 7 (by simp); have g8 : a.tmps.getD 29 undef = .pointer (some ⟨w.heap.size + 1 + 1, 1, none⟩) := hpre 8 (by simp); have h28 : a.eval (.tmp 28) = .slice (some ⟨g', 0, none⟩) (u + 1) cap' := g7
          have h29 : a.eval (.tmp 29) = .pointer (some ⟨w.heap.size + 1 + 1, 1, none⟩) := g8; obtain ⟨kN, _, _, _, _, hr5⟩ := HF.out w5 hrel; have hf5 := frozen_of_row w5 (w.heap.size + 1 + 1) 1 _ _ hr5; refine ⟨w5.setCell ⟨w.heap.size + 1 + 1, 1, none⟩ (.slice (some ⟨g', 0, none⟩) (u + 1) cap'), ?_, ?_⟩
          · unfold execOp; simp only [h28, h29]
            go_simp
          · have key := htm; simp only [List.foldl_cons, List.foldl_nil, g0, g1, g2, g3, g4, g5, g6, g7, g8, List.setIfInBounds_toArray, List.set_cons_succ, List.set_cons_zero] at key; have hr6 := heap_setCell_same w5 (w.heap.size + 1 + 1) 1 _ _ (.slice (some ⟨g', 0, none⟩) (u + 1) cap') hr5; clear htm hfr hpre g0 g1 g2 g3 g4 g5 g6 g7 g8 h28 h29 hf5 kN hr5; obtain ⟨tm, df⟩ := a
            dsimp only at key hdef
            subst key hdef; have hlt4' := (World.ownsRow.lt h4 g' rfl).1
            have h6 := own_kept8 h4 (grown_set (G := w.heap.size + 1 + 1) (i := 1) (v := .slice (some ⟨g', 0, none⟩) (u + 1) cap')) (fun g e => by
              have e1 : g' = g := (by simpa [Value.ownBlock] using e); intro e2; have e3 : w.heap.size + 1 + 1 = g := Option.some.inj e2
              omega)
            rw [← HPu.out] at h6; have hg5 : Wc.grownBy (w5.setCell ⟨w.heap.size + 1 + 1, 1, none⟩ (.slice (some ⟨g', 0, none⟩) (u + 1) cap')) (some (w.heap.size + 1 + 1)) := grown_t2 (grown_ownS0 (grown_t2 Hg.out (grown_of_below6 HbW.out)) hrel (fun g e => (Hown.out g e).1)) grown_set; clear h4
            go_wp2
            go_roundw
            case rel => exact ⟨u + 1, some ⟨g', 0, none⟩, cap', Hlt.out, by go_num, hr6, h6, hg5⟩
            case measure => have := Hlt.out; simp [intOf]; omega
      · obtain rfl : u = nr := by omega
        have hrR := (hg.block (w.heap.size + 1) (by omega) (fun e => by have := Option.some.inj e; omega)).trans hrbH.out; have hgS : wr.grownBy (wr.setRow (w.heap.size + 1) #[.int .i64 s, .slice A u cap]) (some (w.heap.size + 1)) := grown_sr0; have hst := Lib.hid (setRow_heap (w := wr) (w.heap.size + 1) _ #[.int .i64 s, .slice A u cap] 84 _ hrR); have hbr : Below w.heap.size w wr := HBw.out.grown hg HBw.out.size (fun k e => by have := Option.some.inj e; omega); have HB2 := Lib.hid (hbr.grown hgS hbr.size (fun k e => by have := Option.some.inj e; omega))
        have hownS := own_kept8 hown hgS (fun g e => by
          have := (World.ownsRow.lt hown g e).1; intro e2; have e3 : w.heap.size + 1 = g := Option.some.inj e2
          omega)
        have HTB := Lib.hid (show TbR (wr.setRow (w.heap.size + 1) #[.int .i64 s, .slice A u cap]) w.heap.size (wr.setRow (w.heap.size + 1) #[.int .i64 s, .slice A u cap]).heap.size Br s rs A u from tbr_own hownS hrl (fun j hj => (HRu.out j hj).2.2.2.1.below (HB2.out.mono hBr)) (by omega)); have Hrn := Lib.hid hrn; have HrR := Lib.hid hrR; clear hrn hrR hgS hbr hownS hown hg
        go_wp2_with (first
          | (refine wpList_load_row rfl 84 _ rfl (w.heap.size + 1 + 1) rfl 84 #[.int .i64 s, .slice A u cap] (0, 0) _ Hrn.out Tryz.underlying84 rfl (Hi.out _ _) ?_)
          | (refine wpList_store_row rfl 84 _ _ rfl (w.heap.size + 1) #[.int .i64 s, .slice A u cap] rfl rfl 84 #[.int .i64 0, .slice none 0 0] HrR.out (Hi.out _ _) rfl (by simp [Value.oneCell']) ?_))
        refine bodyPost_ret (v := .agg #[.int .i64 s, .slice A u cap]) (results_cell_row (by rfl) _ _ (w.heap.size + 1) 84 _ (0, 0) _ rfl hst.out Tryz.underlying84 rfl (Hi.out _ _)) rfl ?_; exact ⟨A, u, cap, rfl, fun _ => HTB.out, HB2.out⟩
theorem clone_any (A : Option Addr) (n c B : Nat) (xs : List Int) (w : World) (h : Rd w B A n xs) (hB : B ≤ w.heap.size) (hn : 0 < n) (hm : n ≤ 1099511627776) :
    Calls Tryz.prog 77 #[.slice A n c] w fun e w' => ∃ A' c', e = .returned (.slice A' n c') ∧ Ow w' w.heap.size A' n c' xs ∧ Below w.heap.size w w' := by
  obtain ⟨b, off, rfl, _, _⟩ := h.at_ hn; have hb0 : Below w.heap.size w (w.alloc (.cells #[] 3)) := (Below.refl _ _).alloc (Nat.le_refl _) _; have HO := Lib.hid (Ow.made0 w w.heap.size (Nat.le_refl _)); have HR := Lib.hid (h.below (hb0.mono hB))
  have hsO : w.heap.size ≤ (w.alloc (.cells #[] 3)).heap.size := by simp
  have hcmp := fun w' => Lib.run_eql_slice_nil (P := Tryz.prog) w' 23 3 (some ⟨b, off, none⟩) n c 0 0 Tryz.underlying23
  go_enter Tryz.func77, Tryz.ntmps77
  go_wp2_with (at_builtin; (refine push_new rfl (.tmp 5) (.tmp 6) rfl w.heap.size (some ⟨w.heap.size, 0, none⟩) (some ⟨b, off, none⟩) n c B xs rfl rfl HO.out HR.out hm hsO ?_); intro A1 c1 w1 ho1 hg1; have hb1 := hb0.grown hg1 hb0.size (fun k hk => HO.out.own_lo k hk))
  go_ret
  exact ⟨_, _, rfl, ho1, hb1⟩
theorem equal_any (A A' : Option Addr) (c c' n n' B B' : Nat) (xs ys : List Int) (w : World) (h : Rd w B A n xs) (h' : Rd w B' A' n' ys) (hm : n ≤ 1099511627776) :
    Calls Tryz.prog 164 #[.slice A n c, .slice A' n' c'] w fun e w' => e = .returned (.bool (same xs ys)) ∧ Below w.heap.size w w' := by
  have hl := Lib.hid h.1; have hl' := Lib.hid h'.1
  by_cases hnn : n = n'
  · subst hnn
    go_enter Tryz.func164, Tryz.ntmps164
    go_wp2
    go_loopw [13] (fun i wr => ∃ k : Nat, k ≤ n ∧ i = .int .i64 k ∧ eqTo xs ys k ∧ Below w.heap.size w wr ∧ Rd wr B A n xs ∧ Rd wr B' A' n ys) (fun i _ => n - (intOf i).toNat)
    case atStart => exact ⟨0, Nat.zero_le _, rfl, eqTo_zero, Below.refl _ _, h, h'⟩
    case round =>
      obtain ⟨k, hk, rfl, heq, hb, hr, hr'⟩ := hrel
      by_cases hlt : k < n
      · obtain ⟨b, off, rfl, hbB, hck⟩ := hr.at_ hlt; obtain ⟨b', off', rfl, hbB', hck'⟩ := hr'.at_ hlt; have hltI : (k : Int) < (n : Int) := (by omega)
        by_cases e : nth xs k = nth ys k
        · have hne : (nth xs k != nth ys k) = false := (by simp [e]); have He := Lib.hid e; clear e
          go_wp2
          go_quiet (fail)
          go_wp2
          go_roundw
          case rel => exact ⟨k + 1, by omega, by go_num, eqTo_succ heq He.out, below_drewN hb _, hr, hr'⟩
          case measure => simp [intOf]; omega
        · have hne : (nth xs k != nth ys k) = true := (by simp [e]); have He := Lib.hid e; clear e
          go_wp2
          go_quiet (fail)
          go_wp2
          go_ret
          exact ⟨by rw [same_f He.out]; rfl, below_drewN hb _⟩
      · obtain rfl : k = n := by omega
        go_wp2
        go_ret
        exact ⟨by rw [same_t hl.out hl'.out heq]; rfl, hb⟩
  · have hne : ((n : Int) != (n' : Int)) = true := by rw [bne_iff_ne]; omega
    go_enter Tryz.func164, Tryz.ntmps164
    go_wp2
    go_ret
    exact ⟨by rw [same_len (by rw [hl.out, hl'.out]; exact hnn)]; rfl, Below.refl _ _⟩
def sumTo (xs : List Int) : Nat → Nat
  | 0 => 0
  | k + 1 => sumTo xs k + (nth xs k).toNat
def sumAt (w : World) (v : Value) : Nat → Nat
  | 0 => 0
  | k + 1 => sumAt w v k + (match v with | .slice (some a) _ _ => (match w.cell? ⟨a.block, a.off + k, none⟩ with | some (.int _ z) => z.toNat | _ => 0) | _ => 0)
theorem sumAt_ow {w : World} {lo n c : Nat} {A : Option Addr} {xs : List Int} (h : Ow w lo A n c xs) : ∀ k, k ≤ n → sumAt w (.slice A n c) k = sumTo xs k := by
  intro k
  induction k with
  | zero => intro _; rfl
  | succ k ih =>
    intro hk; obtain ⟨b, off, rfl, _, hc⟩ := h.rd.at_ (show k < n by omega); simp only [sumAt, sumTo]; rw [ih (by omega), hc]
theorem sum_le {a b : List Int} (h : Sub a b) : ∀ k, k ≤ b.length → sumTo a k ≤ sumTo b k := by
  intro k
  induction k with
  | zero => intro _; exact Nat.le_refl _
  | succ k ih =>
    intro hk; obtain ⟨x0, x1, _⟩ := h.2 k (by omega); have := ih (by omega); simp only [sumTo]; omega
theorem sum_lt {a b : List Int} (h : Sub a b) (hne : a ≠ b) : sumTo a b.length < sumTo b b.length := by
  have : ∃ k, k < b.length ∧ nth a k ≠ nth b k := by
    by_cases hx : ∃ k, k < b.length ∧ nth a k ≠ nth b k
    · exact hx
    · exact absurd (ext_nth h.1 fun k hk => by
        by_cases e : nth a k = nth b k
        · exact e
        · exact absurd ⟨k, by rw [← h.1]; exact hk, e⟩ hx) hne
  obtain ⟨k, hk, e⟩ := this
  have key : ∀ j, k < j → j ≤ b.length → sumTo a j < sumTo b j := by
    intro j
    induction j with
    | zero => intro h; omega
    | succ j ih =>
      intro h1 h2; obtain ⟨x0, x1, _⟩ := h.2 j (by omega); simp only [sumTo]
      by_cases hj : k < j
      · have := ih hj (by omega); omega
      · obtain rfl : j = k := by omega
        have := sum_le h j (by omega); omega
  exact key _ hk (Nat.le_refl _)
def ntF (s : Int) (gi : List Int) (rs : List RuleM) (o : List Int) : Nat → Nat → Option (List Int × Nat)
  | 0, _ => none
  | d + 1, t => if nbL s gi rs o t = o then ntF s gi rs o d (t + 1) else some (nbL s gi rs o t, t)
def naI (s : Int) (gi : List Int) (rs : List RuleM) (most : Nat) : Nat → List Int → Nat → List Int × Nat
  | 0, o, r => (o, r)
  | f + 1, o, r => match ntF s gi rs o most 1 with
    | none => (o, r)
    | some q => naI s gi rs most f q.1 (r + 1)
theorem ntF_some {s : Int} {gi : List Int} {rs : List RuleM} {o q : List Int} {u : Nat} : ∀ {d t : Nat}, ntF s gi rs o d t = some (q, u) → t ≤ u ∧ u < t + d ∧ q = nbL s gi rs o u ∧ q ≠ o ∧ ∀ v, t ≤ v → v < u → nbL s gi rs o v = o := by
  intro d
  induction d with
  | zero => intro t h; cases h
  | succ d ih =>
    intro t h; simp only [ntF] at h
    split at h
    · next e =>
      obtain ⟨h1, h2, h3, h4, h5⟩ := ih h; refine ⟨by omega, by omega, h3, h4, fun v v1 v2 => ?_⟩
      by_cases ev : v = t
      · subst ev; exact e
      · exact h5 v (by omega) v2
    · next e =>
      injection h with h
      injection h with h1 h2
      subst h1 h2; exact ⟨Nat.le_refl _, by omega, rfl, e, fun v v1 v2 => absurd v2 (by omega)⟩
theorem ntF_of {s : Int} {gi : List Int} {rs : List RuleM} {o : List Int} : ∀ {d t : Nat}, (∀ v, t ≤ v → v < t + d → nbL s gi rs o v = o) → ntF s gi rs o d t = none := by
  intro d
  induction d with
  | zero => intro t _; rfl
  | succ d ih =>
    intro t h; simp only [ntF]; rw [if_pos (h t (Nat.le_refl _) (by omega))]; exact ih (fun v h1 h2 => h v (by omega) (by omega))
theorem ntF_at {s : Int} {gi : List Int} {rs : List RuleM} {o q : List Int} {t : Nat} : ∀ {d u : Nat}, (∀ v, u ≤ v → v < t → nbL s gi rs o v = o) → u ≤ t → t < u + d → q = nbL s gi rs o t → q ≠ o → ntF s gi rs o d u = some (q, t) := by
  intro d
  induction d with
  | zero => intro u _ h1 h2; omega
  | succ d ih =>
    intro u h h1 h2 hq hne; simp only [ntF]
    by_cases e : u = t
    · subst e; rw [← hq, if_neg hne]
    · rw [if_pos (h u (Nat.le_refl _) (by omega))]; exact ih (fun v v1 v2 => h v (by omega) v2) (by omega) (by omega) hq hne
theorem sum_30 {o : List Int} {s : Int} (h : mvd o s = true) : ∀ k, sumTo o k ≤ 30 * k := by
  intro k
  induction k with
  | zero => exact Nat.le_refl _
  | succ k ih =>
    have := mvd_nth h k; simp only [sumTo]; omega
theorem sum_480 {o : List Int} {s : Int} (h : mvd o s = true) : sumTo o o.length ≤ 480 := by
  have h1 := sum_30 h o.length; have h2 := (mvd_at h).2.2.1; omega
section
variable {s : Int} {gi : List Int} {rs : List RuleM} {most : Nat}
theorem ntF_sub {o q : List Int} {u : Nat} (hv : pvB s gi rs = true) (h4 : most ≤ 4) (hm : mvd o s = true) (h : ntF s gi rs o most 1 = some (q, u)) : Sub q o ∧ mvd q s = true ∧ sumTo q q.length < sumTo o o.length := by
  obtain ⟨h1, h2, h3, h5, _⟩ := ntF_some h
  have hs : Sub q o := by rw [h3]; exact nb_sub hv hm (by omega) (by omega)
  exact ⟨hs, hs.mvd_ hm, by have := sum_lt hs h5; rw [hs.1]; exact this⟩
def naE (s : Int) (gi : List Int) (rs : List RuleM) (most : Nat) (o : List Int) (r : Nat) : List Int × Nat := naI s gi rs most (sumTo o o.length + 1) o r
theorem naI_ind (P : List Int → Prop) (hv : pvB s gi rs = true) (h4 : most ≤ 4) (hP : ∀ o t, mvd o s = true → 1 ≤ t → t ≤ most → P o → P (nbL s gi rs o (t : Nat))) : ∀ f o r, mvd o s = true → P o → P (naI s gi rs most f o r).1 ∧ mvd (naI s gi rs most f o r).1 s = true := by
  intro f
  induction f with
  | zero => intro o r hm h; exact ⟨h, hm⟩
  | succ f ih =>
    intro o r hm h; simp only [naI]
    cases e : ntF s gi rs o most 1 with
    | none => exact ⟨h, hm⟩
    | some q =>
      obtain ⟨h1, h2, h3, _, _⟩ := ntF_some (q := q.1) (u := q.2) e; obtain ⟨_, q2, _⟩ := ntF_sub hv h4 hm (q := q.1) (u := q.2) e; exact ih q.1 (r + 1) q2 (by rw [h3]; exact hP o _ hm (by omega) (by omega) h)
theorem naE_ind (P : List Int → Prop) {o : List Int} {r : Nat} (hv : pvB s gi rs = true) (h4 : most ≤ 4) (hP : ∀ o t, mvd o s = true → 1 ≤ t → t ≤ most → P o → P (nbL s gi rs o (t : Nat))) (hm : mvd o s = true) (h : P o) : P (naE s gi rs most o r).1 ∧ mvd (naE s gi rs most o r).1 s = true :=
  naI_ind P hv h4 hP _ _ _ hm h
end
def naL (s : Int) (gi : List Int) (rs : List RuleM) (m : List Int) (most : Int) : List Int := if (pvB s gi rs && mvd m s && inr most 1 4) = true then (naE s gi rs most.toNat m 0).1 else []
def naR (s : Int) (gi : List Int) (rs : List RuleM) (m : List Int) (most : Int) : Int := if (pvB s gi rs && mvd m s && inr most 1 4) = true then (naE s gi rs most.toNat m 0).2 else -1
theorem rat_left {rs1 rs2 : List RuleM} {n i : Nat} (hl : rs1.length = n) (hi : i < n) : rat (rs1 ++ rs2) i = rat rs1 i := by
  simp [rat, List.getD_eq_getElem?_getD, List.getElem?_append_left (by omega : i < rs1.length)]
theorem rat_right {rs1 rs2 : List RuleM} {n i : Nat} (hl : rs1.length = n) : rat (rs1 ++ rs2) (n + i) = rat rs2 i := by
  simp [rat, List.getD_eq_getElem?_getD, List.getElem?_append_right (by omega : rs1.length ≤ n + i), hl]
def InR (w : World) (lo : Nat) (v : Value) (rs : List RuleM) (vs : List Value) (m : Nat) : Prop :=
  ∀ i, i < m → ∃ A' c', vs[i * 3]? = some (.int .i64 (rat rs i).k) ∧ vs[i * 3 + 1]? = some (.slice A' (rat rs i).xs.length c') ∧ vs[i * 3 + 2]? = some (.int .i64 (rat rs i).v) ∧ Ow w lo A' (rat rs i).xs.length c' (rat rs i).xs ∧ (rat rs i).xs.length ≤ 1099511627776 ∧ ∀ g, (Value.slice A' (rat rs i).xs.length c').ownBlock = some g → v.ownBlock ≠ some g
theorem inR_one {w : World} {lo : Nat} {v : Value} {rs : List RuleM} {vs : List Value} {m : Nat} (h : InR w lo v rs vs m) (hl : vs.length = m * 3) : ∀ u ∈ vs, u.oneCell' = true := by
  intro u hu; obtain ⟨j, hj, rfl⟩ := List.mem_iff_getElem.1 hu; obtain ⟨A', c', e0, e1, e2, _⟩ := h (j / 3) (by omega); have hjj : vs[j]? = some vs[j] := List.getElem?_eq_getElem hj
  have : j % 3 = 0 ∨ j % 3 = 1 ∨ j % 3 = 2 := by omega
  rcases this with r | r | r
  · rw [show j / 3 * 3 = j by omega, hjj] at e0; rw [Option.some.inj e0]; rfl
  · rw [show j / 3 * 3 + 1 = j by omega, hjj] at e1; rw [Option.some.inj e1]; rfl
  · rw [show j / 3 * 3 + 2 = j by omega, hjj] at e2; rw [Option.some.inj e2]; rfl
theorem run_push_rulesV {w : World} (ty : TypeId) (lo : Nat) (A : Option Addr) (n c : Nat) (rs1 : List RuleM) (vs1 : List Value) (A2 : Option Addr) (m c2 : Nat) (rs2 : List RuleM) (vs2 : List Value) (lo2 : Nat) (l1 : rs1.length = n)
    (hown : w.ownsRow lo 73 3 (.slice A n c) n vs1) (hin1 : InR w lo (.slice A n c) rs1 vs1 n) (hown2 : w.ownsRow lo2 73 3 (.slice A2 m c2) m vs2) (hin2 : InR w lo (.slice A n c) rs2 vs2 m) (hmn : 0 < m ∨ n = 0)
    (hn : n ≤ 1099511627776) (hm : m ≤ 1099511627776) (hlo : lo ≤ w.heap.size) :
    ∃ A' c' w', (Builtin.append_ #[24, 24] ty #[.slice A n c, .slice A2 m c2]).run Tryz.prog w = .ok (.slice A' (n + m) c') w' ∧ (w'.ownsRow lo 73 3 (.slice A' (n + m) c') (n + m) (vs1 ++ vs2) ∧ InR w' lo (.slice A' (n + m) c') (rs1 ++ rs2) (vs1 ++ vs2) (n + m)) ∧ w.grownBy w' (Value.slice A n c).ownBlock ∧ (∀ g, (Value.slice A' (n + m) c').ownBlock = some g → (Value.slice A n c).ownBlock = some g ∨ g = w.heap.size) := by
  obtain ⟨i0, hi, hz0, hz1, hz2⟩ := info_parts rule_parts; obtain ⟨hvl2, hcase⟩ := id hown2; have hvl1 := hown.1
  by_cases h0 : 0 < m
  · rcases hcase with ⟨_, h00⟩ | ⟨g2, cap2, cur, hv, _, hrow, h1, h2, h3, h4⟩
    · omega
    · injection hv with e1 _ e2
      subst e1
      have hcell : ∀ j u, vs2[j]? = some u → w.cell? ((⟨g2, 0, none⟩ : Addr).add j) = some u := fun j u hj => by
        have hadd : (⟨g2, 0, none⟩ : Addr).add j = ⟨g2, j, none⟩ := (by unfold Addr.add; split <;> simp_all); rw [hadd, cell_of_row w g2 j cur _ _ hrow]; rw [← h4, List.getElem?_take] at hj
        split at hj
        · simpa using hj
        · cases hj
      obtain ⟨g, cap, w', hrun, k2, k3, k4, k5⟩ := run_append_lies (P := Tryz.prog) w 24 ty lo 73 i0 (.agg #[.int .i64 0, .slice none 0 0, .int .i64 0]) 3 40 Tryz.underlying24 hi hz0 hz1 hz2 rfl (by decide) _ n vs1 hown ⟨g2, 0, none⟩ m c2 vs2 hvl2 hcell (inR_one hin2 hvl2) h0 (by simp only [maxLen]; omega) (by omega) hlo _ rfl
      have hlast : ∀ g', (Value.slice (some ⟨g, 0, none⟩) (n + m) cap).ownBlock = some g' → (Value.slice A n c).ownBlock = some g' ∨ g' = w.heap.size := fun g' hg' => by
        have : g' = g := (by simp [Value.ownBlock] at hg'; omega); subst this; exact k4
      have hout : ∀ (A' : Option Addr) (l c' : Nat) (xs : List Int), Ow w lo A' l c' xs → (∀ b, (Value.slice A' l c').ownBlock = some b → (Value.slice A n c).ownBlock ≠ some b) → Ow w' lo A' l c' xs ∧ ∀ b, (Value.slice A' l c').ownBlock = some b → (Value.slice (some ⟨g, 0, none⟩) (n + m) cap).ownBlock ≠ some b := fun A' l c' xs ho hne => by
        refine ⟨Ow.far ho k3 hne, fun b hb e => ?_⟩; have := World.ownsRow.lt ho b hb
        rcases hlast b e with h | h
        · exact hne b hb h
        · omega
      refine ⟨some ⟨g, 0, none⟩, cap, w', hrun, ⟨k2, fun i hi => ?_⟩, k3, hlast⟩
      by_cases hlt : i < n
      · obtain ⟨A', c', e0, e1, e2, e3, e4, e5⟩ := hin1 i hlt; rw [rat_left l1 hlt]; obtain ⟨q1, q2⟩ := hout _ _ _ _ e3 e5; exact ⟨A', c', by rw [List.getElem?_append_left (by omega)]; exact e0, by rw [List.getElem?_append_left (by omega)]; exact e1, by rw [List.getElem?_append_left (by omega)]; exact e2, q1, e4, q2⟩
      · obtain ⟨q, rfl⟩ : ∃ q, i = n + q := ⟨i - n, by omega⟩; obtain ⟨A', c', e0, e1, e2, e3, e4, e5⟩ := hin2 q (by omega); rw [rat_right l1]; obtain ⟨q1, q2⟩ := hout _ _ _ _ e3 e5; exact ⟨A', c', by rw [List.getElem?_append_right (by omega), show (n + q) * 3 - vs1.length = q * 3 by omega]; exact e0, by rw [List.getElem?_append_right (by omega), show (n + q) * 3 + 1 - vs1.length = q * 3 + 1 by omega]; exact e1, by rw [List.getElem?_append_right (by omega), show (n + q) * 3 + 2 - vs1.length = q * 3 + 2 by omega]; exact e2, q1, e4, q2⟩
  · obtain rfl : m = 0 := by omega
    obtain rfl : n = 0 := by omega
    have hsrc : Go.Src Tryz.prog i0.size 24 (.slice A2 0 c2) 0 [] w := by
      cases A2 with
      | none => exact Go.Src.ofNil w Tryz.underlying24 c2
      | some a => exact Go.Src.ofSlice w Tryz.underlying24 a 0 c2 [] (by simp) (fun j u hj => by simp at hj) (fun u hu => by simp at hu)
    exact ⟨A, c, w, run_append_nothing w 24 24 ty 73 i0 Tryz.underlying24 hi A 0 c (Nat.zero_le _) _ hsrc, ⟨by rw [show vs2 = [] from List.eq_nil_of_length_eq_zero (by omega), List.append_nil]; exact hown, fun i hi => absurd hi (by omega)⟩, World.grownBy.refl _ _, fun g hg => .inl hg⟩
def CbV (vs : List Value) (m : Nat) (Q : Nat → Prop) : Prop := ∀ i A' n' c', i < m → vs[i * 3 + 1]? = some (.slice A' n' c') → ∀ g, (Value.slice A' n' c').ownBlock = some g → Q g
def SpQ (w : World) (lo : Nat) (v : Value) (k : Nat) (Q : Nat → Prop) : Prop := ∃ vs, w.ownsRow lo 73 3 v k vs ∧ CbV vs k Q
theorem CbV.nil {Q : Nat → Prop} : CbV [] 0 Q := fun i _ _ _ hi => absurd hi (by omega)
theorem CbV.app {vs1 vs2 : List Value} {n m : Nat} {Q : Nat → Prop} (hl : vs1.length = n * 3) (h1 : CbV vs1 n Q) (h2 : CbV vs2 m Q) : CbV (vs1 ++ vs2) (n + m) Q := by
  intro i A' n' c' hi he g hg
  by_cases hlt : i < n
  · rw [List.getElem?_append_left (by omega)] at he; exact h1 i A' n' c' hlt he g hg
  · obtain ⟨q, rfl⟩ : ∃ q, i = n + q := ⟨i - n, by omega⟩; rw [List.getElem?_append_right (by omega), show (n + q) * 3 + 1 - vs1.length = q * 3 + 1 by omega] at he; exact h2 q A' n' c' (by omega) he g hg
theorem CbV.one {x y z : Value} {Q : Nat → Prop} (h : ∀ g, y.ownBlock = some g → Q g) : CbV [x, y, z] 1 Q := by
  intro i A' n' c' hi he g hg
  obtain rfl : i = 0 := by omega
  simp at he
  rw [he] at h; exact h g hg
theorem CbV.imp {vs : List Value} {m : Nat} {Q Q' : Nat → Prop} (h : CbV vs m Q) (hq : ∀ g, Q g → Q' g) : CbV vs m Q' := fun i A' n' c' hi he g hg => hq g (h i A' n' c' hi he g hg)
theorem SpQ.imp {w : World} {lo k : Nat} {v : Value} {Q Q' : Nat → Prop} (h : SpQ w lo v k Q) (hq : ∀ g, Q g → Q' g) : SpQ w lo v k Q' := by
  obtain ⟨vs, h1, h2⟩ := h; exact ⟨vs, h1, h2.imp hq⟩
theorem SpQ.map {w w' : World} {lo k : Nat} {v : Value} {Q : Nat → Prop} (h : SpQ w lo v k Q) (hm : ∀ vs, w.ownsRow lo 73 3 v k vs → w'.ownsRow lo 73 3 v k vs) : SpQ w' lo v k Q := by
  obtain ⟨vs, h1, h2⟩ := h; exact ⟨vs, hm vs h1, h2⟩
theorem SpQ.below {w w' : World} {lo k : Nat} {v : Value} {Q : Nat → Prop} (h : SpQ w lo v k Q) (hb : Below w.heap.size w w') : SpQ w' lo v k Q :=
  h.map fun vs hown => World.ownsRow.kept hown (row := none) ⟨hb.os, hb.tape, hb.output, hb.size, fun k hk _ => hb.block k hk⟩ (by cases e : v.ownBlock <;> simp)
theorem SpQ.keptL {w w' : World} {lo G k : Nat} {v : Value} {Q : Nat → Prop} (h : SpQ w lo v k Q) (hg : w.grownBy w' (some G)) (hG : G < lo) : SpQ w' lo v k Q :=
  h.map fun vs hown => World.ownsRow.kept hown hg (by
    cases e : v.ownBlock
    · exact .inl rfl
    · refine .inr (fun e2 => ?_); have h1 := (World.ownsRow.lt hown _ e).1; have h2 := Option.some.inj e2
      omega)
theorem SpQ.nil {w : World} {lo : Nat} {Q : Nat → Prop} : SpQ w lo (.slice none 0 0) 0 Q := ⟨[], World.ownsRow_nil _ _ _ _, CbV.nil⟩
theorem ownsRow_same {w : World} {lo lo' k sz : Nat} {e : TypeId} {v : Value} {xs ys : List Value} (h : w.ownsRow lo e sz v k xs) (h' : w.ownsRow lo' e sz v k ys) : xs = ys := by
  rcases h.2 with ⟨e1, h0⟩ | ⟨g, cap, cur, hv, _, hg, _, _, _, h4⟩
  · rw [List.eq_nil_of_length_eq_zero (by rw [h.1, h0, Nat.zero_mul] : xs.length = 0), List.eq_nil_of_length_eq_zero (by rw [h'.1, h0, Nat.zero_mul] : ys.length = 0)]
  · rcases h'.2 with ⟨e1', h0'⟩ | ⟨g', cap', cur', hv', _, hg', _, _, _, h4'⟩
    · rw [List.eq_nil_of_length_eq_zero (by rw [h.1, h0', Nat.zero_mul] : xs.length = 0), List.eq_nil_of_length_eq_zero (by rw [h'.1, h0', Nat.zero_mul] : ys.length = 0)]
    · rw [hv] at hv'
      injection hv' with e1 _ _
      injection e1 with e1
      injection e1 with e1 _ _
      subst e1; rw [hg] at hg'
      injection hg' with hg'
      injection hg' with e2 _ _
      subst e2; rw [← h4, ← h4']
theorem OwR.with_ {w : World} {lo k : Nat} {v : Value} {rs : List RuleM} {Q : Nat → Prop} (h : OwR w lo v rs k) (hs : SpQ w lo v k Q) : ∃ vs, w.ownsRow lo 73 3 v k vs ∧ InR w lo v rs vs k ∧ CbV vs k Q := by
  obtain ⟨vs, h1, h2⟩ := h; obtain ⟨vs', h3, h4⟩ := hs; obtain rfl := ownsRow_same h1 h3; exact ⟨vs, h1, h2, h4⟩
theorem OwR.hi {w : World} {lo k : Nat} {v : Value} {rs : List RuleM} (h : OwR w lo v rs k) : SpQ w lo v k (fun g => g < w.heap.size) := by
  obtain ⟨vs, h1, h2⟩ := h; refine ⟨vs, h1, fun i A' n' c' hi he g hg => ?_⟩; obtain ⟨A2, c2, _, e1, _, ho, _⟩ := h2 i hi; rw [he] at e1
  injection e1 with e1
  rw [e1] at hg; exact ho.own_hi g hg
theorem below_none {w w' : World} (h : w.grownBy w' none) : Below w.heap.size w w' := ⟨h.os, h.tape, h.output, h.size, fun k hk => h.block k hk (by simp)⟩
theorem fresh_same {e t : TypeId} (ty : TypeId) {i0 : TypeInfo} {z : Value} (ht : Tryz.prog.underlying t = some (.slice e)) (hi : Tryz.prog.info? e = some i0) (hz : i0.zero = some z) {w : World} (b : Nat) (ad : Addr) (m c2 : Nat) (news : List Value) (hl : news.length = m * i0.size) (hnews : ∀ j u, news[j]? = some u → w.cell? (ad.add j) = some u)
    (hm : 0 < m) (h63 : (m : Int) ≤ 9223372036854775807) (hfit : m * i0.bytes ≤ 281474976710656) :
    (Builtin.append_ #[t, t] ty #[.slice (some ⟨b, 0, none⟩) 0 0, .slice (some ad) m c2]).run Tryz.prog w = (Builtin.append_ #[t, t] ty #[.slice none 0 0, .slice (some ad) m c2]).run Tryz.prog w := by
  rw [run_append_grow w t ty e i0 z ht hi hz ⟨b, 0, none⟩ 0 0 [] (by simp) (by simp) ad m c2 news hl hnews (by omega) (by simpa using h63) (by rw [Nat.zero_add, nextslicecap_zero hm]; exact hfit)]; rw [run_append_nil w t ty e i0 z ht hi hz ad m c2 news hl hnews (by omega) h63 hfit]
  simp
theorem fresh_ints {w : World} (ty : TypeId) (b : Nat) (A2 : Option Addr) (m c2 B : Nat) (ys : List Int) (hr : Rd w B A2 m ys) (h0 : 0 < m) (hm : m ≤ 1099511627776) :
    ∃ A' c' w', (Builtin.append_ #[23, 23] ty #[.slice (some ⟨b, 0, none⟩) 0 0, .slice A2 m c2]).run Tryz.prog w = .ok (.slice A' m c') w' ∧ Ow w' w.heap.size A' m c' ys ∧ Below w.heap.size w w' := by
  obtain ⟨i0, hi, hz0, hz1, hz2⟩ := info_parts int_info; obtain ⟨A', c', w', hrun, h1, h2, _⟩ := run_push_all ty w.heap.size none 0 0 [] A2 m c2 B ys (Ow.nil_ _ _) hr (.inr rfl) (by omega) hm (Nat.le_refl _); obtain ⟨b2, off, rfl, _, _⟩ := hr.at_ h0; rw [Nat.zero_add] at hrun h1; rw [List.nil_append] at h1; exact ⟨A', c', w', (fresh_same ty Tryz.underlying23 hi hz0 b _ m c2 (vals ys) (by rw [vals_length, hr.1, hz1]; omega) hr.news h0 (by omega) (by rw [hz2]; omega)).trans hrun, h1, below_none h2⟩
theorem fresh_rulesV {w : World} (ty : TypeId) (b : Nat) (A2 : Option Addr) (m c2 lo lo2 : Nat) (rs2 : List RuleM) (vs2 : List Value) (hl2 : rs2.length = m) (hown2 : w.ownsRow lo2 73 3 (.slice A2 m c2) m vs2) (hin2 : InR w lo (.slice none 0 0) rs2 vs2 m)
    (hlit : w.heap[b]? = some (.cells #[] 73)) (hb : lo ≤ b) (hm : m ≤ 1099511627776) (hlo : lo ≤ w.heap.size) :
    ∃ A' c' w', (Builtin.append_ #[24, 24] ty #[.slice (some ⟨b, 0, none⟩) 0 0, .slice A2 m c2]).run Tryz.prog w = .ok (.slice A' m c') w' ∧ (w'.ownsRow lo 73 3 (.slice A' m c') m vs2 ∧ InR w' lo (.slice A' m c') rs2 vs2 m) ∧ Below w.heap.size w w' := by
  obtain ⟨i0, hi, hz0, hz1, hz2⟩ := info_parts rule_parts
  by_cases h0 : 0 < m
  · obtain ⟨A', c', w', hrun, h1, h2, _⟩ := run_push_rulesV ty lo none 0 0 [] [] A2 m c2 rs2 vs2 lo2 rfl (World.ownsRow_nil _ _ _ _) (fun i hi => absurd hi (by omega)) hown2 hin2 (.inl h0) (by omega) hm hlo; obtain ⟨hvl2, hcase⟩ := id hown2
    rcases hcase with ⟨_, h00⟩ | ⟨g2, cap2, cur, hv, _, hrow, q1, q2, q3, q4⟩
    · omega
    · injection hv with e1 _ e2
      subst e1
      have hcell : ∀ j u, vs2[j]? = some u → w.cell? ((⟨g2, 0, none⟩ : Addr).add j) = some u := fun j u hj => by
        have hadd : (⟨g2, 0, none⟩ : Addr).add j = ⟨g2, j, none⟩ := (by unfold Addr.add; split <;> simp_all); rw [hadd, cell_of_row w g2 j cur _ _ hrow]; rw [← q4, List.getElem?_take] at hj
        split at hj
        · simpa using hj
        · cases hj
      rw [Nat.zero_add] at hrun h1; rw [List.nil_append, List.nil_append] at h1; exact ⟨A', c', w', (fresh_same ty Tryz.underlying24 hi hz0 b _ m c2 vs2 (by rw [hvl2, hz1]) hcell h0 (by omega) (by rw [hz2]; omega)).trans hrun, h1, below_none h2⟩
  · obtain rfl : m = 0 := by omega
    have hsrc : Go.Src Tryz.prog i0.size 24 (.slice A2 0 c2) 0 [] w := by
      cases A2 with
      | none => exact Go.Src.ofNil w Tryz.underlying24 c2
      | some a => exact Go.Src.ofSlice w Tryz.underlying24 a 0 c2 [] (by simp) (fun j u hj => by simp at hj) (fun u hu => by simp at hu)
    refine ⟨some ⟨b, 0, none⟩, 0, w, run_append_nothing w 24 24 ty 73 i0 Tryz.underlying24 hi (some ⟨b, 0, none⟩) 0 0 (Nat.zero_le _) _ hsrc, ⟨by rw [show vs2 = [] from List.eq_nil_of_length_eq_zero (by rw [hown2.1, Nat.zero_mul])]; exact ⟨by simp, .inr ⟨b, 0, #[], rfl, hb, hlit, Nat.le_refl _, by simp [maxLen], by simp, by simp⟩⟩, fun i hi => absurd hi (by omega)⟩, Below.refl _ _⟩
theorem OwR.far {w w' : World} {lo n c : Nat} {A : Option Addr} {rs : List RuleM} {row : Option Nat} (h : OwR w lo (.slice A n c) rs n) (hg : w.grownBy w' row) (hr : ∀ g, row = some g → g < lo) : OwR w' lo (.slice A n c) rs n := by
  obtain ⟨vs, hown, hin⟩ := h
  refine ⟨vs, World.ownsRow.kept hown hg (by
    cases e : (Value.slice A n c).ownBlock with
    | none => exact .inl rfl
    | some g => exact .inr (fun he => by have h1 := (World.ownsRow.lt hown g e).1; have h2 := hr g he.symm; omega)), fun i hi => ?_⟩
  obtain ⟨A', c', e0, e1, e2, e3, e4, e5⟩ := hin i hi; exact ⟨A', c', e0, e1, e2, e3.far hg (fun g hgg e => by have h1 := e3.own_lo g hgg; have h2 := hr g e; omega), e4, e5⟩
theorem lt_set5 {a : Nat} {w : World} {p : Addr} {v : Value} (h : a < w.heap.size) : a < (w.setCell p v).heap.size := by rw [World.size_setCell]; exact h
theorem grown_row {w : World} {g : Nat} {cs : Array Value} : w.grownBy (w.setRow g cs) (some g) :=
  ⟨rfl, rfl, rfl, by simp, fun k hk hne => by unfold World.setRow; simp only [Array.getElem?_modify]; rw [if_neg (fun e => hne (by rw [e]))]⟩
theorem OwR.mono {w : World} {lo lo' n : Nat} {v : Value} {rs : List RuleM} (h : OwR w lo v rs n) (hl : lo' ≤ lo) : OwR w lo' v rs n := by
  obtain ⟨vs, hown, hin⟩ := h; refine ⟨vs, World.ownsRow.mono hown hl, fun i hi => ?_⟩; obtain ⟨A', c', e0, e1, e2, e3, e4, e5⟩ := hin i hi; exact ⟨A', c', e0, e1, e2, e3.mono hl, e4, e5⟩
set_option maxHeartbeats 1000000 in
theorem specOwnPuzzle (s : Int) (Ag : Option Addr) (n cg Bg : Nat) (gi : List Int) (Ar : Option Addr) (nr cr Br : Nat) (rs : List RuleM) (w : World) (hg : Rd w Bg Ag n gi) (hBg : Bg ≤ w.heap.size) (hm : n ≤ 1099511627776) (hr : RdRs w Br Ar nr rs) (hBr : Br ≤ w.heap.size) (hmr : nr ≤ 1099511627775) :
    Calls Tryz.prog 168 #[.agg #[.int .i64 s, .slice Ag n cg, .slice Ar nr cr]] w fun e w' => ∃ A1 c1 A2 c2, e = .returned (.agg #[.int .i64 s, .slice A1 n c1, .slice A2 nr c2]) ∧ Ow w' w.heap.size A1 n c1 gi ∧ OwR w' w.heap.size (.slice A2 nr c2) rs nr ∧ Below w.heap.size w w' := by
  have Hone := Lib.hid puz_one; have Hi := Lib.hid puz_info; have hx0 := pbox_new w s Ag n cg Ar nr cr 26; have hb0 : Below w.heap.size w (w.alloc (.cells #[.int .i64 s, .slice Ag n cg, .slice Ar nr cr] 26)) := (Below.refl _ _).alloc (Nat.le_refl _) _
  have hs0 : w.heap.size < (w.alloc (.cells #[.int .i64 s, .slice Ag n cg, .slice Ar nr cr] 26)).heap.size := by simp
  obtain ⟨V, hV⟩ : ∃ V, V = ((w.alloc (.cells #[.int .i64 s, .slice Ag n cg, .slice Ar nr cr] 26)).alloc (.cells #[.int .i64 0, .slice none 0 0, .slice none 0 0] 26)).alloc (.cells #[.int .i64 s, .slice Ag n cg, .slice Ar nr cr] 26) := ⟨_, rfl⟩
  have hbV : Below w.heap.size w V := by rw [hV]; exact (hb0.alloc hb0.size _).alloc (by simp; omega) _
  have hsV : V.heap.size = w.heap.size + 1 + 1 + 1 := by rw [hV]; simp
  have hv2 : V.heap[w.heap.size + 1 + 1]? = some (.cells #[.int .i64 s, .slice Ag n cg, .slice Ar nr cr] 26) := by
    have := heap_alloc2_new (w.alloc (.cells #[.int .i64 s, .slice Ag n cg, .slice Ar nr cr] 26)) (.cells #[.int .i64 0, .slice none 0 0, .slice none 0 0] 26) (.cells #[.int .i64 s, .slice Ag n cg, .slice Ar nr cr] 26); rw [World.size_alloc] at this; rw [hV]; exact this
  have hv1 : V.heap[w.heap.size + 1]? = some (.cells #[.int .i64 0, .slice none 0 0, .slice none 0 0] 26) := by
    have := heap_alloc2_old (w.alloc (.cells #[.int .i64 s, .slice Ag n cg, .slice Ar nr cr] 26)) (.cells #[.int .i64 0, .slice none 0 0, .slice none 0 0] 26) (.cells #[.int .i64 s, .slice Ag n cg, .slice Ar nr cr] 26); rw [World.size_alloc] at this; rw [hV]; exact this
  have hv0 : V.cell? ⟨w.heap.size, 2, none⟩ = some (.slice Ar nr cr) := by
    rw [hV]; exact (hx0.below hs0 (((Below.refl _ _).alloc (Nat.le_refl _) _).alloc (by simp) _)).2.2
  have HO : Hid (Ow (V.alloc (.cells #[] 3)) (w.heap.size + 1 + 1 + 1) (some ⟨w.heap.size + 1 + 1 + 1, 0, none⟩) 0 0 []) := Lib.hid (by
    have := Ow.made0 V (w.heap.size + 1 + 1 + 1) (by omega); rw [hsV] at this
    exact this)
  have hbO : Below V.heap.size V (V.alloc (.cells #[] 3)) := (Below.refl _ _).alloc (Nat.le_refl _) _
  have hwV : w.heap.size ≤ V.heap.size := by omega
  have HR := Lib.hid ((hg.below (hbV.mono hBg)).below (hbO.mono (Nat.le_trans hBg hwV)))
  have hsO : w.heap.size + 1 + 1 + 1 ≤ (V.alloc (.cells #[] 3)).heap.size := by simp; omega
  have hwV0 : w.heap.size < V.heap.size := by omega
  have hwV1 : w.heap.size + 1 < V.heap.size := by omega
  have hwV2 : w.heap.size + 1 + 1 < V.heap.size := by omega
  have hne12 : w.heap.size + 1 ≠ w.heap.size + 1 + 1 := by omega
  have hne02 : w.heap.size ≠ w.heap.size + 1 + 1 := by omega
  have hle2 : w.heap.size ≤ w.heap.size + 1 + 1 := by omega
  have HS := Lib.hid (fun w' (hb : Below w.heap.size w w') => specOwnRules Ar nr cr Br rs w' (hr.below (hb.mono hBr)) (Nat.le_trans hBr hb.size) hmr); have HV := Lib.hid hV; clear hV
  go_enter Tryz.func168, Tryz.ntmps168
  go_wp2_with (first
    | (at_builtin; (rw [← HV.out]); (refine push_new rfl (.tmp 5) (.tmp 7) rfl (w.heap.size + 1 + 1 + 1) (some ⟨w.heap.size + 1 + 1 + 1, 0, none⟩) Ag n cg Bg gi rfl rfl HO.out HR.out hm hsO ?_); intro A1 c1 w1 ho1 hg1; have hbw1 : Below V.heap.size V w1 := hbO.grown hg1 hbO.size (fun k hk => Nat.le_trans (Nat.le_of_eq hsV) (HO.out.own_lo k hk)); have hs1 := Nat.le_trans (Nat.le_of_lt hwV2) hbw1.size; have f1 := (hbw1.block (w.heap.size + 1) hwV1).trans hv1; have f2 := (hbw1.block (w.heap.size + 1 + 1) hwV2).trans hv2; have f0 := (hbw1.cell (p := ⟨w.heap.size, 2, none⟩) hwV0).trans hv0; have g1 := (heap_setCell_other w1 ⟨w.heap.size + 1 + 1, 1, none⟩ (w.heap.size + 1) (.slice A1 n c1) hne12).trans f1; have g2 : (w1.setCell ⟨w.heap.size + 1 + 1, 1, none⟩ (.slice A1 n c1)).heap[w.heap.size + 1 + 1]? = some (.cells #[.int .i64 s, .slice A1 n c1, .slice Ar nr cr] 26) := heap_setCell_same w1 (w.heap.size + 1 + 1) 1 _ _ (.slice A1 n c1) f2; (have fz := frozen_of_row w1 (w.heap.size + 1 + 1) 1 _ _ f2); have m1 : w1.cell? ⟨w.heap.size + 1 + 1, 1, none⟩ = some (.slice Ag n cg) := cell_of_row _ _ 1 _ _ (0, 0) f2; have g0 := (cell_other5 (k := 1) (v := .slice A1 n c1) hne02).trans f0; have l1 : w.heap.size + 1 < (w1.setCell ⟨w.heap.size + 1 + 1, 1, none⟩ (.slice A1 n c1)).heap.size := lt_set5 (Nat.lt_of_lt_of_le hwV1 hbw1.size); have l2 : w.heap.size + 1 + 1 < (w1.setCell ⟨w.heap.size + 1 + 1, 1, none⟩ (.slice A1 n c1)).heap.size := lt_set5 (Nat.lt_of_lt_of_le hwV2 hbw1.size); have hB2 := (hbV.trans (hbw1.mono hwV)).setCell hle2 (.slice A1 n c1) (p := ⟨w.heap.size + 1 + 1, 1, none⟩))
    | (go_at_call 183; (refine (HS.out _ hB2).mono ?_); rintro e w3 ⟨A2, c2, rfl, ho2, hb3⟩; have h1 := (hb3.block (w.heap.size + 1) l1).trans g1; have h2 := (hb3.block (w.heap.size + 1 + 1) l2).trans g2; have fz3 := frozen_of_row w3 (w.heap.size + 1 + 1) 2 _ _ h2; have m5 : w3.cell? ⟨w.heap.size + 1 + 1, 0, none⟩ = some (.int .i64 s) := cell_of_row _ _ 0 _ _ (0, 0) h2; have m6 : w3.cell? ⟨w.heap.size + 1 + 1, 1, none⟩ = some (.slice A1 n c1) := cell_of_row _ _ 1 _ _ (0, 0) h2; have m7 : w3.cell? ⟨w.heap.size + 1 + 1, 2, none⟩ = some (.slice Ar nr cr) := cell_of_row _ _ 2 _ _ (0, 0) h2; have i1 := (heap_setCell_other w3 ⟨w.heap.size + 1 + 1, 2, none⟩ (w.heap.size + 1) (.slice A2 nr c2) hne12).trans h1; have i2 : (w3.setCell ⟨w.heap.size + 1 + 1, 2, none⟩ (.slice A2 nr c2)).heap[w.heap.size + 1 + 1]? = some (.cells #[.int .i64 s, .slice A1 n c1, .slice A2 nr c2] 26) := heap_setCell_same w3 (w.heap.size + 1 + 1) 2 _ _ (.slice A2 nr c2) h2; have k5 : (w3.setCell ⟨w.heap.size + 1 + 1, 2, none⟩ (.slice A2 nr c2)).cell? ⟨w.heap.size + 1 + 1, 0, none⟩ = some (.int .i64 s) := cell_of_row _ _ 0 _ _ (0, 0) i2; have k6 : (w3.setCell ⟨w.heap.size + 1 + 1, 2, none⟩ (.slice A2 nr c2)).cell? ⟨w.heap.size + 1 + 1, 1, none⟩ = some (.slice A1 n c1) := cell_of_row _ _ 1 _ _ (0, 0) i2; have k7 : (w3.setCell ⟨w.heap.size + 1 + 1, 2, none⟩ (.slice A2 nr c2)).cell? ⟨w.heap.size + 1 + 1, 2, none⟩ = some (.slice A2 nr c2) := cell_of_row _ _ 2 _ _ (0, 0) i2)
    | (refine wpList_store_row rfl 26 _ _ rfl (w.heap.size + 1) #[.int .i64 s, .slice A1 n c1, .slice A2 nr c2] rfl rfl 26 #[.int .i64 0, .slice none 0 0, .slice none 0 0] i1 (Hi.out _ _ _ _ _ _ _) rfl (Hone.out _ _ _ _ _ _ _) ?_))
  have hs1' := hbw1.size; have hs3 := hb3.size; rw [World.size_setCell] at hs3; have hBe : Below w.heap.size w ((w3.setCell ⟨w.heap.size + 1 + 1, 2, none⟩ (.slice A2 nr c2)).setRow (w.heap.size + 1) #[.int .i64 s, .slice A1 n c1, .slice A2 nr c2]) := setRow_below5 ((step hB2 hb3).setCell (show w.heap.size ≤ w.heap.size + 1 + 1 by omega) _) (by omega); have ho1' : Ow (w1.setCell ⟨w.heap.size + 1 + 1, 1, none⟩ (.slice A1 n c1)) (w.heap.size + 1 + 1 + 1) A1 n c1 gi := ho1.far (row := some (w.heap.size + 1 + 1)) grown_set (fun b hb e => by have := ho1.own_lo b hb; injection e with e; omega); have ho3 := ho1'.below hb3
  have ho4 : Ow (w3.setCell ⟨w.heap.size + 1 + 1, 2, none⟩ (.slice A2 nr c2)) (w.heap.size + 1 + 1 + 1) A1 n c1 gi := ho3.far (row := some (w.heap.size + 1 + 1)) grown_set (fun b hb e => by have := ho1.own_lo b hb; injection e with e; omega); have ho5 : OwR (w3.setCell ⟨w.heap.size + 1 + 1, 2, none⟩ (.slice A2 nr c2)) (w1.setCell ⟨w.heap.size + 1 + 1, 1, none⟩ (.slice A1 n c1)).heap.size (.slice A2 nr c2) rs nr := ho2.far (row := some (w.heap.size + 1 + 1)) grown_set (fun b e => by injection e with e; omega); refine bodyPost_ret (v := .agg #[.int .i64 s, .slice A1 n c1, .slice A2 nr c2]) (results_cell_row (by rfl) _ _ (w.heap.size + 1) 26 _ (0, 0) _ rfl (setRow_heap _ _ _ _ _ _ i1) Tryz.underlying26 rfl (Hi.out _ _ _ _ _ _ _)) rfl ⟨_, _, _, _, rfl, (ho4.row5 (fun b hb => ?_)).mono (by omega), (ho5.far (row := some (w.heap.size + 1)) grown_row (fun b e => ?_)).mono (by rw [World.size_setCell]; omega), hBe⟩
  · have := ho4.own_lo b hb; omega
  · injection e with e
    omega
def oneB (s : Int) (n : Nat) (gi : List Int) (rs : List RuleM) : Bool := (allS s 2 n gi rs).length == 1
set_option maxHeartbeats 1000000 in
theorem specOne (s : Int) (Ag : Option Addr) (n cg Bg : Nat) (gi : List Int) (Ar : Option Addr) (nr cr Br : Nat) (rs : List RuleM) (w : World) (hp : PGs w s Ag n cg Bg gi Ar nr cr Br rs) :
    Calls Tryz.prog 169 #[.agg #[.int .i64 s, .slice Ag n cg, .slice Ar nr cr]] w fun e w' => e = .returned (.bool (oneB s n gi rs)) ∧ Below w.heap.size w w' := by
  have hx0 := pbox_new w s Ag n cg Ar nr cr 26; have hb0 : Below w.heap.size w (w.alloc (.cells #[.int .i64 s, .slice Ag n cg, .slice Ar nr cr] 26)) := (Below.refl _ _).alloc (Nat.le_refl _) _; have HA := Lib.hid (fun w' (hb : Below w.heap.size w w') => (show Calls Tryz.prog 104 #[.agg #[.int .i64 s, .slice Ag n cg, .slice Ar nr cr], .int .i64 2] w' _ from specAll s 2 Ag n cg Bg gi Ar nr cr Br rs w' (hp.below hb) (by omega) (by omega))); have hL := allS_len s 2 n gi rs (by omega)
  have HQ := Lib.hid (show (((allS s 2 n gi rs).length : Int) == 1) = oneB s n gi rs by
    unfold oneB; rw [Bool.eq_iff_iff]; simp only [beq_iff_eq]
    omega)
  go_enter Tryz.func169, Tryz.ntmps169
  go_wp2_with (go_at_call 104; (refine (HA.out _ hb0).mono ?_); rintro e w1 ⟨P, v, rfl, hrows, hb1⟩; obtain ⟨A1, c1, vs, rfl, _⟩ := hrows)
  go_ret
  exact ⟨by rw [HQ.out]; rfl, step hb0 hb1⟩
set_option maxHeartbeats 1000000 in
theorem specWithout (s : Int) (Ag : Option Addr) (n cg Bg : Nat) (gi : List Int) (Ar : Option Addr) (nr cr : Nat) (k : Nat) (w : World) (hg : Rd w Bg Ag n gi) (hB : Bg ≤ w.heap.size) (hm : n ≤ 1099511627776) (hk : k < n) :
    Calls Tryz.prog 171 #[.agg #[.int .i64 s, .slice Ag n cg, .slice Ar nr cr], .int .i64 k] w fun e w' => ∃ A' c', e = .returned (.agg #[.int .i64 s, .slice A' n c', .slice Ar nr cr]) ∧ Ow w' w.heap.size A' n c' (gi.set k 0) ∧ Below w.heap.size w w' := by
  have hx0 := pbox_new w s Ag n cg Ar nr cr 26; have hb0 : Below w.heap.size w (w.alloc (.cells #[.int .i64 s, .slice Ag n cg, .slice Ar nr cr] 26)) := (Below.refl _ _).alloc (Nat.le_refl _) _
  have hs0 : w.heap.size < (w.alloc (.cells #[.int .i64 s, .slice Ag n cg, .slice Ar nr cr] 26)).heap.size := by simp
  obtain ⟨b, off, rfl, hbB, _⟩ := hg.at_ hk
  have hn0 : 0 < n := by omega
  obtain ⟨V, hV⟩ : ∃ V, V = (w.alloc (.cells #[.int .i64 s, .slice (some ⟨b, off, none⟩) n cg, .slice Ar nr cr] 26)).alloc (.cells #[.int .i64 0, .slice none 0 0, .slice none 0 0] 26) := ⟨_, rfl⟩
  have hbV : Below w.heap.size w V := by rw [hV]; exact hb0.alloc hb0.size _
  have hsV : V.heap.size = w.heap.size + 1 + 1 := by rw [hV]; simp
  have hwV : w.heap.size < V.heap.size := by omega
  have hwV1 : w.heap.size + 1 < V.heap.size := by omega
  obtain ⟨c0, c1', c2⟩ : PBox V w.heap.size s (some ⟨b, off, none⟩) n cg Ar nr cr := by
    rw [hV]; exact hx0.below hs0 ((Below.refl _ _).alloc (Nat.le_refl _) _)
  have hrow : V.heap[w.heap.size + 1]? = some (.cells #[.int .i64 0, .slice none 0 0, .slice none 0 0] 26) := by rw [hV]; exact heap_alloc2_new w _ _
  have HO : Hid (Ow (V.alloc (.cells #[] 3)) (w.heap.size + 1 + 1) (some ⟨w.heap.size + 1 + 1, 0, none⟩) 0 0 []) := Lib.hid (by
    have := Ow.made0 V (w.heap.size + 1 + 1) (by omega); rw [hsV] at this
    exact this)
  have hbO : Below V.heap.size V (V.alloc (.cells #[] 3)) := (Below.refl _ _).alloc (Nat.le_refl _) _; have HR := Lib.hid ((hg.below (hbV.mono hB)).below (hbO.mono (Nat.le_trans hB (Nat.le_of_lt hwV))))
  have hsO : w.heap.size + 1 + 1 ≤ (V.alloc (.cells #[] 3)).heap.size := by simp; omega
  have Hone := Lib.hid puz_one; have Hi := Lib.hid puz_info
  go_enter Tryz.func171, Tryz.ntmps171
  go_wp2_with (first
    | (at_builtin; (rw [← hV]); (refine push_some rfl (.tmp 6) (.tmp 8) rfl (w.heap.size + 1 + 1) (some ⟨w.heap.size + 1 + 1, 0, none⟩) 0 0 [] b off n cg Bg gi rfl rfl HO.out HR.out (by omega) hm hsO ?_); intro A1 c1 w1 ho1 hg1; simp only [Nat.zero_add, List.nil_append] at ho1; (obtain ⟨gb, rfl, hlog, hgw1⟩ := ho1.form hn0); (obtain ⟨hcq, hfq⟩ := ho1.cell hk); have hbw1 : Below V.heap.size V w1 := hbO.grown hg1 hbO.size (fun k hk => Nat.le_trans (Nat.le_of_eq hsV) (HO.out.own_lo k hk)); have hgb0 : w.heap.size ≠ gb := Nat.ne_of_lt (Nat.lt_of_lt_of_le (Nat.lt_of_lt_of_le (Nat.lt_succ_self _) (Nat.le_succ _)) hlog); have hgb1 : w.heap.size + 1 ≠ gb := Nat.ne_of_lt hlog; (have d0 := (cell_other5 (k := k) (v := .int .i64 0) hgb0).trans ((hbw1.cell (p := ⟨w.heap.size, 0, none⟩) hwV).trans c0)); have d2 := (cell_other5 (k := k) (v := .int .i64 0) hgb0).trans ((hbw1.cell (p := ⟨w.heap.size, 2, none⟩) hwV).trans c2); (have hr2 := (heap_setCell_other w1 ⟨gb, k, none⟩ (w.heap.size + 1) (.int .i64 0) hgb1).trans ((hbw1.block (w.heap.size + 1) hwV1).trans hrow)))
    | ((refine wpList_store_row rfl 26 _ _ rfl (w.heap.size + 1) #[.int .i64 s, .slice (some ⟨gb, 0, none⟩) n c1, .slice Ar nr cr] rfl rfl 26 #[.int .i64 0, .slice none 0 0, .slice none 0 0] hr2 (Hi.out _ _ _ _ _ _ _) rfl (Hone.out _ _ _ _ _ _ _) ?_)))
  have ho2 : Ow (w1.setCell ⟨gb, k, none⟩ (.int .i64 0)) (w.heap.size + 1 + 1) (some ⟨gb, 0, none⟩) n c1 (gi.set k 0) := by
    have := (World.ownsRow.stored ho1 k (.int .i64 0)).1; rw [vals_set] at this; exact this
  have hBe : Below w.heap.size w ((w1.setCell ⟨gb, k, none⟩ (.int .i64 0)).setRow (w.heap.size + 1) #[.int .i64 s, .slice (some ⟨gb, 0, none⟩) n c1, .slice Ar nr cr]) := setRow_below5 ((hbV.trans (hbw1.mono hbV.size)).setCell (show w.heap.size ≤ gb by omega) _) (by omega); refine bodyPost_ret (v := .agg #[.int .i64 s, .slice (some ⟨gb, 0, none⟩) n c1, .slice Ar nr cr]) (results_cell_row (by rfl) _ _ (w.heap.size + 1) 26 _ (0, 0) _ rfl (setRow_heap _ _ _ _ _ _ hr2) Tryz.underlying26 rfl (Hi.out _ _ _ _ _ _ _)) rfl ⟨_, _, rfl, (ho2.row5 (fun b hb => ?_)).mono (by omega), hBe⟩; have := ho2.own_lo b hb
  omega
def givenB (n : Nat) (gi : List Int) (i : Int) : Bool := inr i 0 ((n : Int) - 1) && decide (0 < nth gi i.toNat)
def redB (s : Int) (n : Nat) (gi : List Int) (rs : List RuleM) (i : Int) : Bool := pvB s gi rs && givenB n gi i && oneB s n gi rs && oneB s n (gi.set i.toNat 0) rs
set_option maxHeartbeats 2000000 in
theorem specIsRedundant (s : Int) (Ag : Option Addr) (n cg Bg : Nat) (gi : List Int) (Ar : Option Addr) (nr cr Br : Nat) (rs : List RuleM) (i : Int) (w : World) (hp : PGs w s Ag n cg Bg gi Ar nr cr Br rs) :
    Calls Tryz.prog 170 #[.agg #[.int .i64 s, .slice Ag n cg, .slice Ar nr cr], .int .i64 i] w fun e w' => e = .returned (.bool (redB s n gi rs i)) ∧ Below w.heap.size w w' := by
  have hx0 := pbox_new w s Ag n cg Ar nr cr 26; have hb0 : Below w.heap.size w (w.alloc (.cells #[.int .i64 s, .slice Ag n cg, .slice Ar nr cr] 26)) := (Below.refl _ _).alloc (Nat.le_refl _) _
  have hs0 : w.heap.size < (w.alloc (.cells #[.int .i64 s, .slice Ag n cg, .slice Ar nr cr] 26)).heap.size := by simp
  have HP := Lib.hid (fun w' (hb : Below w.heap.size w w') => specPuzzleValid s Ag n cg Bg gi Ar nr cr Br rs w' (hp.below hb).g (hp.below hb).gB hp.gm (hp.below hb).r (hp.below hb).rB hp.rm); have HO := Lib.hid (fun w' (hb : Below w.heap.size w w') => specOne s Ag n cg Bg gi Ar nr cr Br rs w' (hp.below hb)); have hlen := Lib.hid hp.g.1; have hm := hp.gm; cases hv : pvB s gi rs
  · have HL := Lib.hid (show redB s n gi rs i = false by simp [redB, hv])
    go_enter Tryz.func170, Tryz.ntmps170
    go_wp2_with (go_at_call 22; refine (HP.out _ hb0).mono ?_; rintro e w1 ⟨rfl, hb1⟩; rw [hv]; have hB1 := step hb0 hb1; clear hb1)
    go_ret
    exact ⟨by rw [HL.out]; rfl, hB1⟩
  · cases hin : inr i 0 ((n : Int) - 1)
    · have HL := Lib.hid (show redB s n gi rs i = false by simp [redB, givenB, hin]); have Hin := Lib.hid hin; clear hin
      go_enter Tryz.func170, Tryz.ntmps170
      go_wp2_with (first | (go_at_call 22; refine (HP.out _ hb0).mono ?_; rintro e w1 ⟨rfl, hb1⟩; rw [hv]; have hB1 := step hb0 hb1; obtain ⟨d0, d1, d2⟩ := hx0.below hs0 hb1; clear hb1) | (go_at_call 73; refine (l1In_any _ _ _ _).mono ?_; rintro e w' ⟨rfl, rfl⟩; (rw [Hin.out])))
      go_ret
      exact ⟨by rw [HL.out]; rfl, hB1⟩
    · obtain ⟨k, rfl⟩ := Int.eq_ofNat_of_zero_le (show 0 ≤ i by simp [inr] at hin; omega); have hk : k < n := (by simp [inr] at hin; omega); have Hin := Lib.hid hin; clear hin; obtain ⟨b, off, rfl, hbB, hck⟩ := hp.g.at_ hk; have hbw : b < w.heap.size := Nat.lt_of_lt_of_le hbB hp.gB; have HW := Lib.hid (fun w' (hb : Below w.heap.size w w') => specWithout (Bg := Bg) s (some ⟨b, off, none⟩) n cg gi Ar nr cr k w' (hp.below hb).g (hp.below hb).gB hm hk); have HC := Lib.hid (fun w' (hb : Below w.heap.size w w') => ((hb.cell (p := ⟨b, off + k, none⟩) hbw).trans hck : w'.cell? ⟨b, off + k, none⟩ = some (.int .i64 (nth gi k))))
      by_cases hx : 0 < nth gi k
      · cases ho : oneB s n gi rs
        · have HL := Lib.hid (show redB s n gi rs k = false by simp [redB, ho])
          go_enter Tryz.func170, Tryz.ntmps170
          go_wp2_with (first | (go_at_call 22; refine (HP.out _ hb0).mono ?_; rintro e w1 ⟨rfl, hb1⟩; rw [hv]; have hB1 := step hb0 hb1; obtain ⟨d0, d1, d2⟩ := hx0.below hs0 hb1; have hck1 := HC.out _ hB1; clear hb1) | (go_at_call 73; refine (l1In_any _ _ _ _).mono ?_; rintro e w' ⟨rfl, rfl⟩; (rw [Hin.out])) | (go_at_call 169; refine (HO.out _ hB1).mono ?_; rintro e w2 ⟨rfl, hb2⟩; rw [ho]))
          go_ret
          exact ⟨by rw [HL.out]; rfl, step hB1 hb2⟩
        · cases ho2 : oneB s n (gi.set k 0) rs
          all_goals
            have HL := Lib.hid (show redB s n gi rs k = oneB s n (gi.set k 0) rs by simp [redB, givenB, hv, Hin.out, hx, ho]); rw [ho2] at HL; have HO2 := Lib.hid (fun w' (hb : Below w.heap.size w w') A' c' B' (h : Rd w' B' A' n (gi.set k 0)) (hB : B' ≤ w'.heap.size) => specOne s A' n c' B' (gi.set k 0) Ar nr cr Br rs w' ⟨h, hB, hm, (hp.below hb).r, (hp.below hb).rB, hp.rm⟩)
            go_enter Tryz.func170, Tryz.ntmps170
            go_wp2_with (first | (go_at_call 22; refine (HP.out _ hb0).mono ?_; rintro e w1 ⟨rfl, hb1⟩; rw [hv]; have hB1 := step hb0 hb1; obtain ⟨d0, d1, d2⟩ := hx0.below hs0 hb1; have hs1 := Nat.lt_of_lt_of_le hs0 hb1.size; have hck1 := HC.out _ hB1; clear hb1) | (go_at_call 73; refine (l1In_any _ _ _ _).mono ?_; rintro e w' ⟨rfl, rfl⟩; (rw [Hin.out])) | (go_at_call 171; refine (HW.out _ hB2).mono ?_; rintro e w3 ⟨A3, c3, rfl, ho3, hb3⟩; have hB3 := step hB2 hb3; clear hb3) | (go_at_call 169; refine (HO.out _ hB1).mono ?_; rintro e w2 ⟨rfl, hb2⟩; rw [ho]; have hB2 := step hB1 hb2; obtain ⟨e0, e1, e2⟩ := PBox.below ⟨d0, d1, d2⟩ hs1 hb2; clear hb2) | (go_at_call 169; refine (HO2.out _ hB3 _ _ _ ho3.rd (Nat.le_refl _)).mono ?_; rintro e w4 ⟨rfl, hb4⟩; rw [ho2]; have hB4 := step hB3 hb4; clear hb4))
            go_ret
            exact ⟨by rw [HL.out]; rfl, hB4⟩
      · have HL := Lib.hid (show redB s n gi rs k = false by simp [redB, givenB, hx])
        go_enter Tryz.func170, Tryz.ntmps170
        go_wp2_with (first | (go_at_call 22; refine (HP.out _ hb0).mono ?_; rintro e w1 ⟨rfl, hb1⟩; rw [hv]; have hB1 := step hb0 hb1; obtain ⟨d0, d1, d2⟩ := hx0.below hs0 hb1; have hck1 := HC.out _ hB1; clear hb1) | (go_at_call 73; refine (l1In_any _ _ _ _).mono ?_; rintro e w' ⟨rfl, rfl⟩; (rw [Hin.out])))
        go_ret
        exact ⟨by rw [HL.out]; rfl, hB1⟩
def minL (s : Int) (n : Nat) (rs : List RuleM) (gi : List Int) : Nat → List Int
  | 0 => gi
  | k + 1 => if redB s n (minL s n rs gi k) rs k = true then (minL s n rs gi k).set k 0 else minL s n rs gi k
theorem OwR.keptL {w w' : World} {lo G k : Nat} {v : Value} {rs : List RuleM} (h : OwR w lo v rs k) (hg : w.grownBy w' (some G)) (hG : G < lo) : OwR w' lo v rs k := by
  obtain ⟨vs, hown, hin⟩ := h
  refine ⟨vs, World.ownsRow.kept hown hg (by
    cases e : v.ownBlock
    · exact .inl rfl
    · refine .inr (fun e2 => ?_); have h1 := (World.ownsRow.lt hown _ e).1; have h2 := Option.some.inj e2
      omega), fun i hi => ?_⟩
  obtain ⟨A', c', e0, e1, e2, e3, e4, e5⟩ := hin i hi; exact ⟨A', c', e0, e1, e2, Ow.far e3 hg (fun g hgg e => by have h1 := e3.own_lo g hgg; have h2 := Option.some.inj e; omega), e4, e5⟩
theorem grown_setRow5 {w : World} {g : Nat} {cs : Array Value} : w.grownBy (w.setRow g cs) (some g) :=
  ⟨rfl, rfl, rfl, by simp, fun k hk hne => by unfold World.setRow; simp only [Array.getElem?_modify]; rw [if_neg (fun e => hne (by rw [e]))]⟩
theorem ownsRow_setX {w : World} {lo sz n X : Nat} {e t : TypeId} {v : Value} {xs : List Value} {cs cs' : Array Value} (h : w.ownsRow lo e sz v n xs) (hX : w.heap[X]? = some (.cells cs t)) (hne : t ≠ e) : (w.setRow X cs').ownsRow lo e sz v n xs := by
  refine World.ownsRow.kept h grown_setRow5 ?_
  rcases h.2 with ⟨rfl, _⟩ | ⟨g, cap, cur, rfl, hb, hg, _⟩
  · exact .inl rfl
  · refine .inr (fun e2 => ?_)
    have e3 : g = X := by simpa [Value.ownBlock] using e2
    subst e3; rw [hX] at hg
    injection hg with hg
    injection hg with _ h2 _
    exact hne h2
theorem Ow.setX {w : World} {lo n c X : Nat} {A : Option Addr} {xs : List Int} {cs cs' : Array Value} (h : Ow w lo A n c xs) (hX : w.heap[X]? = some (.cells cs 26)) : Ow (w.setRow X cs') lo A n c xs := ownsRow_setX h hX (by decide)
theorem OwR.setX {w : World} {lo k X : Nat} {v : Value} {rs : List RuleM} {cs cs' : Array Value} (h : OwR w lo v rs k) (hX : w.heap[X]? = some (.cells cs 26)) : OwR (w.setRow X cs') lo v rs k := by
  obtain ⟨vs, hown, hin⟩ := h; refine ⟨vs, ownsRow_setX hown hX (by decide), fun i hi => ?_⟩; obtain ⟨A', c', e0, e1, e2, e3, e4, e5⟩ := hin i hi; exact ⟨A', c', e0, e1, e2, e3.setX hX, e4, e5⟩
theorem SpQ.setX {w : World} {lo k X : Nat} {v : Value} {Q : Nat → Prop} {cs cs' : Array Value} (h : SpQ w lo v k Q) (hX : w.heap[X]? = some (.cells cs 26)) : SpQ (w.setRow X cs') lo v k Q := h.map fun _ hown => ownsRow_setX hown hX (by decide)
theorem SpQ.mono {w : World} {lo lo' k : Nat} {v : Value} {Q : Nat → Prop} (h : SpQ w lo v k Q) (hl : lo' ≤ lo) : SpQ w lo' v k Q := by
  obtain ⟨vs, h1, h2⟩ := h; exact ⟨vs, World.ownsRow.mono h1 hl, h2⟩
theorem results_row_tmp {P : Program} {fn : Func} {p q : Tmp} {ty : TypeId} (h : fn.results = #[.cell p ty, .tmp q]) (tmps : Array Value) (w : World) (g : Nat) (t : TypeId) (cs : Array Value) (fr : Nat × Nat) (d : TypeDesc) (b : Value)
    (hp : tmps.getD p undef = .pointer (some ⟨g, 0, none⟩)) (hq : tmps.getD q undef = b) (hg : w.heap[g]? = some (.cells cs t fr))
    (hu : P.underlying ty = some d) (hd : (match d with | .struct _ | .array _ _ => true | _ => false) = true) (hi : (P.info? ty).map (·.size) = some cs.size) :
    (results fn tmps).run P w = .ok (.tuple #[.agg cs, b]) w := by
  have hp' : tmps[p]?.getD undef = .pointer (some ⟨g, 0, none⟩) := by simpa using hp
  have hq' : tmps[q]?.getD undef = b := by simpa using hq
  simp [results, h, hp', hq', asAddr, run_loadVar_row w g t ty cs fr d hg hu hd hi]
def MinPost (s : Int) (n : Nat) (gi : List Int) (nr : Nat) (rs : List RuleM) (w : World) (e : Ending) (w' : World) : Prop :=
  Below w.heap.size w w' ∧ ((e = .returned (.tuple #[.agg #[.int .i64 0, .slice none 0 0, .slice none 0 0], .bool false]) ∧ (pvB s gi rs && oneB s n gi rs) = false) ∨
    ((pvB s gi rs && oneB s n gi rs) = true ∧ ∃ A1 c1 A2 c2 K, e = .returned (.tuple #[.agg #[.int .i64 s, .slice A1 n c1, .slice A2 nr c2], .bool true]) ∧ Ow w' K A1 n c1 (minL s n rs gi n) ∧ w.heap.size ≤ K ∧ OwR w' w.heap.size (.slice A2 nr c2) rs nr ∧ SpQ w' w.heap.size (.slice A2 nr c2) nr (fun g => g < K)))
def MakeG (P lo K n : Nat) (s : Int) (A1 : Option Addr) (c1 : Nat) (A2 : Option Addr) (nr c2 : Nat) (gi : List Int) (rs : List RuleM) : Nat → Value → World → Prop
  | 0, v, _ => v = .pointer (some ⟨P, 0, none⟩)
  | 1, v, _ => v = .int .i64 s
  | 2, v, _ => ∃ b, v = .slice (some ⟨b, 0, none⟩) 0 0
  | 3, v, _ => v = .pointer (some ⟨P, 1, none⟩)
  | 4, v, _ => v = .slice A1 n c1
  | 5, v, w => ∃ A' c', v = .slice A' n c' ∧ Ow w K A' n c' gi
  | 6, v, w => ∃ b, v = .slice (some ⟨b, 0, none⟩) 0 0 ∧ w.heap[b]? = some (.cells #[] 73) ∧ lo ≤ b
  | 7, v, _ => v = .pointer (some ⟨P, 2, none⟩)
  | 8, v, _ => v = .slice A2 nr c2
  | 9, v, w => ∃ A' c', v = .slice A' nr c' ∧ OwR w lo (.slice A' nr c') rs nr ∧ SpQ w lo (.slice A' nr c') nr (fun g => g < K)
  | 10, v, w => ∃ A' c' A'' c'', v = .agg #[.int .i64 s, .slice A' n c', .slice A'' nr c''] ∧ Ow w K A' n c' gi ∧ OwR w lo (.slice A'' nr c'') rs nr ∧ SpQ w lo (.slice A'' nr c'') nr (fun g => g < K)
  | 11, v, w => ∃ X, v = .pointer (some ⟨X, 0, none⟩) ∧ w.heap[X]? = some (.cells #[.int .i64 0, .slice none 0 0, .slice none 0 0] 26) ∧ lo ≤ X
  | _, _, _ => True
theorem makeG_below {P lo K n : Nat} {s : Int} {A1 : Option Addr} {c1 : Nat} {A2 : Option Addr} {nr c2 : Nat} {gi : List Int} {rs : List RuleM} (j : Nat) (v : Value) (w w' : World) (hb : Below w.heap.size w w') (h : MakeG P lo K n s A1 c1 A2 nr c2 gi rs j v w) : MakeG P lo K n s A1 c1 A2 nr c2 gi rs j v w' := by
  match j, h with
  | 0, h => exact h
  | 1, h => exact h
  | 2, h => exact h
  | 3, h => exact h
  | 4, h => exact h
  | 5, ⟨A', c', e, h⟩ => exact ⟨A', c', e, h.below hb⟩
  | 6, ⟨b, e, h, hl⟩ => exact ⟨b, e, (hb.block b (Array.getElem?_eq_some_iff.1 h).1).trans h, hl⟩
  | 7, h => exact h
  | 8, h => exact h
  | 9, ⟨A', c', e, h, h2⟩ => exact ⟨A', c', e, h.below hb, h2.below hb⟩
  | 10, ⟨A', c', A'', c'', e, h, h', h2⟩ => exact ⟨A', c', A'', c'', e, h.below hb, h'.below hb, h2.below hb⟩
  | 11, ⟨X, e, h, hl⟩ => exact ⟨X, e, (hb.block X (Array.getElem?_eq_some_iff.1 h).1).trans h, hl⟩
  | _ + 12, h => exact h
set_option maxHeartbeats 2000000 in
theorem specMakeMinimal (s : Int) (Ag : Option Addr) (n cg Bg : Nat) (gi : List Int) (Ar : Option Addr) (nr cr Br : Nat) (rs : List RuleM) (w : World) (hp : PGs w s Ag n cg Bg gi Ar nr cr Br rs) (hm2 : nr ≤ 1099511627775) :
    Calls Tryz.prog 144 #[.agg #[.int .i64 s, .slice Ag n cg, .slice Ar nr cr]] w (MinPost s n gi nr rs w) := by
  have Hone := Lib.hid puz_one; have Hi := Lib.hid puz_info; have hrl := hp.r.1; obtain ⟨W0, hW0⟩ : ∃ W0, (w.alloc (.cells #[.int .i64 s, .slice Ag n cg, .slice Ar nr cr] 26)).alloc (.cells #[.int .i64 0, .slice none 0 0, .slice none 0 0] 26) = W0 := ⟨_, rfl⟩
  have hb0 : Below w.heap.size w W0 := by rw [← hW0]; exact ((Below.refl _ _).alloc (Nat.le_refl _) _).alloc (by simp) _
  have hs0 : W0.heap.size = w.heap.size + 1 + 1 := by rw [← hW0]; simp
  have hp0 : W0.heap[w.heap.size]? = some (.cells #[.int .i64 s, .slice Ag n cg, .slice Ar nr cr] 26) := by
    rw [← hW0]; exact (Below.heap_alloc _ _ _ (by simp)).trans (heap_alloc_new w _)
  have hq0 : W0.heap[w.heap.size + 1]? = some (.cells #[.int .i64 0, .slice none 0 0, .slice none 0 0] 26) := by
    rw [← hW0]; have := heap_alloc_new (w.alloc (.cells #[.int .i64 s, .slice Ag n cg, .slice Ar nr cr] 26)) (.cells #[.int .i64 0, .slice none 0 0, .slice none 0 0] 26); rwa [World.size_alloc] at this
  have hP0 := hp.below (hb0.mono (Nat.le_refl _)); have HOP := Lib.hid (specOwnPuzzle s Ag n cg Bg gi Ar nr cr Br rs W0 hP0.g hP0.gB hp.gm hP0.r hP0.rB hm2); obtain ⟨z0, z1, z2⟩ : PBox W0 w.heap.size s Ag n cg Ar nr cr := ⟨cell_of_row _ _ 0 _ _ (0, 0) hp0, cell_of_row _ _ 1 _ _ (0, 0) hp0, cell_of_row _ _ 2 _ _ (0, 0) hp0⟩; have HW0 := Lib.hid hW0; clear hW0 hP0
  go_enter Tryz.func144, Tryz.ntmps144
  go_wp2_with fail
  rw [HW0.out]; refine HOP.out.mono ?_; rintro e w1 ⟨A1, c1, A2, c2, rfl, ho1, hor1, hb1⟩; have hp1 := (hb1.block w.heap.size (by omega)).trans hp0; have hq1 := (hb1.block (w.heap.size + 1) (by omega)).trans hq0; obtain ⟨W2, hW2⟩ : ∃ W2, w1.setRow w.heap.size #[.int .i64 s, .slice A1 n c1, .slice A2 nr c2] = W2 := ⟨_, rfl⟩
  have hb2 : Below w.heap.size w W2 := by rw [← hW2]; exact setRow_below5 (hb0.trans (hb1.mono hb0.size)) (Nat.le_refl _)
  have hp2 : W2.heap[w.heap.size]? = some (.cells #[.int .i64 s, .slice A1 n c1, .slice A2 nr c2] 26) := by rw [← hW2]; exact setRow_heap _ _ _ _ _ _ hp1
  have hq2 : W2.heap[w.heap.size + 1]? = some (.cells #[.int .i64 0, .slice none 0 0, .slice none 0 0] 26) := by
    rw [← hW2]; refine Eq.trans ?_ hq1; unfold World.setRow; simp only [Array.getElem?_modify]; rw [if_neg (by omega)]
  have ho2 : Ow W2 W0.heap.size A1 n c1 gi := by rw [← hW2]; exact ho1.row5 (fun b hb => by have := ho1.own_lo b hb; omega)
  have hor2 : OwR W2 W0.heap.size (.slice A2 nr c2) rs nr := by rw [← hW2]; exact hor1.keptL grown_setRow5 (by omega)
  have hP2 : PGs W2 s A1 n c1 W2.heap.size gi A2 nr c2 W2.heap.size rs := ⟨ho2.rd, Nat.le_refl _, hp.gm, hor2.rd hrl, Nat.le_refl _, hp.rm⟩; have hs2 : w.heap.size + 1 < W2.heap.size := (Array.getElem?_eq_some_iff.1 hq2).1; have HV := Lib.hid (fun w' (hb : Below W2.heap.size W2 w') => specPuzzleValid s A1 n c1 W2.heap.size gi A2 nr c2 W2.heap.size rs w' (hP2.below hb).g (hP2.below hb).gB hp.gm (hP2.below hb).r (hP2.below hb).rB hp.rm); have HO := Lib.hid (fun w' (hb : Below W2.heap.size W2 w') => specOne s A1 n c1 W2.heap.size gi A2 nr c2 W2.heap.size rs w' (hP2.below hb)); obtain ⟨y0, y1, y2⟩ : PBox W2 w.heap.size s A1 n c1 A2 nr c2 := ⟨cell_of_row _ _ 0 _ _ (0, 0) hp2, cell_of_row _ _ 1 _ _ (0, 0) hp2, cell_of_row _ _ 2 _ _ (0, 0) hp2⟩
  have HB2 := Lib.hid hb2; cases hv : pvB s gi rs
  · have hf : (pvB s gi rs && oneB s n gi rs) = false := by rw [hv]; rfl
    go_wp2_with (first | (refine wpList_store_row rfl 26 _ _ rfl w.heap.size #[.int .i64 s, .slice A1 n c1, .slice A2 nr c2] rfl rfl 26 #[.int .i64 s, .slice Ag n cg, .slice Ar nr cr] hp1 (Hi.out _ _ _ _ _ _ _) rfl (Hone.out _ _ _ _ _ _ _) ?_; rw [hW2]) | (go_at_call 22; refine (HV.out _ (Below.refl _ _)).mono ?_; rintro e w3 ⟨rfl, hb3⟩; rw [hv]; have hq3 := (hb3.block (w.heap.size + 1) hs2).trans hq2) | (refine wpList_store_row rfl 26 _ _ rfl (w.heap.size + 1) #[.int .i64 0, .slice none 0 0, .slice none 0 0] rfl rfl 26 #[.int .i64 0, .slice none 0 0, .slice none 0 0] hq3 (Hi.out _ _ _ _ _ _ _) rfl (Hone.out _ _ _ _ _ _ _) ?_))
    have hBe : Below w.heap.size w (w3.setRow (w.heap.size + 1) #[.int .i64 0, .slice none 0 0, .slice none 0 0]) := setRow_below5 (HB2.out.trans (hb3.mono HB2.out.size)) (by omega); exact bodyPost_ret (v := .tuple #[.agg #[.int .i64 0, .slice none 0 0, .slice none 0 0], .bool false]) (results_row_tmp (by rfl) _ _ (w.heap.size + 1) 26 _ (0, 0) _ _ rfl rfl (setRow_heap _ _ _ _ _ _ hq3) Tryz.underlying26 rfl (Hi.out _ _ _ _ _ _ _)) rfl ⟨hBe, .inl ⟨rfl, hf⟩⟩
  · have hx2 : PBox W2 w.heap.size s A1 n c1 A2 nr c2 := ⟨y0, y1, y2⟩; cases ho : oneB s n gi rs
    · have hf : (pvB s gi rs && oneB s n gi rs) = false := by rw [ho, Bool.and_false]
      go_wp2_with (first | (refine wpList_store_row rfl 26 _ _ rfl w.heap.size #[.int .i64 s, .slice A1 n c1, .slice A2 nr c2] rfl rfl 26 #[.int .i64 s, .slice Ag n cg, .slice Ar nr cr] hp1 (Hi.out _ _ _ _ _ _ _) rfl (Hone.out _ _ _ _ _ _ _) ?_; rw [hW2]) | (go_at_call 22; refine (HV.out _ (Below.refl _ _)).mono ?_; rintro e w3 ⟨rfl, hb3⟩; rw [hv]; obtain ⟨x0, x1, x2⟩ := hx2.below (by omega : w.heap.size < W2.heap.size) hb3) | (go_at_call 169; refine (HO.out _ hb3).mono ?_; rintro e w4 ⟨rfl, hb4'⟩; rw [ho]; have hb4 := step hb3 hb4'; have hq4 := (hb4.block (w.heap.size + 1) hs2).trans hq2) | (refine wpList_store_row rfl 26 _ _ rfl (w.heap.size + 1) #[.int .i64 0, .slice none 0 0, .slice none 0 0] rfl rfl 26 #[.int .i64 0, .slice none 0 0, .slice none 0 0] hq4 (Hi.out _ _ _ _ _ _ _) rfl (Hone.out _ _ _ _ _ _ _) ?_))
      have hBe : Below w.heap.size w (w4.setRow (w.heap.size + 1) #[.int .i64 0, .slice none 0 0, .slice none 0 0]) := setRow_below5 (HB2.out.trans (hb4.mono HB2.out.size)) (by omega); exact bodyPost_ret (v := .tuple #[.agg #[.int .i64 0, .slice none 0 0, .slice none 0 0], .bool false]) (results_row_tmp (by rfl) _ _ (w.heap.size + 1) 26 _ (0, 0) _ _ rfl rfl (setRow_heap _ _ _ _ _ _ hq4) Tryz.underlying26 rfl (Hi.out _ _ _ _ _ _ _)) rfl ⟨hBe, .inl ⟨rfl, hf⟩⟩
    · have ht : (pvB s gi rs && oneB s n gi rs) = true := by rw [hv, ho]; rfl
      go_wp2_with (first | (refine wpList_store_row rfl 26 _ _ rfl w.heap.size #[.int .i64 s, .slice A1 n c1, .slice A2 nr c2] rfl rfl 26 #[.int .i64 s, .slice Ag n cg, .slice Ar nr cr] hp1 (Hi.out _ _ _ _ _ _ _) rfl (Hone.out _ _ _ _ _ _ _) ?_; rw [hW2]) | (go_at_call 22; refine (HV.out _ (Below.refl _ _)).mono ?_; rintro e w3 ⟨rfl, hb3⟩; rw [hv]; obtain ⟨x0, x1, x2⟩ := hx2.below (by omega : w.heap.size < W2.heap.size) hb3) | (go_at_call 169; refine (HO.out _ hb3).mono ?_; rintro e w4 ⟨rfl, hb4'⟩; rw [ho]; have hb4 := step hb3 hb4'; obtain ⟨x0', x1', x2'⟩ := hx2.below (by omega : w.heap.size < W2.heap.size) hb4))
      obtain ⟨hgi, _, _⟩ := pv_gv hv
      have hn4 : 0 < n := by
        obtain ⟨q2, q4⟩ := gv_size hgi; have := gv_len hgi; rw [hp.g.1] at this; have := (sq_bd q2 q4).1; omega
      obtain ⟨vs2, hown2, hin2⟩ := id hor2; have HX := Lib.hid (fun w' (hb : Below w4.heap.size w4 w') => (hx2.below (by omega : w.heap.size < W2.heap.size) (hb4.trans (hb.mono hb4.size)))); have HR1 := Lib.hid (fun w' (hb : Below w4.heap.size w4 w') => (ho2.rd.below (hb4.trans (hb.mono hb4.size))))
      have HOW := Lib.hid (fun w' (hb : Below w4.heap.size w4 w') => (show w'.ownsRow W0.heap.size 73 3 (.slice A2 nr c2) nr vs2 ∧ InR w' W0.heap.size (.slice none 0 0) rs vs2 nr from by
        have hbb := hb4.trans (hb.mono hb4.size); refine ⟨World.ownsRow.kept hown2 (row := none) ⟨hbb.os, hbb.tape, hbb.output, hbb.size, fun k hk _ => hbb.block k hk⟩ (by cases e : (Value.slice A2 nr c2).ownBlock <;> simp), fun i hi => ?_⟩; obtain ⟨A', c', e0, e1, e2, e3, e4, e5⟩ := hin2 i hi
        exact ⟨A', c', e0, e1, e2, Ow.below e3 hbb, e4, fun g hg e => by simp [Value.ownBlock] at e⟩))
      have hlo4 : W0.heap.size ≤ w4.heap.size := by
        have q1 := hb1.size; have q2 := hb4.size; have q3 : W2.heap.size = w1.heap.size := (by rw [← hW2]; simp); omega
      have hlo2 : W0.heap.size ≤ W2.heap.size := by
        have q1 := hb1.size; have q3 : W2.heap.size = w1.heap.size := (by rw [← hW2]; simp); omega
      have hm1 := hp.gm; have hK4 : W2.heap.size ≤ w4.heap.size := hb4.size
      have hcb : CbV vs2 nr (fun g => g < W2.heap.size) := fun i A' n' c' hi he g hg => by
        obtain ⟨A2', c2', _, e1, _, ho', _⟩ := hin2 i hi; rw [he] at e1
        injection e1 with e1
        rw [e1] at hg; exact ho'.own_hi g hg
      refine wp_region_ds [17, 18, 19, 20, 21, 22, 23, 24, 25, 26, 27, 4] (MakeG w.heap.size W0.heap.size W2.heap.size n s A1 c1 A2 nr c2 gi rs) (by kernel_rfl) (by kernel_rfl) (by simp) makeG_below ?step ?last
      case step =>
        intro i o a w' hi hoo hb hfr hpre; have e1 : a.eval (.tmp 1) = .pointer (some ⟨w.heap.size, 0, none⟩) := hfr 1 (by simp); obtain ⟨x0, x1, x2⟩ := HX.out w' hb; have hi12 : i < 12 := hi; have : i = 0 ∨ i = 1 ∨ i = 2 ∨ i = 3 ∨ i = 4 ∨ i = 5 ∨ i = 6 ∨ i = 7 ∨ i = 8 ∨ i = 9 ∨ i = 10 ∨ i = 11 := (by omega)
        rcases this with rfl | rfl | rfl | rfl | rfl | rfl | rfl | rfl | rfl | rfl | rfl | rfl
        all_goals
          simp only [List.getElem?_toArray, List.getElem?_cons_zero, List.getElem?_cons_succ, Option.some.injEq] at hoo; subst hoo
        · refine ⟨_, w', ?_, Below.refl _ _, rfl⟩; unfold execOp; simp only [e1]
          go_simp
        · have p0 := hpre ⟨0, .data⟩ (by simp) rfl; have p0' : a.eval (.tmp 17) = .pointer (some ⟨w.heap.size, 0, none⟩) := p0; refine ⟨_, w', ?_, Below.refl _ _, rfl⟩; unfold execOp; simp only [p0']
          go_simp
        · refine ⟨_, _, ?_, (Below.refl _ _).alloc (Nat.le_refl _) (.cells #[] 3), ⟨w'.heap.size, rfl⟩⟩; unfold execOp
          go_simp
        · refine ⟨_, w', ?_, Below.refl _ _, rfl⟩; unfold execOp; simp only [e1]
          go_simp
        · have p0' : a.eval (.tmp 20) = .pointer (some ⟨w.heap.size, 1, none⟩) := hpre ⟨3, .data⟩ (by simp) rfl; refine ⟨_, w', ?_, Below.refl _ _, rfl⟩; unfold execOp; simp only [p0']
          go_simp
        · obtain ⟨b, hb19⟩ : ∃ b, a.eval (.tmp 19) = .slice (some ⟨b, 0, none⟩) 0 0 := hpre ⟨2, .data⟩ (by simp) rfl; have p21 : a.eval (.tmp 21) = .slice A1 n c1 := hpre ⟨4, .data⟩ (by simp) rfl; obtain ⟨A', c', w2, hrun, q1, q2⟩ := fresh_ints 23 b A1 n c1 _ gi (HR1.out w' hb) hn4 hm1; refine ⟨.slice A' n c', w2, ?_, q2, A', c', rfl, q1.mono (Nat.le_trans hK4 hb.size)⟩; unfold execOp; simp only [resolve, invoke, builtin, Sem.run_bind, Sem.run_pure, Result.andThen_ok, List.map_toArray, List.map_cons, List.map_nil, hb19, p21, hrun]
        · refine ⟨_, _, ?_, (Below.refl _ _).alloc (Nat.le_refl _) (.cells #[] 73), ⟨w'.heap.size, rfl, heap_alloc_new _ _, Nat.le_trans hlo4 hb.size⟩⟩; unfold execOp
          go_simp
        · refine ⟨_, w', ?_, Below.refl _ _, rfl⟩; unfold execOp; simp only [e1]
          go_simp
        · have p0' : a.eval (.tmp 24) = .pointer (some ⟨w.heap.size, 2, none⟩) := hpre ⟨7, .data⟩ (by simp) rfl; refine ⟨_, w', ?_, Below.refl _ _, rfl⟩; unfold execOp; simp only [p0']
          go_simp
        · obtain ⟨b, hb23, hlit, hbl⟩ : ∃ b, a.eval (.tmp 23) = .slice (some ⟨b, 0, none⟩) 0 0 ∧ w'.heap[b]? = some (.cells #[] 73) ∧ W0.heap.size ≤ b := hpre ⟨6, .data⟩ (by simp) rfl; have p25 : a.eval (.tmp 25) = .slice A2 nr c2 := hpre ⟨8, .data⟩ (by simp) rfl; obtain ⟨hw1, hw2⟩ := HOW.out w' hb; obtain ⟨A', c', w2, hrun, ⟨q1, q1'⟩, q2⟩ := fresh_rulesV 24 b A2 nr c2 W0.heap.size W0.heap.size rs vs2 hrl hw1 hw2 hlit hbl hp.rm (Nat.le_trans hlo4 hb.size); refine ⟨.slice A' nr c', w2, ?_, q2, A', c', rfl, ⟨vs2, q1, q1'⟩, ⟨vs2, q1, hcb⟩⟩; unfold execOp; simp only [resolve, invoke, builtin, Sem.run_bind, Sem.run_pure, Result.andThen_ok, List.map_toArray, List.map_cons, List.map_nil, hb23, p25, hrun]
        · have p18 : a.eval (.tmp 18) = .int .i64 s := hpre ⟨1, .data⟩ (by simp) rfl; obtain ⟨A', c', p22, q22⟩ : ∃ A' c', a.eval (.tmp 22) = .slice A' n c' ∧ Ow w' W2.heap.size A' n c' gi := hpre ⟨5, .data⟩ (by simp) rfl; obtain ⟨A'', c'', p26, q26, q26'⟩ : ∃ A' c', a.eval (.tmp 26) = .slice A' nr c' ∧ OwR w' W0.heap.size (.slice A' nr c') rs nr ∧ SpQ w' W0.heap.size (.slice A' nr c') nr (fun g => g < W2.heap.size) := hpre ⟨9, .data⟩ (by simp) rfl; refine ⟨.agg #[.int .i64 s, .slice A' n c', .slice A'' nr c''], w', ?_, Below.refl _ _, A', c', A'', c'', rfl, q22, q26, q26'⟩; unfold execOp; simp only [List.map_toArray, List.map_cons, List.map_nil, p18, p22, p26]
          go_simp
        · refine ⟨_, _, ?_, (Below.refl _ _).alloc (Nat.le_refl _) (.cells #[.int .i64 0, .slice none 0 0, .slice none 0 0] 26), ⟨w'.heap.size, rfl, heap_alloc_new _ _, Nat.le_trans hlo4 hb.size⟩⟩; unfold execOp
          go_simp
      case last =>
        intro o a w5 hoo hb5 hdef htm hfr hpre; simp only [List.length_cons, List.length_nil, Nat.reduceAdd, List.getElem?_toArray, List.getElem?_cons_zero, List.getElem?_cons_succ, Option.some.injEq] at hoo; subst hoo; have g17 : a.tmps.getD 17 undef = .pointer (some ⟨w.heap.size, 0, none⟩) := hpre 0 (by simp); have g18 : a.tmps.getD 18 undef = .int .i64 s := hpre 1 (by simp); obtain ⟨b19, g19⟩ : ∃ b, a.tmps.getD 19 undef = .slice (some ⟨b, 0, none⟩) 0 0 := hpre 2 (by simp); have g20 : a.tmps.getD 20 undef = .pointer (some ⟨w.heap.size, 1, none⟩) := hpre 3 (by simp); have g21 : a.tmps.getD 21 undef = .slice A1 n c1 := hpre 4 (by simp)
        obtain ⟨A22, c22, g22, _⟩ : ∃ A' c', a.tmps.getD 22 undef = .slice A' n c' ∧ _ := hpre 5 (by simp); obtain ⟨b23, g23, _⟩ : ∃ b, a.tmps.getD 23 undef = .slice (some ⟨b, 0, none⟩) 0 0 ∧ _ := hpre 6 (by simp); have g24 : a.tmps.getD 24 undef = .pointer (some ⟨w.heap.size, 2, none⟩) := hpre 7 (by simp); have g25 : a.tmps.getD 25 undef = .slice A2 nr c2 := hpre 8 (by simp); obtain ⟨A26, c26, g26, _⟩ : ∃ A' c', a.tmps.getD 26 undef = .slice A' nr c' ∧ _ := hpre 9 (by simp); obtain ⟨A3, c3, A4, c4, g27, ho5, hor5, hsp5⟩ : ∃ A' c' A'' c'', a.tmps.getD 27 undef = .agg #[.int .i64 s, .slice A' n c', .slice A'' nr c''] ∧ Ow w5 W2.heap.size A' n c' gi ∧ OwR w5 W0.heap.size (.slice A'' nr c'') rs nr ∧ SpQ w5 W0.heap.size (.slice A'' nr c'') nr (fun g => g < W2.heap.size) := hpre 10 (by simp)
        obtain ⟨X, g4, hrX, hloX⟩ : ∃ X, a.tmps.getD 4 undef = .pointer (some ⟨X, 0, none⟩) ∧ w5.heap[X]? = some (.cells #[.int .i64 0, .slice none 0 0, .slice none 0 0] 26) ∧ W0.heap.size ≤ X := hpre 11 (by simp); have h4 : a.eval (.tmp 4) = .pointer (some ⟨X, 0, none⟩) := g4; have h27 : a.eval (.tmp 27) = .agg #[.int .i64 s, .slice A3 n c3, .slice A4 nr c4] := g27; refine ⟨w5.setRow X #[.int .i64 s, .slice A3 n c3, .slice A4 nr c4], ?_, ?_⟩
        · have hst := run_storeVar_row (P := Tryz.prog) w5 X 26 26 _ #[.int .i64 s, .slice A3 n c3, .slice A4 nr c4] hrX (Hi.out _ _ _ _ _ _ _) rfl (Hone.out _ _ _ _ _ _ _); unfold execOp; simp only [h4, h27, Instr.storeAt, Instr.sureAddr, Sem.run_bind, Sem.run_pure, Result.andThen_ok, hst]
        · have key := htm; simp only [List.foldl_cons, List.foldl_nil, g17, g18, g19, g20, g21, g22, g23, g24, g25, g26, g27, g4, List.setIfInBounds_toArray, List.set_cons_succ, List.set_cons_zero] at key; clear htm hfr hpre g17 g18 g19 g20 g21 g22 g23 g24 g25 g26 g27 g4 h4 h27; obtain ⟨tm, df⟩ := a
          dsimp only at key hdef
          subst key hdef; have hr5 := setRow_heap (w := w5) X _ #[.int .i64 s, .slice A3 n c3, .slice A4 nr c4] 26 _ hrX; have ho6 := ho5.setX (cs' := #[.int .i64 s, .slice A3 n c3, .slice A4 nr c4]) hrX; have hor6 := hor5.setX (cs' := #[.int .i64 s, .slice A3 n c3, .slice A4 nr c4]) hrX; have hsp6 := hsp5.setX (cs' := #[.int .i64 s, .slice A3 n c3, .slice A4 nr c4]) hrX; have hB6 : Below W0.heap.size W2 (w5.setRow X #[.int .i64 s, .slice A3 n c3, .slice A4 nr c4]) := setRow_below5 ((hb4.mono hlo2).trans (hb5.mono hlo4)) hloX; obtain ⟨w6, hw6⟩ : ∃ w6, w5.setRow X #[.int .i64 s, .slice A3 n c3, .slice A4 nr c4] = w6 := ⟨_, rfl⟩
          rw [hw6] at hr5 ho6 hor6 hsp6 hB6 ⊢; clear hw6 ho5 hor5 hsp5 hrX; have HB6 := Lib.hid hB6
          go_wp2
          go_loopw [5] (fun i wr => ∃ (k : Nat) (A7 A8 : Option Addr) (c7 c8 : Nat), k ≤ n ∧ i = .int .i64 k ∧ wr.heap[X]? = some (.cells #[.int .i64 s, .slice A7 n c7, .slice A8 nr c8] 26) ∧ Ow wr W2.heap.size A7 n c7 (minL s n rs gi k) ∧ (OwR wr W0.heap.size (.slice A8 nr c8) rs nr ∧ SpQ wr W0.heap.size (.slice A8 nr c8) nr (fun g => g < W2.heap.size)) ∧ Below W0.heap.size W2 wr) (fun i _ => n - (intOf i).toNat)
          case atStart => exact ⟨0, A3, A4, c3, c4, Nat.zero_le _, rfl, hr5, ho6, ⟨hor6, hsp6⟩, hB6⟩
          case round =>
            obtain ⟨k, A7, A8, c7, c8, hk, rfl, hr7, ho7, ⟨hor7, hsp7⟩, hb7⟩ := hrel; obtain ⟨x0, x1, x2⟩ : PBox wr X s A7 n c7 A8 nr c8 := ⟨cell_of_row _ _ 0 _ _ (0, 0) hr7, cell_of_row _ _ 1 _ _ (0, 0) hr7, cell_of_row _ _ 2 _ _ (0, 0) hr7⟩
            by_cases hlt : k < n
            · have hltI : (k : Int) < (n : Int) := (by omega); have hPk : PGs wr s A7 n c7 wr.heap.size (minL s n rs gi k) A8 nr c8 wr.heap.size rs := ⟨ho7.rd, Nat.le_refl _, hm1, hor7.rd hrl, Nat.le_refl _, hp.rm⟩; have hsX := (Array.getElem?_eq_some_iff.1 hr7).1
              have hsW : W0.heap.size ≤ wr.heap.size := by
                have q1 := hb7.size; omega
              have HRd := Lib.hid (specIsRedundant s A7 n c7 wr.heap.size (minL s n rs gi k) A8 nr c8 wr.heap.size rs (k : Int) wr hPk); have HWo := Lib.hid (fun w' (hb : Below wr.heap.size wr w') => specWithout (Bg := wr.heap.size) s A7 n c7 (minL s n rs gi k) A8 nr c8 k w' (hPk.below hb).g (hPk.below hb).gB hm1 hlt); have hb7' := hb7; cases hred : redB s n (minL s n rs gi k) rs k
              · have hml : minL s n rs gi (k + 1) = minL s n rs gi k := (by rw [minL, hred]; rfl); have Hml := Lib.hid hml; clear hml
                go_wp2_with (go_at_call 170; refine HRd.out.mono ?_; rintro e w8 ⟨rfl, hb8⟩; rw [hred]; have hr8 := (hb8.block X hsX).trans hr7; have ho8 := ho7.below hb8; have hor8 := hor7.below hb8; have hsp8 := hsp7.below hb8; have hB8 := hb7'.trans (hb8.mono hsW))
                refine ⟨⟨k + 1, A7, A8, c7, c8, hlt, by simp, hr8, by rw [Hml.out]; exact ho8, ⟨hor8, hsp8⟩, hB8⟩, by simp [intOf]; omega⟩
              · have hml : minL s n rs gi (k + 1) = (minL s n rs gi k).set k 0 := (by rw [minL, hred]; rfl); have Hml := Lib.hid hml; clear hml
                go_wp2_with (first | (go_at_call 170; refine HRd.out.mono ?_; rintro e w8 ⟨rfl, hb8⟩; rw [hred]; have hr8 := (hb8.block X hsX).trans hr7; have ho8 := ho7.below hb8; have hor8 := hor7.below hb8; have hsp8 := hsp7.below hb8; have hB8 := hb7'.trans (hb8.mono hsW); obtain ⟨y0, y1, y2⟩ : PBox w8 X s A7 n c7 A8 nr c8 := ⟨cell_of_row _ _ 0 _ _ (0, 0) hr8, cell_of_row _ _ 1 _ _ (0, 0) hr8, cell_of_row _ _ 2 _ _ (0, 0) hr8⟩) | (go_at_call 171; refine (HWo.out _ hb8).mono ?_; rintro e w9 ⟨A9, c9, rfl, ho9, hb9⟩; have hr9 := (hb9.block X (Nat.lt_of_lt_of_le hsX hb8.size)).trans hr8) | (refine wpList_store_row rfl 26 _ _ rfl X #[.int .i64 s, .slice A9 n c9, .slice A8 nr c8] rfl rfl 26 #[.int .i64 s, .slice A7 n c7, .slice A8 nr c8] hr9 (Hi.out _ _ _ _ _ _ _) rfl (Hone.out _ _ _ _ _ _ _) ?_))
                have ho10 : Ow (w9.setRow X #[.int .i64 s, .slice A9 n c9, .slice A8 nr c8]) W2.heap.size A9 n c9 ((minL s n rs gi k).set k 0) := (ho9.mono (Nat.le_trans hb7.size hb8.size)).setX hr9; refine ⟨⟨k + 1, A9, A8, c9, c8, hlt, by simp, setRow_heap _ _ _ _ _ _ hr9, by rw [Hml.out]; exact ho10, ⟨(hor8.below hb9).setX hr9, (hsp8.below hb9).setX hr9⟩, setRow_below5 (hB8.trans (hb9.mono (Nat.le_trans hsW hb8.size))) hloX⟩, by simp [intOf]; omega⟩
            · obtain rfl : k = n := by omega
              have hq7 := (hb7.block (w.heap.size + 1) (by omega)).trans hq2
              go_wp2_with (refine wpList_store_row rfl 26 _ _ rfl (w.heap.size + 1) #[.int .i64 s, .slice A7 k c7, .slice A8 nr c8] rfl rfl 26 #[.int .i64 0, .slice none 0 0, .slice none 0 0] hq7 (Hi.out _ _ _ _ _ _ _) rfl (Hone.out _ _ _ _ _ _ _) ?_)
              have hBe : Below w.heap.size w (wr.setRow (w.heap.size + 1) #[.int .i64 s, .slice A7 k c7, .slice A8 nr c8]) := setRow_below5 (HB2.out.trans (hb7.mono (by omega))) (by omega); exact bodyPost_ret (v := .tuple #[.agg #[.int .i64 s, .slice A7 k c7, .slice A8 nr c8], .bool true]) (results_row_tmp (by rfl) _ _ (w.heap.size + 1) 26 _ (0, 0) _ _ rfl rfl (setRow_heap _ _ _ _ _ _ hq7) Tryz.underlying26 rfl (Hi.out _ _ _ _ _ _ _)) rfl ⟨hBe, .inr ⟨ht, A7, c7, A8, c8, W2.heap.size, rfl, ho7.setX hq7, by omega, (hor7.setX hq7).mono (by omega), (hsp7.setX hq7).mono (by omega)⟩⟩
end Go.Proofs.YtchcmgaohcldjaaGreatDoor
