import Derived.Test.YtgejahkdiciplabVPuzB
import Derived.Test.YtgejahkdiciplabVW4E
import Derived.Test.YtgejahkdiciplabP5S
import Derived.Test.YtgejahkdiciplabQ4R
import Derived.Test.YtgejahkdiciplabQ4S
import Derived.Test.YtgejahkdiciplabVFresh
import Derived.Deep.RegionWith
set_option maxRecDepth 8000
namespace Go.Proofs.Ytgejahkdiciplab
open Go.ChangeShapes Go.WideShapes Go.ChangeAt Go.RowKit
/-- what a draw of a puzzle hands back. -/
def DrawnP (w : World) (e : Ending) (w' : World) : Prop := ∃ s A1 n c1 gi A2 nr c2 rs, e = .returned (.agg #[.int .i64 s, .slice A1 n c1, .slice A2 nr c2]) ∧ 2 ≤ s ∧ s ≤ 4 ∧ Rd w' w'.heap.size A1 n gi ∧ n ≤ 16 ∧ OwR w' w.heap.size (.slice A2 nr c2) rs nr ∧ rs.length = nr ∧ nr ≤ 100 ∧ Below w.heap.size w w'
theorem rd_keepV {w w' : World} {G B n : Nat} {A : Option Addr} {xs : List Int} (h : Rd w B A n xs) (hB : B ≤ w.heap.size) (hg : w.grownBy w' (some G)) (hne : ∀ b off, A = some ⟨b, off, none⟩ → G < b) : Rd w' B A n xs := by
  refine ⟨h.1, fun hn => ?_⟩
  obtain ⟨b, off, e, hlt, hc⟩ := h.2 hn
  exact ⟨b, off, e, hlt, fun k hk => (grown_at hg _ _ (hne b off e) (by omega)).trans (hc k hk)⟩
/-- without rules a valid puzzle is valid; with a rule of no kind it is not. -/
theorem pv_none {s : Int} {gi : List Int} {rs : List RuleM} (h : pvB s gi rs = true) : pvB s gi [] = true := pv_nil (pv_gv h).1
theorem rv_zero {v s : Int} {xs : List Int} : rv 0 xs v s = false := by
  have : kindOk 0 v xs.length s = false := by unfold kindOk; simp
  unfold rv
  rw [this, Bool.and_false]
theorem pv_zero {s v : Int} {gi xs : List Int} {rs : List RuleM} : pvB s gi (rs ++ [⟨0, xs, v⟩]) = false := by
  cases h : pvB s gi (rs ++ [⟨0, xs, v⟩])
  · rfl
  · have := (pv_gv h).2.2 rs.length (by simp)
    rw [show rs.length = rs.length + 0 from rfl, rat_right rfl] at this
    have e : rat [(⟨0, xs, v⟩ : RuleM)] 0 = ⟨0, xs, v⟩ := rfl
    rw [e, rvR] at this
    rw [rv_zero] at this
    cases this
set_option maxHeartbeats 4000000 in
theorem draw_DrawPuzzleValid (A : Option Addr) (n c : Nat) (bs : List Int) (w : World) (h : Code_ w A n c bs) : Calls Try.prog 10 #[.slice A n c] w (DrawnP w) := by
  have Hone := Lib.hid puz_one
  have Hi := Lib.hid puz_info
  have h1 := h.1.alloc_ (.cells #[.int .i64 0, .slice none 0 0, .slice none 0 0] 26)
  obtain ⟨w0, hW⟩ : ∃ w0, w0 = w.alloc (.cells #[.int .i64 0, .slice none 0 0, .slice none 0 0] 26) := ⟨_, rfl⟩
  rw [← hW] at h1
  have hRw : w.heap.size < w0.heap.size := by rw [hW]; simp
  have hb00 : Below w.heap.size w w0 := by rw [hW]; exact (Below.refl _ _).alloc (Nat.le_refl _) _
  have hR0 : w0.heap[w.heap.size]? = some (.cells #[.int .i64 0, .slice none 0 0, .slice none 0 0] 26) := by rw [hW]; exact heap_alloc_new w _
  have HW := Lib.hid hW
  clear hW
  go_enter Try.func10, Try.ntmps10
  go_wp2_with fail
  rw [← HW.out]
  refine (specOpen A c n bs w0 h1 h.2.1 h.2.2).mono ?_
  rintro e w1 ⟨rfl, hr, hb⟩
  have hR1 := (hb.block w.heap.size hRw).trans hR0
  have hG1 := hr.lt
  go_wp2_with fail
  refine (l20Puzzle_any w0.heap.size w0.heap.size 0 2 w1 hr (Nat.le_refl _) (by omega) (by omega)).mono ?_
  rintro e w2 ⟨s, A1, n1, c1, gi, A2, nr, c2, rs, rfl, s2, s4, hrd, hn16, hlo, hR, hl, hnr, hr2, hg, _⟩
  have h12 := hg.size
  have hR4 := (hg.block w.heap.size (Nat.lt_of_lt_of_le hRw hb.size) (fun e => by injection e with e; omega)).trans hR1
  have hb17 : Below w.heap.size w w2 := (hb00.trans (hb.mono hb00.size)).trans ⟨hg.os, hg.tape, hg.output, hg.size, fun j hj => hg.block j (Nat.lt_of_lt_of_le hj (Nat.le_trans hb00.size hb.size)) (fun e => by injection e with e; omega)⟩
  have hf : DrawnP w (.returned (.agg #[.int .i64 s, .slice A1 n1 c1, .slice A2 nr c2])) (w2.setRow w.heap.size #[.int .i64 s, .slice A1 n1 c1, .slice A2 nr c2]) := by
    have hgr : w2.grownBy (w2.setRow w.heap.size #[.int .i64 s, .slice A1 n1 c1, .slice A2 nr c2]) (some w.heap.size) := grown_row
    have hsz := hgr.size
    exact ⟨s, A1, n1, c1, gi, A2, nr, c2, rs, rfl, s2, s4, (rd_keepV hrd (Nat.le_refl _) hgr (fun b off e => by have := hlo b off e; omega)).more hsz, hn16, (hR.setX hR4).mono (by omega), hl, hnr, setRow_below5 hb17 (Nat.le_refl _)⟩
  clear hrd hR hlo hr hr2 hg
  go_wp2_with (refine wpList_store_row rfl 26 _ _ rfl w.heap.size #[.int .i64 s, .slice A1 n1 c1, .slice A2 nr c2] rfl rfl 26 #[.int .i64 0, .slice none 0 0, .slice none 0 0] hR4 (Hi.out _ _ _ _ _ _ _) rfl (Hone.out _ _ _ _ _ _ _) ?_)
  exact bodyPost_ret (v := .agg #[.int .i64 s, .slice A1 n1 c1, .slice A2 nr c2]) (results_cell_row (by rfl) _ _ w.heap.size 26 _ (0, 0) _ rfl (setRow_heap _ _ _ _ _ _ hR4) Try.underlying26 rfl (Hi.out _ _ _ _ _ _ _)) rfl hf
end Go.Proofs.Ytgejahkdiciplab
set_option maxRecDepth 8000
namespace Go.Proofs.Ytgejahkdiciplab
open Go.ChangeShapes Go.WideShapes Go.ChangeAt Go.RowKit
/-- a slice of rules whose cells' lengths keep to their capacities, as every slice of the program's does. -/
def RdRc (w : World) (B : Nat) (A : Option Addr) (n : Nat) (rs : List RuleM) : Prop :=
  rs.length = n ∧ (0 < n → ∃ b off, A = some ⟨b, off, none⟩ ∧ b < B ∧ ∀ i, i < n → ∃ A' c', w.cell? ⟨b, off + i * 3, none⟩ = some (.int .i64 (rat rs i).k) ∧ w.cell? ⟨b, off + i * 3 + 1, none⟩ = some (.slice A' (rat rs i).xs.length c') ∧ w.cell? ⟨b, off + i * 3 + 2, none⟩ = some (.int .i64 (rat rs i).v) ∧ Rd w B A' (rat rs i).xs.length (rat rs i).xs ∧ (rat rs i).xs.length ≤ 1099511627776 ∧ (rat rs i).xs.length ≤ c')
theorem RdRc.below {w w' : World} {B : Nat} {A : Option Addr} {n : Nat} {rs : List RuleM} (h : RdRc w B A n rs) (hb : Below B w w') : RdRc w' B A n rs :=
  ⟨h.1, fun hn => by
    obtain ⟨b, off, e, hlt, hc⟩ := h.2 hn
    refine ⟨b, off, e, hlt, fun i hi => ?_⟩
    obtain ⟨A', c', h0, h1, h2, h3, h4, h5⟩ := hc i hi
    exact ⟨A', c', (hb.cell (p := ⟨b, off + i * 3, none⟩) hlt).trans h0, (hb.cell (p := ⟨b, off + i * 3 + 1, none⟩) hlt).trans h1, (hb.cell (p := ⟨b, off + i * 3 + 2, none⟩) hlt).trans h2, h3.below hb, h4, h5⟩⟩
theorem RdRc.rd {w : World} {B : Nat} {A : Option Addr} {n : Nat} {rs : List RuleM} (h : RdRc w B A n rs) : RdRs w B A n rs :=
  ⟨h.1, fun hn => by
    obtain ⟨b, off, e, hlt, hc⟩ := h.2 hn
    refine ⟨b, off, e, hlt, fun i hi => ?_⟩
    obtain ⟨A', c', h0, h1, h2, h3, h4, h5⟩ := hc i hi
    exact ⟨A', c', h0, h1, h2, h3, h4⟩⟩
theorem OwR.rdc {w : World} {lo k c : Nat} {A : Option Addr} {rs : List RuleM} (hl : rs.length = k) (h : OwR w lo (.slice A k c) rs k) : RdRc w w.heap.size A k rs := by
  refine ⟨hl, fun hn => ?_⟩
  obtain ⟨vs, hown, hin⟩ := h
  obtain ⟨hvl, hcase⟩ := id hown
  rcases hcase with ⟨_, h0⟩ | ⟨g, cap, cur, hv, hlog, hrow, h1, h2, h3, h4⟩
  · omega
  · injection hv with hA _ _
    subst hA
    have hlt : g < w.heap.size := (Array.getElem?_eq_some_iff.1 hrow).1
    have hcell : ∀ j u, vs[j]? = some u → w.cell? ⟨g, 0 + j, none⟩ = some u := fun j u hj => by
      rw [Nat.zero_add, cell_of_row w g j cur _ _ hrow]
      rw [← h4, List.getElem?_take] at hj
      split at hj
      · simpa using hj
      · cases hj
    refine ⟨g, 0, rfl, hlt, fun i hi => ?_⟩
    obtain ⟨A', c', e0, e1, e2, e3, e4, e5⟩ := hin i hi
    exact ⟨A', c', hcell _ _ e0, by rw [Nat.add_assoc]; exact hcell _ _ e1, by rw [Nat.add_assoc]; exact hcell _ _ e2, e3.rd, e4, e3.le_cap⟩
def rulesB (s : Int) (rs : List RuleM) : Bool := (List.range rs.length).all fun i => rvR s (rat rs i)
set_option maxHeartbeats 1000000 in
theorem rulesValid_any (s : Int) (Ag : Option Addr) (ng cg : Nat) (Ar : Option Addr) (nr cr Br : Nat) (rs : List RuleM) (w : World) (hr : RdRc w Br Ar nr rs) (hBr : Br ≤ w.heap.size) (hmr : nr ≤ 1099511627776) :
    Calls Try.prog 79 #[.agg #[.int .i64 s, .slice Ag ng cg, .slice Ar nr cr]] w fun e w' => e = .returned (.bool (rulesB s rs)) ∧ Below w.heap.size w w' := by
  have hlen := Lib.hid hr.1
  have hx0 := pbox_new w s Ag ng cg Ar nr cr 26
  have hb0 : Below w.heap.size w (w.alloc (.cells #[.int .i64 s, .slice Ag ng cg, .slice Ar nr cr] 26)) := (Below.refl _ _).alloc (Nat.le_refl _) _
  have hs0 : w.heap.size + 1 ≤ (w.alloc (.cells #[.int .i64 s, .slice Ag ng cg, .slice Ar nr cr] 26)).heap.size := by simp
  obtain ⟨z0, z1, z2⟩ := id hx0
  have HR := Lib.hid (fun (w' : World) (hb : Below w.heap.size w w') => hr.below (hb.mono hBr))
  go_enter Try.func79, Try.ntmps79
  go_wp2
  go_loopw [8] (fun i wr => ∃ u : Nat, u ≤ nr ∧ i = .int .i64 u ∧ Hid (allR (rvR s) rs u) ∧ PBox wr w.heap.size s Ag ng cg Ar nr cr ∧ Below w.heap.size w wr ∧ w.heap.size + 1 ≤ wr.heap.size) (fun i _ => nr - (intOf i).toNat)
  case atStart => exact ⟨0, Nat.zero_le _, rfl, Lib.hid (fun j hj => absurd hj (by omega)), hx0, hb0, hs0⟩
  case round =>
    obtain ⟨u, hu, rfl, hall, hx, hb, hsw⟩ := hrel
    obtain ⟨c0, c1, c2⟩ := id hx
    by_cases hlt : u < nr
    · obtain ⟨b, off, rfl, hbB, hcc⟩ := (HR.out _ hb).2 (by omega)
      obtain ⟨A', c', r0, r1, r2, r3, r4, r5⟩ := hcc u hlt
      obtain ⟨rk, hrk⟩ : ∃ x, x = (rat rs u).k := ⟨_, rfl⟩
      obtain ⟨rx, hrx⟩ : ∃ x, x = (rat rs u).xs := ⟨_, rfl⟩
      obtain ⟨rvv, hrv⟩ : ∃ x, x = (rat rs u).v := ⟨_, rfl⟩
      have hrr : rvR s (rat rs u) = rv rk rx rvv s := by simp only [rvR, hrk, hrx, hrv]
      rw [← hrk] at r0
      rw [← hrx] at r1 r3 r4 r5
      rw [← hrv] at r2
      have hin : (u : Int) < (nr : Int) := by omega
      have hy := rbox_new wr rk A' rx.length c' rvv 30
      have hb1 : Below wr.heap.size wr (wr.alloc (.cells #[.int .i64 rk, .slice A' rx.length c', .int .i64 rvv] 30)) := (Below.refl _ _).alloc (Nat.le_refl _) _
      obtain ⟨y0, y1, y2⟩ := id hy
      have hx1 := hx.below (Nat.lt_of_lt_of_le (Nat.lt_succ_self _) hsw) hb1
      obtain ⟨d0, d1, d2⟩ := id hx1
      have HC := Lib.hid (implRuleValid A' c' rx.length Br rx rk rvv s (wr.alloc (.cells #[.int .i64 rk, .slice A' rx.length c', .int .i64 rvv] 30)) (r3.below (hb1.mono (Nat.le_trans hBr hb.size))) (Nat.le_trans (Nat.le_trans hBr hb.size) hb1.size) r4 r5)
      have hbw := hb.trans (hb1.mono hb.size)
      have hs1 : w.heap.size < (wr.alloc (.cells #[.int .i64 rk, .slice A' rx.length c', .int .i64 rvv] 30)).heap.size := by simp; omega
      cases hv : rv rk rx rvv s
      · have HL := Lib.hid (show rulesB s rs = false from not_all_rat hlen.out hlt (hrr.trans hv))
        clear hrk hrx hrv hcc hrr
        go_wp2_with (go_at_call 55; refine HC.out.mono ?_; rintro e w3 ⟨rfl, hb3⟩; rw [hv])
        go_ret
        exact ⟨by rw [HL.out]; rfl, step hbw hb3⟩
      · have hall2 := Lib.hid (show allR (rvR s) rs (u + 1) from fun i hi => by
          by_cases e : i = u
          · subst e; exact hrr.trans hv
          · exact hall.out i (by omega))
        clear hrk hrx hrv hcc hrr
        go_wp2_with (go_at_call 55; refine HC.out.mono ?_; rintro e w3 ⟨rfl, hb3⟩; rw [hv])
        go_roundw
        case rel => exact ⟨u + 1, hlt, by go_num, hall2, hx1.below hs1 hb3, step hbw hb3, Nat.le_trans hs1 hb3.size⟩
        case measure => simp [intOf]; omega
    · obtain rfl : u = nr := by omega
      have HL := Lib.hid (show rulesB s rs = true from all_rat hlen.out hall.out)
      go_wp2
      go_ret
      exact ⟨by rw [HL.out]; rfl, hb⟩
/-- a puzzle and a grid that the program reads. -/
structure PGc (w : World) (s : Int) (Ag : Option Addr) (ng cg Bg : Nat) (gi : List Int) (Ar : Option Addr) (nr cr Br : Nat) (rs : List RuleM) : Prop where
  g : Rd w Bg Ag ng gi
  gB : Bg ≤ w.heap.size
  gm : ng ≤ 1099511627776
  r : RdRc w Br Ar nr rs
  rB : Br ≤ w.heap.size
  rm : nr ≤ 1099511627776
theorem PGc.below {w w' : World} {s : Int} {Ag : Option Addr} {ng cg Bg : Nat} {gi : List Int} {Ar : Option Addr} {nr cr Br : Nat} {rs : List RuleM} (h : PGc w s Ag ng cg Bg gi Ar nr cr Br rs) (hb : Below w.heap.size w w') : PGc w' s Ag ng cg Bg gi Ar nr cr Br rs :=
  ⟨h.g.below (hb.mono h.gB), Nat.le_trans h.gB hb.size, h.gm, h.r.below (hb.mono h.rB), Nat.le_trans h.rB hb.size, h.rm⟩
theorem PGc.rd {w : World} {s : Int} {Ag : Option Addr} {ng cg Bg : Nat} {gi : List Int} {Ar : Option Addr} {nr cr Br : Nat} {rs : List RuleM} (h : PGc w s Ag ng cg Bg gi Ar nr cr Br rs) : PGs w s Ag ng cg Bg gi Ar nr cr Br rs := ⟨h.g, h.gB, h.gm, h.r.rd, h.rB, h.rm⟩
set_option maxHeartbeats 1000000 in
theorem valid_any (s : Int) (Ag : Option Addr) (ng cg Bg : Nat) (gi : List Int) (Ar : Option Addr) (nr cr Br : Nat) (rs : List RuleM) (w : World) (hp : PGc w s Ag ng cg Bg gi Ar nr cr Br rs) :
    Calls Try.prog 40 #[.agg #[.int .i64 s, .slice Ag ng cg, .slice Ar nr cr]] w fun e w' => e = .returned (.bool (pvB s gi rs)) ∧ Below w.heap.size w w' := by
  have hlen := Lib.hid hp.r.1
  have hx0 := pbox_new w s Ag ng cg Ar nr cr 26
  have hb0 : Below w.heap.size w (w.alloc (.cells #[.int .i64 s, .slice Ag ng cg, .slice Ar nr cr] 26)) := (Below.refl _ _).alloc (Nat.le_refl _) _
  have hs0 : w.heap.size < (w.alloc (.cells #[.int .i64 s, .slice Ag ng cg, .slice Ar nr cr] 26)).heap.size := by simp
  obtain ⟨z0, z1, z2⟩ := id hx0
  have HG := Lib.hid (fun w' (hb : Below w.heap.size w w') => implGridValid Ag cg ng Bg gi s w' (hp.below hb).g (hp.below hb).gB hp.gm)
  have HR := Lib.hid (fun w' (hb : Below w.heap.size w w') => rulesValid_any s Ag ng cg Ar nr cr Br rs w' (hp.below hb).r (hp.below hb).rB hp.rm)
  cases hg : gv gi s
  · have HL := Lib.hid (show pvB s gi rs = false by simp [pvB, hg])
    go_enter Try.func40, Try.ntmps40
    go_wp2_with (go_at_call 44; refine (HG.out _ hb0).mono ?_; rintro e w1 ⟨rfl, hb1⟩; rw [hg])
    go_ret
    exact ⟨by rw [HL.out]; rfl, step hb0 hb1⟩
  · by_cases hn : (nr : Int) ≤ 20
    · have HL := Lib.hid (show pvB s gi rs = rulesB s rs by
        unfold pvB rulesB
        rw [hg, decide_eq_true (by rw [hlen.out]; omega), Bool.and_true, Bool.and_true])
      go_enter Try.func40, Try.ntmps40
      go_wp2_with (first | (go_at_call 44; refine (HG.out _ hb0).mono ?_; rintro e w1 ⟨rfl, hb1⟩; rw [hg]; have h01 := step hb0 hb1; obtain ⟨c0, c1, c2⟩ := hx0.below hs0 hb1) | (go_at_call 79; refine (HR.out _ h01).mono ?_; rintro e w2 ⟨rfl, hb2⟩))
      go_ret
      exact ⟨by rw [HL.out]; rfl, step h01 hb2⟩
    · have HL := Lib.hid (show pvB s gi rs = false by
        unfold pvB
        rw [show decide (rs.length ≤ 20) = false from decide_eq_false (by rw [hlen.out]; omega), Bool.and_false])
      go_enter Try.func40, Try.ntmps40
      go_wp2_with (go_at_call 44; refine (HG.out _ hb0).mono ?_; rintro e w1 ⟨rfl, hb1⟩; rw [hg]; have h01 := step hb0 hb1; obtain ⟨c0, c1, c2⟩ := hx0.below hs0 hb1)
      go_ret
      exact ⟨by rw [HL.out]; rfl, h01⟩
theorem implPuzzleValid (s : Int) (Ag : Option Addr) (ng cg Bg : Nat) (gi : List Int) (Ar : Option Addr) (nr cr Br : Nat) (rs : List RuleM) (w : World) (hp : PGc w s Ag ng cg Bg gi Ar nr cr Br rs) :
    Calls Try.prog 11 #[.agg #[.int .i64 s, .slice Ag ng cg, .slice Ar nr cr]] w fun e w' => e = .returned (.bool (pvB s gi rs)) ∧ Below w.heap.size w w' := by
  have hx0 := pbox_new w s Ag ng cg Ar nr cr 26
  have hb0 : Below w.heap.size w (w.alloc (.cells #[.int .i64 s, .slice Ag ng cg, .slice Ar nr cr] 26)) := (Below.refl _ _).alloc (Nat.le_refl _) _
  obtain ⟨z0, z1, z2⟩ := id hx0
  have HV := Lib.hid (valid_any s Ag ng cg Bg gi Ar nr cr Br rs _ (hp.below hb0))
  go_enter Try.func11, Try.ntmps11
  go_wp2_with (go_at_call 40; refine HV.out.mono ?_; rintro e w1 ⟨rfl, hb1⟩)
  go_ret
  exact ⟨rfl, step hb0 hb1⟩
end Go.Proofs.Ytgejahkdiciplab
set_option maxRecDepth 8000
namespace Go.Proofs.Ytgejahkdiciplab
open Go.ChangeShapes Go.WideShapes Go.ChangeAt Go.RowKit
/-! An append to a slice of rules of the call's own, and what it leaves of the blocks of rules that were there. -/
def RK (m : Nat) (z : List Value) (w w' : World) : Prop := ∀ (b : Nat) (row : Array Value), w.heap[b]? = some (.cells row 30) → ∃ row' : Array Value, w'.heap[b]? = some (.cells row' 30) ∧ (row' = row ∨ (0 < m ∧ m * 3 + 3 ≤ row.size ∧ row'.size = row.size ∧ row'.toList.take (m * 3 + 3) = row.toList.take (m * 3) ++ z))
theorem RK.of_below {m : Nat} {z : List Value} {w w' : World} (h : Below w.heap.size w w') : RK m z w w' := fun b row hb => ⟨row, (h.block b (Array.getElem?_eq_some_iff.1 hb).1).trans hb, .inl rfl⟩
theorem RK.same {m b : Nat} {z : List Value} {w w' : World} {row : Array Value} (h : RK m z w w') (hb : w.heap[b]? = some (.cells row 30)) (hs : m = 0 ∨ row.size ≤ m * 3) : w'.heap[b]? = some (.cells row 30) := by
  obtain ⟨row', h1, h2⟩ := h b row hb
  rcases h2 with rfl | ⟨h2, h3, _⟩
  · exact h1
  · omega
theorem RK.own {m base c : Nat} {w w' : World} {A : Option Addr} {z xs : List Value} (h : RK m z w w') (ho : w.ownsRow base 30 3 (.slice A m c) m xs) : w'.ownsRow base 30 3 (.slice A m c) m xs := by
  refine ⟨ho.1, ?_⟩
  rcases ho.2 with hn | ⟨g, cap, cur, hv, hb, hg, h1, h2, h3, h4⟩
  · exact .inl hn
  · obtain ⟨row', k1, k2⟩ := h g cur hg
    rcases k2 with rfl | ⟨_, _, k3, k4⟩
    · exact .inr ⟨g, cap, row', hv, hb, k1, h1, h2, h3, h4⟩
    · refine .inr ⟨g, cap, row', hv, hb, k1, h1, h2, k3.trans h3, ?_⟩
      have e : row'.toList.take (m * 3) = (row'.toList.take (m * 3 + 3)).take (m * 3) := by rw [List.take_take, Nat.min_eq_left (by omega)]
      have hl : (cur.toList.take (m * 3)).length = m * 3 := by rw [List.length_take, Array.length_toList]; omega
      rw [e, k4, List.take_append_of_le_length (by omega), List.take_of_length_le (by omega)]
      exact h4
theorem RK.own1 {m base c : Nat} {w w' : World} {A : Option Addr} {z xs : List Value} (h : RK m z w w') (hl : xs.length = m * 3) (ho : w.ownsRow base 30 3 (.slice A (m + 1) c) (m + 1) (xs ++ z)) : w'.ownsRow base 30 3 (.slice A (m + 1) c) (m + 1) (xs ++ z) := by
  refine ⟨ho.1, ?_⟩
  rcases ho.2 with hn | ⟨g, cap, cur, hv, hb, hg, h1, h2, h3, h4⟩
  · exact .inl hn
  · obtain ⟨row', k1, k2⟩ := h g cur hg
    rcases k2 with rfl | ⟨_, _, k3, k4⟩
    · exact .inr ⟨g, cap, row', hv, hb, k1, h1, h2, h3, h4⟩
    · refine .inr ⟨g, cap, row', hv, hb, k1, h1, h2, k3.trans h3, ?_⟩
      have e2 : cur.toList.take (m * 3) = xs := by
        have e : cur.toList.take (m * 3) = (cur.toList.take ((m + 1) * 3)).take (m * 3) := by rw [List.take_take, Nat.min_eq_left (by omega)]
        rw [e, h4, List.take_append_of_le_length (by omega), List.take_of_length_le (by omega)]
      rw [show (m + 1) * 3 = m * 3 + 3 by omega, k4, e2]
theorem RK.alloc {m : Nat} {z : List Value} {w : World} (o : Obj) : RK m z w (w.drew.alloc o) := fun b row hb => ⟨row, (heap_alloc_old w.drew o (show b < w.drew.heap.size from (Array.getElem?_eq_some_iff.1 hb).1)).trans hb, .inl rfl⟩
/-- 'append(xs, r)'. -/
theorem push_own {w : World} (ty : TypeId) (base n c b c2 : Nat) (A : Option Addr) (xs : List Value) (z0 z1 z2 : Value) (hown : w.ownsRow base 30 3 (.slice A n c) n xs) (h0 : n = 0 → c = 0)
    (hb : w.heap[b]? = some (.cells #[z0, z1, z2] 30)) (h1 : ∀ u ∈ [z0, z1, z2], u.oneCell' = true) (hn : n ≤ 1099511627776) (hbase : base ≤ w.heap.size) :
    ∃ A' c' w', (Builtin.append_ #[24, 24] ty #[.slice A n c, .slice (some ⟨b, 0, none⟩) 1 c2]).run Try.prog w = .ok (.slice A' (n + 1) c') w' ∧ w'.ownsRow base 30 3 (.slice A' (n + 1) c') (n + 1) (xs ++ [z0, z1, z2]) ∧ w.grownBy w' (Value.slice A n c).ownBlock ∧ RK n [z0, z1, z2] w w' := by
  obtain ⟨i0, hi, hz0, hz1, hz2⟩ := info_parts rule_parts
  have hcell : ∀ j u, [z0, z1, z2][j]? = some u → w.cell? ((⟨b, 0, none⟩ : Addr).add j) = some u := fun j u hj => World.news_of_block hb j u (by simpa using hj)
  obtain ⟨g, cap, w', hrun, k2, k3, k4, k5⟩ := run_append_lies (P := Try.prog) w 24 ty base 30 i0 (.agg #[.int .i64 0, .slice none 0 0, .int .i64 0]) 3 40 Try.underlying24 hi hz0 hz1 hz2 rfl (by decide) _ n xs hown ⟨b, 0, none⟩ 1 c2 [z0, z1, z2] rfl hcell h1 (by omega) (by simp only [maxLen]; omega) (by omega) hbase _ rfl
  refine ⟨_, _, w', hrun, k2, k3, ?_⟩
  rcases hown.2 with ⟨hv, hn0⟩ | ⟨g1, cap1, cur, hv, hbg, hg, hnc, hcm, hcs, htake⟩
  · injection hv with e1 e2 e3
    subst e1 e2 e3
    have hr := run_append_nil (P := Try.prog) w 24 ty 30 i0 _ Try.underlying24 hi hz0 ⟨b, 0, none⟩ 1 c2 [z0, z1, z2] (by rw [hz1]; rfl) hcell (by omega) (by omega) (by rw [hz2]; omega)
    rw [hrun] at hr
    injection hr with _ hr
    rw [hr]
    exact RK.alloc _
  · injection hv with e1 _ e3
    subst e1 e3
    by_cases hroom : n + 1 ≤ c
    · have hpos : 0 < n := by
        rcases Nat.eq_zero_or_pos n with e | e
        · have := h0 e; omega
        · exact e
      have hfit : n * i0.size + [z0, z1, z2].length ≤ cur.size := by
        rw [hz1, hcs]
        show n * 3 + 3 ≤ c * 3
        omega
      have hr := run_append_room (P := Try.prog) w 24 ty 30 i0 Try.underlying24 hi g1 n c cur hg ⟨b, 0, none⟩ 1 c2 [z0, z1, z2] (by rw [hz1]; rfl) hcell h1 hroom hfit
      rw [hrun] at hr
      injection hr with _ hr
      rw [hr, hz1]
      intro b2 row hb2
      by_cases e : b2 = g1
      · subst e
        rw [hg] at hb2
        injection hb2 with hb2
        injection hb2 with hb2 _ _
        subst hb2
        have hln : n * 3 + 3 ≤ cur.toList.length := by rw [Array.length_toList, hcs]; omega
        refine ⟨_, setRow_heap w b2 cur _ 30 _ hg, .inr ⟨hpos, by rw [hcs]; omega, ?_, ?_⟩⟩
        · simp only [List.size_toArray, List.length_append, List.length_take, List.length_drop, List.length_cons, List.length_nil]
          rw [Array.length_toList] at hln ⊢
          omega
        · show ((cur.toList.take (n * 3) ++ [z0, z1, z2] ++ cur.toList.drop (n * 3 + 3)).take (n * 3 + 3)) = _
          have hl3 : (cur.toList.take (n * 3) ++ [z0, z1, z2]).length = n * 3 + 3 := by
            rw [List.length_append, List.length_take, Nat.min_eq_left (by omega)]; rfl
          rw [← hl3, List.take_left]
      · exact ⟨row, (setRow_other w g1 b2 _ e).trans hb2, .inl rfl⟩
    · have holds : ∀ j u, xs[j]? = some u → w.cell? ((⟨g1, 0, none⟩ : Addr).add j) = some u := hown.cells (g := g1) rfl
      have hr := run_append_grow (P := Try.prog) w 24 ty 30 i0 _ Try.underlying24 hi hz0 ⟨g1, 0, none⟩ n c xs (by rw [hz1]; exact hown.1) holds ⟨b, 0, none⟩ 1 c2 [z0, z1, z2] (by rw [hz1]; rfl) hcell (by omega) (by omega) (growslice_fits (by omega) (by rw [hz2]; omega))
      rw [hrun] at hr
      injection hr with _ hr
      rw [hr]
      exact RK.alloc _
/-- 'append([]impl.Rule{}, xs...)', xs being anywhere. -/
theorem fresh_own {w : World} (ty : TypeId) (b : Nat) (A2 : Option Addr) (m c2 base lo2 : Nat) (vs2 : List Value) (hown2 : w.ownsRow lo2 30 3 (.slice A2 m c2) m vs2) (h1 : ∀ u ∈ vs2, u.oneCell' = true)
    (hlit : w.heap[b]? = some (.cells #[] 30)) (hb : base ≤ b) (hm : m ≤ 1099511627776) (hlo : base ≤ w.heap.size) :
    ∃ A' c' w', (Builtin.append_ #[24, 24] ty #[.slice (some ⟨b, 0, none⟩) 0 0, .slice A2 m c2]).run Try.prog w = .ok (.slice A' m c') w' ∧ w'.ownsRow base 30 3 (.slice A' m c') m vs2 ∧ (m = 0 → c' = 0) ∧ Below w.heap.size w w' := by
  obtain ⟨i0, hi, hz0, hz1, hz2⟩ := info_parts rule_parts
  by_cases h0 : 0 < m
  · obtain ⟨hvl2, hcase⟩ := id hown2
    rcases hcase with ⟨_, h00⟩ | ⟨g2, cap2, cur, hv, _, hrow, q1, q2, q3, q4⟩
    · omega
    · injection hv with e1 _ e2
      subst e1
      have hcell : ∀ j u, vs2[j]? = some u → w.cell? ((⟨g2, 0, none⟩ : Addr).add j) = some u := fun j u hj => by
        have hadd : (⟨g2, 0, none⟩ : Addr).add j = ⟨g2, j, none⟩ := by unfold Addr.add; split <;> simp_all
        rw [hadd, cell_of_row w g2 j cur _ _ hrow]
        rw [← q4, List.getElem?_take] at hj
        split at hj
        · simpa using hj
        · cases hj
      obtain ⟨g, cap, w', hrun, k2, k3, k4, k5⟩ := run_append_lies (P := Try.prog) w 24 ty base 30 i0 (.agg #[.int .i64 0, .slice none 0 0, .int .i64 0]) 3 40 Try.underlying24 hi hz0 hz1 hz2 rfl (by decide) _ 0 [] (World.ownsRow_nil _ _ _ _) ⟨g2, 0, none⟩ m c2 vs2 hvl2 hcell h1 h0 (by simp only [maxLen]; omega) (by omega) hlo _ rfl
      rw [Nat.zero_add] at hrun k2
      rw [List.nil_append] at k2
      exact ⟨_, _, w', (fresh_same ty Try.underlying24 hi hz0 b _ m c2 vs2 (by rw [hvl2, hz1]) hcell h0 (by omega) (by rw [hz2]; omega)).trans hrun, k2, fun e => by omega, below_none k3⟩
  · obtain rfl : m = 0 := by omega
    have hsrc : Go.Src Try.prog i0.size 24 (.slice A2 0 c2) 0 [] w := by
      cases A2 with
      | none => exact Go.Src.ofNil w Try.underlying24 c2
      | some a => exact Go.Src.ofSlice w Try.underlying24 a 0 c2 [] (by simp) (fun j u hj => by simp at hj) (fun u hu => by simp at hu)
    refine ⟨some ⟨b, 0, none⟩, 0, w, run_append_nothing w 24 24 ty 30 i0 Try.underlying24 hi (some ⟨b, 0, none⟩) 0 0 (Nat.zero_le _) _ hsrc, by rw [show vs2 = [] from List.eq_nil_of_length_eq_zero (by rw [hown2.1, Nat.zero_mul])]; exact ⟨by simp, .inr ⟨b, 0, #[], rfl, hb, hlit, Nat.le_refl _, by simp [maxLen], by simp, by simp⟩⟩, fun _ => rfl, Below.refl _ _⟩
theorem own_below {w w' : World} {lo k : Nat} {v : Value} {vs : List Value} (h : w.ownsRow lo 30 3 v k vs) (hb : Below w.heap.size w w') : w'.ownsRow lo 30 3 v k vs :=
  World.ownsRow.kept h (row := none) ⟨hb.os, hb.tape, hb.output, hb.size, fun k hk _ => hb.block k hk⟩ (by cases e : v.ownBlock <;> simp)
/-- the appended slice of rules, as the puzzle's. -/
theorem pushed_owR {W w : World} {base lo n c c2 : Nat} {A A2 : Option Addr} {rs : List RuleM} {vs : List Value} (hin : InR W lo (.slice A2 n c2) rs vs n) (hhi : CbV vs n (fun g => g < W.heap.size)) (hl : rs.length = n) (hb : Below W.heap.size W w) (hlo : lo ≤ W.heap.size) (hbase : W.heap.size ≤ base)
    (ho : w.ownsRow base 30 3 (.slice A (n + 1) c) (n + 1) (vs ++ [.int .i64 0, .slice none 0 0, .int .i64 0])) (hv : vs.length = n * 3) : OwR w lo (.slice A (n + 1) c) (rs ++ [⟨0, [], 0⟩]) (n + 1) := by
  have hown : w.ownsRow lo 30 3 (.slice A (n + 1) c) (n + 1) (vs ++ [.int .i64 0, .slice none 0 0, .int .i64 0]) := by
    refine ⟨ho.1, ?_⟩
    rcases ho.2 with hn | ⟨g, cap, cur, hv, hbb, rest⟩
    · exact .inl hn
    · exact .inr ⟨g, cap, cur, hv, Nat.le_trans hlo (Nat.le_trans hbase hbb), rest⟩
  refine ⟨_, hown, fun i hi => ?_⟩
  by_cases hlt : i < n
  · obtain ⟨A', c', e0, e1, e2, e3, e4, e5⟩ := hin i hlt
    rw [rat_left hl hlt]
    refine ⟨A', c', by rw [List.getElem?_append_left (by omega)]; exact e0, by rw [List.getElem?_append_left (by omega)]; exact e1, by rw [List.getElem?_append_left (by omega)]; exact e2, e3.below hb, e4, fun g hg e => ?_⟩
    have h1 := hhi i _ _ _ hlt e1 g hg
    have h2 := (World.ownsRow.lt ho g e).1
    omega
  · obtain rfl : i = n := by omega
    have e : rat (rs ++ [⟨0, [], 0⟩]) i = ⟨0, [], 0⟩ := by
      have := rat_right (rs1 := rs) (rs2 := [⟨0, [], 0⟩]) (n := i) (i := 0) hl
      exact this
    rw [e]
    refine ⟨none, 0, by rw [List.getElem?_append_right (by omega), hv, Nat.sub_self]; rfl, by rw [List.getElem?_append_right (by omega), hv, show i * 3 + 1 - i * 3 = 1 by omega]; rfl, by rw [List.getElem?_append_right (by omega), hv, show i * 3 + 2 - i * 3 = 2 by omega]; rfl, Ow.nil_ _ _, by simp, fun g hg => by simp [Value.ownBlock] at hg⟩
end Go.Proofs.Ytgejahkdiciplab
set_option maxRecDepth 8000
namespace Go.Proofs.Ytgejahkdiciplab
open Go.ChangeShapes Go.WideShapes Go.ChangeAt Go.RowKit
/-- what an operation of the last region does to the world. -/
def pvE (nr i : Nat) (w w' : World) : Prop := match i with
  | 21 => RK nr [Value.int .i64 0, Value.slice none 0 0, Value.int .i64 0] w w'
  | _ => Below w.heap.size w w'
theorem pvE_refl (nr i : Nat) (w : World) : pvE nr i w w := by
  unfold pvE
  split
  · exact RK.of_below (Below.refl _ _)
  · exact Below.refl _ _
theorem pvE_rk {nr i : Nat} {w w' : World} (h : pvE nr i w w') : RK nr [Value.int .i64 0, Value.slice none 0 0, Value.int .i64 0] w w' := by
  unfold pvE at h
  split at h
  · exact h
  · exact RK.of_below h
def pvG1 (base nr n1 c1 c2 P : Nat) (s : Int) (A1 A2 : Option Addr) (vs : List Value) (j : Nat) (v : Value) (w : World) : Prop := match j with
  | 0 => v = .bool true
  | 1 => v = .bool false
  | 2 => v = .bool false
  | 3 => v = .pointer (some ⟨P, 0, none⟩)
  | 4 => v = .int .i64 s
  | 5 => v = .pointer (some ⟨P, 1, none⟩)
  | 6 => v = .slice A1 n1 c1
  | 7 => v = .agg #[.int .i64 s, .slice A1 n1 c1, .slice none 0 0]
  | 8 => v = .bool true
  | 9 => v = .bool true
  | 10 => v = .bool true
  | 11 => v = .pointer (some ⟨P, 0, none⟩)
  | 12 => v = .int .i64 s
  | 13 => v = .pointer (some ⟨P, 1, none⟩)
  | 14 => v = .slice A1 n1 c1
  | 15 => ∃ b, v = .slice (some ⟨b, 0, none⟩) 0 0 ∧ base ≤ b ∧ w.heap[b]? = some (.cells #[] 30)
  | 16 => v = .pointer (some ⟨P, 2, none⟩)
  | 17 => v = .slice A2 nr c2
  | 18 => ∃ A5 c5, v = .slice A5 nr c5 ∧ w.ownsRow base 30 3 (.slice A5 nr c5) nr vs ∧ (nr = 0 → c5 = 0)
  | 19 => v = .agg #[.int .i64 0, .slice none 0 0, .int .i64 0]
  | 20 => ∃ b, v = .slice (some ⟨b, 0, none⟩) 1 1 ∧ w.heap[b]? = some (.cells #[.int .i64 0, .slice none 0 0, .int .i64 0] 30)
  | 21 => ∃ A5 c5, v = .slice A5 (nr + 1) c5 ∧ w.ownsRow base 30 3 (.slice A5 (nr + 1) c5) (nr + 1) (vs ++ [Value.int .i64 0, Value.slice none 0 0, Value.int .i64 0])
  | 22 => ∃ A5 c5, v = .agg #[.int .i64 s, .slice A1 n1 c1, .slice A5 (nr + 1) c5] ∧ w.ownsRow base 30 3 (.slice A5 (nr + 1) c5) (nr + 1) (vs ++ [Value.int .i64 0, Value.slice none 0 0, Value.int .i64 0])
  | 23 => v = .bool false
  | 24 => v = .bool true
  | 25 => v = .bool true
  | 26 => v = .bool true
  | 27 => v = .bool true
  | 28 => v = .bool true
  | 29 => v = .bool true
  | _ => True
theorem pvG1_keep {base nr n1 c1 c2 P : Nat} {s : Int} {A1 A2 : Option Addr} {vs : List Value} (hl : vs.length = nr * 3) {j i : Nat} {v : Value} {w w' : World} (hji : j ≠ i) (hb : pvE nr i w w') (h : pvG1 base nr n1 c1 c2 P s A1 A2 vs j v w) : pvG1 base nr n1 c1 c2 P s A1 A2 vs j v w' := by
  have hrk := pvE_rk hb
  match j, hji, h with
  | 0, _, h => exact h
  | 1, _, h => exact h
  | 2, _, h => exact h
  | 3, _, h => exact h
  | 4, _, h => exact h
  | 5, _, h => exact h
  | 6, _, h => exact h
  | 7, _, h => exact h
  | 8, _, h => exact h
  | 9, _, h => exact h
  | 10, _, h => exact h
  | 11, _, h => exact h
  | 12, _, h => exact h
  | 13, _, h => exact h
  | 14, _, h => exact h
  | 15, _, ⟨b, e, hB, hc⟩ => exact ⟨b, e, hB, hrk.same hc (.inr (Nat.zero_le _))⟩
  | 16, _, h => exact h
  | 17, _, h => exact h
  | 18, _, ⟨A5, c5, e, ho, hz⟩ => exact ⟨A5, c5, e, hrk.own ho, hz⟩
  | 19, _, h => exact h
  | 20, _, ⟨b, e, hc⟩ => exact ⟨b, e, hrk.same hc (by show nr = 0 ∨ 3 ≤ nr * 3; omega)⟩
  | 21, _, ⟨A5, c5, e, ho⟩ => exact ⟨A5, c5, e, hrk.own1 hl ho⟩
  | 22, _, ⟨A5, c5, e, ho⟩ => exact ⟨A5, c5, e, hrk.own1 hl ho⟩
  | 23, _, h => exact h
  | 24, _, h => exact h
  | 25, _, h => exact h
  | 26, _, h => exact h
  | 27, _, h => exact h
  | 28, _, h => exact h
  | 29, _, h => exact h
  | _ + 30, _, h => exact h
def pvG0 (base nr n1 c1 c2 P : Nat) (s : Int) (A1 A2 : Option Addr) (vs : List Value) (j : Nat) (v : Value) (w : World) : Prop := match j with
  | 0 => v = .bool false
  | 1 => v = .bool true
  | 2 => v = .bool true
  | 3 => v = undef
  | 4 => v = undef
  | 5 => v = undef
  | 6 => v = undef
  | 7 => v = undef
  | 8 => v = undef
  | 9 => v = .bool true
  | 10 => v = .bool true
  | 11 => v = .pointer (some ⟨P, 0, none⟩)
  | 12 => v = .int .i64 s
  | 13 => v = .pointer (some ⟨P, 1, none⟩)
  | 14 => v = .slice A1 n1 c1
  | 15 => ∃ b, v = .slice (some ⟨b, 0, none⟩) 0 0 ∧ base ≤ b ∧ w.heap[b]? = some (.cells #[] 30)
  | 16 => v = .pointer (some ⟨P, 2, none⟩)
  | 17 => v = .slice A2 nr c2
  | 18 => ∃ A5 c5, v = .slice A5 nr c5 ∧ w.ownsRow base 30 3 (.slice A5 nr c5) nr vs ∧ (nr = 0 → c5 = 0)
  | 19 => v = .agg #[.int .i64 0, .slice none 0 0, .int .i64 0]
  | 20 => ∃ b, v = .slice (some ⟨b, 0, none⟩) 1 1 ∧ w.heap[b]? = some (.cells #[.int .i64 0, .slice none 0 0, .int .i64 0] 30)
  | 21 => ∃ A5 c5, v = .slice A5 (nr + 1) c5 ∧ w.ownsRow base 30 3 (.slice A5 (nr + 1) c5) (nr + 1) (vs ++ [Value.int .i64 0, Value.slice none 0 0, Value.int .i64 0])
  | 22 => ∃ A5 c5, v = .agg #[.int .i64 s, .slice A1 n1 c1, .slice A5 (nr + 1) c5] ∧ w.ownsRow base 30 3 (.slice A5 (nr + 1) c5) (nr + 1) (vs ++ [Value.int .i64 0, Value.slice none 0 0, Value.int .i64 0])
  | 23 => v = .bool false
  | 24 => v = .bool true
  | 25 => v = .bool true
  | 26 => v = .bool true
  | 27 => v = .bool true
  | 28 => v = .bool true
  | 29 => v = .bool true
  | _ => True
theorem pvG0_keep {base nr n1 c1 c2 P : Nat} {s : Int} {A1 A2 : Option Addr} {vs : List Value} (hl : vs.length = nr * 3) {j i : Nat} {v : Value} {w w' : World} (hji : j ≠ i) (hb : pvE nr i w w') (h : pvG0 base nr n1 c1 c2 P s A1 A2 vs j v w) : pvG0 base nr n1 c1 c2 P s A1 A2 vs j v w' := by
  have hrk := pvE_rk hb
  match j, hji, h with
  | 0, _, h => exact h
  | 1, _, h => exact h
  | 2, _, h => exact h
  | 3, _, h => exact h
  | 4, _, h => exact h
  | 5, _, h => exact h
  | 6, _, h => exact h
  | 7, _, h => exact h
  | 8, _, h => exact h
  | 9, _, h => exact h
  | 10, _, h => exact h
  | 11, _, h => exact h
  | 12, _, h => exact h
  | 13, _, h => exact h
  | 14, _, h => exact h
  | 15, _, ⟨b, e, hB, hc⟩ => exact ⟨b, e, hB, hrk.same hc (.inr (Nat.zero_le _))⟩
  | 16, _, h => exact h
  | 17, _, h => exact h
  | 18, _, ⟨A5, c5, e, ho, hz⟩ => exact ⟨A5, c5, e, hrk.own ho, hz⟩
  | 19, _, h => exact h
  | 20, _, ⟨b, e, hc⟩ => exact ⟨b, e, hrk.same hc (by show nr = 0 ∨ 3 ≤ nr * 3; omega)⟩
  | 21, _, ⟨A5, c5, e, ho⟩ => exact ⟨A5, c5, e, hrk.own1 hl ho⟩
  | 22, _, ⟨A5, c5, e, ho⟩ => exact ⟨A5, c5, e, hrk.own1 hl ho⟩
  | 23, _, h => exact h
  | 24, _, h => exact h
  | 25, _, h => exact h
  | 26, _, h => exact h
  | 27, _, h => exact h
  | 28, _, h => exact h
  | 29, _, h => exact h
  | _ + 30, _, h => exact h
set_option maxHeartbeats 8000000 in
theorem puzzleValid_walk (A : Option Addr) (c n : Nat) (bs : List Int) (w : World) (h : Code_ w A n c bs) :
    Calls Try.prog 3 #[.slice A n c] w fun e w' => e = .returned (.bool true) ∧ Below w.heap.size w w' := by
  by_cases hn : n ≤ 1048576
  · go_enter Try.func3, Try.ntmps3
    go_wp2_with fail
    refine (draw_DrawPuzzleValid _ _ _ _ _ h).mono ?_
    rintro e w1 ⟨s, A1, n1, c1, gi, A2, nr, c2, rs, rfl, s2, s4, hrd, hn16, hR, hlr, hnr, hb1⟩
    have hx1 := pbox_new w1 s A1 n1 c1 A2 nr c2 26
    have hbA : Below w1.heap.size w1 (w1.alloc (.cells #[.int .i64 s, .slice A1 n1 c1, .slice A2 nr c2] 26)) := (Below.refl _ _).alloc (Nat.le_refl _) _
    have hsA : w1.heap.size < (w1.alloc (.cells #[.int .i64 s, .slice A1 n1 c1, .slice A2 nr c2] 26)).heap.size := by simp
    obtain ⟨WA, hWA⟩ : ∃ WA, w1.alloc (.cells #[.int .i64 s, .slice A1 n1 c1, .slice A2 nr c2] 26) = WA := ⟨_, rfl⟩
    rw [hWA] at hx1 hbA hsA
    have h01 := step hb1 hbA
    have hm1 : n1 ≤ 1099511627776 := by omega
    have hmr : nr ≤ 1099511627776 := by omega
    have HPs := Lib.hid (show ∀ w', Below w1.heap.size w1 w' → PGs w' s A1 n1 c1 w1.heap.size gi A2 nr c2 w1.heap.size rs from fun w' hb => ⟨hrd.below hb, hb.size, hm1, (hR.rd hlr).below hb, hb.size, hmr⟩)
    have HPc := Lib.hid (show ∀ w', Below w1.heap.size w1 w' → PGc w' s A1 n1 c1 w1.heap.size gi A2 nr c2 w1.heap.size rs from fun w' hb => ⟨hrd.below hb, hb.size, hm1, (hR.rdc hlr).below hb, hb.size, hmr⟩)
    have HW := Lib.hid hWA
    obtain ⟨vs, hown, hin, hhi⟩ := hR.with_ hR.hi
    have Hvl := Lib.hid (show vs.length = nr * 3 from hown.1)
    have Hone := Lib.hid (inR_one hin hown.1)
    have Hz1 := Lib.hid (show ∀ u ∈ ([.int .i64 0, .slice none 0 0, .int .i64 0] : List Value), u.oneCell' = true by
      intro u hu
      simp only [List.mem_cons, List.not_mem_nil, or_false] at hu
      rcases hu with rfl | rfl | rfl <;> rfl)
    have Hrd := Lib.hid hrd
    have Hin := Lib.hid hin
    have Hhi := Lib.hid hhi
    have Hown0 := Lib.hid hown
    clear hWA hrd hR hin hhi hown
    obtain ⟨a0, a1, a2⟩ := id hx1
    go_wp2_with fail
    rw [HW.out]
    refine (implPuzzleValid s A1 n1 c1 _ gi A2 nr c2 _ rs WA (HPc.out _ hbA)).mono ?_
    rintro e w2 ⟨rfl, hb2⟩
    have h02 := step h01 hb2
    have hA2 := step hbA hb2
    have hx2 := hx1.below hsA hb2
    have hs2' := Nat.lt_of_lt_of_le hsA hb2.size
    obtain ⟨b0, b1, b2⟩ := id hx2
    go_wp2_with fail
    refine (specPuzzleValid s A1 n1 c1 w1.heap.size gi A2 nr c2 w1.heap.size rs w2 (HPs.out _ hA2).g (HPs.out _ hA2).gB hm1 (HPs.out _ hA2).r (HPs.out _ hA2).rB hmr).mono ?_
    rintro e w3 ⟨rfl, hb3⟩
    have h03 := step h02 hb3
    have hA3 := step hA2 hb3
    have hx3 := hx2.below hs2' hb3
    have hs3' := Nat.lt_of_lt_of_le hs2' hb3.size
    have hne : (pvB s gi rs != pvB s gi rs) = false := by simp
    have h13 := hA3.size
    obtain ⟨P, hP⟩ : ∃ P, w1.heap.size = P := ⟨_, rfl⟩
    have Hq0 := Lib.hid (show ∀ w', Below w3.heap.size w3 w' → w'.cell? ⟨P, 0, none⟩ = some (.int .i64 s) from fun w' hb => by rw [← hP]; exact (hx3.below hs3' hb).1)
    have Hq1 := Lib.hid (show ∀ w', Below w3.heap.size w3 w' → w'.cell? ⟨P, 1, none⟩ = some (.slice A1 n1 c1) from fun w' hb => by rw [← hP]; exact (hx3.below hs3' hb).2.1)
    have Hq2 := Lib.hid (show ∀ w', Below w3.heap.size w3 w' → w'.cell? ⟨P, 2, none⟩ = some (.slice A2 nr c2) from fun w' hb => by rw [← hP]; exact (hx3.below hs3' hb).2.2)
    have Hown := Lib.hid (show ∀ w', Below w3.heap.size w3 w' → w'.ownsRow w.heap.size 30 3 (.slice A2 nr c2) nr vs from fun w' hb => own_below Hown0.out (step hA3 hb))
    have HV1 := Lib.hid (show ∀ w', Below w3.heap.size w3 w' → pvB s gi rs = true → Calls Try.prog 11 #[.agg #[.int .i64 s, .slice A1 n1 c1, .slice none 0 0]] w' fun e w'' => e = .returned (.bool true) ∧ Below w'.heap.size w' w'' from fun w' hb hv => by
      have h1 := implPuzzleValid s A1 n1 c1 w1.heap.size gi none 0 0 0 [] w' ⟨Hrd.out.below (step hA3 hb), Nat.le_trans h13 hb.size, hm1, ⟨rfl, fun h => absurd h (by omega)⟩, Nat.zero_le _, by omega⟩
      rw [pv_none hv] at h1
      exact h1)
    have HV2 := Lib.hid (show ∀ w', Below w3.heap.size w3 w' → ∀ A6 c6, w'.ownsRow w3.heap.size 30 3 (.slice A6 (nr + 1) c6) (nr + 1) (vs ++ [.int .i64 0, .slice none 0 0, .int .i64 0]) → Calls Try.prog 11 #[.agg #[.int .i64 s, .slice A1 n1 c1, .slice A6 (nr + 1) c6]] w' fun e w'' => e = .returned (.bool false) ∧ Below w'.heap.size w' w'' from fun w' hb A6 c6 ho => by
      have hO := pushed_owR Hin.out Hhi.out hlr (step hA3 hb) hb1.size h13 ho Hvl.out
      have h1 := implPuzzleValid s A1 n1 c1 w1.heap.size gi A6 (nr + 1) c6 w'.heap.size (rs ++ [⟨0, [], 0⟩]) w' ⟨Hrd.out.below (step hA3 hb), Nat.le_trans h13 hb.size, hm1, hO.rdc (by simp [hlr]), Nat.le_refl _, by omega⟩
      rw [pv_zero] at h1
      exact h1)
    clear b0 b1 b2 a0 a1 a2 h13
    cases hv : pvB s gi rs
    · rw [hv] at hne
      clear HV1
      rw [hP]
      clear hx1 hx2 hx3 hs2' hs3' hsA
      go_wp2
      refine wp_region_dsT [16, 17, 18, 19, 20, 21, 22, 23, 24, 25, 26, 27, 28, 29, 30, 31, 32, 33, 34, 35, 36, 37, 38, 39, 40, 41, 42, 43, 44, 2] (fun j v w => pvG0 w3.heap.size nr n1 c1 c2 P s A1 A2 vs j v w) (fun w1 w2 => Below w3.heap.size w1 w2) (fun i w1 w2 => pvE nr i w1 w2) (fun _ _ => True) (fun _ => trivial) (below_drewN (Below.refl _ _) 1) (fun _ _ h h' => h.trans h') (fun j => if j = 26 then some true else if j = 10 then some true else if j = 2 then some true else none) (by kernel_rfl) (by kernel_rfl) (by simp) ?gy ?skip (fun j i v w w' hji _ hb h => pvG0_keep Hvl.out hji hb h) ?step ?fin
      case gy =>
        intro i o j bq hi hoo hgd v w' hg
        have hin : i < 30 := hi
        have : i = 0 ∨ i = 1 ∨ i = 2 ∨ i = 3 ∨ i = 4 ∨ i = 5 ∨ i = 6 ∨ i = 7 ∨ i = 8 ∨ i = 9 ∨ i = 10 ∨ i = 11 ∨ i = 12 ∨ i = 13 ∨ i = 14 ∨ i = 15 ∨ i = 16 ∨ i = 17 ∨ i = 18 ∨ i = 19 ∨ i = 20 ∨ i = 21 ∨ i = 22 ∨ i = 23 ∨ i = 24 ∨ i = 25 ∨ i = 26 ∨ i = 27 ∨ i = 28 ∨ i = 29 := by omega
        rcases this with rfl | rfl | rfl | rfl | rfl | rfl | rfl | rfl | rfl | rfl | rfl | rfl | rfl | rfl | rfl | rfl | rfl | rfl | rfl | rfl | rfl | rfl | rfl | rfl | rfl | rfl | rfl | rfl | rfl | rfl
        all_goals
          simp only [List.getElem?_toArray, List.getElem?_cons_zero, List.getElem?_cons_succ, Option.some.injEq] at hoo
          subst hoo
          first
          | (cases hgd; done)
          | (cases hgd; have hv : v = .bool true := hg; rw [hv]; rfl)
          | (cases hgd; have hv : v = .bool true := hg; rw [hv]; rfl)
          | (cases hgd; have hv : v = .bool true := hg; rw [hv]; rfl)
      case skip =>
        intro i o w' hi hoo hw
        have hin : i < 30 := hi
        have : i = 0 ∨ i = 1 ∨ i = 2 ∨ i = 3 ∨ i = 4 ∨ i = 5 ∨ i = 6 ∨ i = 7 ∨ i = 8 ∨ i = 9 ∨ i = 10 ∨ i = 11 ∨ i = 12 ∨ i = 13 ∨ i = 14 ∨ i = 15 ∨ i = 16 ∨ i = 17 ∨ i = 18 ∨ i = 19 ∨ i = 20 ∨ i = 21 ∨ i = 22 ∨ i = 23 ∨ i = 24 ∨ i = 25 ∨ i = 26 ∨ i = 27 ∨ i = 28 ∨ i = 29 := by omega
        rcases this with rfl | rfl | rfl | rfl | rfl | rfl | rfl | rfl | rfl | rfl | rfl | rfl | rfl | rfl | rfl | rfl | rfl | rfl | rfl | rfl | rfl | rfl | rfl | rfl | rfl | rfl | rfl | rfl | rfl | rfl
        all_goals
          simp only [List.getElem?_toArray, List.getElem?_cons_zero, List.getElem?_cons_succ, Option.some.injEq] at hoo
          subst hoo
          first
          | (simp [wantG] at hw; done)
          | rfl
      case step =>
        intro i o a' w' K D hD hcl2 hi hoo hwant hrel hfr hpre hC hK
        have e3 : a'.eval (.tmp 3) = .pointer (some ⟨P, 0, none⟩) := hfr 3 (by simp)
        have e4 : a'.eval (.tmp 4) = .bool false := hfr 4 (by simp)
        have hkeep : ∀ (v : Value), pvG0 w3.heap.size nr n1 c1 c2 P s A1 A2 vs i v w' → K (a'.put o.dst v) w' := fun v hv => hK v w' (Below.refl _ _) (pvE_refl _ _ _) (fun j _ _ h => h) hv
        have hq0 := Hq0.out w' hrel
        have hq1 := Hq1.out w' hrel
        have hq2 := Hq2.out w' hrel
        have hin : i < 30 := hi
        have : i = 0 ∨ i = 1 ∨ i = 2 ∨ i = 3 ∨ i = 4 ∨ i = 5 ∨ i = 6 ∨ i = 7 ∨ i = 8 ∨ i = 9 ∨ i = 10 ∨ i = 11 ∨ i = 12 ∨ i = 13 ∨ i = 14 ∨ i = 15 ∨ i = 16 ∨ i = 17 ∨ i = 18 ∨ i = 19 ∨ i = 20 ∨ i = 21 ∨ i = 22 ∨ i = 23 ∨ i = 24 ∨ i = 25 ∨ i = 26 ∨ i = 27 ∨ i = 28 ∨ i = 29 := by omega
        rcases this with rfl | rfl | rfl | rfl | rfl | rfl | rfl | rfl | rfl | rfl | rfl | rfl | rfl | rfl | rfl | rfl | rfl | rfl | rfl | rfl | rfl | rfl | rfl | rfl | rfl | rfl | rfl | rfl | rfl | rfl
        all_goals
          simp only [List.getElem?_toArray, List.getElem?_cons_zero, List.getElem?_cons_succ, Option.some.injEq] at hoo
          subst hoo
        · refine oper_val (v := .bool false) (w' := w') ?_ (hkeep _ rfl)
          unfold execOp
          simp only [e4]
          go_simp
        · have p0 : a'.eval (.tmp 16) = .bool false := hpre ⟨0, .data⟩ (by simp) rfl
          refine oper_val (v := .bool true) (w' := w') ?_ (hkeep _ rfl)
          unfold execOp
          simp only [p0]
          go_simp
        · have p0 : a'.eval (.tmp 17) = .bool true := hpre ⟨1, .data⟩ (by simp) rfl
          refine oper_val (v := .bool true) (w' := w') ?_ (hkeep _ rfl)
          unfold execOp
          simp only [p0]
          go_simp
        · exact absurd hwant (by simp [wantG])
        · exact absurd hwant (by simp [wantG])
        · exact absurd hwant (by simp [wantG])
        · exact absurd hwant (by simp [wantG])
        · exact absurd hwant (by simp [wantG])
        · exact absurd hwant (by simp [wantG])
        · have p0 : a'.eval (.tmp 18) = .bool true := hpre ⟨2, .data⟩ (by simp) rfl
          refine oper_val (v := .bool true) (w' := w') ?_ (hkeep _ rfl)
          unfold execOp
          simp only [p0]
          go_simp
        · have p0 : a'.eval (.tmp 25) = .bool true := hpre ⟨9, .data⟩ (by simp) rfl
          refine oper_val (v := .bool true) (w' := w') ?_ (hkeep _ rfl)
          unfold execOp
          simp only [p0]
          go_simp
        · refine oper_val (v := .pointer (some ⟨P, 0, none⟩)) (w' := w') ?_ (hkeep _ rfl)
          unfold execOp
          simp only [e3]
          go_simp
        · have p0 : a'.eval (.tmp 27) = .pointer (some ⟨P, 0, none⟩) := hpre ⟨11, .data⟩ (by simp) rfl
          refine oper_val (v := .int .i64 s) (w' := w') ?_ (hkeep _ rfl)
          unfold execOp
          simp only [p0]
          go_simp
        · refine oper_val (v := .pointer (some ⟨P, 1, none⟩)) (w' := w') ?_ (hkeep _ rfl)
          unfold execOp
          simp only [e3]
          go_simp
        · have p0 : a'.eval (.tmp 29) = .pointer (some ⟨P, 1, none⟩) := hpre ⟨13, .data⟩ (by simp) rfl
          refine oper_val (v := .slice A1 n1 c1) (w' := w') ?_ (hkeep _ rfl)
          unfold execOp
          simp only [p0]
          go_simp
        · have hgA : Below w'.heap.size w' (w'.alloc (.cells #[] 30)) := (Below.refl _ _).alloc (Nat.le_refl _) _
          refine oper_val (v := .slice (some ⟨w'.heap.size, 0, none⟩) 0 0) (w' := w'.alloc (.cells #[] 30)) ?_ (hK _ _ (hgA.mono hrel.size) hgA (fun j _ _ h => h) ⟨_, rfl, hrel.size, heap_alloc_new _ _⟩)
          unfold execOp
          go_simp
        · refine oper_val (v := .pointer (some ⟨P, 2, none⟩)) (w' := w') ?_ (hkeep _ rfl)
          unfold execOp
          simp only [e3]
          go_simp
        · have p0 : a'.eval (.tmp 32) = .pointer (some ⟨P, 2, none⟩) := hpre ⟨16, .data⟩ (by simp) rfl
          refine oper_val (v := .slice A2 nr c2) (w' := w') ?_ (hkeep _ rfl)
          unfold execOp
          simp only [p0]
          go_simp
        · obtain ⟨b, p15, hb15, hc15⟩ : ∃ b, a'.eval (.tmp 31) = .slice (some ⟨b, 0, none⟩) 0 0 ∧ w3.heap.size ≤ b ∧ w'.heap[b]? = some (.cells #[] 30) := hpre ⟨15, .data⟩ (by simp) rfl
          have p17 : a'.eval (.tmp 33) = .slice A2 nr c2 := hpre ⟨17, .data⟩ (by simp) rfl
          obtain ⟨A5, c5, w8, hrun, hown5, hz5, hb8⟩ := fresh_own 24 b A2 nr c2 w3.heap.size _ vs (Hown.out w' hrel) Hone.out hc15 hb15 hmr hrel.size
          refine oper_val (v := .slice A5 nr c5) (w' := w8) ?_ (hK _ _ (hb8.mono hrel.size) hb8 (fun j _ _ h => h) ⟨A5, c5, rfl, hown5, hz5⟩)
          unfold execOp
          simp only [resolve, invoke, builtin, Sem.run_bind, Sem.run_pure, Result.andThen_ok, List.map_toArray, List.map_cons, List.map_nil, p15, p17, hrun]
        · refine oper_val (v := .agg #[.int .i64 0, .slice none 0 0, .int .i64 0]) (w' := w') ?_ (hkeep _ rfl)
          unfold execOp
          go_simp
        · have p19 : a'.eval (.tmp 35) = .agg #[.int .i64 0, .slice none 0 0, .int .i64 0] := hpre ⟨19, .data⟩ (by simp) rfl
          have p19' : a'.tmps[35]?.getD undef = .agg #[.int .i64 0, .slice none 0 0, .int .i64 0] := by simpa [Act.eval] using p19
          have hgA : Below w'.heap.size w' (w'.alloc (.cells #[.int .i64 0, .slice none 0 0, .int .i64 0] 30)) := (Below.refl _ _).alloc (Nat.le_refl _) _
          refine oper_val (v := .slice (some ⟨w'.heap.size, 0, none⟩) 1 1) (w' := w'.alloc (.cells #[.int .i64 0, .slice none 0 0, .int .i64 0] 30)) ?_ (hK _ _ (hgA.mono hrel.size) hgA (fun j _ _ h => h) ⟨_, rfl, heap_alloc_new _ _⟩)
          unfold execOp
          go_simp
        · obtain ⟨A5, c5, p18, hown5, hz5⟩ : ∃ A5 c5, a'.eval (.tmp 34) = .slice A5 nr c5 ∧ w'.ownsRow w3.heap.size 30 3 (.slice A5 nr c5) nr vs ∧ (nr = 0 → c5 = 0) := hpre ⟨18, .data⟩ (by simp) rfl
          obtain ⟨b, p20, hc20⟩ : ∃ b, a'.eval (.tmp 36) = .slice (some ⟨b, 0, none⟩) 1 1 ∧ w'.heap[b]? = some (.cells #[.int .i64 0, .slice none 0 0, .int .i64 0] 30) := hpre ⟨20, .data⟩ (by simp) rfl
          obtain ⟨A6, c6, w8, hrun, hown6, hg8, hrk⟩ := push_own 24 w3.heap.size nr c5 b 1 A5 vs _ _ _ hown5 hz5 hc20 Hz1.out hmr hrel.size
          have hb8 : Below w3.heap.size w' w8 := below_own hg8 (fun g hg => (World.ownsRow.lt hown5 g hg).1) hrel.size
          refine oper_val (v := .slice A6 (nr + 1) c6) (w' := w8) ?_ (hK _ _ hb8 hrk (fun j _ _ h => h) ⟨A6, c6, rfl, hown6⟩)
          unfold execOp
          simp only [resolve, invoke, builtin, Sem.run_bind, Sem.run_pure, Result.andThen_ok, List.map_toArray, List.map_cons, List.map_nil, p18, p20, hrun]
        · have p12 : a'.eval (.tmp 28) = .int .i64 s := hpre ⟨12, .data⟩ (by simp) rfl
          have p14 : a'.eval (.tmp 30) = .slice A1 n1 c1 := hpre ⟨14, .data⟩ (by simp) rfl
          obtain ⟨A6, c6, p21, hown6⟩ : ∃ A5 c5, a'.eval (.tmp 37) = .slice A5 (nr + 1) c5 ∧ w'.ownsRow w3.heap.size 30 3 (.slice A5 (nr + 1) c5) (nr + 1) (vs ++ [Value.int .i64 0, Value.slice none 0 0, Value.int .i64 0]) := hpre ⟨21, .data⟩ (by simp) rfl
          refine oper_val (v := .agg #[.int .i64 s, .slice A1 n1 c1, .slice A6 (nr + 1) c6]) (w' := w') ?_ (hkeep _ ⟨A6, c6, rfl, hown6⟩)
          have p12' : a'.tmps[28]?.getD undef = .int .i64 s := by simpa [Act.eval] using p12
          have p14' : a'.tmps[30]?.getD undef = .slice A1 n1 c1 := by simpa [Act.eval] using p14
          have p21' : a'.tmps[37]?.getD undef = .slice A6 (nr + 1) c6 := by simpa [Act.eval] using p21
          unfold execOp
          go_simp
        · obtain ⟨A6, c6, p22, hown6⟩ : ∃ A5 c5, a'.eval (.tmp 38) = .agg #[.int .i64 s, .slice A1 n1 c1, .slice A5 (nr + 1) c5] ∧ w'.ownsRow w3.heap.size 30 3 (.slice A5 (nr + 1) c5) (nr + 1) (vs ++ [Value.int .i64 0, Value.slice none 0 0, Value.int .i64 0]) := hpre ⟨22, .data⟩ (by simp) rfl
          refine oper_call (f := 11) (args := #[.agg #[.int .i64 s, .slice A1 n1 c1, .slice A6 (nr + 1) c6]]) ?_ (HV2.out w' hrel A6 c6 hown6) ?_
          · unfold execOp
            go_simp
            exact (by simpa [Act.eval] using p22)
          · rintro e w8 ⟨rfl, hb8⟩
            exact ⟨_, rfl, hK _ w8 (hb8.mono hrel.size) hb8 (fun j _ _ h => h) rfl⟩
        · have p0 : a'.eval (.tmp 39) = .bool false := hpre ⟨23, .data⟩ (by simp) rfl
          refine oper_val (v := .bool true) (w' := w') ?_ (hkeep _ rfl)
          unfold execOp
          simp only [p0]
          go_simp
        · have p0 : a'.eval (.tmp 26) = .bool true := hpre ⟨10, .data⟩ (by simp) rfl
          have p1 : a'.eval (.tmp 40) = .bool true := hpre ⟨24, .data⟩ (by simp) rfl
          refine oper_val (v := .bool true) (w' := w') ?_ (hkeep _ rfl)
          unfold execOp
          simp only [p0, p1]
          go_simp
        · have p0 : a'.eval (.tmp 41) = .bool true := hpre ⟨25, .data⟩ (by simp) rfl
          refine oper_val (v := .bool true) (w' := w') ?_ (hkeep _ rfl)
          unfold execOp
          simp only [p0]
          go_simp
        · refine oper_call (f := 13) (args := #[]) ?_ (alive_any w') ?_
          · unfold execOp
            go_simp
          · rintro e w8 ⟨rfl, hb8⟩
            exact ⟨_, rfl, hK _ w8 (hb8.mono hrel.size) hb8 (fun j _ _ h => h) rfl⟩
        · have p0 : a'.eval (.tmp 42) = .bool true := hpre ⟨26, .data⟩ (by simp) rfl
          have p1 : a'.eval (.tmp 43) = .bool true := hpre ⟨27, .data⟩ (by simp) rfl
          refine oper_val (v := .bool true) (w' := w') ?_ (hkeep _ rfl)
          unfold execOp
          simp only [p0, p1]
          go_simp
        · have p0 : a'.eval (.tmp 44) = .bool true := hpre ⟨28, .data⟩ (by simp) rfl
          refine oper_val (v := .bool true) (w' := w') ?_ (hkeep _ rfl)
          unfold execOp
          simp only [p0]
          go_simp
      case fin =>
        intro a' w5 hrel hdef htm hpre
        obtain ⟨v16, g16⟩ : ∃ v, a'.tmps.getD 16 undef = v := ⟨_, rfl⟩
        obtain ⟨v17, g17⟩ : ∃ v, a'.tmps.getD 17 undef = v := ⟨_, rfl⟩
        obtain ⟨v18, g18⟩ : ∃ v, a'.tmps.getD 18 undef = v := ⟨_, rfl⟩
        obtain ⟨v19, g19⟩ : ∃ v, a'.tmps.getD 19 undef = v := ⟨_, rfl⟩
        obtain ⟨v20, g20⟩ : ∃ v, a'.tmps.getD 20 undef = v := ⟨_, rfl⟩
        obtain ⟨v21, g21⟩ : ∃ v, a'.tmps.getD 21 undef = v := ⟨_, rfl⟩
        obtain ⟨v22, g22⟩ : ∃ v, a'.tmps.getD 22 undef = v := ⟨_, rfl⟩
        obtain ⟨v23, g23⟩ : ∃ v, a'.tmps.getD 23 undef = v := ⟨_, rfl⟩
        obtain ⟨v24, g24⟩ : ∃ v, a'.tmps.getD 24 undef = v := ⟨_, rfl⟩
        obtain ⟨v25, g25⟩ : ∃ v, a'.tmps.getD 25 undef = v := ⟨_, rfl⟩
        obtain ⟨v26, g26⟩ : ∃ v, a'.tmps.getD 26 undef = v := ⟨_, rfl⟩
        obtain ⟨v27, g27⟩ : ∃ v, a'.tmps.getD 27 undef = v := ⟨_, rfl⟩
        obtain ⟨v28, g28⟩ : ∃ v, a'.tmps.getD 28 undef = v := ⟨_, rfl⟩
        obtain ⟨v29, g29⟩ : ∃ v, a'.tmps.getD 29 undef = v := ⟨_, rfl⟩
        obtain ⟨v30, g30⟩ : ∃ v, a'.tmps.getD 30 undef = v := ⟨_, rfl⟩
        obtain ⟨v31, g31⟩ : ∃ v, a'.tmps.getD 31 undef = v := ⟨_, rfl⟩
        obtain ⟨v32, g32⟩ : ∃ v, a'.tmps.getD 32 undef = v := ⟨_, rfl⟩
        obtain ⟨v33, g33⟩ : ∃ v, a'.tmps.getD 33 undef = v := ⟨_, rfl⟩
        obtain ⟨v34, g34⟩ : ∃ v, a'.tmps.getD 34 undef = v := ⟨_, rfl⟩
        obtain ⟨v35, g35⟩ : ∃ v, a'.tmps.getD 35 undef = v := ⟨_, rfl⟩
        obtain ⟨v36, g36⟩ : ∃ v, a'.tmps.getD 36 undef = v := ⟨_, rfl⟩
        obtain ⟨v37, g37⟩ : ∃ v, a'.tmps.getD 37 undef = v := ⟨_, rfl⟩
        obtain ⟨v38, g38⟩ : ∃ v, a'.tmps.getD 38 undef = v := ⟨_, rfl⟩
        obtain ⟨v39, g39⟩ : ∃ v, a'.tmps.getD 39 undef = v := ⟨_, rfl⟩
        obtain ⟨v40, g40⟩ : ∃ v, a'.tmps.getD 40 undef = v := ⟨_, rfl⟩
        obtain ⟨v41, g41⟩ : ∃ v, a'.tmps.getD 41 undef = v := ⟨_, rfl⟩
        obtain ⟨v42, g42⟩ : ∃ v, a'.tmps.getD 42 undef = v := ⟨_, rfl⟩
        obtain ⟨v43, g43⟩ : ∃ v, a'.tmps.getD 43 undef = v := ⟨_, rfl⟩
        obtain ⟨v44, g44⟩ : ∃ v, a'.tmps.getD 44 undef = v := ⟨_, rfl⟩
        have g2 : a'.tmps.getD 2 undef = .bool true := hpre 29 (by simp)
        have key := htm
        simp only [List.foldl_cons, List.foldl_nil, g16, g17, g18, g19, g20, g21, g22, g23, g24, g25, g26, g27, g28, g29, g30, g31, g32, g33, g34, g35, g36, g37, g38, g39, g40, g41, g42, g43, g44, g2, List.setIfInBounds_toArray, List.set_cons_succ, List.set_cons_zero] at key
        clear htm hpre g16 g17 g18 g19 g20 g21 g22 g23 g24 g25 g26 g27 g28 g29 g30 g31 g32 g33 g34 g35 g36 g37 g38 g39 g40 g41 g42 g43 g44 g2
        obtain ⟨tm, df⟩ := a'
        dsimp only at key hdef
        subst key hdef
        go_wp2
        go_ret
        exact ⟨rfl, step h03 hrel⟩
    · rw [hv] at hne
      have HV1 := Lib.hid (fun w' hb => HV1.out w' hb hv)
      rw [hP]
      clear hx1 hx2 hx3 hs2' hs3' hsA
      go_wp2
      refine wp_region_dsT [16, 17, 18, 19, 20, 21, 22, 23, 24, 25, 26, 27, 28, 29, 30, 31, 32, 33, 34, 35, 36, 37, 38, 39, 40, 41, 42, 43, 44, 2] (fun j v w => pvG1 w3.heap.size nr n1 c1 c2 P s A1 A2 vs j v w) (fun w1 w2 => Below w3.heap.size w1 w2) (fun i w1 w2 => pvE nr i w1 w2) (fun _ _ => True) (fun _ => trivial) (below_drewN (Below.refl _ _) 1) (fun _ _ h h' => h.trans h') (fun j => if j = 26 then some true else if j = 10 then some true else if j = 2 then some false else none) (by kernel_rfl) (by kernel_rfl) (by simp) ?gy ?skip (fun j i v w w' hji _ hb h => pvG1_keep Hvl.out hji hb h) ?step ?fin
      case gy =>
        intro i o j bq hi hoo hgd v w' hg
        have hin : i < 30 := hi
        have : i = 0 ∨ i = 1 ∨ i = 2 ∨ i = 3 ∨ i = 4 ∨ i = 5 ∨ i = 6 ∨ i = 7 ∨ i = 8 ∨ i = 9 ∨ i = 10 ∨ i = 11 ∨ i = 12 ∨ i = 13 ∨ i = 14 ∨ i = 15 ∨ i = 16 ∨ i = 17 ∨ i = 18 ∨ i = 19 ∨ i = 20 ∨ i = 21 ∨ i = 22 ∨ i = 23 ∨ i = 24 ∨ i = 25 ∨ i = 26 ∨ i = 27 ∨ i = 28 ∨ i = 29 := by omega
        rcases this with rfl | rfl | rfl | rfl | rfl | rfl | rfl | rfl | rfl | rfl | rfl | rfl | rfl | rfl | rfl | rfl | rfl | rfl | rfl | rfl | rfl | rfl | rfl | rfl | rfl | rfl | rfl | rfl | rfl | rfl
        all_goals
          simp only [List.getElem?_toArray, List.getElem?_cons_zero, List.getElem?_cons_succ, Option.some.injEq] at hoo
          subst hoo
          first
          | (cases hgd; done)
          | (cases hgd; have hv : v = .bool false := hg; rw [hv]; rfl)
          | (cases hgd; have hv : v = .bool true := hg; rw [hv]; rfl)
          | (cases hgd; have hv : v = .bool true := hg; rw [hv]; rfl)
      case skip =>
        intro i o w' hi hoo hw
        have hin : i < 30 := hi
        have : i = 0 ∨ i = 1 ∨ i = 2 ∨ i = 3 ∨ i = 4 ∨ i = 5 ∨ i = 6 ∨ i = 7 ∨ i = 8 ∨ i = 9 ∨ i = 10 ∨ i = 11 ∨ i = 12 ∨ i = 13 ∨ i = 14 ∨ i = 15 ∨ i = 16 ∨ i = 17 ∨ i = 18 ∨ i = 19 ∨ i = 20 ∨ i = 21 ∨ i = 22 ∨ i = 23 ∨ i = 24 ∨ i = 25 ∨ i = 26 ∨ i = 27 ∨ i = 28 ∨ i = 29 := by omega
        rcases this with rfl | rfl | rfl | rfl | rfl | rfl | rfl | rfl | rfl | rfl | rfl | rfl | rfl | rfl | rfl | rfl | rfl | rfl | rfl | rfl | rfl | rfl | rfl | rfl | rfl | rfl | rfl | rfl | rfl | rfl
        all_goals
          simp only [List.getElem?_toArray, List.getElem?_cons_zero, List.getElem?_cons_succ, Option.some.injEq] at hoo
          subst hoo
          first
          | (simp [wantG] at hw; done)
          | rfl
      case step =>
        intro i o a' w' K D hD hcl2 hi hoo hwant hrel hfr hpre hC hK
        have e3 : a'.eval (.tmp 3) = .pointer (some ⟨P, 0, none⟩) := hfr 3 (by simp)
        have e4 : a'.eval (.tmp 4) = .bool true := hfr 4 (by simp)
        have hkeep : ∀ (v : Value), pvG1 w3.heap.size nr n1 c1 c2 P s A1 A2 vs i v w' → K (a'.put o.dst v) w' := fun v hv => hK v w' (Below.refl _ _) (pvE_refl _ _ _) (fun j _ _ h => h) hv
        have hq0 := Hq0.out w' hrel
        have hq1 := Hq1.out w' hrel
        have hq2 := Hq2.out w' hrel
        have hin : i < 30 := hi
        have : i = 0 ∨ i = 1 ∨ i = 2 ∨ i = 3 ∨ i = 4 ∨ i = 5 ∨ i = 6 ∨ i = 7 ∨ i = 8 ∨ i = 9 ∨ i = 10 ∨ i = 11 ∨ i = 12 ∨ i = 13 ∨ i = 14 ∨ i = 15 ∨ i = 16 ∨ i = 17 ∨ i = 18 ∨ i = 19 ∨ i = 20 ∨ i = 21 ∨ i = 22 ∨ i = 23 ∨ i = 24 ∨ i = 25 ∨ i = 26 ∨ i = 27 ∨ i = 28 ∨ i = 29 := by omega
        rcases this with rfl | rfl | rfl | rfl | rfl | rfl | rfl | rfl | rfl | rfl | rfl | rfl | rfl | rfl | rfl | rfl | rfl | rfl | rfl | rfl | rfl | rfl | rfl | rfl | rfl | rfl | rfl | rfl | rfl | rfl
        all_goals
          simp only [List.getElem?_toArray, List.getElem?_cons_zero, List.getElem?_cons_succ, Option.some.injEq] at hoo
          subst hoo
        · refine oper_val (v := .bool true) (w' := w') ?_ (hkeep _ rfl)
          unfold execOp
          simp only [e4]
          go_simp
        · have p0 : a'.eval (.tmp 16) = .bool true := hpre ⟨0, .data⟩ (by simp) rfl
          refine oper_val (v := .bool false) (w' := w') ?_ (hkeep _ rfl)
          unfold execOp
          simp only [p0]
          go_simp
        · have p0 : a'.eval (.tmp 17) = .bool false := hpre ⟨1, .data⟩ (by simp) rfl
          refine oper_val (v := .bool false) (w' := w') ?_ (hkeep _ rfl)
          unfold execOp
          simp only [p0]
          go_simp
        · refine oper_val (v := .pointer (some ⟨P, 0, none⟩)) (w' := w') ?_ (hkeep _ rfl)
          unfold execOp
          simp only [e3]
          go_simp
        · have p0 : a'.eval (.tmp 19) = .pointer (some ⟨P, 0, none⟩) := hpre ⟨3, .data⟩ (by simp) rfl
          refine oper_val (v := .int .i64 s) (w' := w') ?_ (hkeep _ rfl)
          unfold execOp
          simp only [p0]
          go_simp
        · refine oper_val (v := .pointer (some ⟨P, 1, none⟩)) (w' := w') ?_ (hkeep _ rfl)
          unfold execOp
          simp only [e3]
          go_simp
        · have p0 : a'.eval (.tmp 21) = .pointer (some ⟨P, 1, none⟩) := hpre ⟨5, .data⟩ (by simp) rfl
          refine oper_val (v := .slice A1 n1 c1) (w' := w') ?_ (hkeep _ rfl)
          unfold execOp
          simp only [p0]
          go_simp
        · have p0 : a'.tmps[20]?.getD undef = .int .i64 s := by simpa [Act.eval] using (show a'.eval (.tmp 20) = .int .i64 s from hpre ⟨4, .data⟩ (by simp) rfl)
          have p1 : a'.tmps[22]?.getD undef = .slice A1 n1 c1 := by simpa [Act.eval] using (show a'.eval (.tmp 22) = .slice A1 n1 c1 from hpre ⟨6, .data⟩ (by simp) rfl)
          refine oper_val (v := .agg #[.int .i64 s, .slice A1 n1 c1, .slice none 0 0]) (w' := w') ?_ (hkeep _ rfl)
          unfold execOp
          go_simp
        · have p0 : a'.eval (.tmp 23) = .agg #[.int .i64 s, .slice A1 n1 c1, .slice none 0 0] := hpre ⟨7, .data⟩ (by simp) rfl
          refine oper_call (f := 11) (args := #[.agg #[.int .i64 s, .slice A1 n1 c1, .slice none 0 0]]) ?_ (HV1.out w' hrel) ?_
          · unfold execOp
            go_simp
            exact (by simpa [Act.eval] using p0)
          · rintro e w8 ⟨rfl, hb8⟩
            exact ⟨_, rfl, hK _ w8 (hb8.mono hrel.size) hb8 (fun j _ _ h => h) rfl⟩
        · have p0 : a'.eval (.tmp 18) = .bool false := hpre ⟨2, .data⟩ (by simp) rfl
          have p1 : a'.eval (.tmp 24) = .bool true := hpre ⟨8, .data⟩ (by simp) rfl
          refine oper_val (v := .bool true) (w' := w') ?_ (hkeep _ rfl)
          unfold execOp
          simp only [p0, p1]
          go_simp
        · have p0 : a'.eval (.tmp 25) = .bool true := hpre ⟨9, .data⟩ (by simp) rfl
          refine oper_val (v := .bool true) (w' := w') ?_ (hkeep _ rfl)
          unfold execOp
          simp only [p0]
          go_simp
        · refine oper_val (v := .pointer (some ⟨P, 0, none⟩)) (w' := w') ?_ (hkeep _ rfl)
          unfold execOp
          simp only [e3]
          go_simp
        · have p0 : a'.eval (.tmp 27) = .pointer (some ⟨P, 0, none⟩) := hpre ⟨11, .data⟩ (by simp) rfl
          refine oper_val (v := .int .i64 s) (w' := w') ?_ (hkeep _ rfl)
          unfold execOp
          simp only [p0]
          go_simp
        · refine oper_val (v := .pointer (some ⟨P, 1, none⟩)) (w' := w') ?_ (hkeep _ rfl)
          unfold execOp
          simp only [e3]
          go_simp
        · have p0 : a'.eval (.tmp 29) = .pointer (some ⟨P, 1, none⟩) := hpre ⟨13, .data⟩ (by simp) rfl
          refine oper_val (v := .slice A1 n1 c1) (w' := w') ?_ (hkeep _ rfl)
          unfold execOp
          simp only [p0]
          go_simp
        · have hgA : Below w'.heap.size w' (w'.alloc (.cells #[] 30)) := (Below.refl _ _).alloc (Nat.le_refl _) _
          refine oper_val (v := .slice (some ⟨w'.heap.size, 0, none⟩) 0 0) (w' := w'.alloc (.cells #[] 30)) ?_ (hK _ _ (hgA.mono hrel.size) hgA (fun j _ _ h => h) ⟨_, rfl, hrel.size, heap_alloc_new _ _⟩)
          unfold execOp
          go_simp
        · refine oper_val (v := .pointer (some ⟨P, 2, none⟩)) (w' := w') ?_ (hkeep _ rfl)
          unfold execOp
          simp only [e3]
          go_simp
        · have p0 : a'.eval (.tmp 32) = .pointer (some ⟨P, 2, none⟩) := hpre ⟨16, .data⟩ (by simp) rfl
          refine oper_val (v := .slice A2 nr c2) (w' := w') ?_ (hkeep _ rfl)
          unfold execOp
          simp only [p0]
          go_simp
        · obtain ⟨b, p15, hb15, hc15⟩ : ∃ b, a'.eval (.tmp 31) = .slice (some ⟨b, 0, none⟩) 0 0 ∧ w3.heap.size ≤ b ∧ w'.heap[b]? = some (.cells #[] 30) := hpre ⟨15, .data⟩ (by simp) rfl
          have p17 : a'.eval (.tmp 33) = .slice A2 nr c2 := hpre ⟨17, .data⟩ (by simp) rfl
          obtain ⟨A5, c5, w8, hrun, hown5, hz5, hb8⟩ := fresh_own 24 b A2 nr c2 w3.heap.size _ vs (Hown.out w' hrel) Hone.out hc15 hb15 hmr hrel.size
          refine oper_val (v := .slice A5 nr c5) (w' := w8) ?_ (hK _ _ (hb8.mono hrel.size) hb8 (fun j _ _ h => h) ⟨A5, c5, rfl, hown5, hz5⟩)
          unfold execOp
          simp only [resolve, invoke, builtin, Sem.run_bind, Sem.run_pure, Result.andThen_ok, List.map_toArray, List.map_cons, List.map_nil, p15, p17, hrun]
        · refine oper_val (v := .agg #[.int .i64 0, .slice none 0 0, .int .i64 0]) (w' := w') ?_ (hkeep _ rfl)
          unfold execOp
          go_simp
        · have p19 : a'.eval (.tmp 35) = .agg #[.int .i64 0, .slice none 0 0, .int .i64 0] := hpre ⟨19, .data⟩ (by simp) rfl
          have p19' : a'.tmps[35]?.getD undef = .agg #[.int .i64 0, .slice none 0 0, .int .i64 0] := by simpa [Act.eval] using p19
          have hgA : Below w'.heap.size w' (w'.alloc (.cells #[.int .i64 0, .slice none 0 0, .int .i64 0] 30)) := (Below.refl _ _).alloc (Nat.le_refl _) _
          refine oper_val (v := .slice (some ⟨w'.heap.size, 0, none⟩) 1 1) (w' := w'.alloc (.cells #[.int .i64 0, .slice none 0 0, .int .i64 0] 30)) ?_ (hK _ _ (hgA.mono hrel.size) hgA (fun j _ _ h => h) ⟨_, rfl, heap_alloc_new _ _⟩)
          unfold execOp
          go_simp
        · obtain ⟨A5, c5, p18, hown5, hz5⟩ : ∃ A5 c5, a'.eval (.tmp 34) = .slice A5 nr c5 ∧ w'.ownsRow w3.heap.size 30 3 (.slice A5 nr c5) nr vs ∧ (nr = 0 → c5 = 0) := hpre ⟨18, .data⟩ (by simp) rfl
          obtain ⟨b, p20, hc20⟩ : ∃ b, a'.eval (.tmp 36) = .slice (some ⟨b, 0, none⟩) 1 1 ∧ w'.heap[b]? = some (.cells #[.int .i64 0, .slice none 0 0, .int .i64 0] 30) := hpre ⟨20, .data⟩ (by simp) rfl
          obtain ⟨A6, c6, w8, hrun, hown6, hg8, hrk⟩ := push_own 24 w3.heap.size nr c5 b 1 A5 vs _ _ _ hown5 hz5 hc20 Hz1.out hmr hrel.size
          have hb8 : Below w3.heap.size w' w8 := below_own hg8 (fun g hg => (World.ownsRow.lt hown5 g hg).1) hrel.size
          refine oper_val (v := .slice A6 (nr + 1) c6) (w' := w8) ?_ (hK _ _ hb8 hrk (fun j _ _ h => h) ⟨A6, c6, rfl, hown6⟩)
          unfold execOp
          simp only [resolve, invoke, builtin, Sem.run_bind, Sem.run_pure, Result.andThen_ok, List.map_toArray, List.map_cons, List.map_nil, p18, p20, hrun]
        · have p12 : a'.eval (.tmp 28) = .int .i64 s := hpre ⟨12, .data⟩ (by simp) rfl
          have p14 : a'.eval (.tmp 30) = .slice A1 n1 c1 := hpre ⟨14, .data⟩ (by simp) rfl
          obtain ⟨A6, c6, p21, hown6⟩ : ∃ A5 c5, a'.eval (.tmp 37) = .slice A5 (nr + 1) c5 ∧ w'.ownsRow w3.heap.size 30 3 (.slice A5 (nr + 1) c5) (nr + 1) (vs ++ [Value.int .i64 0, Value.slice none 0 0, Value.int .i64 0]) := hpre ⟨21, .data⟩ (by simp) rfl
          refine oper_val (v := .agg #[.int .i64 s, .slice A1 n1 c1, .slice A6 (nr + 1) c6]) (w' := w') ?_ (hkeep _ ⟨A6, c6, rfl, hown6⟩)
          have p12' : a'.tmps[28]?.getD undef = .int .i64 s := by simpa [Act.eval] using p12
          have p14' : a'.tmps[30]?.getD undef = .slice A1 n1 c1 := by simpa [Act.eval] using p14
          have p21' : a'.tmps[37]?.getD undef = .slice A6 (nr + 1) c6 := by simpa [Act.eval] using p21
          unfold execOp
          go_simp
        · obtain ⟨A6, c6, p22, hown6⟩ : ∃ A5 c5, a'.eval (.tmp 38) = .agg #[.int .i64 s, .slice A1 n1 c1, .slice A5 (nr + 1) c5] ∧ w'.ownsRow w3.heap.size 30 3 (.slice A5 (nr + 1) c5) (nr + 1) (vs ++ [Value.int .i64 0, Value.slice none 0 0, Value.int .i64 0]) := hpre ⟨22, .data⟩ (by simp) rfl
          refine oper_call (f := 11) (args := #[.agg #[.int .i64 s, .slice A1 n1 c1, .slice A6 (nr + 1) c6]]) ?_ (HV2.out w' hrel A6 c6 hown6) ?_
          · unfold execOp
            go_simp
            exact (by simpa [Act.eval] using p22)
          · rintro e w8 ⟨rfl, hb8⟩
            exact ⟨_, rfl, hK _ w8 (hb8.mono hrel.size) hb8 (fun j _ _ h => h) rfl⟩
        · have p0 : a'.eval (.tmp 39) = .bool false := hpre ⟨23, .data⟩ (by simp) rfl
          refine oper_val (v := .bool true) (w' := w') ?_ (hkeep _ rfl)
          unfold execOp
          simp only [p0]
          go_simp
        · have p0 : a'.eval (.tmp 26) = .bool true := hpre ⟨10, .data⟩ (by simp) rfl
          have p1 : a'.eval (.tmp 40) = .bool true := hpre ⟨24, .data⟩ (by simp) rfl
          refine oper_val (v := .bool true) (w' := w') ?_ (hkeep _ rfl)
          unfold execOp
          simp only [p0, p1]
          go_simp
        · have p0 : a'.eval (.tmp 41) = .bool true := hpre ⟨25, .data⟩ (by simp) rfl
          refine oper_val (v := .bool true) (w' := w') ?_ (hkeep _ rfl)
          unfold execOp
          simp only [p0]
          go_simp
        · refine oper_call (f := 13) (args := #[]) ?_ (alive_any w') ?_
          · unfold execOp
            go_simp
          · rintro e w8 ⟨rfl, hb8⟩
            exact ⟨_, rfl, hK _ w8 (hb8.mono hrel.size) hb8 (fun j _ _ h => h) rfl⟩
        · have p0 : a'.eval (.tmp 42) = .bool true := hpre ⟨26, .data⟩ (by simp) rfl
          have p1 : a'.eval (.tmp 43) = .bool true := hpre ⟨27, .data⟩ (by simp) rfl
          refine oper_val (v := .bool true) (w' := w') ?_ (hkeep _ rfl)
          unfold execOp
          simp only [p0, p1]
          go_simp
        · have p0 : a'.eval (.tmp 44) = .bool true := hpre ⟨28, .data⟩ (by simp) rfl
          refine oper_val (v := .bool true) (w' := w') ?_ (hkeep _ rfl)
          unfold execOp
          simp only [p0]
          go_simp
      case fin =>
        intro a' w5 hrel hdef htm hpre
        obtain ⟨v16, g16⟩ : ∃ v, a'.tmps.getD 16 undef = v := ⟨_, rfl⟩
        obtain ⟨v17, g17⟩ : ∃ v, a'.tmps.getD 17 undef = v := ⟨_, rfl⟩
        obtain ⟨v18, g18⟩ : ∃ v, a'.tmps.getD 18 undef = v := ⟨_, rfl⟩
        obtain ⟨v19, g19⟩ : ∃ v, a'.tmps.getD 19 undef = v := ⟨_, rfl⟩
        obtain ⟨v20, g20⟩ : ∃ v, a'.tmps.getD 20 undef = v := ⟨_, rfl⟩
        obtain ⟨v21, g21⟩ : ∃ v, a'.tmps.getD 21 undef = v := ⟨_, rfl⟩
        obtain ⟨v22, g22⟩ : ∃ v, a'.tmps.getD 22 undef = v := ⟨_, rfl⟩
        obtain ⟨v23, g23⟩ : ∃ v, a'.tmps.getD 23 undef = v := ⟨_, rfl⟩
        obtain ⟨v24, g24⟩ : ∃ v, a'.tmps.getD 24 undef = v := ⟨_, rfl⟩
        obtain ⟨v25, g25⟩ : ∃ v, a'.tmps.getD 25 undef = v := ⟨_, rfl⟩
        obtain ⟨v26, g26⟩ : ∃ v, a'.tmps.getD 26 undef = v := ⟨_, rfl⟩
        obtain ⟨v27, g27⟩ : ∃ v, a'.tmps.getD 27 undef = v := ⟨_, rfl⟩
        obtain ⟨v28, g28⟩ : ∃ v, a'.tmps.getD 28 undef = v := ⟨_, rfl⟩
        obtain ⟨v29, g29⟩ : ∃ v, a'.tmps.getD 29 undef = v := ⟨_, rfl⟩
        obtain ⟨v30, g30⟩ : ∃ v, a'.tmps.getD 30 undef = v := ⟨_, rfl⟩
        obtain ⟨v31, g31⟩ : ∃ v, a'.tmps.getD 31 undef = v := ⟨_, rfl⟩
        obtain ⟨v32, g32⟩ : ∃ v, a'.tmps.getD 32 undef = v := ⟨_, rfl⟩
        obtain ⟨v33, g33⟩ : ∃ v, a'.tmps.getD 33 undef = v := ⟨_, rfl⟩
        obtain ⟨v34, g34⟩ : ∃ v, a'.tmps.getD 34 undef = v := ⟨_, rfl⟩
        obtain ⟨v35, g35⟩ : ∃ v, a'.tmps.getD 35 undef = v := ⟨_, rfl⟩
        obtain ⟨v36, g36⟩ : ∃ v, a'.tmps.getD 36 undef = v := ⟨_, rfl⟩
        obtain ⟨v37, g37⟩ : ∃ v, a'.tmps.getD 37 undef = v := ⟨_, rfl⟩
        obtain ⟨v38, g38⟩ : ∃ v, a'.tmps.getD 38 undef = v := ⟨_, rfl⟩
        obtain ⟨v39, g39⟩ : ∃ v, a'.tmps.getD 39 undef = v := ⟨_, rfl⟩
        obtain ⟨v40, g40⟩ : ∃ v, a'.tmps.getD 40 undef = v := ⟨_, rfl⟩
        obtain ⟨v41, g41⟩ : ∃ v, a'.tmps.getD 41 undef = v := ⟨_, rfl⟩
        obtain ⟨v42, g42⟩ : ∃ v, a'.tmps.getD 42 undef = v := ⟨_, rfl⟩
        obtain ⟨v43, g43⟩ : ∃ v, a'.tmps.getD 43 undef = v := ⟨_, rfl⟩
        obtain ⟨v44, g44⟩ : ∃ v, a'.tmps.getD 44 undef = v := ⟨_, rfl⟩
        have g2 : a'.tmps.getD 2 undef = .bool true := hpre 29 (by simp)
        have key := htm
        simp only [List.foldl_cons, List.foldl_nil, g16, g17, g18, g19, g20, g21, g22, g23, g24, g25, g26, g27, g28, g29, g30, g31, g32, g33, g34, g35, g36, g37, g38, g39, g40, g41, g42, g43, g44, g2, List.setIfInBounds_toArray, List.set_cons_succ, List.set_cons_zero] at key
        clear htm hpre g16 g17 g18 g19 g20 g21 g22 g23 g24 g25 g26 g27 g28 g29 g30 g31 g32 g33 g34 g35 g36 g37 g38 g39 g40 g41 g42 g43 g44 g2
        obtain ⟨tm, df⟩ := a'
        dsimp only at key hdef
        subst key hdef
        go_wp2
        go_ret
        exact ⟨rfl, step h03 hrel⟩
  · go_enter Try.func3, Try.ntmps3
    go_wp2
    go_ret
    exact ⟨rfl, Below.refl _ _⟩
end Go.Proofs.Ytgejahkdiciplab
