import Derived.Test.YtoejpodchlepiaaYR4P
import Derived.Deep.RegionHeld3
set_option maxRecDepth 8000
namespace Go.Proofs.Ytoejpodchlepiaa
open Go.ChangeShapes Go.WideShapes Go.ChangeAt Go.RowKit

/-- a rule as it reads. -/
structure RuleM where
  k : Int
  xs : List Int
  v : Int
def rnone : RuleM := ⟨0, [], 0⟩
def rat (rs : List RuleM) (i : Nat) : RuleM := rs.getD i rnone
/-- a slice of rules. -/
def RdRs (w : World) (B : Nat) (A : Option Addr) (n : Nat) (rs : List RuleM) : Prop :=
  rs.length = n ∧ (0 < n → ∃ b off, A = some ⟨b, off, none⟩ ∧ b < B ∧ ∀ i, i < n → ∃ A' c', w.cell? ⟨b, off + i * 3, none⟩ = some (.int .i64 (rat rs i).k) ∧ w.cell? ⟨b, off + i * 3 + 1, none⟩ = some (.slice A' (rat rs i).xs.length c') ∧ w.cell? ⟨b, off + i * 3 + 2, none⟩ = some (.int .i64 (rat rs i).v) ∧ Rd w B A' (rat rs i).xs.length (rat rs i).xs ∧ (rat rs i).xs.length ≤ 1099511627776)
theorem RdRs.below {w w' : World} {B : Nat} {A : Option Addr} {n : Nat} {rs : List RuleM} (h : RdRs w B A n rs) (hb : Below B w w') : RdRs w' B A n rs :=
  ⟨h.1, fun hn => by
    obtain ⟨b, off, e, hlt, hc⟩ := h.2 hn
    refine ⟨b, off, e, hlt, fun i hi => ?_⟩
    obtain ⟨A', c', h0, h1, h2, h3, h4⟩ := hc i hi
    exact ⟨A', c', (hb.cell (p := ⟨b, off + i * 3, none⟩) hlt).trans h0, (hb.cell (p := ⟨b, off + i * 3 + 1, none⟩) hlt).trans h1, (hb.cell (p := ⟨b, off + i * 3 + 2, none⟩) hlt).trans h2, h3.below hb, h4⟩⟩
/-- a puzzle's three cells in block g. -/
def PBox (w : World) (g : Nat) (s : Int) (Ag : Option Addr) (ng cg : Nat) (Ar : Option Addr) (nr cr : Nat) : Prop := w.cell? ⟨g, 0, none⟩ = some (.int .i64 s) ∧ w.cell? ⟨g, 1, none⟩ = some (.slice Ag ng cg) ∧ w.cell? ⟨g, 2, none⟩ = some (.slice Ar nr cr)
theorem PBox.below {w w' : World} {g B : Nat} {s : Int} {Ag : Option Addr} {ng cg : Nat} {Ar : Option Addr} {nr cr : Nat} (h : PBox w g s Ag ng cg Ar nr cr) (hg : g < B) (hb : Below B w w') : PBox w' g s Ag ng cg Ar nr cr :=
  ⟨(hb.cell (p := ⟨g, 0, none⟩) hg).trans h.1, (hb.cell (p := ⟨g, 1, none⟩) hg).trans h.2.1, (hb.cell (p := ⟨g, 2, none⟩) hg).trans h.2.2⟩
theorem pbox_new (w : World) (s : Int) (Ag : Option Addr) (ng cg : Nat) (Ar : Option Addr) (nr cr : Nat) (t : TypeId) : PBox (w.alloc (.cells #[.int .i64 s, .slice Ag ng cg, .slice Ar nr cr] t)) w.heap.size s Ag ng cg Ar nr cr :=
  ⟨cell_of_row _ _ 0 _ _ (0, 0) (heap_alloc_new w _), cell_of_row _ _ 1 _ _ (0, 0) (heap_alloc_new w _), cell_of_row _ _ 2 _ _ (0, 0) (heap_alloc_new w _)⟩
/-- the first k rules pass a test. -/
def allR (p : RuleM → Bool) (rs : List RuleM) (k : Nat) : Prop := ∀ i, i < k → p (rat rs i) = true
def rvR (s : Int) (r : RuleM) : Bool := rv r.k r.xs r.v s
def pvB (s : Int) (g : List Int) (rs : List RuleM) : Bool := ((List.range rs.length).all fun i => rvR s (rat rs i)) && gv g s && decide (rs.length ≤ 20)
theorem all_rat {p : RuleM → Bool} {rs : List RuleM} {n : Nat} (hl : rs.length = n) (h : allR p rs n) : ((List.range rs.length).all fun i => p (rat rs i)) = true :=
  List.all_eq_true.2 (fun i hi => h i (by rw [List.mem_range] at hi; omega))
theorem not_all_rat {p : RuleM → Bool} {rs : List RuleM} {n i : Nat} (hl : rs.length = n) (hi : i < n) (h : p (rat rs i) = false) : ((List.range rs.length).all fun i => p (rat rs i)) = false := by
  cases e : (List.range rs.length).all fun i => p (rat rs i)
  · rfl
  · have := List.all_eq_true.1 e i (List.mem_range.2 (by omega))
    rw [h] at this; cases this

set_option maxHeartbeats 1000000 in
theorem specPuzzleValid (s : Int) (Ag : Option Addr) (ng cg Bg : Nat) (g : List Int) (Ar : Option Addr) (nr cr Br : Nat) (rs : List RuleM) (w : World) (hg : Rd w Bg Ag ng g) (hBg : Bg ≤ w.heap.size) (hmg : ng ≤ 1099511627776) (hr : RdRs w Br Ar nr rs) (hBr : Br ≤ w.heap.size) (hmr : nr ≤ 1099511627776) :
    Calls Try.prog 54 #[.agg #[.int .i64 s, .slice Ag ng cg, .slice Ar nr cr]] w fun e w' => e = .returned (.bool (pvB s g rs)) ∧ Below w.heap.size w w' := by
  have hlen := Lib.hid hr.1
  have hx0 := pbox_new w s Ag ng cg Ar nr cr 48
  have hb0 : Below w.heap.size w (w.alloc (.cells #[.int .i64 s, .slice Ag ng cg, .slice Ar nr cr] 48)) := (Below.refl _ _).alloc (Nat.le_refl _) _
  have hs0 : w.heap.size + 1 ≤ (w.alloc (.cells #[.int .i64 s, .slice Ag ng cg, .slice Ar nr cr] 48)).heap.size := by simp
  go_enter Try.func54, Try.ntmps54
  go_wp2
  go_loopw [3] (fun i wr => ∃ u : Nat, u ≤ nr ∧ i = .int .i64 u ∧ Hid (allR (rvR s) rs u) ∧ PBox wr w.heap.size s Ag ng cg Ar nr cr ∧ Below w.heap.size w wr ∧ w.heap.size + 1 ≤ wr.heap.size) (fun i _ => nr - (intOf i).toNat)
  case atStart => exact ⟨0, Nat.zero_le _, rfl, Lib.hid (fun j hj => absurd hj (by omega)), hx0, hb0, hs0⟩
  case round =>
    obtain ⟨u, hu, rfl, hall, hx, hb, hsw⟩ := hrel
    obtain ⟨c0, c1, c2⟩ := id hx
    by_cases hlt : u < nr
    · obtain ⟨b, off, hAr, hbB, hcc⟩ := (hr.below (hb.mono hBr)).2 (by omega)
      subst hAr
      obtain ⟨A', c', r0, r1, r2, r3, r4⟩ := hcc u hlt
      have hbw : b < wr.heap.size := cell_lt r0
      obtain ⟨rk, hrk⟩ : ∃ x, x = (rat rs u).k := ⟨_, rfl⟩
      obtain ⟨rx, hrx⟩ : ∃ x, x = (rat rs u).xs := ⟨_, rfl⟩
      obtain ⟨rvv, hrv⟩ : ∃ x, x = (rat rs u).v := ⟨_, rfl⟩
      have hrr : rvR s (rat rs u) = rv rk rx rvv s := by simp only [rvR, hrk, hrx, hrv]
      rw [← hrk] at r0
      rw [← hrx] at r1 r3 r4
      rw [← hrv] at r2
      have HS : Hid (∀ w', Below wr.heap.size wr w' → w'.cell? ⟨w.heap.size, 0, none⟩ = some (.int .i64 s) ∧ w'.cell? ⟨w.heap.size, 2, none⟩ = some (.slice (some ⟨b, off, none⟩) nr cr) ∧ w'.cell? ⟨b, off + u * 3, none⟩ = some (.int .i64 rk) ∧ w'.cell? ⟨b, off + u * 3 + 1, none⟩ = some (.slice A' rx.length c') ∧ w'.cell? ⟨b, off + u * 3 + 2, none⟩ = some (.int .i64 rvv)) :=
        Lib.hid (fun w' hb => ⟨(hb.cell (p := ⟨w.heap.size, 0, none⟩) (show w.heap.size < _ by omega)).trans c0, (hb.cell (p := ⟨w.heap.size, 2, none⟩) (show w.heap.size < _ by omega)).trans c2, (hb.cell (p := ⟨b, off + u * 3, none⟩) hbw).trans r0, (hb.cell (p := ⟨b, off + u * 3 + 1, none⟩) hbw).trans r1, (hb.cell (p := ⟨b, off + u * 3 + 2, none⟩) hbw).trans r2⟩)
      have HC := Lib.hid (fun w' (hbb : Below wr.heap.size wr w') => specRuleValid A' c' rx.length Br rx rk rvv s w' (r3.below (hbb.mono (Nat.le_trans hBr hb.size))) (Nat.le_trans (Nat.le_trans hBr hb.size) hbb.size) r4)
      clear hrk hrx hrv hcc
      cases hv : rv rk rx rvv s
      · have HL := Lib.hid (show pvB s g rs = false by unfold pvB; rw [not_all_rat hlen.out hlt (hrr.trans hv)]; rfl)
        go_wp2
        go_region_held3 (fun w' => w'.cell? ⟨w.heap.size, 0, none⟩ = some (.int .i64 s) ∧ w'.cell? ⟨w.heap.size, 2, none⟩ = some (.slice (some ⟨b, off, none⟩) nr cr) ∧ w'.cell? ⟨b, off + u * 3, none⟩ = some (.int .i64 rk) ∧ w'.cell? ⟨b, off + u * 3 + 1, none⟩ = some (.slice A' rx.length c') ∧ w'.cell? ⟨b, off + u * 3 + 2, none⟩ = some (.int .i64 rvv))
          (first | go_keep | exact HS.out _ hb5)
          ((go_simp; go_at_call 22; refine (HC.out _ (Below.refl _ _).drew).mono ?_; rintro e w5 ⟨rfl, hb4⟩; rw [hv]; have hb5 : Below wr.heap.size wr w5 := ((Below.refl _ _).drew).trans hb4))
        go_wp2
        go_ret
        exact ⟨by rw [HL.out]; rfl, hb.trans (hb5.mono hb.size)⟩
      · have hall2 := Lib.hid (show allR (rvR s) rs (u + 1) from fun i hi => by
          by_cases e : i = u
          · subst e; exact hrr.trans hv
          · exact hall.out i (by omega))
        go_wp2
        go_region_held3 (fun w' => w'.cell? ⟨w.heap.size, 0, none⟩ = some (.int .i64 s) ∧ w'.cell? ⟨w.heap.size, 2, none⟩ = some (.slice (some ⟨b, off, none⟩) nr cr) ∧ w'.cell? ⟨b, off + u * 3, none⟩ = some (.int .i64 rk) ∧ w'.cell? ⟨b, off + u * 3 + 1, none⟩ = some (.slice A' rx.length c') ∧ w'.cell? ⟨b, off + u * 3 + 2, none⟩ = some (.int .i64 rvv))
          (first | go_keep | exact HS.out _ hb5)
          ((go_simp; go_at_call 22; refine (HC.out _ (Below.refl _ _).drew).mono ?_; rintro e w5 ⟨rfl, hb4⟩; rw [hv]; have hb5 : Below wr.heap.size wr w5 := ((Below.refl _ _).drew).trans hb4))
        go_wp2
        go_roundw
        case rel => exact ⟨u + 1, by omega, by go_num, hall2, hx.below (by omega) hb5, hb.trans (hb5.mono hb.size), Nat.le_trans hsw hb5.size⟩
        case measure => simp [intOf]; omega
    · obtain rfl : u = nr := by omega
      have hP : pvB s g rs = (gv g s && decide (u ≤ 20)) := by unfold pvB; rw [all_rat hlen.out hall.out, hlen.out, Bool.true_and]
      cases hgv : gv g s
      · have HL := Lib.hid (show pvB s g rs = false by rw [hP, hgv]; rfl)
        go_wp2_with (go_at_call 23; refine (specGridValid _ _ _ _ _ _ _ (hg.below (hb.mono hBg)) hmg).mono ?_; rintro e w' ⟨rfl, rfl⟩; rw [hgv])
        go_ret
        exact ⟨by rw [HL.out]; rfl, hb⟩
      · by_cases h20 : u ≤ 20
        · have HL := Lib.hid (show pvB s g rs = true by rw [hP, hgv, decide_eq_true h20]; rfl)
          have h20' : (u : Int) ≤ 20 := by omega
          go_wp2_with (go_at_call 23; refine (specGridValid _ _ _ _ _ _ _ (hg.below (hb.mono hBg)) hmg).mono ?_; rintro e w' ⟨rfl, rfl⟩; rw [hgv])
          go_ret
          exact ⟨by rw [HL.out]; rfl, hb⟩
        · have HL := Lib.hid (show pvB s g rs = false by rw [hP, hgv, decide_eq_false h20]; rfl)
          have h20' : ¬ (u : Int) ≤ 20 := by omega
          go_wp2_with (go_at_call 23; refine (specGridValid _ _ _ _ _ _ _ (hg.below (hb.mono hBg)) hmg).mono ?_; rintro e w' ⟨rfl, rfl⟩; rw [hgv])
          go_ret
          have hdf : decide ((u : Int) ≤ 20) = false := by simp; omega
          exact ⟨by rw [HL.out, ← hdf]; rfl, hb⟩
end Go.Proofs.Ytoejpodchlepiaa
set_option maxRecDepth 8000
namespace Go.Proofs.Ytoejpodchlepiaa
open Go.ChangeShapes Go.WideShapes Go.ChangeAt Go.RowKit

/-- a cell does not gainsay what is given there. -/
def giveOk (gi g : List Int) (i : Nat) : Bool := !(decide (0 < nth gi i) && decide (0 < nth g i) && (nth g i != nth gi i))
def rpR (s : Int) (g : List Int) (r : RuleM) : Bool := rpB r.k r.xs r.v g s
/-- whether a grid can still be a solution, as far as single lines and rules tell. -/
def fitB (s : Int) (gi : List Int) (rs : List RuleM) (g : List Int) : Bool := ((List.range g.length).all fun i => giveOk gi g i) && ((List.range rs.length).all fun i => rpR s g (rat rs i)) && !clash g s
theorem fit_give {s : Int} {gi g : List Int} {rs : List RuleM} {n i : Nat} (hl : g.length = n) (hi : i < n) (h : giveOk gi g i = false) : fitB s gi rs g = false := by
  have : ((List.range g.length).all fun i => giveOk gi g i) = false := by
    cases e : (List.range g.length).all fun i => giveOk gi g i
    · rfl
    · have := List.all_eq_true.1 e i (List.mem_range.2 (by omega))
      rw [h] at this; cases this
  simp only [fitB, this, Bool.false_and]
theorem fit_rule {s : Int} {gi g : List Int} {rs : List RuleM} {n i : Nat} (hl : rs.length = n) (hi : i < n) (h : rpR s g (rat rs i) = false) : fitB s gi rs g = false := by
  unfold fitB
  rw [not_all_rat hl hi h, Bool.and_false, Bool.false_and]
theorem fit_end {s : Int} {gi g : List Int} {rs : List RuleM} {n m : Nat} (hl : g.length = n) (h1 : ∀ i, i < n → giveOk gi g i = true) (hm : rs.length = m) (h2 : allR (rpR s g) rs m) : fitB s gi rs g = !clash g s := by
  have e : ((List.range g.length).all fun i => giveOk gi g i) = true := List.all_eq_true.2 (fun i hi => h1 i (by rw [List.mem_range] at hi; omega))
  unfold fitB
  rw [e, all_rat hm h2, Bool.true_and, Bool.true_and]

set_option maxHeartbeats 2000000 in
theorem specFits (s : Nat) (Ag : Option Addr) (ng cg Bg : Nat) (gi : List Int) (Ar : Option Addr) (nr cr Br : Nat) (rs : List RuleM) (A : Option Addr) (c B : Nat) (g : List Int) (w : World) (hg : Rd w Bg Ag ng gi) (hBg : Bg ≤ w.heap.size) (hr : RdRs w Br Ar nr rs) (hBr : Br ≤ w.heap.size) (hmr : nr ≤ 1099511627776)
    (h : Rd w B A ng g) (hB : B ≤ w.heap.size) (hs : s ∈ [2, 3, 4]) (hn : Hid ((ng : Int) = (s : Int) * s)) (hok : Hid (okAll g s ng)) :
    Calls Try.prog 85 #[.agg #[.int .i64 s, .slice Ag ng cg, .slice Ar nr cr], .slice A ng c] w fun e w' => e = .returned (.bool (fitB s gi rs g)) ∧ Below w.heap.size w w' := by
  have hlen := Lib.hid h.1
  have hlenr := Lib.hid hr.1
  have hs2 : 2 ≤ (s : Int) := by simp at hs; omega
  have hs4 : (s : Int) ≤ 4 := by simp at hs; omega
  have hng : ng ≤ 16 := by have := (sq_bd hs2 hs4).2; have := hn.out; omega
  have hx0 := pbox_new w s Ag ng cg Ar nr cr 48
  have hb0 : Below w.heap.size w (w.alloc (.cells #[.int .i64 s, .slice Ag ng cg, .slice Ar nr cr] 48)) := (Below.refl _ _).alloc (Nat.le_refl _) _
  have hs0 : w.heap.size + 1 ≤ (w.alloc (.cells #[.int .i64 s, .slice Ag ng cg, .slice Ar nr cr] 48)).heap.size := by simp
  go_enter Try.func85, Try.ntmps85
  go_wp2
  go_loopw [5] (fun i wr => ∃ u : Nat, u ≤ ng ∧ i = .int .i64 u ∧ Hid (∀ i, i < u → giveOk gi g i = true) ∧ PBox wr w.heap.size s Ag ng cg Ar nr cr ∧ Below w.heap.size w wr ∧ w.heap.size + 1 ≤ wr.heap.size) (fun i _ => ng - (intOf i).toNat)
  case atStart => exact ⟨0, Nat.zero_le _, rfl, Lib.hid (fun j hj => absurd hj (by omega)), hx0, hb0, hs0⟩
  case round =>
    obtain ⟨u, hu, rfl, hall, hx, hb, hsw⟩ := hrel
    obtain ⟨c0, c1, c2⟩ := id hx
    by_cases hlt : u < ng
    · obtain ⟨b, off, hA, hbB, hck⟩ := (h.below (hb.mono hB)).at_ hlt
      obtain ⟨b1, off1, hA1, hbB1, hck1⟩ := (hg.below (hb.mono hBg)).at_ hlt
      subst hA
      subst hA1
      have hgood : giveOk gi g u = true → Hid (∀ i, i < u + 1 → giveOk gi g i = true) := fun e => Lib.hid (fun i hi => by
        by_cases h : i = u
        · subst h; exact e
        · exact hall.out i (by omega))
      have Hgood := Lib.hid hgood; clear hgood
      obtain ⟨xg, hxg⟩ : ∃ x, x = nth g u := ⟨_, rfl⟩
      obtain ⟨xi, hxi⟩ : ∃ x, x = nth gi u := ⟨_, rfl⟩
      have hdef : giveOk gi g u = !(decide (0 < xi) && decide (0 < xg) && (xg != xi)) := by rw [hxg, hxi]; rfl
      have Hbad := Lib.hid (fun e : giveOk gi g u = false => fit_give (s := (s : Int)) (gi := gi) (rs := rs) hlen.out hlt e)
      rw [← hxg] at hck
      rw [← hxi] at hck1
      clear hxg hxi
      by_cases h1 : 0 < xi
      · by_cases h2 : 0 < xg
        · cases h3 : (xg != xi)
          · have Ha := Hgood.out (by rw [hdef, h3, Bool.and_false]; rfl)
            clear hdef
            go_wp2
            go_quiet (fail)
            go_wp2
            go_roundw
            case rel => exact ⟨u + 1, by omega, by go_num, Ha, hx.below (show w.heap.size < wr.heap.size by omega) (below_drewN (Below.refl _ _) _), below_drewN hb _, hsw⟩
            case measure => simp [intOf]; omega
          · have HL := Lib.hid (Hbad.out (by rw [hdef, h3, decide_eq_true h1, decide_eq_true h2]; rfl))
            clear hdef
            go_wp2
            go_quiet (fail)
            go_wp2
            go_ret
            exact ⟨by rw [HL.out]; rfl, below_drewN hb _⟩
        · have h2' : decide (0 < xg) = false := decide_eq_false h2
          have Ha := Hgood.out (by rw [hdef, h2', Bool.and_false, Bool.false_and]; rfl)
          clear hdef
          go_wp2
          go_quiet (fail)
          go_wp2
          go_roundw
          case rel => exact ⟨u + 1, by omega, by go_num, Ha, hx.below (show w.heap.size < wr.heap.size by omega) (below_drewN (Below.refl _ _) _), below_drewN hb _, hsw⟩
          case measure => simp [intOf]; omega
      · have h1' : decide (0 < xi) = false := decide_eq_false h1
        have Ha := Hgood.out (by rw [hdef, h1', Bool.false_and, Bool.false_and]; rfl)
        clear hdef
        go_wp2
        go_quiet (fail)
        go_wp2
        go_roundw
        case rel => exact ⟨u + 1, by omega, by go_num, Ha, hx.below (show w.heap.size < wr.heap.size by omega) (below_drewN (Below.refl _ _) _), below_drewN hb _, hsw⟩
        case measure => simp [intOf]; omega
    · obtain rfl : u = ng := by omega
      go_wp2
      go_loopw [6] (fun i wr => ∃ q : Nat, q ≤ nr ∧ i = .int .i64 q ∧ Hid (allR (rpR s g) rs q) ∧ PBox wr w.heap.size s Ag u cg Ar nr cr ∧ Below w.heap.size w wr ∧ w.heap.size + 1 ≤ wr.heap.size) (fun i _ => nr - (intOf i).toNat)
      case atStart => exact ⟨0, Nat.zero_le _, rfl, Lib.hid (fun j hj => absurd hj (by omega)), hx, hb, hsw⟩
      case round =>
        clear hx hb hsw c0 c1 c2
        obtain ⟨q, hq, rfl, hallq, hx, hb, hsw⟩ := hrel
        obtain ⟨c0, c1, c2⟩ := id hx
        by_cases hlq : q < nr
        · obtain ⟨b, off, hAr, hbB, hcc⟩ := (hr.below (hb.mono hBr)).2 (by omega)
          subst hAr
          obtain ⟨A', c', r0, r1, r2, r3, r4⟩ := hcc q hlq
          have hbw : b < wr.heap.size := cell_lt r0
          obtain ⟨rk, hrk⟩ : ∃ x, x = (rat rs q).k := ⟨_, rfl⟩
          obtain ⟨rx, hrx⟩ : ∃ x, x = (rat rs q).xs := ⟨_, rfl⟩
          obtain ⟨rvv, hrv⟩ : ∃ x, x = (rat rs q).v := ⟨_, rfl⟩
          have hrr : rpR s g (rat rs q) = rpB rk rx rvv g s := by simp only [rpR, hrk, hrx, hrv]
          rw [← hrk] at r0
          rw [← hrx] at r1 r3 r4
          rw [← hrv] at r2
          have HS : Hid (∀ w', Below wr.heap.size wr w' → w'.cell? ⟨w.heap.size, 0, none⟩ = some (.int .i64 s) ∧ w'.cell? ⟨w.heap.size, 2, none⟩ = some (.slice (some ⟨b, off, none⟩) nr cr) ∧ w'.cell? ⟨b, off + q * 3, none⟩ = some (.int .i64 rk) ∧ w'.cell? ⟨b, off + q * 3 + 1, none⟩ = some (.slice A' rx.length c') ∧ w'.cell? ⟨b, off + q * 3 + 2, none⟩ = some (.int .i64 rvv)) :=
            Lib.hid (fun w' hb => ⟨(hb.cell (p := ⟨w.heap.size, 0, none⟩) (show w.heap.size < _ by omega)).trans c0, (hb.cell (p := ⟨w.heap.size, 2, none⟩) (show w.heap.size < _ by omega)).trans c2, (hb.cell (p := ⟨b, off + q * 3, none⟩) hbw).trans r0, (hb.cell (p := ⟨b, off + q * 3 + 1, none⟩) hbw).trans r1, (hb.cell (p := ⟨b, off + q * 3 + 2, none⟩) hbw).trans r2⟩)
          have HC := Lib.hid (fun w' (hbb : Below wr.heap.size wr w') => specRulePossible A' c' rx.length Br rx rk rvv s A c u B g w' (r3.below (hbb.mono (Nat.le_trans hBr hb.size))) (Nat.le_trans (Nat.le_trans hBr hb.size) hbb.size) r4 (h.below ((hb.trans (hbb.mono hb.size)).mono hB)) (Nat.le_trans (Nat.le_trans hB hb.size) hbb.size) (by omega) (by omega))
          clear hrk hrx hrv hcc
          cases hv : rpB rk rx rvv g s
          · have HL := Lib.hid (fit_rule (gi := gi) hlenr.out hlq (hrr.trans hv))
            go_wp2
            go_region_held3 (fun w' => w'.cell? ⟨w.heap.size, 0, none⟩ = some (.int .i64 s) ∧ w'.cell? ⟨w.heap.size, 2, none⟩ = some (.slice (some ⟨b, off, none⟩) nr cr) ∧ w'.cell? ⟨b, off + q * 3, none⟩ = some (.int .i64 rk) ∧ w'.cell? ⟨b, off + q * 3 + 1, none⟩ = some (.slice A' rx.length c') ∧ w'.cell? ⟨b, off + q * 3 + 2, none⟩ = some (.int .i64 rvv))
              (first | go_keep | exact HS.out _ hb5)
              ((go_simp; go_at_call 28; refine (HC.out _ (Below.refl _ _).drew).mono ?_; rintro e w5 ⟨rfl, hb4⟩; rw [hv]; have hb5 : Below wr.heap.size wr w5 := ((Below.refl _ _).drew).trans hb4))
            go_wp2
            go_ret
            exact ⟨by rw [HL.out]; rfl, hb.trans (hb5.mono hb.size)⟩
          · have hall2 := Lib.hid (show allR (rpR s g) rs (q + 1) from fun i hi => by
              by_cases e : i = q
              · subst e; exact hrr.trans hv
              · exact hallq.out i (by omega))
            go_wp2
            go_region_held3 (fun w' => w'.cell? ⟨w.heap.size, 0, none⟩ = some (.int .i64 s) ∧ w'.cell? ⟨w.heap.size, 2, none⟩ = some (.slice (some ⟨b, off, none⟩) nr cr) ∧ w'.cell? ⟨b, off + q * 3, none⟩ = some (.int .i64 rk) ∧ w'.cell? ⟨b, off + q * 3 + 1, none⟩ = some (.slice A' rx.length c') ∧ w'.cell? ⟨b, off + q * 3 + 2, none⟩ = some (.int .i64 rvv))
              (first | go_keep | exact HS.out _ hb5)
              ((go_simp; go_at_call 28; refine (HC.out _ (Below.refl _ _).drew).mono ?_; rintro e w5 ⟨rfl, hb4⟩; rw [hv]; have hb5 : Below wr.heap.size wr w5 := ((Below.refl _ _).drew).trans hb4))
            go_wp2
            go_roundw
            case rel => exact ⟨q + 1, by omega, by go_num, hall2, hx.below (by omega) hb5, hb.trans (hb5.mono hb.size), Nat.le_trans hsw hb5.size⟩
            case measure => simp [intOf]; omega
        · obtain rfl : q = nr := by omega
          have HL := Lib.hid (fit_end (gi := gi) hlen.out hall.out hlenr.out hallq.out)
          have hr2 := h.below (hb.mono hB)
          go_wp2_with (go_at_call 117; refine (specClash _ _ _ _ _ _ _ hr2 (Nat.le_trans hB hb.size) hs2 hs4 hn hok).mono ?_; rintro e w5 ⟨rfl, hb5⟩)
          go_ret
          exact ⟨by rw [HL.out]; rfl, step hb hb5⟩
end Go.Proofs.Ytoejpodchlepiaa
set_option maxRecDepth 8000
namespace Go.Proofs.Ytoejpodchlepiaa
open Go.ChangeShapes Go.WideShapes Go.ChangeAt Go.RowKit

def fpB (s : Int) (gi : List Int) (rs : List RuleM) (g : List Int) : Bool := pvB s gi rs && gv g s && fitB s gi rs g
def psB (s : Int) (gi : List Int) (rs : List RuleM) (g : List Int) : Bool := fpB s gi rs g && (gf g s == (g.length : Int))
theorem pv_gv {s : Int} {gi : List Int} {rs : List RuleM} (h : pvB s gi rs = true) : gv gi s = true ∧ rs.length ≤ 20 ∧ allR (rvR s) rs rs.length := by
  simp only [pvB, Bool.and_eq_true, decide_eq_true_eq, List.all_eq_true, List.mem_range] at h
  exact ⟨h.1.2, h.2, h.1.1⟩
/-- a puzzle and a grid that read. -/
structure PGs (w : World) (s : Int) (Ag : Option Addr) (ng cg Bg : Nat) (gi : List Int) (Ar : Option Addr) (nr cr Br : Nat) (rs : List RuleM) : Prop where
  g : Rd w Bg Ag ng gi
  gB : Bg ≤ w.heap.size
  gm : ng ≤ 1099511627776
  r : RdRs w Br Ar nr rs
  rB : Br ≤ w.heap.size
  rm : nr ≤ 1099511627776
theorem PGs.below {w w' : World} {s : Int} {Ag : Option Addr} {ng cg Bg : Nat} {gi : List Int} {Ar : Option Addr} {nr cr Br : Nat} {rs : List RuleM} (h : PGs w s Ag ng cg Bg gi Ar nr cr Br rs) (hb : Below w.heap.size w w') : PGs w' s Ag ng cg Bg gi Ar nr cr Br rs :=
  ⟨h.g.below (hb.mono h.gB), Nat.le_trans h.gB hb.size, h.gm, h.r.below (hb.mono h.rB), Nat.le_trans h.rB hb.size, h.rm⟩

set_option maxHeartbeats 1000000 in
theorem specPuzzleFits (s : Int) (Ag : Option Addr) (ng cg Bg : Nat) (gi : List Int) (Ar : Option Addr) (nr cr Br : Nat) (rs : List RuleM) (A : Option Addr) (n c B : Nat) (g : List Int) (w : World) (hp : PGs w s Ag ng cg Bg gi Ar nr cr Br rs) (h : Rd w B A n g) (hB : B ≤ w.heap.size) (hm : n ≤ 1099511627776) :
    Calls Try.prog 35 #[.agg #[.int .i64 s, .slice Ag ng cg, .slice Ar nr cr], .slice A n c] w fun e w' => e = .returned (.bool (fpB s gi rs g)) ∧ Below w.heap.size w w' := by
  have hx0 := pbox_new w s Ag ng cg Ar nr cr 48
  have hb0 : Below w.heap.size w (w.alloc (.cells #[.int .i64 s, .slice Ag ng cg, .slice Ar nr cr] 48)) := (Below.refl _ _).alloc (Nat.le_refl _) _
  have hs0 : w.heap.size < (w.alloc (.cells #[.int .i64 s, .slice Ag ng cg, .slice Ar nr cr] 48)).heap.size := by simp
  have HP := Lib.hid (fun w' (hb : Below w.heap.size w w') => specPuzzleValid s Ag ng cg Bg gi Ar nr cr Br rs w' (hp.below hb).g (hp.below hb).gB hp.gm (hp.below hb).r (hp.below hb).rB hp.rm)
  have HG := Lib.hid (fun w' (hb : Below w.heap.size w w') => specGridValid A c n B g s w' (h.below (hb.mono hB)) hm)
  have hlen := Lib.hid h.1
  have hleng := Lib.hid hp.g.1
  cases hv : pvB s gi rs
  · have HL := Lib.hid (show fpB s gi rs g = false by simp [fpB, hv])
    go_enter Try.func35, Try.ntmps35
    go_wp2_with (go_at_call 54; refine (HP.out _ hb0).mono ?_; rintro e w1 ⟨rfl, hb1⟩; rw [hv]; have hB1 := step hb0 hb1; clear hb1)
    go_ret
    exact ⟨by rw [HL.out]; rfl, hB1⟩
  · cases hg : gv g s
    · have HL := Lib.hid (show fpB s gi rs g = false by simp [fpB, hg])
      go_enter Try.func35, Try.ntmps35
      go_wp2_with (first | (go_at_call 54; refine (HP.out _ hb0).mono ?_; rintro e w1 ⟨rfl, hb1⟩; rw [hv]; have hB1 := step hb0 hb1; obtain ⟨c0, c1, c2⟩ := hx0.below hs0 hb1; clear hb1) | (go_at_call 23; refine (HG.out _ hB1).mono ?_; rintro e w2 ⟨rfl, rfl⟩; rw [hg]))
      go_ret
      exact ⟨by rw [HL.out]; rfl, hB1⟩
    · have HL := Lib.hid (show fpB s gi rs g = fitB s gi rs g by simp [fpB, hv, hg])
      obtain ⟨hgi, _, _⟩ := pv_gv hv
      obtain ⟨s2, s4⟩ := gv_size hg
      obtain ⟨t, rfl⟩ := Int.eq_ofNat_of_zero_le (by omega : 0 ≤ s)
      have hs : t ∈ [2, 3, 4] := by
        have : t = 2 ∨ t = 3 ∨ t = 4 := by omega
        simpa using this
      have e1 := gv_len hg
      have e2 := gv_len hgi
      rw [hlen.out] at e1
      rw [hleng.out] at e2
      obtain rfl : n = ng := by omega
      have Hn := Lib.hid e1
      have Hok : Hid (okAll g t n) := Lib.hid (fun i hi => gv_nth hg (by rw [hlen.out]; exact hi))
      have HF := Lib.hid (fun w' (hb : Below w.heap.size w w') => specFits t Ag n cg Bg gi Ar nr cr Br rs A c B g w' (hp.below hb).g (hp.below hb).gB (hp.below hb).r (hp.below hb).rB hp.rm (h.below (hb.mono hB)) (Nat.le_trans hB hb.size) hs Hn Hok)
      clear e1 e2 hgi
      go_enter Try.func35, Try.ntmps35
      go_wp2_with (first | (go_at_call 54; refine (HP.out _ hb0).mono ?_; rintro e w1 ⟨rfl, hb1⟩; rw [hv]; have hB1 := step hb0 hb1; obtain ⟨c0, c1, c2⟩ := hx0.below hs0 hb1; clear hb1) | (go_at_call 23; refine (HG.out _ hB1).mono ?_; rintro e w2 ⟨rfl, rfl⟩; rw [hg]) | (go_at_call 85; refine (HF.out _ hB1).mono ?_; rintro e w3 ⟨rfl, hb3⟩; have hB3 := step hB1 hb3; clear hb3))
      go_ret
      exact ⟨by rw [HL.out]; rfl, hB3⟩
set_option maxHeartbeats 1000000 in
theorem specPuzzleSolved (s : Int) (Ag : Option Addr) (ng cg Bg : Nat) (gi : List Int) (Ar : Option Addr) (nr cr Br : Nat) (rs : List RuleM) (A : Option Addr) (n c B : Nat) (g : List Int) (w : World) (hp : PGs w s Ag ng cg Bg gi Ar nr cr Br rs) (h : Rd w B A n g) (hB : B ≤ w.heap.size) (hm : n ≤ 1099511627776) :
    Calls Try.prog 39 #[.agg #[.int .i64 s, .slice Ag ng cg, .slice Ar nr cr], .slice A n c] w fun e w' => e = .returned (.bool (psB s gi rs g)) ∧ Below w.heap.size w w' := by
  have hx0 := pbox_new w s Ag ng cg Ar nr cr 48
  have hb0 : Below w.heap.size w (w.alloc (.cells #[.int .i64 s, .slice Ag ng cg, .slice Ar nr cr] 48)) := (Below.refl _ _).alloc (Nat.le_refl _) _
  have hs0 : w.heap.size < (w.alloc (.cells #[.int .i64 s, .slice Ag ng cg, .slice Ar nr cr] 48)).heap.size := by simp
  have hlen := Lib.hid h.1
  have HP := Lib.hid (fun w' (hb : Below w.heap.size w w') => specPuzzleFits s Ag ng cg Bg gi Ar nr cr Br rs A n c B g w' (hp.below hb) (h.below (hb.mono hB)) (Nat.le_trans hB hb.size) hm)
  have HG := Lib.hid (fun w' (hb : Below w.heap.size w w') => specGridFilled A c n B g s w' (h.below (hb.mono hB)) hm)
  cases hv : fpB s gi rs g
  · have HL := Lib.hid (show psB s gi rs g = false by simp [psB, hv])
    go_enter Try.func39, Try.ntmps39
    go_wp2_with (go_at_call 35; refine (HP.out _ hb0).mono ?_; rintro e w1 ⟨rfl, hb1⟩; rw [hv]; have hB1 := step hb0 hb1; clear hb1)
    go_ret
    exact ⟨by rw [HL.out]; rfl, hB1⟩
  · have HL := Lib.hid (show psB s gi rs g = (gf g s == (n : Int)) by simp only [psB, hv, hlen.out, Bool.true_and])
    go_enter Try.func39, Try.ntmps39
    go_wp2_with (first | (go_at_call 35; refine (HP.out _ hb0).mono ?_; rintro e w1 ⟨rfl, hb1⟩; rw [hv]; have hB1 := step hb0 hb1; obtain ⟨c0, c1, c2⟩ := hx0.below hs0 hb1; clear hb1) | (go_at_call 90; refine (HG.out _ hB1).mono ?_; rintro e w2 ⟨rfl, rfl⟩))
    go_ret
    exact ⟨by rw [HL.out]; rfl, hB1⟩
end Go.Proofs.Ytoejpodchlepiaa
set_option maxRecDepth 8000
namespace Go.Proofs.Ytoejpodchlepiaa
open Go.ChangeShapes Go.WideShapes Go.ChangeAt Go.RowKit

theorem Ow.far {w w' : World} {lo : Nat} {A : Option Addr} {n c : Nat} {xs : List Int} {row : Option Nat} (h : Ow w lo A n c xs) (hg : w.grownBy w' row) (hne : ∀ g, (Value.slice A n c).ownBlock = some g → row ≠ some g) : Ow w' lo A n c xs := by
  refine World.ownsRow.kept h hg ?_
  cases e : (Value.slice A n c).ownBlock with
  | none => exact .inl rfl
  | some g => exact .inr (fun he => hne g e he.symm)
theorem cell_other5 {w : World} {g g' k j : Nat} {v : Value} (h : g ≠ g') : (w.setCell ⟨g', k, none⟩ v).cell? ⟨g, j, none⟩ = w.cell? ⟨g, j, none⟩ := by
  unfold World.cell?
  rw [heap_setCell_other w ⟨g', k, none⟩ g v h]
theorem puz_info (s : Int) (Ag : Option Addr) (ng cg : Nat) (Ar : Option Addr) (nr cr : Nat) : (Try.prog.info? 48).map (·.size) = some (#[Value.int .i64 s, .slice Ag ng cg, .slice Ar nr cr] : Array Value).size := by
  show _ = some 3
  kernel_rfl
theorem puz_one (s : Int) (Ag : Option Addr) (ng cg : Nat) (Ar : Option Addr) (nr cr : Nat) : (#[Value.int .i64 s, .slice Ag ng cg, .slice Ar nr cr] : Array Value).all (·.oneCell') = true := by simp [Value.oneCell']
theorem setRow_below5 {B g : Nat} {w w' : World} {cs : Array Value} (h : Below B w w') (hg : B ≤ g) : Below B w (w'.setRow g cs) :=
  h.trans ⟨rfl, rfl, rfl, by simp, fun k hk => by unfold World.setRow; simp only [Array.getElem?_modify]; rw [if_neg (by omega)]⟩
theorem Ow.row5 {w : World} {lo n c g : Nat} {A : Option Addr} {xs : List Int} {cs : Array Value} (h : Ow w lo A n c xs) (hg : ∀ b, (Value.slice A n c).ownBlock = some b → b ≠ g) : Ow (w.setRow g cs) lo A n c xs :=
  h.far (row := some g) ⟨rfl, rfl, rfl, by simp, fun k hk hne => by unfold World.setRow; simp only [Array.getElem?_modify]; rw [if_neg (fun e => hne (by rw [e]))]⟩ (fun b hb e => hg b hb (by injection e with e; exact e.symm))

end Go.Proofs.Ytoejpodchlepiaa
