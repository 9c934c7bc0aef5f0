import Derived.Test.YtcjdjcpappfkgaaP5S
import Derived.Test.YtcjdjcpappfkgaaQ4R
import Derived.Test.YtcjdjcpappfkgaaQ4S
import Derived.Test.YtcjdjcpappfkgaaOwnL
set_option maxRecDepth 8000
namespace Go.Proofs.Ytcjdjcpappfkgaa
open Go.ChangeShapes Go.WideShapes Go.ChangeAt Go.RowKit
/-- a slice of rules whose cells' lengths keep to their capacities, as every slice of the program's does. -/
def RdRc (w : World) (B : Nat) (A : Option Addr) (n : Nat) (rs : List RuleM) : Prop :=
  rs.length = n ∧ (0 < n → ∃ b off, A = some ⟨b, off, none⟩ ∧ b < B ∧ ∀ i, i < n → ∃ A' c', w.cell? ⟨b, off + i * 3, none⟩ = some (.int .i64 (rat rs i).k) ∧ w.cell? ⟨b, off + i * 3 + 1, none⟩ = some (.slice A' (rat rs i).xs.length c') ∧ w.cell? ⟨b, off + i * 3 + 2, none⟩ = some (.int .i64 (rat rs i).v) ∧ Rd w B A' (rat rs i).xs.length (rat rs i).xs ∧ (rat rs i).xs.length ≤ 1099511627776 ∧ (rat rs i).xs.length ≤ c')
theorem RdRc.below {w w' : World} {B : Nat} {A : Option Addr} {n : Nat} {rs : List RuleM} (h : RdRc w B A n rs) (hb : Below B w w') : RdRc w' B A n rs :=
  ⟨h.1, fun hn => by
    obtain ⟨b, off, e, hlt, hc⟩ := h.2 hn
    refine ⟨b, off, e, hlt, fun i hi => ?_⟩
    obtain ⟨A', c', h0, h1, h2, h3, h4, h5⟩ := hc i hi
    exact ⟨A', c', (hb.cell (p := ⟨b, off + i * 3, none⟩) hlt).trans h0, (hb.cell (p := ⟨b, off + i * 3 + 1, none⟩) hlt).trans h1, (hb.cell (p := ⟨b, off + i * 3 + 2, none⟩) hlt).trans h2, h3.below hb, h4, h5⟩⟩
theorem RdRc.rd {w : World} {B : Nat} {A : Option Addr} {n : Nat} {rs : List RuleM} (h : RdRc w B A n rs) : RdRs w B A n rs :=
  ⟨h.1, fun hn => by
    obtain ⟨b, off, e, hlt, hc⟩ := h.2 hn
    refine ⟨b, off, e, hlt, fun i hi => ?_⟩
    obtain ⟨A', c', h0, h1, h2, h3, h4, h5⟩ := hc i hi
    exact ⟨A', c', h0, h1, h2, h3, h4⟩⟩
theorem OwR.rdc {w : World} {lo k c : Nat} {A : Option Addr} {rs : List RuleM} (hl : rs.length = k) (h : OwR w lo (.slice A k c) rs k) : RdRc w w.heap.size A k rs := by
  refine ⟨hl, fun hn => ?_⟩
  obtain ⟨vs, hown, hin⟩ := h
  obtain ⟨hvl, hcase⟩ := id hown
  rcases hcase with ⟨_, h0⟩ | ⟨g, cap, cur, hv, hlog, hrow, h1, h2, h3, h4⟩
  · omega
  · injection hv with hA _ _
    subst hA
    have hlt : g < w.heap.size := (Array.getElem?_eq_some_iff.1 hrow).1
    have hcell : ∀ j u, vs[j]? = some u → w.cell? ⟨g, 0 + j, none⟩ = some u := fun j u hj => by
      rw [Nat.zero_add, cell_of_row w g j cur _ _ hrow]
      rw [← h4, List.getElem?_take] at hj
      split at hj
      · simpa using hj
      · cases hj
    refine ⟨g, 0, rfl, hlt, fun i hi => ?_⟩
    obtain ⟨A', c', e0, e1, e2, e3, e4, e5⟩ := hin i hi
    exact ⟨A', c', hcell _ _ e0, by rw [Nat.add_assoc]; exact hcell _ _ e1, by rw [Nat.add_assoc]; exact hcell _ _ e2, e3.rd, e4, e3.le_cap⟩
def rulesB (s : Int) (rs : List RuleM) : Bool := (List.range rs.length).all fun i => rvR s (rat rs i)
set_option maxHeartbeats 1000000 in
theorem rulesValid_any (s : Int) (Ag : Option Addr) (ng cg : Nat) (Ar : Option Addr) (nr cr Br : Nat) (rs : List RuleM) (w : World) (hr : RdRc w Br Ar nr rs) (hBr : Br ≤ w.heap.size) (hmr : nr ≤ 1099511627776) :
    Calls Try.prog 44 #[.agg #[.int .i64 s, .slice Ag ng cg, .slice Ar nr cr]] w fun e w' => e = .returned (.bool (rulesB s rs)) ∧ Below w.heap.size w w' := by
  have hlen := Lib.hid hr.1
  have hx0 := pbox_new w s Ag ng cg Ar nr cr 27
  have hb0 : Below w.heap.size w (w.alloc (.cells #[.int .i64 s, .slice Ag ng cg, .slice Ar nr cr] 27)) := (Below.refl _ _).alloc (Nat.le_refl _) _
  have hs0 : w.heap.size + 1 ≤ (w.alloc (.cells #[.int .i64 s, .slice Ag ng cg, .slice Ar nr cr] 27)).heap.size := by simp
  obtain ⟨z0, z1, z2⟩ := id hx0
  have HR := Lib.hid (fun (w' : World) (hb : Below w.heap.size w w') => hr.below (hb.mono hBr))
  go_enter Try.func44, Try.ntmps44
  go_wp2
  go_loopw [8] (fun i wr => ∃ u : Nat, u ≤ nr ∧ i = .int .i64 u ∧ Hid (allR (rvR s) rs u) ∧ PBox wr w.heap.size s Ag ng cg Ar nr cr ∧ Below w.heap.size w wr ∧ w.heap.size + 1 ≤ wr.heap.size) (fun i _ => nr - (intOf i).toNat)
  case atStart => exact ⟨0, Nat.zero_le _, rfl, Lib.hid (fun j hj => absurd hj (by omega)), hx0, hb0, hs0⟩
  case round =>
    obtain ⟨u, hu, rfl, hall, hx, hb, hsw⟩ := hrel
    obtain ⟨c0, c1, c2⟩ := id hx
    by_cases hlt : u < nr
    · obtain ⟨b, off, rfl, hbB, hcc⟩ := (HR.out _ hb).2 (by omega)
      obtain ⟨A', c', r0, r1, r2, r3, r4, r5⟩ := hcc u hlt
      obtain ⟨rk, hrk⟩ : ∃ x, x = (rat rs u).k := ⟨_, rfl⟩
      obtain ⟨rx, hrx⟩ : ∃ x, x = (rat rs u).xs := ⟨_, rfl⟩
      obtain ⟨rvv, hrv⟩ : ∃ x, x = (rat rs u).v := ⟨_, rfl⟩
      have hrr : rvR s (rat rs u) = rv rk rx rvv s := by simp only [rvR, hrk, hrx, hrv]
      rw [← hrk] at r0
      rw [← hrx] at r1 r3 r4 r5
      rw [← hrv] at r2
      have hin : (u : Int) < (nr : Int) := by omega
      have hy := rbox_new wr rk A' rx.length c' rvv 44
      have hb1 : Below wr.heap.size wr (wr.alloc (.cells #[.int .i64 rk, .slice A' rx.length c', .int .i64 rvv] 44)) := (Below.refl _ _).alloc (Nat.le_refl _) _
      obtain ⟨y0, y1, y2⟩ := id hy
      have hx1 := hx.below (Nat.lt_of_lt_of_le (Nat.lt_succ_self _) hsw) hb1
      obtain ⟨d0, d1, d2⟩ := id hx1
      have HC := Lib.hid (implRuleValid A' c' rx.length Br rx rk rvv s (wr.alloc (.cells #[.int .i64 rk, .slice A' rx.length c', .int .i64 rvv] 44)) (r3.below (hb1.mono (Nat.le_trans hBr hb.size))) (Nat.le_trans (Nat.le_trans hBr hb.size) hb1.size) r4 r5)
      have hbw := hb.trans (hb1.mono hb.size)
      have hs1 : w.heap.size < (wr.alloc (.cells #[.int .i64 rk, .slice A' rx.length c', .int .i64 rvv] 44)).heap.size := by simp; omega
      cases hv : rv rk rx rvv s
      · have HL := Lib.hid (show rulesB s rs = false from not_all_rat hlen.out hlt (hrr.trans hv))
        clear hrk hrx hrv hcc hrr
        go_wp2_with (go_at_call 51; refine HC.out.mono ?_; rintro e w3 ⟨rfl, hb3⟩; rw [hv])
        go_ret
        exact ⟨by rw [HL.out]; rfl, step hbw hb3⟩
      · have hall2 := Lib.hid (show allR (rvR s) rs (u + 1) from fun i hi => by
          by_cases e : i = u
          · subst e; exact hrr.trans hv
          · exact hall.out i (by omega))
        clear hrk hrx hrv hcc hrr
        go_wp2_with (go_at_call 51; refine HC.out.mono ?_; rintro e w3 ⟨rfl, hb3⟩; rw [hv])
        go_roundw
        case rel => exact ⟨u + 1, hlt, by go_num, hall2, hx1.below hs1 hb3, step hbw hb3, Nat.le_trans hs1 hb3.size⟩
        case measure => simp [intOf]; omega
    · obtain rfl : u = nr := by omega
      have HL := Lib.hid (show rulesB s rs = true from all_rat hlen.out hall.out)
      go_wp2
      go_ret
      exact ⟨by rw [HL.out]; rfl, hb⟩
/-- a puzzle and a grid that the program reads. -/
structure PGc (w : World) (s : Int) (Ag : Option Addr) (ng cg Bg : Nat) (gi : List Int) (Ar : Option Addr) (nr cr Br : Nat) (rs : List RuleM) : Prop where
  g : Rd w Bg Ag ng gi
  gB : Bg ≤ w.heap.size
  gm : ng ≤ 1099511627776
  r : RdRc w Br Ar nr rs
  rB : Br ≤ w.heap.size
  rm : nr ≤ 1099511627776
theorem PGc.below {w w' : World} {s : Int} {Ag : Option Addr} {ng cg Bg : Nat} {gi : List Int} {Ar : Option Addr} {nr cr Br : Nat} {rs : List RuleM} (h : PGc w s Ag ng cg Bg gi Ar nr cr Br rs) (hb : Below w.heap.size w w') : PGc w' s Ag ng cg Bg gi Ar nr cr Br rs :=
  ⟨h.g.below (hb.mono h.gB), Nat.le_trans h.gB hb.size, h.gm, h.r.below (hb.mono h.rB), Nat.le_trans h.rB hb.size, h.rm⟩
theorem PGc.rd {w : World} {s : Int} {Ag : Option Addr} {ng cg Bg : Nat} {gi : List Int} {Ar : Option Addr} {nr cr Br : Nat} {rs : List RuleM} (h : PGc w s Ag ng cg Bg gi Ar nr cr Br rs) : PGs w s Ag ng cg Bg gi Ar nr cr Br rs := ⟨h.g, h.gB, h.gm, h.r.rd, h.rB, h.rm⟩
set_option maxHeartbeats 1000000 in
theorem valid_any (s : Int) (Ag : Option Addr) (ng cg Bg : Nat) (gi : List Int) (Ar : Option Addr) (nr cr Br : Nat) (rs : List RuleM) (w : World) (hp : PGc w s Ag ng cg Bg gi Ar nr cr Br rs) :
    Calls Try.prog 36 #[.agg #[.int .i64 s, .slice Ag ng cg, .slice Ar nr cr]] w fun e w' => e = .returned (.bool (pvB s gi rs)) ∧ Below w.heap.size w w' := by
  have hlen := Lib.hid hp.r.1
  have hx0 := pbox_new w s Ag ng cg Ar nr cr 27
  have hb0 : Below w.heap.size w (w.alloc (.cells #[.int .i64 s, .slice Ag ng cg, .slice Ar nr cr] 27)) := (Below.refl _ _).alloc (Nat.le_refl _) _
  have hs0 : w.heap.size < (w.alloc (.cells #[.int .i64 s, .slice Ag ng cg, .slice Ar nr cr] 27)).heap.size := by simp
  obtain ⟨z0, z1, z2⟩ := id hx0
  have HG := Lib.hid (fun w' (hb : Below w.heap.size w w') => implGridValid Ag cg ng Bg gi s w' (hp.below hb).g (hp.below hb).gB hp.gm)
  have HR := Lib.hid (fun w' (hb : Below w.heap.size w w') => rulesValid_any s Ag ng cg Ar nr cr Br rs w' (hp.below hb).r (hp.below hb).rB hp.rm)
  cases hg : gv gi s
  · have HL := Lib.hid (show pvB s gi rs = false by simp [pvB, hg])
    go_enter Try.func36, Try.ntmps36
    go_wp2_with (go_at_call 37; refine (HG.out _ hb0).mono ?_; rintro e w1 ⟨rfl, hb1⟩; rw [hg])
    go_ret
    exact ⟨by rw [HL.out]; rfl, step hb0 hb1⟩
  · by_cases hn : (nr : Int) ≤ 20
    · have HL := Lib.hid (show pvB s gi rs = rulesB s rs by
        unfold pvB rulesB
        rw [hg, decide_eq_true (by rw [hlen.out]; omega), Bool.and_true, Bool.and_true])
      go_enter Try.func36, Try.ntmps36
      go_wp2_with (first | (go_at_call 37; refine (HG.out _ hb0).mono ?_; rintro e w1 ⟨rfl, hb1⟩; rw [hg]; have h01 := step hb0 hb1; obtain ⟨c0, c1, c2⟩ := hx0.below hs0 hb1) | (go_at_call 44; refine (HR.out _ h01).mono ?_; rintro e w2 ⟨rfl, hb2⟩))
      go_ret
      exact ⟨by rw [HL.out]; rfl, step h01 hb2⟩
    · have HL := Lib.hid (show pvB s gi rs = false by
        unfold pvB
        rw [show decide (rs.length ≤ 20) = false from decide_eq_false (by rw [hlen.out]; omega), Bool.and_false])
      go_enter Try.func36, Try.ntmps36
      go_wp2_with (go_at_call 37; refine (HG.out _ hb0).mono ?_; rintro e w1 ⟨rfl, hb1⟩; rw [hg]; have h01 := step hb0 hb1; obtain ⟨c0, c1, c2⟩ := hx0.below hs0 hb1)
      go_ret
      exact ⟨by rw [HL.out]; rfl, h01⟩
end Go.Proofs.Ytcjdjcpappfkgaa
