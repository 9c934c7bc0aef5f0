import Derived.Test.YtlnmioijgclndaaDoorFSe
import Derived.Test.YtlnmioijgclndaaDoorQ4S
import Derived.Deep.RegionHeld3
import Derived.Test.YtlnmioijgclndaaDoorFSqnS
import Derived.RegionTactic
import Derived.Laws.Rows
import Derived.Laws.Tables
import Derived.Test.YtlnmioijgclndaaDoorC3G
import Derived.Lib.BitFns
import Derived.OrdersHeld
import Derived.Test.YtlnmioijgclndaaDoorPushAll
import Derived.Test.YtlnmioijgclndaaDoorBase
set_option maxRecDepth 8000
namespace Go.Proofs.YtlnmioijgclndaaDoor
open Go.ChangeShapes Go.WideShapes Go.ChangeAt Go.RowKit
/-- the search, by value. -/
def sVal (G OB RB n : Nat) : Value := .agg #[.slice (some ⟨G, 0, none⟩) n n, .slice (some ⟨OB, 0, none⟩) n n, .slice (some ⟨RB, 0, none⟩) n n]
def holdsR (ys : List Int) (r : RuleM) : Bool := holdsB r.k r.v (pks ys r.xs r.xs.length)
def holdsQ (ys : List Int) (q : List RuleM) : Bool := (List.range q.length).all fun i => holdsR ys (rat q i)
/-- the search's three cells in block g. -/
def SBox (w : World) (g G OB RB n : Nat) : Prop := w.cell? ⟨g, 0, none⟩ = some (.slice (some ⟨G, 0, none⟩) n n) ∧ w.cell? ⟨g, 1, none⟩ = some (.slice (some ⟨OB, 0, none⟩) n n) ∧ w.cell? ⟨g, 2, none⟩ = some (.slice (some ⟨RB, 0, none⟩) n n)
theorem SBox.below {w w' : World} {g B G OB RB n : Nat} (h : SBox w g G OB RB n) (hg : g < B) (hb : Below B w w') : SBox w' g G OB RB n :=
  ⟨(hb.cell (p := ⟨g, 0, none⟩) hg).trans h.1, (hb.cell (p := ⟨g, 1, none⟩) hg).trans h.2.1, (hb.cell (p := ⟨g, 2, none⟩) hg).trans h.2.2⟩
theorem SBox.lt {w : World} {g G OB RB n : Nat} (h : SBox w g G OB RB n) : g < w.heap.size := cell_lt h.1
theorem sbox_new (w : World) (G OB RB n : Nat) (t : TypeId) : SBox (w.alloc (.cells #[.slice (some ⟨G, 0, none⟩) n n, .slice (some ⟨OB, 0, none⟩) n n, .slice (some ⟨RB, 0, none⟩) n n] t)) w.heap.size G OB RB n :=
  ⟨cell_of_row _ _ 0 _ _ (0, 0) (heap_alloc_new w _), cell_of_row _ _ 1 _ _ (0, 0) (heap_alloc_new w _), cell_of_row _ _ 2 _ _ (0, 0) (heap_alloc_new w _)⟩
theorem nHolds1 (k v : Int) (A : Option Addr) (n c : Nat) (w : World) : (nilAhead 214 84 (.agg #[.int .i64 k, .slice A n c, .int .i64 v]) "loop.example/gridpuzzles/impl.holdsWith").run Tryd.prog w = .ok (some false) w := by kernel_rfl

theorem nHolds2 (k v : Int) (A : Option Addr) (n c : Nat) (w : World) : (nilAhead 214 85 (.agg #[.int .i64 k, .slice A n c, .int .i64 v]) "loop.example/gridpuzzles/impl.holdsWith").run Tryd.prog w = .ok (some false) w := by kernel_rfl

theorem nHolds3 (k v : Int) (A : Option Addr) (n c : Nat) (w : World) : (nilAhead 214 86 (.agg #[.int .i64 k, .slice A n c, .int .i64 v]) "loop.example/gridpuzzles/impl.holdsWith").run Tryd.prog w = .ok (some false) w := by kernel_rfl

theorem nHolds4 (k v : Int) (A : Option Addr) (n c : Nat) (w : World) : (nilAhead 214 87 (.agg #[.int .i64 k, .slice A n c, .int .i64 v]) "loop.example/gridpuzzles/impl.holdsWith").run Tryd.prog w = .ok (some false) w := by kernel_rfl

theorem nHolds5 (k v : Int) (A : Option Addr) (n c : Nat) (w : World) : (nilAhead 214 88 (.agg #[.int .i64 k, .slice A n c, .int .i64 v]) "loop.example/gridpuzzles/impl.holdsWith").run Tryd.prog w = .ok (some false) w := by kernel_rfl

set_option maxHeartbeats 2000000 in
theorem rulesHold_any (W0 : World) (B0 G OB RB n L p : Nat) (s : Int) (A : Option Addr) (cap : Nat) (q : List RuleM) (ys : List Int) (X : World)
    (hrow : X.cell? ⟨RB, p, none⟩ = some (.slice A q.length cap)) (hq : RdW W0 B0 X L A q) (h0 : Below B0 W0 X) (hB0 : B0 ≤ W0.heap.size) (hp : p < n) (hg : Rd X X.heap.size (some ⟨G, 0, none⟩) n ys) (hql : q.length ≤ 1099511627776)
    (hv : ∀ i, i < q.length → rvR s (rat q i) = true) (hin : ∀ i, i < q.length → ∀ j, j < (rat q i).xs.length → 0 ≤ nth (rat q i).xs j ∧ nth (rat q i).xs j < n) (hsm : ∀ i, i < q.length → small4 (pks ys (rat q i).xs (rat q i).xs.length) (rat q i).xs.length) :
    Calls Tryd.prog 51 #[sVal G OB RB n, .int .i64 p] X fun e Y => e = .returned (.bool (holdsQ ys q)) ∧ Below X.heap.size X Y := by
  unfold sVal
  have hx0 := sbox_new X G OB RB n 65
  have hb0 : Below X.heap.size X (X.alloc (.cells #[.slice (some ⟨G, 0, none⟩) n n, .slice (some ⟨OB, 0, none⟩) n n, .slice (some ⟨RB, 0, none⟩) n n] 65)) := (Below.refl _ _).alloc (Nat.le_refl _) _
  have hs0 : X.heap.size + 1 ≤ (X.alloc (.cells #[.slice (some ⟨G, 0, none⟩) n n, .slice (some ⟨OB, 0, none⟩) n n, .slice (some ⟨RB, 0, none⟩) n n] 65)).heap.size := by simp
  obtain ⟨z0, z1, z2⟩ := id hx0
  have hrw := cell_lt hrow
  have hrow0 := (hb0.cell (p := ⟨RB, p, none⟩) hrw).trans hrow
  have hpI : (p : Int) < (n : Int) := by omega
  have HQ := Lib.hid hq
  have HG := Lib.hid hg
  have H0 := Lib.hid h0
  have HV := Lib.hid hv
  have HIN := Lib.hid hin
  have HSM := Lib.hid hsm
  obtain ⟨l, hl⟩ : ∃ l, l = q.length := ⟨_, rfl⟩
  rw [← hl] at hrow0 hql
  have Hl := Lib.hid hl
  clear hl hrow hq hg h0 hv hin hsm
  go_enter Tryd.func51, Tryd.ntmps51
  go_wp2
  go_loopw [13] (fun i wr => ∃ u : Nat, u ≤ l ∧ i = .int .i64 u ∧ Hid (allR (holdsR ys) q u) ∧ SBox wr X.heap.size G OB RB n ∧ Below X.heap.size X wr ∧ X.heap.size + 1 ≤ wr.heap.size) (fun i _ => l - (intOf i).toNat)
  case atStart => exact ⟨0, Nat.zero_le _, rfl, Lib.hid (fun j hj => absurd hj (by omega)), hx0, hb0, hs0⟩
  case round =>
    obtain ⟨u, hu, rfl, hall, hx, hb, hsw⟩ := hrel
    obtain ⟨c0, c1, c2⟩ := id hx
    by_cases hlt : u < l
    · have hltq : u < q.length := by rw [← Hl.out]; exact hlt
      obtain ⟨b, rfl, hbL, hcc⟩ := HQ.out (by omega)
      obtain ⟨A', c', r0, r1, r2, r3, r5⟩ := hcc u hltq
      have hv0 := HV.out u hltq
      have hxin0 := HIN.out u hltq
      have hsm0 := HSM.out u hltq
      have hHR : holdsR ys (rat q u) = holdsB (rat q u).k (rat q u).v (pks ys (rat q u).xs (rat q u).xs.length) := rfl
      obtain ⟨rk, hrk⟩ : ∃ x, x = (rat q u).k := ⟨_, rfl⟩
      obtain ⟨rx, hrx⟩ : ∃ x, x = (rat q u).xs := ⟨_, rfl⟩
      obtain ⟨rvv, hrv⟩ : ∃ x, x = (rat q u).v := ⟨_, rfl⟩
      have hv1 : rv rk rx rvv s = true := by rw [hrk, hrx, hrv]; exact hv0
      rw [← hrk, ← hrx, ← hrv] at hHR
      rw [← hrk] at r0
      rw [← hrx] at r1 r3 r5 hxin0 hsm0
      rw [← hrv] at r2
      obtain ⟨_, ⟨hn1, hn4⟩, hk2, _⟩ := rv_facts rfl hv1
      have hin' : (u : Int) < (l : Int) := by omega
      have hbX := cell_lt r0
      have r0 := (hb.cell (p := ⟨b, u * 3, none⟩) hbX).trans r0
      have r1 := (hb.cell (p := ⟨b, u * 3 + 1, none⟩) hbX).trans r1
      have r2 := (hb.cell (p := ⟨b, u * 3 + 2, none⟩) hbX).trans r2
      have hy := rbox_new wr rk A' rx.length c' rvv 59
      have hb1 : Below wr.heap.size wr (wr.alloc (.cells #[.int .i64 rk, .slice A' rx.length c', .int .i64 rvv] 59)) := (Below.refl _ _).alloc (Nat.le_refl _) _
      obtain ⟨y0, y1, y2⟩ := id hy
      have hx1 := hx.below (Nat.lt_of_lt_of_le (Nat.lt_succ_self _) hsw) hb1
      obtain ⟨d0, d1, d2⟩ := id hx1
      have hbw := hb.trans (hb1.mono hb.size)
      have hs1 : X.heap.size < (wr.alloc (.cells #[.int .i64 rk, .slice A' rx.length c', .int .i64 rvv] 59)).heap.size := by simp; omega
      have hs2 : wr.heap.size < (wr.alloc (.cells #[.int .i64 rk, .slice A' rx.length c', .int .i64 rvv] 59)).heap.size := by simp
      obtain ⟨W, hW⟩ : ∃ W, wr.alloc (.cells #[.int .i64 rk, .slice A' rx.length c', .int .i64 rvv] 59) = W := ⟨_, rfl⟩
      rw [hW] at hy y0 y1 y2 hx1 d0 d1 d2 hbw hs1 hs2
      have HS : Hid (∀ w', Below W.heap.size W w' → w'.cell? ⟨wr.heap.size, 0, none⟩ = some (.int .i64 rk) ∧ w'.cell? ⟨wr.heap.size, 1, none⟩ = some (.slice A' rx.length c') ∧ w'.cell? ⟨wr.heap.size, 2, none⟩ = some (.int .i64 rvv) ∧ w'.cell? ⟨X.heap.size, 0, none⟩ = some (.slice (some ⟨G, 0, none⟩) n n)) :=
        Lib.hid (fun w' hb => by
          obtain ⟨e0, e1, e2⟩ := hy.below hs2 hb
          exact ⟨e0, e1, e2, (hx1.below hs1 hb).1⟩)
      have HPK := Lib.hid (fun w' (hb2 : Below W.heap.size W w') => implPick (some ⟨G, 0, none⟩) n n X.heap.size ys A' c' rx.length B0 rx w' (HG.out.below (hbw.trans (hb2.mono hbw.size))) (r3.below (H0.out.trans ((hbw.trans (hb2.mono hbw.size)).mono (Nat.le_trans hB0 H0.out.size)))) (Nat.le_trans hbw.size hb2.size) (Nat.le_trans (Nat.le_trans (Nat.le_trans hB0 H0.out.size) hbw.size) hb2.size) (by omega) hxin0)
      have Hpl := Lib.hid (pks_length ys rx rx.length)
      have Hsm := Lib.hid hsm0
      have Hk := Lib.hid (rv_kind hv1)
      have Hk2 : rk = 1 ∨ rk = 2 ∨ rk = 3 ∨ 2 ≤ rx.length := hk2
      obtain ⟨bb, hbb⟩ : ∃ bb, holdsB rk rvv (pks ys rx rx.length) = bb := ⟨_, rfl⟩
      have Hbb := Lib.hid hbb
      have Hbw := Lib.hid hbw
      have hx1' := Lib.hid hx1
      have Hlt := Lib.hid hlt
      have HR : Hid (holdsR ys (rat q u) = bb) := Lib.hid (hHR.trans hbb)
      have HU := Lib.hid (show ∀ b', bb = b' → (b' = false → holdsQ ys q = false) ∧ (b' = true → Hid (allR (holdsR ys) q (u + 1))) from fun b' e => ⟨fun h => not_all_rat rfl hltq (by rw [HR.out, e, h]), fun h => Lib.hid (fun i hi => by
        by_cases e2 : i = u
        · subst e2; rw [HR.out, e, h]
        · exact hall.out i (by omega))⟩)
      have Hofk := Lib.hid (fun w' => ofKind_any A' c' rx.length rk rvv w')
      clear hrk hrx hrv hcc hsm0 hbb hv0 hv1 hx hb1 hHR hk2 hxin0 r3 hbX hltq hall hrow0
      rcases Hk.out with rfl | rfl | rfl | rfl | rfl
      · have M : ∀ w, (method 214 84 (.agg #[.int .i64 1, .slice A' rx.length c', .int .i64 rvv]) "loop.example/gridpuzzles/impl.holdsWith").run Tryd.prog w = .ok (76, .agg #[.int .i64 1, .slice A' rx.length c', .int .i64 rvv]) w := fun w => mHolds1 _ _ _ _ _ w
        have NA : ∀ w, (nilAhead 214 84 (.agg #[.int .i64 1, .slice A' rx.length c', .int .i64 rvv]) "loop.example/gridpuzzles/impl.holdsWith").run Tryd.prog w = .ok (some false) w := fun w => nHolds1 _ _ _ _ _ w
        have h2 : 4 ≤ 1 → 2 ≤ rx.length := by omega
        have Hofi : ofk 1 (rval 1 A' rx.length c' rvv) = .iface 84 (.agg #[.int .i64 1, .slice A' rx.length c', .int .i64 rvv]) := rfl
        rw [Hofi] at Hofk
        clear Hofi
        go_wp2_with fail
        go_region_held3 (fun w' => w'.cell? ⟨wr.heap.size, 0, none⟩ = some (.int .i64 1) ∧ w'.cell? ⟨wr.heap.size, 1, none⟩ = some (.slice A' rx.length c') ∧ w'.cell? ⟨wr.heap.size, 2, none⟩ = some (.int .i64 rvv) ∧ w'.cell? ⟨X.heap.size, 0, none⟩ = some (.slice (some ⟨G, 0, none⟩) n n))
          (first | go_keep | exact HS.out _ h6 | exact HS.out _ h3 | exact HS.out _ h5)
          ((first
            | (go_simp; go_at_call 76; refine (hold1 _ _ _ _ _ _ _ _ _ _ (by first | exact ho3.rd | exact ho3.rd.below hb5') (by first | exact Nat.le_refl _ | exact hb5'.size) hn4 ho3.le_cap Hsm h2).mono ?_; rw [Hbb.out]; rintro e w6 ⟨rfl, hb6'⟩; have h6 : Below W.heap.size W w6 := (by first | exact step h5 hb6' | exact step h3 hb6' | exact step h5.drew hb6' | exact step h3.drew hb6'))
            | (go_simp; go_at_call 25; refine (HPK.out _ (by first | exact (Below.refl _ _).drew | exact h5 | exact h5.drew | exact Below.refl _ _)).mono ?_; rintro e w3 ⟨A3, c3, rfl, ho3, hb3'⟩; rw [Hpl.out] at ho3 ⊢; have h3 : Below W.heap.size W w3 := (by first | exact ((Below.refl _ _).drew).trans hb3' | exact step h5 hb3' | exact step h5.drew hb3' | exact hb3'))
            | (go_simp; go_at_call 44; refine (Hofk.out _).mono ?_; rintro e w5 ⟨rfl, hb5'⟩; have h5 : Below W.heap.size W w5 := (by first | exact ((Below.refl _ _).drew).trans hb5' | exact step h3 hb5' | exact step h3.drew hb5' | exact hb5'))))
        all_goals
          cases bb
          · have HF := Lib.hid ((HU.out false rfl).1 rfl)
            go_wp2
            go_ret
            exact ⟨by rw [HF.out]; rfl, step Hbw.out h6⟩
          · have HT := (HU.out true rfl).2 rfl
            go_wp2
            go_roundw
            case rel => exact ⟨u + 1, Hlt.out, by go_num, HT, hx1'.out.below hs1 h6, step Hbw.out h6, Nat.le_trans hs1 h6.size⟩
            case measure => have := Hlt.out; simp [intOf]; omega

      · have M : ∀ w, (method 214 85 (.agg #[.int .i64 2, .slice A' rx.length c', .int .i64 rvv]) "loop.example/gridpuzzles/impl.holdsWith").run Tryd.prog w = .ok (78, .agg #[.int .i64 2, .slice A' rx.length c', .int .i64 rvv]) w := fun w => mHolds2 _ _ _ _ _ w
        have NA : ∀ w, (nilAhead 214 85 (.agg #[.int .i64 2, .slice A' rx.length c', .int .i64 rvv]) "loop.example/gridpuzzles/impl.holdsWith").run Tryd.prog w = .ok (some false) w := fun w => nHolds2 _ _ _ _ _ w
        have h2 : 4 ≤ 2 → 2 ≤ rx.length := by omega
        have Hofi : ofk 2 (rval 2 A' rx.length c' rvv) = .iface 85 (.agg #[.int .i64 2, .slice A' rx.length c', .int .i64 rvv]) := rfl
        rw [Hofi] at Hofk
        clear Hofi
        go_wp2_with fail
        go_region_held3 (fun w' => w'.cell? ⟨wr.heap.size, 0, none⟩ = some (.int .i64 2) ∧ w'.cell? ⟨wr.heap.size, 1, none⟩ = some (.slice A' rx.length c') ∧ w'.cell? ⟨wr.heap.size, 2, none⟩ = some (.int .i64 rvv) ∧ w'.cell? ⟨X.heap.size, 0, none⟩ = some (.slice (some ⟨G, 0, none⟩) n n))
          (first | go_keep | exact HS.out _ h6 | exact HS.out _ h3 | exact HS.out _ h5)
          ((first
            | (go_simp; go_at_call 78; refine (hold2 _ _ _ _ _ _ _ _ _ _ (by first | exact ho3.rd | exact ho3.rd.below hb5') (by first | exact Nat.le_refl _ | exact hb5'.size) hn4 ho3.le_cap Hsm h2).mono ?_; rw [Hbb.out]; rintro e w6 ⟨rfl, hb6'⟩; have h6 : Below W.heap.size W w6 := (by first | exact step h5 hb6' | exact step h3 hb6' | exact step h5.drew hb6' | exact step h3.drew hb6'))
            | (go_simp; go_at_call 25; refine (HPK.out _ (by first | exact (Below.refl _ _).drew | exact h5 | exact h5.drew | exact Below.refl _ _)).mono ?_; rintro e w3 ⟨A3, c3, rfl, ho3, hb3'⟩; rw [Hpl.out] at ho3 ⊢; have h3 : Below W.heap.size W w3 := (by first | exact ((Below.refl _ _).drew).trans hb3' | exact step h5 hb3' | exact step h5.drew hb3' | exact hb3'))
            | (go_simp; go_at_call 44; refine (Hofk.out _).mono ?_; rintro e w5 ⟨rfl, hb5'⟩; have h5 : Below W.heap.size W w5 := (by first | exact ((Below.refl _ _).drew).trans hb5' | exact step h3 hb5' | exact step h3.drew hb5' | exact hb5'))))
        all_goals
          cases bb
          · have HF := Lib.hid ((HU.out false rfl).1 rfl)
            go_wp2
            go_ret
            exact ⟨by rw [HF.out]; rfl, step Hbw.out h6⟩
          · have HT := (HU.out true rfl).2 rfl
            go_wp2
            go_roundw
            case rel => exact ⟨u + 1, Hlt.out, by go_num, HT, hx1'.out.below hs1 h6, step Hbw.out h6, Nat.le_trans hs1 h6.size⟩
            case measure => have := Hlt.out; simp [intOf]; omega

      · have M : ∀ w, (method 214 86 (.agg #[.int .i64 3, .slice A' rx.length c', .int .i64 rvv]) "loop.example/gridpuzzles/impl.holdsWith").run Tryd.prog w = .ok (81, .agg #[.int .i64 3, .slice A' rx.length c', .int .i64 rvv]) w := fun w => mHolds3 _ _ _ _ _ w
        have NA : ∀ w, (nilAhead 214 86 (.agg #[.int .i64 3, .slice A' rx.length c', .int .i64 rvv]) "loop.example/gridpuzzles/impl.holdsWith").run Tryd.prog w = .ok (some false) w := fun w => nHolds3 _ _ _ _ _ w
        have h2 : 4 ≤ 3 → 2 ≤ rx.length := by omega
        have Hofi : ofk 3 (rval 3 A' rx.length c' rvv) = .iface 86 (.agg #[.int .i64 3, .slice A' rx.length c', .int .i64 rvv]) := rfl
        rw [Hofi] at Hofk
        clear Hofi
        go_wp2_with fail
        go_region_held3 (fun w' => w'.cell? ⟨wr.heap.size, 0, none⟩ = some (.int .i64 3) ∧ w'.cell? ⟨wr.heap.size, 1, none⟩ = some (.slice A' rx.length c') ∧ w'.cell? ⟨wr.heap.size, 2, none⟩ = some (.int .i64 rvv) ∧ w'.cell? ⟨X.heap.size, 0, none⟩ = some (.slice (some ⟨G, 0, none⟩) n n))
          (first | go_keep | exact HS.out _ h6 | exact HS.out _ h3 | exact HS.out _ h5)
          ((first
            | (go_simp; go_at_call 81; refine (hold3 _ _ _ _ _ _ _ _ _ _ (by first | exact ho3.rd | exact ho3.rd.below hb5') (by first | exact Nat.le_refl _ | exact hb5'.size) hn4 ho3.le_cap Hsm h2).mono ?_; rw [Hbb.out]; rintro e w6 ⟨rfl, hb6'⟩; have h6 : Below W.heap.size W w6 := (by first | exact step h5 hb6' | exact step h3 hb6' | exact step h5.drew hb6' | exact step h3.drew hb6'))
            | (go_simp; go_at_call 25; refine (HPK.out _ (by first | exact (Below.refl _ _).drew | exact h5 | exact h5.drew | exact Below.refl _ _)).mono ?_; rintro e w3 ⟨A3, c3, rfl, ho3, hb3'⟩; rw [Hpl.out] at ho3 ⊢; have h3 : Below W.heap.size W w3 := (by first | exact ((Below.refl _ _).drew).trans hb3' | exact step h5 hb3' | exact step h5.drew hb3' | exact hb3'))
            | (go_simp; go_at_call 44; refine (Hofk.out _).mono ?_; rintro e w5 ⟨rfl, hb5'⟩; have h5 : Below W.heap.size W w5 := (by first | exact ((Below.refl _ _).drew).trans hb5' | exact step h3 hb5' | exact step h3.drew hb5' | exact hb5'))))
        all_goals
          cases bb
          · have HF := Lib.hid ((HU.out false rfl).1 rfl)
            go_wp2
            go_ret
            exact ⟨by rw [HF.out]; rfl, step Hbw.out h6⟩
          · have HT := (HU.out true rfl).2 rfl
            go_wp2
            go_roundw
            case rel => exact ⟨u + 1, Hlt.out, by go_num, HT, hx1'.out.below hs1 h6, step Hbw.out h6, Nat.le_trans hs1 h6.size⟩
            case measure => have := Hlt.out; simp [intOf]; omega

      · have M : ∀ w, (method 214 87 (.agg #[.int .i64 4, .slice A' rx.length c', .int .i64 rvv]) "loop.example/gridpuzzles/impl.holdsWith").run Tryd.prog w = .ok (83, .agg #[.int .i64 4, .slice A' rx.length c', .int .i64 rvv]) w := fun w => mHolds4 _ _ _ _ _ w
        have NA : ∀ w, (nilAhead 214 87 (.agg #[.int .i64 4, .slice A' rx.length c', .int .i64 rvv]) "loop.example/gridpuzzles/impl.holdsWith").run Tryd.prog w = .ok (some false) w := fun w => nHolds4 _ _ _ _ _ w
        have h2 : 4 ≤ 4 → 2 ≤ rx.length := by omega
        have Hofi : ofk 4 (rval 4 A' rx.length c' rvv) = .iface 87 (.agg #[.int .i64 4, .slice A' rx.length c', .int .i64 rvv]) := rfl
        rw [Hofi] at Hofk
        clear Hofi
        go_wp2_with fail
        go_region_held3 (fun w' => w'.cell? ⟨wr.heap.size, 0, none⟩ = some (.int .i64 4) ∧ w'.cell? ⟨wr.heap.size, 1, none⟩ = some (.slice A' rx.length c') ∧ w'.cell? ⟨wr.heap.size, 2, none⟩ = some (.int .i64 rvv) ∧ w'.cell? ⟨X.heap.size, 0, none⟩ = some (.slice (some ⟨G, 0, none⟩) n n))
          (first | go_keep | exact HS.out _ h6 | exact HS.out _ h3 | exact HS.out _ h5)
          ((first
            | (go_simp; go_at_call 83; refine (hold4 _ _ _ _ _ _ _ _ _ _ (by first | exact ho3.rd | exact ho3.rd.below hb5') (by first | exact Nat.le_refl _ | exact hb5'.size) hn4 ho3.le_cap Hsm h2).mono ?_; rw [Hbb.out]; rintro e w6 ⟨rfl, hb6'⟩; have h6 : Below W.heap.size W w6 := (by first | exact step h5 hb6' | exact step h3 hb6' | exact step h5.drew hb6' | exact step h3.drew hb6'))
            | (go_simp; go_at_call 25; refine (HPK.out _ (by first | exact (Below.refl _ _).drew | exact h5 | exact h5.drew | exact Below.refl _ _)).mono ?_; rintro e w3 ⟨A3, c3, rfl, ho3, hb3'⟩; rw [Hpl.out] at ho3 ⊢; have h3 : Below W.heap.size W w3 := (by first | exact ((Below.refl _ _).drew).trans hb3' | exact step h5 hb3' | exact step h5.drew hb3' | exact hb3'))
            | (go_simp; go_at_call 44; refine (Hofk.out _).mono ?_; rintro e w5 ⟨rfl, hb5'⟩; have h5 : Below W.heap.size W w5 := (by first | exact ((Below.refl _ _).drew).trans hb5' | exact step h3 hb5' | exact step h3.drew hb5' | exact hb5'))))
        all_goals
          cases bb
          · have HF := Lib.hid ((HU.out false rfl).1 rfl)
            go_wp2
            go_ret
            exact ⟨by rw [HF.out]; rfl, step Hbw.out h6⟩
          · have HT := (HU.out true rfl).2 rfl
            go_wp2
            go_roundw
            case rel => exact ⟨u + 1, Hlt.out, by go_num, HT, hx1'.out.below hs1 h6, step Hbw.out h6, Nat.le_trans hs1 h6.size⟩
            case measure => have := Hlt.out; simp [intOf]; omega

      · have M : ∀ w, (method 214 88 (.agg #[.int .i64 5, .slice A' rx.length c', .int .i64 rvv]) "loop.example/gridpuzzles/impl.holdsWith").run Tryd.prog w = .ok (85, .agg #[.int .i64 5, .slice A' rx.length c', .int .i64 rvv]) w := fun w => mHolds5 _ _ _ _ _ w
        have NA : ∀ w, (nilAhead 214 88 (.agg #[.int .i64 5, .slice A' rx.length c', .int .i64 rvv]) "loop.example/gridpuzzles/impl.holdsWith").run Tryd.prog w = .ok (some false) w := fun w => nHolds5 _ _ _ _ _ w
        have h2 : 4 ≤ 5 → 2 ≤ rx.length := by omega
        have Hofi : ofk 5 (rval 5 A' rx.length c' rvv) = .iface 88 (.agg #[.int .i64 5, .slice A' rx.length c', .int .i64 rvv]) := rfl
        rw [Hofi] at Hofk
        clear Hofi
        go_wp2_with fail
        go_region_held3 (fun w' => w'.cell? ⟨wr.heap.size, 0, none⟩ = some (.int .i64 5) ∧ w'.cell? ⟨wr.heap.size, 1, none⟩ = some (.slice A' rx.length c') ∧ w'.cell? ⟨wr.heap.size, 2, none⟩ = some (.int .i64 rvv) ∧ w'.cell? ⟨X.heap.size, 0, none⟩ = some (.slice (some ⟨G, 0, none⟩) n n))
          (first | go_keep | exact HS.out _ h6 | exact HS.out _ h3 | exact HS.out _ h5)
          ((first
            | (go_simp; go_at_call 85; refine (hold5 _ _ _ _ _ _ _ _ _ _ (by first | exact ho3.rd | exact ho3.rd.below hb5') (by first | exact Nat.le_refl _ | exact hb5'.size) hn4 ho3.le_cap Hsm h2).mono ?_; rw [Hbb.out]; rintro e w6 ⟨rfl, hb6'⟩; have h6 : Below W.heap.size W w6 := (by first | exact step h5 hb6' | exact step h3 hb6' | exact step h5.drew hb6' | exact step h3.drew hb6'))
            | (go_simp; go_at_call 25; refine (HPK.out _ (by first | exact (Below.refl _ _).drew | exact h5 | exact h5.drew | exact Below.refl _ _)).mono ?_; rintro e w3 ⟨A3, c3, rfl, ho3, hb3'⟩; rw [Hpl.out] at ho3 ⊢; have h3 : Below W.heap.size W w3 := (by first | exact ((Below.refl _ _).drew).trans hb3' | exact step h5 hb3' | exact step h5.drew hb3' | exact hb3'))
            | (go_simp; go_at_call 44; refine (Hofk.out _).mono ?_; rintro e w5 ⟨rfl, hb5'⟩; have h5 : Below W.heap.size W w5 := (by first | exact ((Below.refl _ _).drew).trans hb5' | exact step h3 hb5' | exact step h3.drew hb5' | exact hb5'))))
        all_goals
          cases bb
          · have HF := Lib.hid ((HU.out false rfl).1 rfl)
            go_wp2
            go_ret
            exact ⟨by rw [HF.out]; rfl, step Hbw.out h6⟩
          · have HT := (HU.out true rfl).2 rfl
            go_wp2
            go_roundw
            case rel => exact ⟨u + 1, Hlt.out, by go_num, HT, hx1'.out.below hs1 h6, step Hbw.out h6, Nat.le_trans hs1 h6.size⟩
            case measure => have := Hlt.out; simp [intOf]; omega

    · obtain rfl : u = l := by omega
      have HL := Lib.hid (show holdsQ ys q = true from all_rat Hl.out.symm hall.out)
      go_wp2
      go_ret
      exact ⟨by rw [HL.out]; rfl, hb⟩
end Go.Proofs.YtlnmioijgclndaaDoor
namespace Go.Proofs.YtlnmioijgclndaaDoor
open Go.ChangeShapes Go.WideShapes Go.ChangeAt Go.RowKit

/-- a whole array read at an operation that is guarded, and wanted. -/
theorem wpList_load_row_w {P : Program} {ops : Array Oper} {rest : List Oper} {o : Oper} {a : Act} {w : World} {Q : Exit → Act → World → Prop} (hw : Region.wanted o (yielded ops a.tmps) = true) (ty : TypeId) (x : Operand) (ho : o.op = .load ty x)
    (g : Nat) (hx : a.eval x = .pointer (some ⟨g, 0, none⟩)) (t : TypeId) (cs : Array Value) (fr : Nat × Nat) (d : TypeDesc) (hg : w.heap[g]? = some (.cells cs t fr))
    (hu : P.underlying ty = some d) (hd : (match d with | .struct _ | .array _ _ => true | _ => false) = true) (hi : (P.info? ty).map (·.size) = some cs.size)
    (h : wpList P ops Q rest (a.put o.dst (.agg cs)) w) : wpList P ops Q (o :: rest) a w :=
  wpList_step fun K hK => by simp only [hw, if_true]; exact wp_load_row ty x ho g hx t cs fr d hg hu hd hi (hK _ _ h)
/-- the cells of the program's masks, one a line, and its size. -/
def mcells (M : Nat → Nat) (s : Int) : Array Value := #[.int .i64 (M 0), .int .i64 (M 1), .int .i64 (M 2), .int .i64 (M 3), .int .i64 (M 4), .int .i64 (M 5), .int .i64 (M 6), .int .i64 (M 7), .int .i64 s]
theorem mcells_size (M : Nat → Nat) (s : Int) : (mcells M s).size = 9 := rfl
theorem mcell_at (M : Nat → Nat) (s : Int) {l : Nat} (hl : l < 8) : (mcells M s)[l]? = some (.int .i64 (M l)) := by
  have : l = 0 ∨ l = 1 ∨ l = 2 ∨ l = 3 ∨ l = 4 ∨ l = 5 ∨ l = 6 ∨ l = 7 := by omega
  rcases this with rfl | rfl | rfl | rfl | rfl | rfl | rfl | rfl <;> rfl
theorem linesThrough_any (s cell : Int) (w : World) (h2 : 2 ≤ s) (h4 : s ≤ 4) (c0 : 0 ≤ cell) (c1 : cell < 16) :
    Calls Tryd.prog 55 #[.int .i64 s, .int .i64 cell] w fun e w' => e = .returned (.tuple #[.int .i64 (cell / s), .int .i64 (s + cell % s)]) ∧ Below w.heap.size w w' := by
  have q0 : 0 ≤ cell / s := Int.ediv_nonneg c0 (by omega)
  have q1 : cell / s ≤ cell := Int.ediv_le_self _ c0
  have r0 : 0 ≤ cell % s := Int.emod_nonneg _ (by omega)
  have r1 : cell % s < s := Int.emod_lt_of_pos _ (by omega)
  have e1 : cell.tmod s = cell % s := Int.tmod_eq_emod_of_nonneg c0
  have e2 : cell.tdiv s = cell / s := Int.tdiv_eq_ediv_of_nonneg c0
  have e3 : IntKind.i64.wrap (cell / s) = cell / s := IntWalk.i64_in _ (by omega)
  have e4 : IntKind.i64.wrap (s + cell % s) = s + cell % s := IntWalk.i64_in _ (by omega)
  have hz : (s == 0) = false := by simp; omega
  go_enter Tryd.func55, Tryd.ntmps55
  go_wp2
  go_quiet (fail)
  go_wp2
  go_ret2
  exact ⟨rfl, below_drewN (Below.refl _ _) _⟩

theorem or_pow (a v : Nat) (ha : a < 32) (hv : v ≤ 4) : bits .or .i64 (a : Int) (wrap64 (2 ^ v)) = ((a ||| 2 ^ v : Nat) : Int) := by
  have hlt : 2 ^ v < 2 ^ 5 := Nat.pow_lt_pow_right (by omega) (by omega)
  rw [pow_int]
  generalize 2 ^ v = p at *
  rw [IntWalk.wrap64_in _ ⟨by omega, by omega⟩, i64_or_nat _ _ (by omega) (by omega)]
theorem or_lt (a v : Nat) (ha : a < 32) (hv : v ≤ 4) : a ||| 2 ^ v < 32 :=
  Nat.or_lt_two_pow (n := 5) ha (Nat.pow_lt_pow_right (by omega) (by omega))
def mput (M : Nat → Nat) (l v : Nat) : Nat → Nat := fun j => if j = l then M j ||| 2 ^ v else M j
theorem mput_lt {M : Nat → Nat} {l v : Nat} (hm : ∀ l, l < 8 → M l < 32) (hv : v ≤ 4) : ∀ j, j < 8 → mput M l v j < 32 := fun j hj => by
  unfold mput
  split
  · exact or_lt _ _ (hm j hj) hv
  · exact hm j hj
theorem mcells_set (M : Nat → Nat) (s : Int) {l v : Nat} (hl : l < 8) : (mcells M s).setIfInBounds l (.int .i64 ((M l ||| 2 ^ v : Nat) : Int)) = mcells (mput M l v) s := by
  have : l = 0 ∨ l = 1 ∨ l = 2 ∨ l = 3 ∨ l = 4 ∨ l = 5 ∨ l = 6 ∨ l = 7 := by omega
  rcases this with rfl | rfl | rfl | rfl | rfl | rfl | rfl | rfl <;> rfl
theorem setRow_below {B g : Nat} {w w' : World} {cs : Array Value} (h : Below B w w') (hg : B ≤ g) : Below B w (w'.setRow g cs) :=
  h.trans ⟨rfl, rfl, rfl, by simp, fun k hk => by unfold World.setRow; simp only [Array.getElem?_modify]; rw [if_neg (by omega)]⟩
theorem mone (M : Nat → Nat) (s : Int) : (mcells M s).all (·.oneCell') = true := by simp [mcells, Value.oneCell']
theorem linesThrough_rc (s : Int) (cell r c : Nat) (w : World) (h2 : 2 ≤ s) (h4 : s ≤ 4) (c1 : cell < 16) (hr : (cell : Int) / s = (r : Int)) (hc : s + (cell : Int) % s = (c : Int)) :
    Calls Tryd.prog 55 #[.int .i64 s, .int .i64 cell] w fun e w' => e = .returned (.tuple #[.int .i64 r, .int .i64 c]) ∧ Below w.heap.size w w' := by
  rw [← hr, ← hc]
  exact linesThrough_any s cell w h2 h4 (by omega) (by omega)
end Go.Proofs.YtlnmioijgclndaaDoor
namespace Go.Proofs.YtlnmioijgclndaaDoor
open Go.ChangeShapes Go.WideShapes Go.ChangeAt Go.RowKit
theorem ones_lt : ∀ M, M < 32 → Lib.onesCount M < 32 := by decide +kernel
theorem ones_bits : ∀ M, M < 32 → M % 2 = 0 → Lib.onesCount M = (bitsTo M 4).length := by decide +kernel
end Go.Proofs.YtlnmioijgclndaaDoor
namespace Go.Proofs.YtlnmioijgclndaaDoor
open Go.ChangeShapes Go.WideShapes Go.ChangeAt Go.RowKit

/-- the table of trailing zeros lies in its variable: what is read of it here, for the bits 0 to 15. -/
def tzI : List Nat := [0, 1, 3, 7, 15, 31, 63, 62, 61, 59, 55, 47, 30, 60, 57, 51]
def Tz (w : World) : Prop := ∀ p : Nat, p < 16 → w.cell? ⟨0, tzI.getD p 0, none⟩ = some (.int .u8 (p : Int))
theorem Tz.lt {w : World} (h : Tz w) : 0 < w.heap.size := cell_lt (h 0 (by decide))
theorem Tz.below {w w' : World} {B : Nat} (h : Tz w) (hB : 0 < B) (hb : Below B w w') : Tz w' :=
  fun p hp => (hb.cell (p := ⟨0, tzI.getD p 0, none⟩) hB).trans (h p hp)

theorem tz64_core (x k idx : Nat) (w : World) (hx0 : ((x : Int) == 0) = false)
    (key : IntKind.u64.wrap (bits BinOp.and IntKind.u64 (x : Int) (IntKind.u64.wrap (-(x : Int))) * 285870213051353865) / 288230376151711744 = (idx : Int))
    (hi : idx < 64) (hk : k < 64) (hcell : w.cell? ⟨0, idx, none⟩ = some (.int .u8 k)) :
    Calls Tryd.prog 50 #[.int .u64 x] w fun e w' => e = .returned (.int .i64 k) ∧ w = w' := by
  go_enter Tryd.func50, Tryd.ntmps50
  go_wp2_with (simp only [key])
  go_ret
  exact ⟨rfl, rfl⟩
def oneCase (M : Nat) : Bool := if Lib.onesCount M = 1 then ((M == 2 && oneOf (bitsTo M 4) == 1) || (M == 4 && oneOf (bitsTo M 4) == 2) || (M == 8 && oneOf (bitsTo M 4) == 3) || (M == 16 && oneOf (bitsTo M 4) == 4)) else oneOf (bitsTo M 4) == 0
theorem one_case : ∀ M, M < 32 → M % 2 = 0 → oneCase M = true := by decide +kernel
end Go.Proofs.YtlnmioijgclndaaDoor
set_option maxRecDepth 8000
namespace Go.Proofs.YtlnmioijgclndaaDoor
open Go.ChangeShapes Go.WideShapes Go.ChangeAt Go.RowKit
/-! The small ones of the search: items as bits, the lowest item, the last cell of a rule. -/
theorem low_idx : ∀ p, p < 16 → IntKind.u64.wrap (((2 ^ p : Nat) : Int) * 285870213051353865) / 288230376151711744 = ((tzI.getD p 0 : Nat) : Int) ∧ tzI.getD p 0 < 64 := by decide +kernel
/-- the number of the lowest bit. -/
theorem tz64_any (L p : Nat) (w : World) (hL : L < 2 ^ 64) (hb : L.testBit p = true) (h0 : ∀ j, j < p → L.testBit j = false) (hp : p < 16) (hT : Tz w) :
    Calls Tryd.prog 50 #[.int .u64 L] w fun e w' => e = .returned (.int .i64 p) ∧ w = w' := by
  have hpos : 0 < L := by
    rcases Nat.eq_zero_or_pos L with h | h
    · rw [h, Nat.zero_testBit] at hb; cases hb
    · exact h
  obtain ⟨k1, k2⟩ := low_idx p hp
  refine tz64_core L p (tzI.getD p 0) w (by simp; omega) ?_ k2 (by omega) (hT p hp)
  have e : IntKind.u64.wrap (-(L : Int)) = ((2 ^ 64 - L : Nat) : Int) := by
    rw [IntKind.wrap_u64]
    omega
  rw [e, bits_and_u64_nat L (2 ^ 64 - L) (by omega) (by omega), low_and hL hb h0 (by omega)]
  exact k1
theorem pow_u64 {a : Nat} (h : a < 64) : IntKind.u64.wrap ((2 : Int) ^ a) = ((2 ^ a : Nat) : Int) := by
  have : 2 ^ a < 2 ^ 64 := Nat.pow_lt_pow_right (by omega) h
  rw [IntKind.wrap_u64, pow_int]
  generalize 2 ^ a = p at *
  omega
theorem items_core (S : Int) (r q c v a b : Nat) (w : World) (hS : S = 2 ∨ S = 3 ∨ S = 4) (hr : (c : Int) / S = r) (hq : S + (c : Int) % S = q) (ha : (S + r) * S + v - 1 = a) (hb : (S + q) * S + v - 1 = b) (hc : c < 16) (ha48 : a < 48) (hb48 : b < 48) (hr8 : r < 8) (hq8 : q < 8) (hv : v ≤ 4) :
    Calls Tryd.prog 48 #[.int .i64 S, .int .i64 c, .int .i64 v] w fun e w' => e = .returned (.int .u64 ((2 ^ c ||| 2 ^ a ||| 2 ^ b : Nat) : Int)) ∧ Below w.heap.size w w' := by
  have pc : 2 ^ c < 2 ^ 64 := Nat.pow_lt_pow_right (by omega) (by omega)
  have pa : 2 ^ a < 2 ^ 64 := Nat.pow_lt_pow_right (by omega) (by omega)
  have pb : 2 ^ b < 2 ^ 64 := Nat.pow_lt_pow_right (by omega) (by omega)
  have o1 := Lib.hid (bits_or_u64_nat (2 ^ c) (2 ^ a) (by omega) (by omega))
  have o2 := Lib.hid (bits_or_u64_nat (2 ^ c ||| 2 ^ a) (2 ^ b) (by have := Nat.or_lt_two_pow pc pa; omega) (by omega))
  have Pc := Lib.hid (pow_u64 (a := c) (by omega))
  have Pa := Lib.hid (pow_u64 (a := a) (by omega))
  have Pb := Lib.hid (pow_u64 (a := b) (by omega))
  have HL := Lib.hid (linesThrough_rc S c r q w (by omega) (by omega) hc hr hq)
  clear pc pa pb hr hq
  rcases hS with rfl | rfl | rfl
  all_goals
    have Ha := Lib.hid ha
    have Hb := Lib.hid hb
    have ea : IntKind.i64.wrap ((a : Int)) = a := IntWalk.i64_in _ (by omega)
    clear ha hb
    go_enter Tryd.func48, Tryd.ntmps48
    go_wp2_with (go_at_call 55; refine HL.out.mono ?_; rintro e w1 ⟨rfl, hb1⟩)
    rw [Ha.out, Hb.out]
    go_quiet (fail)
    go_wp2
    go_ret
    refine ⟨?_, below_drewN hb1 _⟩
    show Ending.returned (.int .u64 (bits .or .u64 (bits .or .u64 (IntKind.u64.wrap (2 ^ c)) (IntKind.u64.wrap (2 ^ a))) (IntKind.u64.wrap (2 ^ b)))) = _
    rw [Pc.out, Pa.out, Pb.out, o1.out, o2.out]
theorem itemsOf_any (s c v : Nat) (w : World) (hs : s ∈ [2, 3, 4]) (hc : c < s * s) (v1 : 1 ≤ v) (v2 : v ≤ s) :
    Calls Tryd.prog 48 #[.int .i64 s, .int .i64 c, .int .i64 v] w fun e w' => e = .returned (.int .u64 ((itN s c v : Nat) : Int)) ∧ Below w.heap.size w w' := by
  refine items_core s (c / s) (s + c % s) c v ((s + c / s) * s + v - 1) ((s + (s + c % s)) * s + v - 1) w ?_ (by simp) (by simp) ?_ ?_ ?_ ?_ ?_ ?_ ?_ ?_
  all_goals
    simp only [List.mem_cons, List.not_mem_nil, or_false] at hs
    rcases hs with rfl | rfl | rfl <;> omega
theorem allItems_any (s : Nat) (w : World) (hs : s ∈ [2, 3, 4]) :
    Calls Tryd.prog 38 #[.int .i64 s] w fun e w' => e = .returned (.int .u64 ((2 ^ (3 * s * s) - 1 : Nat) : Int)) ∧ w = w' := by
  simp only [List.mem_cons, List.not_mem_nil, or_false] at hs
  rcases hs with rfl | rfl | rfl
  all_goals
    go_enter Tryd.func38, Tryd.ntmps38
    go_wp2
    go_ret
    exact ⟨by kernel_rfl, rfl⟩
theorem max_any (A : Option Addr) (n c B : Nat) (xs : List Int) (w : World) (h : Rd w B A n xs) (hn : 0 < n) (hm : n ≤ 1099511627776) (hx : ∀ i, i < n → 0 ≤ nth xs i ∧ nth xs i < 16) :
    Calls Tryd.prog 49 #[.slice A n c] w fun e w' => e = .returned (.int .i64 ((lastN xs n : Nat) : Int)) ∧ w = w' := by
  obtain ⟨b, off, rfl, _, hc0⟩ := h.at_ hn
  have hnI : ¬ (n : Int) < 1 := by omega
  have HX := Lib.hid hx
  have hlast : ∀ u, u ≤ n → lastN xs u < 16 := by
    intro u
    induction u with
    | zero => intro _; simp [lastN]
    | succ u ih =>
      intro hu
      have := ih (by omega)
      have := hx u (by omega)
      simp only [lastN]; omega
  have HLt := Lib.hid hlast
  have h1 : nth xs 0 = ((lastN xs 1 : Nat) : Int) := by
    have := hx 0 hn
    simp only [lastN]; omega
  rw [h1, Nat.add_zero] at hc0
  clear hx h1 hlast
  go_enter Tryd.func49, Tryd.ntmps49
  go_wp2
  go_loopw [3, 4] (fun m i wr => ∃ u : Nat, 1 ≤ u ∧ u ≤ n ∧ i = .int .i64 u ∧ m = .int .i64 (lastN xs u : Nat) ∧ wr = w) (fun _ i _ => n - (intOf i).toNat)
  case atStart => exact ⟨1, Nat.le_refl _, hn, rfl, rfl, rfl⟩
  case round =>
    obtain ⟨u, hu1, hu, rfl, rfl, rfl⟩ := hrel
    by_cases hlt : u < n
    · obtain ⟨b', off', e, _, hck⟩ := h.at_ hlt
      cases e
      have hltI : (u : Int) < (n : Int) := by omega
      obtain ⟨x0, x1⟩ := HX.out u hlt
      have hl16 := HLt.out u hu
      have Hst := Lib.hid (show (if ((lastN xs u : Nat) : Int) < nth xs u then nth xs u else ((lastN xs u : Nat) : Int)) = ((lastN xs (u + 1) : Nat) : Int) by simp only [lastN]; split <;> omega)
      go_wp2
      go_roundw
      case rel => exact ⟨u + 1, by omega, by omega, by go_num, by rw [← Hst.out], trivial⟩
      case measure => simp [intOf]; omega
    · obtain rfl : u = n := by omega
      go_wp2
      go_ret
      exact ⟨rfl, rfl⟩
end Go.Proofs.YtlnmioijgclndaaDoor
set_option maxRecDepth 8000
namespace Go.Proofs.YtlnmioijgclndaaDoor
open Go.ChangeShapes Go.WideShapes Go.ChangeAt Go.RowKit
/-! One cell of the search: its options, its rules. -/
theorem opt_in {s : Nat} {gi : List Int} {c : Nat} (hok : 0 ≤ nth gi c ∧ nth gi c ≤ (s : Int)) {v : Int} (h : v ∈ optL s gi c) : ∃ u : Nat, v = (u : Int) ∧ 1 ≤ u ∧ u ≤ s := by
  obtain ⟨t, e, t1, t4, hb⟩ := bits_iff.1 h
  refine ⟨t, e, t1, ?_⟩
  unfold candN at hb
  split at hb
  · next h0 =>
    rw [Nat.testBit_two_pow, decide_eq_true_eq] at hb
    omega
  · rw [Int.toNat_natCast] at hb
    exact ((candTo_test gi s c t s).1 hb).2.1
theorem nth_mem {xs : List Int} {k : Nat} (h : k < xs.length) : nth xs k ∈ xs := by
  have : nth xs k = xs[k] := by simp [nth, List.getD_eq_getElem?_getD, h]
  rw [this]; exact List.getElem_mem h
theorem holdsQ_is {rs : List RuleM} {us : List Int} {p : Nat} : holdsQ us (rulesAt rs p) = rlOk rs us p := by
  unfold holdsQ rlOk
  rw [Bool.eq_iff_iff, List.all_eq_true, List.all_eq_true]
  constructor
  · intro h r hr
    obtain ⟨i, hi, rfl⟩ := rat_mem hr
    exact h i (List.mem_range.2 hi)
  · intro h i hi
    rw [List.mem_range] at hi
    refine h _ ?_
    have : rat (rulesAt rs p) i = (rulesAt rs p)[i] := by simp [rat, List.getD_eq_getElem?_getD, hi]
    rw [this]; exact List.getElem_mem hi
/-- the rules that end at cell p: valid, and none of their cells lies behind it. -/
theorem at_ok {s : Nat} {rs : List RuleM} {p : Nat} (hr : ∀ i, i < rs.length → rvR s (rat rs i) = true) {i : Nat} (hi : i < (rulesAt rs p).length) : rvR s (rat (rulesAt rs p) i) = true ∧ ∀ j, j < (rat (rulesAt rs p) i).xs.length → 0 ≤ nth (rat (rulesAt rs p) i).xs j ∧ (nth (rat (rulesAt rs p) i).xs j).toNat ≤ p := by
  have hm : rat (rulesAt rs p) i ∈ rulesAt rs p := by
    have : rat (rulesAt rs p) i = (rulesAt rs p)[i] := by simp [rat, List.getD_eq_getElem?_getD, hi]
    rw [this]; exact List.getElem_mem hi
  obtain ⟨h1, h2⟩ := List.mem_filter.1 hm
  rw [beq_iff_eq] at h2
  obtain ⟨k, hk, e⟩ := rat_mem h1
  have hv := hr k hk
  rw [e] at hv
  refine ⟨hv, fun j hj => ⟨((rv_cells hv).2 j hj).1, ?_⟩⟩
  have := lastN_ge (xs := (rat (rulesAt rs p) i).xs) hj
  unfold lastR at h2
  omega
theorem holdsQ_congr {q : List RuleM} {us ys : List Int} {p : Nat} (h : ∀ i, i ≤ p → nth us i = nth ys i) (hq : ∀ i, i < q.length → ∀ j, j < (rat q i).xs.length → (nth (rat q i).xs j).toNat ≤ p) : holdsQ us q = holdsQ ys q := by
  unfold holdsQ
  rw [Bool.eq_iff_iff, List.all_eq_true, List.all_eq_true]
  have key : ∀ i, i < q.length → holdsR us (rat q i) = holdsR ys (rat q i) := fun i hi => by
    unfold holdsR
    have : pks us (rat q i).xs (rat q i).xs.length = pks ys (rat q i).xs (rat q i).xs.length := by
      apply ext_nth (by rw [pks_length, pks_length])
      intro k hk
      rw [pks_length] at hk
      rw [pks_nth hk, pks_nth hk]
      exact h _ (hq i hi k hk)
    rw [this]
  constructor
  · intro H i hi; rw [← key i (List.mem_range.1 hi)]; exact H i hi
  · intro H i hi; rw [key i (List.mem_range.1 hi)]; exact H i hi
theorem take_flat {L : List Int} {F : Int → List (List Int)} {u : Nat} (h : u < L.length) : (L.take (u + 1)).flatMap F = (L.take u).flatMap F ++ F (nth L u) := by
  rw [List.take_add_one, List.getElem?_eq_getElem h, List.flatMap_append]
  simp [nth, List.getD_eq_getElem?_getD, h]
/-- what cover leaves: all solutions told, or the one who is told said no. -/
def CovPost (J : List (List Int) → World → Prop) (Jx : World → Prop) (M lo G n : Nat) (vs : List Int) (X : World) (ways : List (List Int)) (e : Ending) (Y : World) : Prop :=
  (e = .returned (.bool true) ∧ J ways Y ∧ MidX M G X Y ∧ ∃ ys, Ow Y lo (some ⟨G, 0, none⟩) n n ys ∧ ∀ i, i < vs.length → nth ys i = nth vs i) ∨ (e = .returned (.bool false) ∧ Jx Y)
theorem SBox.midx {w w' : World} {M g G0 G OB RB n : Nat} (h : SBox w g G OB RB n) (hm : MidX M G0 w w') (h1 : M ≤ g) (h2 : g ≠ G0) : SBox w' g G OB RB n :=
  ⟨hm.cell h.1 h1 h2, hm.cell h.2.1 h1 h2, hm.cell h.2.2 h1 h2⟩
end Go.Proofs.YtlnmioijgclndaaDoor
namespace Go.Proofs.YtlnmioijgclndaaDoor
/-! A region that draws its order, by an invariant: one step a row of the region, whatever the order. -/
section
variable {P : Program} {md : Region.Mode} {ops : Array Oper} {Q : Exit → Act → World → Prop} {Inv : Array Bool → Act → World → Prop}
def unl (l : Array Bool) : Nat := l.toList.countP (fun b => b == false)
theorem unl_set {l : Array Bool} {i : Nat} (h : l.getD i true = false) : unl (l.setIfInBounds i true) < unl l := by
  have hi : i < l.size := by
    rcases Nat.lt_or_ge i l.size with h' | h'
    · exact h'
    · simp [Array.getElem?_eq_none h'] at h
  have he : l.toList[i]'(by simpa using hi) = false := by simpa [hi] using h
  unfold unl
  rw [Array.toList_setIfInBounds, List.countP_set (by simpa using hi), he]
  have : 0 < l.toList.countP (fun b => b == false) := List.countP_pos_iff.2 ⟨false, by rw [← he]; exact List.getElem_mem _, rfl⟩
  show List.countP (fun b => b == false) l.toList - 1 + 0 < List.countP (fun b => b == false) l.toList
  omega
theorem unl_zero {l : Array Bool} (h : unl l = 0) (i : Nat) : l.getD i true = true := by
  unfold unl at h
  rw [List.countP_eq_zero] at h
  rcases Nat.lt_or_ge i l.size with h' | h'
  · have := h (l.toList[i]'(by simpa using h')) (List.getElem_mem _)
    simpa [h'] using this
  · simp [Array.getElem?_eq_none h']
theorem wpAny_inv (hback : ∀ (i : Nat) (o : Oper), ops[i]? = some o → ∀ e ∈ o.after, e.on < i) (hsz : ∀ l a w, Inv l a w → l.size = ops.size)
    (hstep : ∀ l a w (i : Nat) (o : Oper), Inv l a w → ops[i]? = some o → l.getD i true = false → (∀ e ∈ o.after, Region.binds md e = true → l.getD e.on false = true) → wpOp P ops Q i (Inv (l.setIfInBounds i true)) a w)
    (hdone : ∀ l a w, Inv l a w → (∀ i, i < ops.size → l.getD i false = true) → Q .normal a w) :
    ∀ fuel l a w, unl l ≤ fuel → Inv l a w → wpAny P md ops Q fuel l a w := by
  have fin : ∀ l a w, Inv l a w → Region.ready md ops l = [] → Q .normal a w := by
    intro l a w hI hr
    refine hdone l a w hI ?_
    intro i
    induction i using Nat.strongRecOn with
    | ind i ih =>
      intro hi
      cases hb : l.getD i false with
      | true => rfl
      | false =>
        exfalso
        have hil : i < l.size := by rw [hsz l a w hI]; exact hi
        have ho : ops[i]? = some ops[i] := Array.getElem?_eq_getElem hi
        have : i ∈ Region.ready md ops l := mem_ready.2 ⟨by simpa [hil] using hb, ops[i], ho, fun e he _ => ih e.on (hback i _ ho e he) (Nat.lt_trans (hback i _ ho e he) hi)⟩
        rw [hr] at this
        cases this
  intro fuel
  induction fuel with
  | zero =>
    intro l a w hu hI
    have hr : Region.ready md ops l = [] := by
      cases e : Region.ready md ops l with
      | nil => rfl
      | cons j r =>
        have hj : j ∈ Region.ready md ops l := by rw [e]; exact List.mem_cons_self ..
        have h1 := (mem_ready.1 hj).1
        rw [unl_zero (by omega) j] at h1
        cases h1
    exact ⟨hr, fin l a w hI hr⟩
  | succ fuel ih =>
    intro l a w hu hI
    refine ⟨fin l a w hI, fun i hi => ?_⟩
    obtain ⟨h1, o, ho, hall⟩ := mem_ready.1 hi
    refine wpOp_mono (fun a' w' h => ih _ a' w' ?_ h) (hstep l a w i o hI ho h1 hall)
    have := unl_set h1
    omega
theorem wp_region_inv {id : Nat} {a : Act} {w : World} (hm : P.follows .mixedOrders = true) (hback : ∀ (i : Nat) (o : Oper), ops[i]? = some o → ∀ e ∈ o.after, e.on < i) (hsz : ∀ l a w, Inv l a w → l.size = ops.size)
    (hstep : ∀ l a w (i : Nat) (o : Oper), Inv l a w → ops[i]? = some o → l.getD i true = false → (∀ e ∈ o.after, Region.binds .any e = true → l.getD e.on false = true) → wpOp P ops Q i (Inv (l.setIfInBounds i true)) a w)
    (hdone : ∀ l a w, Inv l a w → (∀ i, i < ops.size → l.getD i false = true) → Q .normal a w)
    (h0 : Inv (Array.replicate ops.size false) a { w with drawn := w.drawn + 1 }) : (Code.region id ops true).wp P Q a w :=
  wp_region_any hm (wpAny_inv hback hsz hstep hdone _ _ _ _ (by
    unfold unl
    exact Nat.le_trans (List.countP_le_length) (by simp)) h0)
end
/-- A frame that differs from another in some slots alone. -/
theorem frame_of {a a0 : Array Value} (ts : List Nat) (hs : a.size = a0.size) (h : ∀ t, t ∉ ts → a[t]? = a0[t]?) : a = ts.foldl (fun tm t => tm.setIfInBounds t (a.getD t undef)) a0 := by
  have key : ∀ (ts : List Nat) (b : Array Value), b.size = a.size → ∀ t, (ts.foldl (fun tm t => tm.setIfInBounds t (a.getD t undef)) b)[t]? = if t ∈ ts then a[t]? else b[t]? := by
    intro ts
    induction ts with
    | nil => intro b _ t; simp
    | cons u ts ih =>
      intro b hb t
      rw [List.foldl_cons, ih _ (by simpa using hb)]
      by_cases e : t ∈ ts
      · simp [e]
      · simp only [e, if_false, List.mem_cons, or_false]
        by_cases hu : t = u
        · subst hu
          rw [if_pos rfl]
          rcases Nat.lt_or_ge t a.size with h' | h'
          · simp [Array.getElem?_setIfInBounds_self_of_lt (hb ▸ h'), h']
          · rw [Array.getElem?_eq_none h', Array.getElem?_eq_none (by simp; omega)]
        · rw [if_neg hu, Array.getElem?_setIfInBounds_ne (fun e' => hu e'.symm)]
  apply Array.ext_getElem?
  intro t
  rw [key ts a0 hs.symm t]
  split
  · rfl
  · exact h t (by assumption)
end Go.Proofs.YtlnmioijgclndaaDoor
namespace Go.Proofs.YtlnmioijgclndaaDoor
/-! A region whose loads come first while its last operation writes a cell that they read: a condition on the world is kept behind every operation but one, which waits for all that lean on it. -/
section
variable {P : Program} {ops : Array Oper} {Q : Exit → Act → World → Prop} {md : Region.Mode} {S : World → Prop} {z : Nat}

/-- While number i has not come up, none of U may: each waits for another one of U. -/
def shut (md : Region.Mode) (ops : Array Oper) (listed : Array Bool) (U : List Nat) (i : Nat) : Bool :=
  U.all fun u => (listed.getD u true == false) && (u == i || match ops[u]? with
    | some o => o.after.any fun e => Region.binds md e && U.contains e.on
    | none => false)

theorem shut_spec {listed : Array Bool} {U : List Nat} {i u : Nat} (h : shut md ops listed U i = true) (hu : u ∈ U) (hne : u ≠ i) : u ∉ Region.ready md ops listed := by
  intro hr
  obtain ⟨_, o, ho, hall⟩ := mem_ready.1 hr
  have h1 := List.all_eq_true.1 h u hu
  rw [Bool.and_eq_true, Bool.or_eq_true] at h1
  rcases h1.2 with h2 | h2
  · exact hne (by simpa using h2)
  · rw [ho] at h2
    obtain ⟨e, he, hb⟩ := Array.any_eq_true'.1 h2
    rw [Bool.and_eq_true] at hb
    have h3 := hall e he hb.1
    have h4 := List.all_eq_true.1 h e.on (by simpa using hb.2)
    rw [Bool.and_eq_true] at h4
    have h5 : listed.getD e.on true = false := by simpa using h4.1
    rcases Nat.lt_or_ge e.on listed.size with hlt | hge
    · simp [hlt] at h3 h5
      rw [h5] at h3; cases h3
    · simp [Array.getElem?_eq_none hge] at h3

theorem shut_mono {listed : Array Bool} {U : List Nat} {i j : Nat} (h : shut md ops listed U i = true) (hj : j ∈ Region.ready md ops listed) (hne : j ≠ i) : shut md ops (listed.setIfInBounds j true) U i = true := by
  refine List.all_eq_true.2 fun u hu => ?_
  have h1 := List.all_eq_true.1 h u hu
  have hju : j ≠ u := fun e => by subst e; exact shut_spec h hu hne hj
  rw [getD_set_ne true hju]
  exact h1

/-- Whatever order is picked, S holding behind every operation but number z. -/
def wpAnyL (P : Program) (md : Region.Mode) (ops : Array Oper) (Q : Exit → Act → World → Prop) (S : World → Prop) (z : Nat) : Nat → Array Bool → Act → World → Prop
  | 0, listed, a, w => Region.ready md ops listed = [] ∧ Q .normal a w
  | fuel + 1, listed, a, w =>
    (Region.ready md ops listed = [] → Q .normal a w) ∧
    ∀ i ∈ Region.ready md ops listed, wpOp P ops Q i (fun a' w' => (i ≠ z → S w') ∧ wpAnyL P md ops Q S z fuel (listed.setIfInBounds i true) a' w') a w

theorem wpAny_of_L : ∀ (fuel : Nat) (listed : Array Bool) (a : Act) (w : World), wpAnyL P md ops Q S z fuel listed a w → wpAny P md ops Q fuel listed a w
  | 0, _, _, _, h => h
  | fuel + 1, _, _, _, h => ⟨h.1, fun i hi => wpOp_mono (fun a' w' h' => wpAny_of_L fuel _ a' w' h'.2) (h.2 i hi)⟩

theorem wpAnyL_first {i : Nat} {oi : Oper} {v : Value} {U : List Nat} (hi : ops[i]? = some oi) (hsel : ∀ (j : Nat) (o : Oper) cs b, ops[j]? = some o → o.op ≠ .select cs b)
    (hQ : ∀ c a w, Q (.panic c) (a.put oi.dst v) w → Q (.panic c) a w) (hz : z ∈ U) (hzi : z ≠ i) :
    ∀ (fuel : Nat) (listed : Array Bool) (a : Act) (w : World), shut md ops listed U i = true →
      (∀ j oj, ops[j]? = some oj → j ≠ i → listed.getD j true = false → (∀ e ∈ oj.after, Region.binds md e = true → e.on ≠ i) → oi.apart ops oj = true) →
      i ∈ Region.ready md ops listed → YieldsIf P ops S oi v a → S w →
      wpAnyL P md ops Q S z fuel (listed.setIfInBounds i true) (a.put oi.dst v) w → wpAnyL P md ops Q S z (fuel + 1) listed a w := by
  intro fuel
  induction fuel with
  | zero =>
    intro listed a w _ _ hr hy hS H
    refine ⟨fun h => (by rw [h] at hr; cases hr), fun j hj => ?_⟩
    by_cases hji : j = i
    · subst hji; exact hy.wpOp hi hS ⟨fun _ => hS, H⟩
    · have := ready_mono hj hji
      rw [H.1] at this
      cases this
  | succ fuel ih =>
    intro listed a w hU hfree hr hy hS H
    refine ⟨fun h => (by rw [h] at hr; cases hr), fun j hj => ?_⟩
    by_cases hji : j = i
    · subst hji; exact hy.wpOp hi hS ⟨fun _ => hS, H⟩
    · have hjz : j ≠ z := fun e => by subst e; exact shut_spec hU hz hji hj
      have h1 := H.2 j (ready_mono hj hji)
      obtain ⟨hjun, oj, hoj, hall⟩ := mem_ready.1 hj
      have hnot : ∀ e ∈ oj.after, Region.binds md e = true → e.on ≠ i := fun e he hb heq => by
        have h1 := hall e he hb
        have h0 := (mem_ready.1 hr).1
        rw [heq] at h1
        rcases Nat.lt_or_ge i listed.size with h' | h'
        · simp [h'] at h0 h1; rw [h0] at h1; cases h1
        · simp [Array.getElem?_eq_none h'] at h1
      have h2 := wpOp_putIf hoj (hfree j oj hoj hji hjun hnot) (fun cs b => hsel i oi cs b hi) (fun cs b => hsel j oj cs b hoj) hQ hy h1
      have hfree' : ∀ k ok, ops[k]? = some ok → k ≠ i → (listed.setIfInBounds j true).getD k true = false →
          (∀ e ∈ ok.after, Region.binds md e = true → e.on ≠ i) → oi.apart ops ok = true := fun k ok hk hki hun hno => by
        refine hfree k ok hk hki ?_ hno
        by_cases hjk : j = k
        · subst hjk; exact hjun
        · rw [getD_set_ne true hjk] at hun; exact hun
      refine wpOp_mono (fun a' w' h3 => ⟨h3.2.1, ih (listed.setIfInBounds j true) a' w' (shut_mono hU hj hji) hfree' (ready_mono hr (Ne.symm hji)) h3.1 (h3.2.1 hjz) ?_⟩) h2
      rw [Array.setIfInBounds_comm _ _ hji]
      exact h3.2.2

theorem wpAnyL_take (U : List Nat) {i : Nat} {oi : Oper} {v : Value} {fuel : Nat} {listed : Array Bool} {a : Act} {w : World} (hi : ops[i]? = some oi)
    (hs : Region.noSelect ops = true) (hf : Region.free md ops listed i = true) (hr : (Region.ready md ops listed).contains i = true)
    (hu : shut md ops listed U i = true) (hz : U.contains z = true) (hzi : z ≠ i)
    (hQ : ∀ c a w, Q (.panic c) (a.put oi.dst v) w → Q (.panic c) a w) (hy : YieldsIf P ops S oi v a) (hS : S w)
    (h : wpAnyL P md ops Q S z fuel (listed.setIfInBounds i true) (a.put oi.dst v) w) : wpAnyL P md ops Q S z (fuel + 1) listed a w :=
  wpAnyL_first hi (Region.noSelect_spec hs) hQ (by simpa using hz) hzi fuel listed a w hu (Region.free_spec hi hf) (by simpa using hr) hy hS h

/-- The one that may come up comes up. -/
theorem wpAnyL_only {i : Nat} {oi : Oper} {fuel : Nat} {listed : Array Bool} {a : Act} {w : World} (hr : Region.ready md ops listed = [i]) (hi : ops[i]? = some oi)
    (hw : Region.wanted oi (yielded ops a.tmps) = true)
    (h : oi.wp P a w (fun a' w' => (i ≠ z → S w') ∧ wpAnyL P md ops Q S z fuel (listed.setIfInBounds i true) a' w') Q) : wpAnyL P md ops Q S z (fuel + 1) listed a w :=
  ⟨fun h0 => (by rw [hr] at h0; cases h0), fun j hj => by
    rw [hr, List.mem_singleton] at hj
    subst hj
    unfold wpOp
    simp only [hi, hw, if_true]
    exact .inl h⟩

/-- One of two comes up. -/
theorem wpAnyL_two {i j : Nat} {oi oj : Oper} {fuel : Nat} {listed : Array Bool} {a : Act} {w : World} (hr : Region.ready md ops listed = [i, j]) (hi : ops[i]? = some oi) (hj : ops[j]? = some oj)
    (hw : Region.wanted oi (yielded ops a.tmps) = true) (hw' : Region.wanted oj (yielded ops a.tmps) = true)
    (h : oi.wp P a w (fun a' w' => (i ≠ z → S w') ∧ wpAnyL P md ops Q S z fuel (listed.setIfInBounds i true) a' w') Q)
    (h' : oj.wp P a w (fun a' w' => (j ≠ z → S w') ∧ wpAnyL P md ops Q S z fuel (listed.setIfInBounds j true) a' w') Q) : wpAnyL P md ops Q S z (fuel + 1) listed a w :=
  ⟨fun h0 => (by rw [hr] at h0; cases h0), fun k hk => by
    rw [hr, List.mem_cons, List.mem_singleton] at hk
    rcases hk with rfl | rfl
    · unfold wpOp
      simp only [hi, hw, if_true]
      exact .inl h
    · unfold wpOp
      simp only [hj, hw', if_true]
      exact .inl h'⟩

theorem wpAnyL_done {fuel : Nat} {listed : Array Bool} {a : Act} {w : World} (hr : Region.ready md ops listed = []) (h : Q .normal a w) : wpAnyL P md ops Q S z fuel listed a w := by
  cases fuel with
  | zero => exact ⟨hr, h⟩
  | succ n => exact ⟨fun _ => h, by rw [hr]; simp⟩

theorem wp_region_last {id : Nat} {a : Act} {w : World} (hm : P.follows .mixedOrders = true)
    (h : wpAnyL P .any ops Q S z ops.size (Array.replicate ops.size false) a { w with drawn := w.drawn + 1 }) : (Code.region id ops true).wp P Q a w :=
  wp_region_any hm (wpAny_of_L _ _ _ _ h)
end
end Go.Proofs.YtlnmioijgclndaaDoor
set_option maxRecDepth 8000
namespace Go.Proofs.YtlnmioijgclndaaDoor
open Go.ChangeShapes Go.WideShapes Go.ChangeAt Go.RowKit
/-! The program's own operations of 'x.Cells = append(append([]int{}, x.Cells...), x.Cells[0])', walked in a frame in letters. -/
theorem eval_put_same {a : Act} {t : Nat} {v : Value} (h : t < a.tmps.size) : (a.put (some t) v).eval (.tmp t) = v := by
  simp [Act.put, Act.eval, h]
theorem eval_put_ne {a : Act} {t u : Nat} {v : Value} (h : t ≠ u) : (a.put (some t) v).eval (.tmp u) = a.eval (.tmp u) := by
  simp [Act.put, Act.eval, Array.getElem?_setIfInBounds_ne h]
theorem size_put {a : Act} {d : Option Tmp} {v : Value} : (a.put d v).tmps.size = a.tmps.size := by
  cases d <;> simp [Act.put]
theorem wp_push_all {w : World} {o : Oper} {a : Act} {K : Act → World → Prop} {Q : Exit → Act → World → Prop} (s x : Operand)
    (ho : o.op = .call { callee := .builtin .append, args := #[s, x], argTypes := #[23, 23] })
    (lo : Nat) (A : Option Addr) (n c : Nat) (xs : List Int) (A2 : Option Addr) (m c2 B : Nat) (ys : List Int) (hs : a.eval s = .slice A n c) (hx : a.eval x = .slice A2 m c2) (hown : Ow w lo A n c xs) (hr : Rd w B A2 m ys) (hmn : 0 < m ∨ n = 0)
    (hn : n ≤ 1099511627776) (hm : m ≤ 1099511627776) (hlo : lo ≤ w.heap.size)
    (h : ∀ A' c' w', Ow w' lo A' (n + m) c' (xs ++ ys) → w.grownBy w' (Value.slice A n c).ownBlock → K (a.put o.dst (.slice A' (n + m) c')) w') : o.wp Tryd.prog a w K Q := by
  obtain ⟨A', c', w', hrun, h1, h2, h3⟩ := run_push_all o.type lo A n c xs A2 m c2 B ys hown hr hmn hn hm hlo
  unfold Oper.wp execOp
  simp only [ho, resolve, invoke, builtin, Sem.run_bind, Sem.run_pure, Result.andThen_ok, List.map_toArray, List.map_cons, List.map_nil, hs, hx, hrun]
  exact h A' c' w' h1 h2

abbrev o43_0 : Oper := { dst := some 213, op := .buildSlice 23 0 #[], type := 23, pos := "l20_draw.go:239", after := #[], guard := none }
abbrev o43_1 : Oper := { dst := some 214, op := .fieldAddr 59 (.tmp 18) 1, type := 0, pos := "l20_draw.go:239", after := #[], guard := none }
abbrev o43_2 : Oper := { dst := some 215, op := .load 23 (.tmp 214), type := 23, pos := "l20_draw.go:239", after := #[⟨1, .data⟩], guard := none }
abbrev o43_3 : Oper := { dst := some 216, op := .call { callee := .builtin .append, args := #[.tmp 213, .tmp 215], argTypes := #[23, 23] }, type := 23, pos := "l20_draw.go:239", after := #[⟨0, .data⟩, ⟨2, .data⟩], guard := none }
abbrev o43_4 : Oper := { dst := some 217, op := .fieldAddr 59 (.tmp 18) 1, type := 0, pos := "l20_draw.go:239", after := #[], guard := none }
abbrev o43_5 : Oper := { dst := some 218, op := .load 23 (.tmp 217), type := 23, pos := "l20_draw.go:239", after := #[⟨4, .data⟩], guard := none }
abbrev o43_6 : Oper := { dst := some 219, op := .indexAddr 23 (.tmp 218) (.const (.int .i64 0)), type := 0, pos := "l20_draw.go:239", after := #[⟨5, .data⟩], guard := none }
abbrev o43_7 : Oper := { dst := some 220, op := .load 3 (.tmp 219), type := 3, pos := "l20_draw.go:239", after := #[⟨6, .data⟩], guard := none }
abbrev o43_8 : Oper := { dst := some 221, op := .buildSlice 23 1 #[(0, .tmp 220)], type := 23, pos := "l20_draw.go:239", after := #[⟨7, .data⟩], guard := none }
abbrev o43_9 : Oper := { dst := some 222, op := .call { callee := .builtin .append, args := #[.tmp 216, .tmp 221], argTypes := #[23, 23] }, type := 23, pos := "l20_draw.go:239", after := #[⟨3, .data⟩, ⟨8, .data⟩, ⟨3, .chain⟩], guard := none }
abbrev o43_10 : Oper := { dst := some 223, op := .fieldAddr 59 (.tmp 18) 1, type := 0, pos := "l20_draw.go:239", after := #[⟨0, .phase⟩, ⟨1, .phase⟩, ⟨2, .phase⟩, ⟨3, .phase⟩, ⟨4, .phase⟩, ⟨5, .phase⟩, ⟨6, .phase⟩, ⟨7, .phase⟩, ⟨8, .phase⟩, ⟨9, .phase⟩], guard := none }
abbrev o43_11 : Oper := { dst := none, op := .store 23 (.tmp 223) (.tmp 222), type := 0, pos := "l20_draw.go:239", after := #[⟨10, .data⟩, ⟨9, .data⟩, ⟨9, .chain⟩, ⟨0, .phase⟩, ⟨1, .phase⟩, ⟨2, .phase⟩, ⟨3, .phase⟩, ⟨4, .phase⟩, ⟨5, .phase⟩, ⟨6, .phase⟩, ⟨7, .phase⟩, ⟨8, .phase⟩, ⟨9, .phase⟩], guard := none }
def ops43 : Array Oper := #[o43_0, o43_1, o43_2, o43_3, o43_4, o43_5, o43_6, o43_7, o43_8, o43_9, o43_10, o43_11]

def put43 (a : Act) (p s e i : Value) (u0 u3 u8 u9 : Value) : Act :=
  ((((((((((a.put (some 214) p).put (some 215) s).put (some 217) p).put (some 218) s).put (some 219) e).put (some 220) i).put (some 213) u0).put (some 216) u3).put (some 221) u8).put (some 222) u9).put (some 223) p

theorem tail43 {Q : Exit → Act → World → Prop} (d : Act) (w w5 : World) (X b8 n c1 : Nat) (A1 : Option Addr) (xs : List Int) (x0 : Int) (old : Value) (listed : Array Bool)
    (hr1 : Region.ready .any ops43 listed = [9]) (hr2 : Region.ready .any ops43 (listed.setIfInBounds 9 true) = [10]) (hr3 : Region.ready .any ops43 ((listed.setIfInBounds 9 true).setIfInBounds 10 true) = [11]) (hr4 : Region.ready .any ops43 (((listed.setIfInBounds 9 true).setIfInBounds 10 true).setIfInBounds 11 true) = [])
    (hsz : 223 < d.tmps.size) (h216 : d.eval (.tmp 216) = .slice A1 n c1) (h221 : d.eval (.tmp 221) = .slice (some ⟨b8, 0, none⟩) 1 1) (h18 : d.eval (.tmp 18) = .pointer (some ⟨X, 0, none⟩))
    (hb : Below w.heap.size w w5) (hX : X < w.heap.size) (hc : w.cell? ⟨X, 1, none⟩ = some old) (hf : w.frozen? ⟨X, 1, none⟩ = false)
    (ho : Ow w5 w.heap.size A1 n c1 xs) (hr : Rd w5 w5.heap.size (some ⟨b8, 0, none⟩) 1 [x0]) (hn : n ≤ 1099511627776)
    (h : ∀ A' c' w', Below w.heap.size w w' → Ow w' w.heap.size A' (n + 1) c' (xs ++ [x0]) → Q .normal ((d.put (some 222) (.slice A' (n + 1) c')).put (some 223) (.pointer (some ⟨X, 1, none⟩))) (w'.setCell ⟨X, 1, none⟩ (.slice A' (n + 1) c'))) :
    wpAnyL Tryd.prog .any ops43 Q (fun w' => Below w.heap.size w w') 11 3 listed d w5 := by
  refine wpAnyL_only (oi := o43_9) hr1 rfl rfl ?_
  refine wp_push_all (.tmp 216) (.tmp 221) rfl w.heap.size A1 n c1 xs (some ⟨b8, 0, none⟩) 1 1 w5.heap.size [x0] h216 h221 ho hr (.inl (by omega)) hn (by omega) hb.size ?_
  intro A' c' w6 ho6 hg6
  have hb6 : Below w.heap.size w w6 := hb.grown hg6 hb.size (fun k hk => ho.own_lo k hk)
  refine ⟨fun _ => hb6, ?_⟩
  have f18 : (d.put (some 222) (.slice A' (n + 1) c')).eval (.tmp 18) = .pointer (some ⟨X, 0, none⟩) := (eval_put_ne (by decide)).trans h18
  have f222 : (d.put (some 222) (.slice A' (n + 1) c')).eval (.tmp 222) = .slice A' (n + 1) c' := eval_put_same (by omega)
  have fs : 223 < (d.put (some 222) (.slice A' (n + 1) c')).tmps.size := by rw [size_put]; exact hsz
  have H := h A' c' w6 hb6 ho6
  show wpAnyL Tryd.prog .any ops43 Q _ 11 2 _ (d.put (some 222) (.slice A' (n + 1) c')) w6
  generalize hD : d.put (some 222) (.slice A' (n + 1) c') = D at f18 f222 fs H ⊢
  refine wpAnyL_only (oi := o43_10) hr2 rfl rfl ?_
  have hrun0 : (execOp D.eval o43_10).run Tryd.prog w6 = .ok (.value (.pointer (some ⟨X, 1, none⟩))) w6 := by
    unfold execOp
    simp only [f18]
    go_simp
  unfold Oper.wp
  rw [hrun0]
  refine ⟨fun _ => hb6, ?_⟩
  refine wpAnyL_only (oi := o43_11) hr3 rfl rfl ?_
  show Oper.wp Tryd.prog o43_11 (D.put (some 223) (.pointer (some ⟨X, 1, none⟩))) w6 _ Q
  have e1 : (D.put (some 223) (.pointer (some ⟨X, 1, none⟩))).eval (.tmp 223) = .pointer (some ⟨X, 1, none⟩) := eval_put_same fs
  have e2 : (D.put (some 223) (.pointer (some ⟨X, 1, none⟩))).eval (.tmp 222) = .slice A' (n + 1) c' := (eval_put_ne (by decide)).trans f222
  have hc6 : w6.cell? ⟨X, 1, none⟩ = some old := (hb6.cell (p := ⟨X, 1, none⟩) hX).trans hc
  have hf6 : w6.frozen? ⟨X, 1, none⟩ = false := (World.frozen?_of_block (hb6.block X hX)).trans hf
  generalize hE : D.put (some 223) (.pointer (some ⟨X, 1, none⟩)) = E at e1 e2 H ⊢
  have hrun : (execOp E.eval o43_11).run Tryd.prog w6 = .ok .skip (w6.setCell ⟨X, 1, none⟩ (.slice A' (n + 1) c')) := by
    unfold execOp
    simp only [e1, e2]
    go_simp
  unfold Oper.wp
  rw [hrun]
  exact ⟨fun e => absurd rfl e, wpAnyL_done hr4 H⟩

theorem panic_move {P : Program} {fn : Func} {R : Ending → World → Prop} {K : Act → World → Prop} {id : Nat} (c : List PanicEntry) (a a' : Act) (w : World) (he : a.defers = a'.defers)
    (h : Exit.inBlock id (Exit.then K (bodyPost P fn R)) (.panic c) a w) : Exit.inBlock id (Exit.then K (bodyPost P fn R)) (.panic c) a' w := by
  have h' : a.defers = [] ∧ R (.panicked c) w := h
  show a'.defers = [] ∧ R (.panicked c) w
  exact ⟨he ▸ h'.1, h'.2⟩

theorem region43 {Q : Exit → Act → World → Prop} (a : Act) (w : World) (X g n c : Nat) (xs : List Int) (hsz : 223 < a.tmps.size) (hX : a.eval (.tmp 18) = .pointer (some ⟨X, 0, none⟩)) (hXw : X < w.heap.size)
    (hc1 : w.cell? ⟨X, 1, none⟩ = some (.slice (some ⟨g, 0, none⟩) n c)) (hf1 : w.frozen? ⟨X, 1, none⟩ = false) (hr : Rd w w.heap.size (some ⟨g, 0, none⟩) n xs) (hn0 : 0 < n) (hn : n ≤ 1099511627776)
    (hQ : ∀ c a a' w, a.defers = a'.defers → Q (.panic c) a w → Q (.panic c) a' w)
    (h : ∀ (u0 u3 u8 u9 : Value) (A' : Option Addr) (c' : Nat) (w' : World), Below w.heap.size w w' → Ow w' w.heap.size A' (n + 1) c' (xs ++ [nth xs 0]) →
      Q .normal (put43 a (.pointer (some ⟨X, 1, none⟩)) (.slice (some ⟨g, 0, none⟩) n c) (.pointer (some ⟨g, 0, none⟩)) (.int .i64 (nth xs 0)) u0 u3 u8 u9) (w'.setCell ⟨X, 1, none⟩ (.slice A' (n + 1) c'))) :
    (Code.region 43 ops43 true).wp Tryd.prog Q a w := by
  obtain ⟨b0, off, e0, hgw, hg⟩ := hr.at_ hn0
  cases e0
  rw [Nat.zero_add] at hg
  refine wp_region_last (S := fun w' => Below w.heap.size w w') (z := 11) (by kernel_rfl) ?_
  have hB0 : Below w.heap.size w { w with drawn := w.drawn + 1 } := (Below.refl _ _).drew
  obtain ⟨W, hW⟩ : ∃ W, ({ w with drawn := w.drawn + 1 } : World) = W := ⟨_, rfl⟩
  rw [hW] at hB0 ⊢
  have hS1 : ∀ w', Below w.heap.size w w' → w'.cell? ⟨X, 1, none⟩ = some (.slice (some ⟨g, 0, none⟩) n c) := fun w' hb => (hb.cell (p := ⟨X, 1, none⟩) hXw).trans hc1
  have hS2 : ∀ w', Below w.heap.size w w' → w'.cell? ⟨g, 0, none⟩ = some (.int .i64 (nth xs 0)) := fun w' hb => (hb.cell (p := ⟨g, 0, none⟩) hgw).trans hg
  have hnI : (0 : Int) < n := by omega
  have e18 := hX
  have s0 := hsz
  show wpAnyL Tryd.prog .any ops43 Q _ 11 12 _ _ _
  have r1 : ∀ w', Below w.heap.size w w' → (execOp a.eval o43_1).run Tryd.prog w' = .ok (.value (.pointer (some ⟨X, 1, none⟩))) w' := fun w' hb => by
    have hA := hS1 w' hb
    have hC := hS2 w' hb
    unfold execOp
    simp only [e18]
    go_simp
  refine wpAnyL_take [1, 2, 3, 9, 11] (i := 1) (oi := o43_1) (v := .pointer (some ⟨X, 1, none⟩)) rfl (by kernel_rfl) (by kernel_rfl) (by kernel_rfl) (by kernel_rfl) (by kernel_rfl) (by decide) (fun c x w => hQ c _ _ w rfl) (Or.inl ⟨rfl, r1⟩) hB0 ?_
  show wpAnyL Tryd.prog .any ops43 Q _ 11 11 _ (a.put (some 214) (.pointer (some ⟨X, 1, none⟩))) _
  have s1 : 223 < (a.put (some 214) (.pointer (some ⟨X, 1, none⟩))).tmps.size := by rw [size_put]; exact s0
  have e18' : (a.put (some 214) (.pointer (some ⟨X, 1, none⟩))).eval (.tmp 18) = .pointer (some ⟨X, 0, none⟩) := (eval_put_ne (by decide)).trans e18
  have e214 : (a.put (some 214) (.pointer (some ⟨X, 1, none⟩))).eval (.tmp 214) = .pointer (some ⟨X, 1, none⟩) := eval_put_same (by omega)
  generalize hA1 : a.put (some 214) (.pointer (some ⟨X, 1, none⟩)) = a1 at e18' e214 s1 ⊢
  clear e18; have e18 := e18'; clear e18'
  have r2 : ∀ w', Below w.heap.size w w' → (execOp a1.eval o43_2).run Tryd.prog w' = .ok (.value (.slice (some ⟨g, 0, none⟩) n c)) w' := fun w' hb => by
    have hA := hS1 w' hb
    have hC := hS2 w' hb
    unfold execOp
    simp only [e214]
    go_simp
  refine wpAnyL_take [2, 3, 9, 11] (i := 2) (oi := o43_2) (v := .slice (some ⟨g, 0, none⟩) n c) rfl (by kernel_rfl) (by kernel_rfl) (by kernel_rfl) (by kernel_rfl) (by kernel_rfl) (by decide) (fun c x w => hQ c _ _ w rfl) (Or.inl ⟨rfl, r2⟩) hB0 ?_
  show wpAnyL Tryd.prog .any ops43 Q _ 11 10 _ (a1.put (some 215) (.slice (some ⟨g, 0, none⟩) n c)) _
  have s2 : 223 < (a1.put (some 215) (.slice (some ⟨g, 0, none⟩) n c)).tmps.size := by rw [size_put]; exact s1
  have e18' : (a1.put (some 215) (.slice (some ⟨g, 0, none⟩) n c)).eval (.tmp 18) = .pointer (some ⟨X, 0, none⟩) := (eval_put_ne (by decide)).trans e18
  have e214' : (a1.put (some 215) (.slice (some ⟨g, 0, none⟩) n c)).eval (.tmp 214) = .pointer (some ⟨X, 1, none⟩) := (eval_put_ne (by decide)).trans e214
  have e215 : (a1.put (some 215) (.slice (some ⟨g, 0, none⟩) n c)).eval (.tmp 215) = .slice (some ⟨g, 0, none⟩) n c := eval_put_same (by omega)
  generalize hA2 : a1.put (some 215) (.slice (some ⟨g, 0, none⟩) n c) = a2 at e18' e214' e215 s2 ⊢
  clear e18; have e18 := e18'; clear e18'
  clear e214; have e214 := e214'; clear e214'
  have r4 : ∀ w', Below w.heap.size w w' → (execOp a2.eval o43_4).run Tryd.prog w' = .ok (.value (.pointer (some ⟨X, 1, none⟩))) w' := fun w' hb => by
    have hA := hS1 w' hb
    have hC := hS2 w' hb
    unfold execOp
    simp only [e18]
    go_simp
  refine wpAnyL_take [4, 5, 6, 7, 8, 9, 11] (i := 4) (oi := o43_4) (v := .pointer (some ⟨X, 1, none⟩)) rfl (by kernel_rfl) (by kernel_rfl) (by kernel_rfl) (by kernel_rfl) (by kernel_rfl) (by decide) (fun c x w => hQ c _ _ w rfl) (Or.inl ⟨rfl, r4⟩) hB0 ?_
  show wpAnyL Tryd.prog .any ops43 Q _ 11 9 _ (a2.put (some 217) (.pointer (some ⟨X, 1, none⟩))) _
  have s3 : 223 < (a2.put (some 217) (.pointer (some ⟨X, 1, none⟩))).tmps.size := by rw [size_put]; exact s2
  have e18' : (a2.put (some 217) (.pointer (some ⟨X, 1, none⟩))).eval (.tmp 18) = .pointer (some ⟨X, 0, none⟩) := (eval_put_ne (by decide)).trans e18
  have e214' : (a2.put (some 217) (.pointer (some ⟨X, 1, none⟩))).eval (.tmp 214) = .pointer (some ⟨X, 1, none⟩) := (eval_put_ne (by decide)).trans e214
  have e215' : (a2.put (some 217) (.pointer (some ⟨X, 1, none⟩))).eval (.tmp 215) = .slice (some ⟨g, 0, none⟩) n c := (eval_put_ne (by decide)).trans e215
  have e217 : (a2.put (some 217) (.pointer (some ⟨X, 1, none⟩))).eval (.tmp 217) = .pointer (some ⟨X, 1, none⟩) := eval_put_same (by omega)
  generalize hA3 : a2.put (some 217) (.pointer (some ⟨X, 1, none⟩)) = a3 at e18' e214' e215' e217 s3 ⊢
  clear e18; have e18 := e18'; clear e18'
  clear e214; have e214 := e214'; clear e214'
  clear e215; have e215 := e215'; clear e215'
  have r5 : ∀ w', Below w.heap.size w w' → (execOp a3.eval o43_5).run Tryd.prog w' = .ok (.value (.slice (some ⟨g, 0, none⟩) n c)) w' := fun w' hb => by
    have hA := hS1 w' hb
    have hC := hS2 w' hb
    unfold execOp
    simp only [e217]
    go_simp
  refine wpAnyL_take [5, 6, 7, 8, 9, 11] (i := 5) (oi := o43_5) (v := .slice (some ⟨g, 0, none⟩) n c) rfl (by kernel_rfl) (by kernel_rfl) (by kernel_rfl) (by kernel_rfl) (by kernel_rfl) (by decide) (fun c x w => hQ c _ _ w rfl) (Or.inl ⟨rfl, r5⟩) hB0 ?_
  show wpAnyL Tryd.prog .any ops43 Q _ 11 8 _ (a3.put (some 218) (.slice (some ⟨g, 0, none⟩) n c)) _
  have s4 : 223 < (a3.put (some 218) (.slice (some ⟨g, 0, none⟩) n c)).tmps.size := by rw [size_put]; exact s3
  have e18' : (a3.put (some 218) (.slice (some ⟨g, 0, none⟩) n c)).eval (.tmp 18) = .pointer (some ⟨X, 0, none⟩) := (eval_put_ne (by decide)).trans e18
  have e214' : (a3.put (some 218) (.slice (some ⟨g, 0, none⟩) n c)).eval (.tmp 214) = .pointer (some ⟨X, 1, none⟩) := (eval_put_ne (by decide)).trans e214
  have e215' : (a3.put (some 218) (.slice (some ⟨g, 0, none⟩) n c)).eval (.tmp 215) = .slice (some ⟨g, 0, none⟩) n c := (eval_put_ne (by decide)).trans e215
  have e217' : (a3.put (some 218) (.slice (some ⟨g, 0, none⟩) n c)).eval (.tmp 217) = .pointer (some ⟨X, 1, none⟩) := (eval_put_ne (by decide)).trans e217
  have e218 : (a3.put (some 218) (.slice (some ⟨g, 0, none⟩) n c)).eval (.tmp 218) = .slice (some ⟨g, 0, none⟩) n c := eval_put_same (by omega)
  generalize hA4 : a3.put (some 218) (.slice (some ⟨g, 0, none⟩) n c) = a4 at e18' e214' e215' e217' e218 s4 ⊢
  clear e18; have e18 := e18'; clear e18'
  clear e214; have e214 := e214'; clear e214'
  clear e215; have e215 := e215'; clear e215'
  clear e217; have e217 := e217'; clear e217'
  have r6 : ∀ w', Below w.heap.size w w' → (execOp a4.eval o43_6).run Tryd.prog w' = .ok (.value (.pointer (some ⟨g, 0, none⟩))) w' := fun w' hb => by
    have hA := hS1 w' hb
    have hC := hS2 w' hb
    unfold execOp
    simp only [e218]
    go_simp
  refine wpAnyL_take [6, 7, 8, 9, 11] (i := 6) (oi := o43_6) (v := .pointer (some ⟨g, 0, none⟩)) rfl (by kernel_rfl) (by kernel_rfl) (by kernel_rfl) (by kernel_rfl) (by kernel_rfl) (by decide) (fun c x w => hQ c _ _ w rfl) (Or.inl ⟨rfl, r6⟩) hB0 ?_
  show wpAnyL Tryd.prog .any ops43 Q _ 11 7 _ (a4.put (some 219) (.pointer (some ⟨g, 0, none⟩))) _
  have s5 : 223 < (a4.put (some 219) (.pointer (some ⟨g, 0, none⟩))).tmps.size := by rw [size_put]; exact s4
  have e18' : (a4.put (some 219) (.pointer (some ⟨g, 0, none⟩))).eval (.tmp 18) = .pointer (some ⟨X, 0, none⟩) := (eval_put_ne (by decide)).trans e18
  have e214' : (a4.put (some 219) (.pointer (some ⟨g, 0, none⟩))).eval (.tmp 214) = .pointer (some ⟨X, 1, none⟩) := (eval_put_ne (by decide)).trans e214
  have e215' : (a4.put (some 219) (.pointer (some ⟨g, 0, none⟩))).eval (.tmp 215) = .slice (some ⟨g, 0, none⟩) n c := (eval_put_ne (by decide)).trans e215
  have e217' : (a4.put (some 219) (.pointer (some ⟨g, 0, none⟩))).eval (.tmp 217) = .pointer (some ⟨X, 1, none⟩) := (eval_put_ne (by decide)).trans e217
  have e218' : (a4.put (some 219) (.pointer (some ⟨g, 0, none⟩))).eval (.tmp 218) = .slice (some ⟨g, 0, none⟩) n c := (eval_put_ne (by decide)).trans e218
  have e219 : (a4.put (some 219) (.pointer (some ⟨g, 0, none⟩))).eval (.tmp 219) = .pointer (some ⟨g, 0, none⟩) := eval_put_same (by omega)
  generalize hA5 : a4.put (some 219) (.pointer (some ⟨g, 0, none⟩)) = a5 at e18' e214' e215' e217' e218' e219 s5 ⊢
  clear e18; have e18 := e18'; clear e18'
  clear e214; have e214 := e214'; clear e214'
  clear e215; have e215 := e215'; clear e215'
  clear e217; have e217 := e217'; clear e217'
  clear e218; have e218 := e218'; clear e218'
  have r7 : ∀ w', Below w.heap.size w w' → (execOp a5.eval o43_7).run Tryd.prog w' = .ok (.value (.int .i64 (nth xs 0))) w' := fun w' hb => by
    have hA := hS1 w' hb
    have hC := hS2 w' hb
    unfold execOp
    simp only [e219]
    go_simp
  refine wpAnyL_take [7, 8, 9, 11] (i := 7) (oi := o43_7) (v := .int .i64 (nth xs 0)) rfl (by kernel_rfl) (by kernel_rfl) (by kernel_rfl) (by kernel_rfl) (by kernel_rfl) (by decide) (fun c x w => hQ c _ _ w rfl) (Or.inl ⟨rfl, r7⟩) hB0 ?_
  show wpAnyL Tryd.prog .any ops43 Q _ 11 6 _ (a5.put (some 220) (.int .i64 (nth xs 0))) _
  have s6 : 223 < (a5.put (some 220) (.int .i64 (nth xs 0))).tmps.size := by rw [size_put]; exact s5
  have e18' : (a5.put (some 220) (.int .i64 (nth xs 0))).eval (.tmp 18) = .pointer (some ⟨X, 0, none⟩) := (eval_put_ne (by decide)).trans e18
  have e214' : (a5.put (some 220) (.int .i64 (nth xs 0))).eval (.tmp 214) = .pointer (some ⟨X, 1, none⟩) := (eval_put_ne (by decide)).trans e214
  have e215' : (a5.put (some 220) (.int .i64 (nth xs 0))).eval (.tmp 215) = .slice (some ⟨g, 0, none⟩) n c := (eval_put_ne (by decide)).trans e215
  have e217' : (a5.put (some 220) (.int .i64 (nth xs 0))).eval (.tmp 217) = .pointer (some ⟨X, 1, none⟩) := (eval_put_ne (by decide)).trans e217
  have e218' : (a5.put (some 220) (.int .i64 (nth xs 0))).eval (.tmp 218) = .slice (some ⟨g, 0, none⟩) n c := (eval_put_ne (by decide)).trans e218
  have e219' : (a5.put (some 220) (.int .i64 (nth xs 0))).eval (.tmp 219) = .pointer (some ⟨g, 0, none⟩) := (eval_put_ne (by decide)).trans e219
  have e220 : (a5.put (some 220) (.int .i64 (nth xs 0))).eval (.tmp 220) = .int .i64 (nth xs 0) := eval_put_same (by omega)
  generalize hA6 : a5.put (some 220) (.int .i64 (nth xs 0)) = a6 at e18' e214' e215' e217' e218' e219' e220 s6 ⊢
  clear e18; have e18 := e18'; clear e18'
  clear e214; have e214 := e214'; clear e214'
  clear e215; have e215 := e215'; clear e215'
  clear e217; have e217 := e217'; clear e217'
  clear e218; have e218 := e218'; clear e218'
  clear e219; have e219 := e219'; clear e219'
  -- what is left: two literals and two appends, in three orders
  have done : ∀ (d : Act) (w5 : World) (b8 c1 : Nat) (A1 : Option Addr) (listed : Array Bool) (u0 u3 u8 : Value), d = ((a6.put (some 213) u0).put (some 216) u3).put (some 221) u8 →
      Region.ready .any ops43 listed = [9] → Region.ready .any ops43 (listed.setIfInBounds 9 true) = [10] → Region.ready .any ops43 ((listed.setIfInBounds 9 true).setIfInBounds 10 true) = [11] → Region.ready .any ops43 (((listed.setIfInBounds 9 true).setIfInBounds 10 true).setIfInBounds 11 true) = [] →
      u3 = .slice A1 n c1 → u8 = .slice (some ⟨b8, 0, none⟩) 1 1 → Below w.heap.size w w5 → Ow w5 w.heap.size A1 n c1 xs → Rd w5 w5.heap.size (some ⟨b8, 0, none⟩) 1 [nth xs 0] →
      wpAnyL Tryd.prog .any ops43 Q (fun w' => Below w.heap.size w w') 11 3 listed d w5 := by
    rintro d w5 b8 c1 A1 listed u0 u3 u8 rfl hr1 hr2 hr3 hr4 rfl rfl hb ho hrd
    refine tail43 _ w w5 X b8 n c1 A1 xs (nth xs 0) _ listed hr1 hr2 hr3 hr4 (by simp only [size_put]; exact s6) ?_ (eval_put_same (by simp only [size_put]; omega)) ?_ hb hXw hc1 hf1 ho hrd hn ?_
    · rw [eval_put_ne (by decide), eval_put_same (by simp only [size_put]; omega)]
    · rw [eval_put_ne (by decide), eval_put_ne (by decide), eval_put_ne (by decide)]; exact e18
    · intro A' c' w' hb' ho'
      have := h u0 (.slice A1 n c1) (.slice (some ⟨b8, 0, none⟩) 1 1) (.slice A' (n + 1) c') A' c' w' hb' ho'
      simp only [put43, hA1, hA2, hA3, hA4, hA5, hA6] at this
      exact this
  have lit0 : ∀ (d : Act) (w5 : World) (K : Act → World → Prop), K (d.put (some 213) (.slice (some ⟨w5.heap.size, 0, none⟩) 0 0)) (w5.alloc (.cells #[] 3)) → Oper.wp Tryd.prog o43_0 d w5 K Q := fun d w5 K hK => by
    have hrun : (execOp d.eval o43_0).run Tryd.prog w5 = .ok (.value (.slice (some ⟨w5.heap.size, 0, none⟩) 0 0)) (w5.alloc (.cells #[] 3)) := by
      unfold execOp
      go_simp
    unfold Oper.wp
    rw [hrun]
    exact hK
  have lit8 : ∀ (d : Act) (w5 : World) (K : Act → World → Prop), d.eval (.tmp 220) = .int .i64 (nth xs 0) → K (d.put (some 221) (.slice (some ⟨w5.heap.size, 0, none⟩) 1 1)) (w5.alloc (.cells #[.int .i64 (nth xs 0)] 3)) → Oper.wp Tryd.prog o43_8 d w5 K Q := fun d w5 K he hK => by
    have hrun : (execOp d.eval o43_8).run Tryd.prog w5 = .ok (.value (.slice (some ⟨w5.heap.size, 0, none⟩) 1 1)) (w5.alloc (.cells #[.int .i64 (nth xs 0)] 3)) := by
      unfold execOp
      simp only [List.map_toArray, List.map_cons, List.map_nil, he]
      go_simp
    unfold Oper.wp
    rw [hrun]
    exact hK
  have new1 : ∀ w5 : World, Rd (w5.alloc (.cells #[.int .i64 (nth xs 0)] 3)) (w5.heap.size + 1) (some ⟨w5.heap.size, 0, none⟩) 1 [nth xs 0] := fun w5 => ⟨rfl, fun _ => ⟨w5.heap.size, 0, rfl, by omega, fun k hk => by
    obtain rfl : k = 0 := by omega
    exact cell_of_row _ _ 0 _ _ (0, 0) (heap_alloc_new w5 _)⟩⟩
  have app3 : ∀ (d : Act) (w5 : World) (b0 : Nat) (K : Act → World → Prop), d.eval (.tmp 213) = .slice (some ⟨b0, 0, none⟩) 0 0 → d.eval (.tmp 215) = .slice (some ⟨g, 0, none⟩) n c → Ow w5 w.heap.size (some ⟨b0, 0, none⟩) 0 0 [] → Below w.heap.size w w5 →
      (∀ A1 c1 w6, Ow w6 w.heap.size A1 n c1 xs → w5.grownBy w6 (Value.slice (some ⟨b0, 0, none⟩) 0 0).ownBlock → Below w.heap.size w w6 → K (d.put (some 216) (.slice A1 n c1)) w6) → Oper.wp Tryd.prog o43_3 d w5 K Q := fun d w5 b0 K h1 h2 ho hb hK => by
    refine wp_push_all (.tmp 213) (.tmp 215) rfl w.heap.size _ 0 0 [] _ n c w.heap.size xs h1 h2 ho (hr.below hb) (.inr rfl) (by omega) hn hb.size ?_
    intro A1 c1 w6 ho6 hg6
    rw [Nat.zero_add] at ho6 ⊢
    rw [List.nil_append] at ho6
    exact hK A1 c1 w6 ho6 hg6 (hb.grown hg6 hb.size (fun k hk => ho.own_lo k hk))
  have made : ∀ w5 : World, Below w.heap.size w w5 → Ow (w5.alloc (.cells #[] 3)) w.heap.size (some ⟨w5.heap.size, 0, none⟩) 0 0 [] := fun w5 hb => Ow.made0 _ _ hb.size
  have hBa : ∀ (w5 : World) (o : Obj), Below w.heap.size w w5 → Below w.heap.size w (w5.alloc o) := fun w5 o hb => hb.alloc hb.size o
  refine wpAnyL_two (i := 0) (j := 8) (oi := o43_0) (oj := o43_8) (by kernel_rfl) rfl rfl rfl rfl ?first ?second
  case first =>
    refine lit0 _ _ _ ?_
    have hB1 := hBa W (.cells #[] 3) hB0
    have ho1 := made W hB0
    refine ⟨fun _ => hB1, ?_⟩
    refine wpAnyL_two (i := 3) (j := 8) (oi := o43_3) (oj := o43_8) (by kernel_rfl) rfl rfl rfl rfl ?fa ?fb
    case fa =>
      refine app3 _ _ _ _ (eval_put_same (by omega)) ((eval_put_ne (by decide)).trans e215) ho1 hB1 ?_
      intro A1 c1 w6 ho6 _ hb6
      refine ⟨fun _ => hb6, ?_⟩
      refine wpAnyL_only (i := 8) (oi := o43_8) (by kernel_rfl) rfl rfl ?_
      refine lit8 _ _ _ (by rw [eval_put_ne (by decide), eval_put_ne (by decide)]; exact e220) ?_
      refine ⟨fun _ => hBa _ _ hb6, ?_⟩
      exact done _ _ _ _ _ _ _ _ _ rfl (by kernel_rfl) (by kernel_rfl) (by kernel_rfl) (by kernel_rfl) rfl rfl (hBa _ _ hb6) (ho6.below ((Below.refl _ _).alloc (Nat.le_refl _) _)) (by rw [World.size_alloc]; exact new1 _)
    case fb =>
      refine lit8 _ _ _ (by rw [eval_put_ne (by decide)]; exact e220) ?_
      have hB2 := hBa _ (.cells #[.int .i64 (nth xs 0)] 3) hB1
      refine ⟨fun _ => hB2, ?_⟩
      refine wpAnyL_only (i := 3) (oi := o43_3) (by kernel_rfl) rfl rfl ?_
      refine app3 _ _ _ _ (by rw [eval_put_ne (by decide), eval_put_same (by omega)]) (by rw [eval_put_ne (by decide), eval_put_ne (by decide)]; exact e215) (ho1.below ((Below.refl _ _).alloc (Nat.le_refl _) _)) hB2 ?_
      intro A1 c1 w6 ho6 hg6 hb6
      refine ⟨fun _ => hb6, ?_⟩
      refine done _ _ _ _ _ _ _ _ _ (Act.put_comm _ _ _ (by intro d h1 h2; cases h1; cases h2)) (by kernel_rfl) (by kernel_rfl) (by kernel_rfl) (by kernel_rfl) rfl rfl hb6 ho6 ?_
      have hrd := Rd.grown (G := W.heap.size) (new1 (W.alloc (.cells #[] 3))) hg6 (fun b off e => by cases e; rw [World.size_alloc]; omega) (by simp)
      exact ⟨hrd.1, fun hn => by
        obtain ⟨b, off, e, hl, hc⟩ := hrd.2 hn
        exact ⟨b, off, e, cell_lt (hc 0 hn), hc⟩⟩
  case second =>
    refine lit8 _ _ _ e220 ?_
    have hB1 := hBa W (.cells #[.int .i64 (nth xs 0)] 3) hB0
    refine ⟨fun _ => hB1, ?_⟩
    refine wpAnyL_only (i := 0) (oi := o43_0) (by kernel_rfl) rfl rfl ?_
    refine lit0 _ _ _ ?_
    have hB2 := hBa _ (.cells #[] 3) hB1
    have ho1 := made _ hB1
    refine ⟨fun _ => hB2, ?_⟩
    refine wpAnyL_only (i := 3) (oi := o43_3) (by kernel_rfl) rfl rfl ?_
    refine app3 _ _ _ _ (eval_put_same (by simp only [size_put]; omega)) (by rw [eval_put_ne (by decide), eval_put_ne (by decide)]; exact e215) ho1 hB2 ?_
    intro A1 c1 w6 ho6 hg6 hb6
    refine ⟨fun _ => hb6, ?_⟩
    refine done _ _ _ _ _ _ _ _ _ ((congrArg (fun x : Act => x.put (some 216) (.slice A1 n c1)) (Act.put_comm a6 _ _ (by intro d h1 h2; cases h1; cases h2))).trans (Act.put_comm _ _ _ (by intro d h1 h2; cases h1; cases h2))) (by kernel_rfl) (by kernel_rfl) (by kernel_rfl) (by kernel_rfl) rfl rfl hb6 ho6 ?_
    have hrd := Rd.grown (G := (W.alloc (.cells #[.int .i64 (nth xs 0)] 3)).heap.size) ((new1 W).below ((Below.refl _ _).alloc (by simp) (.cells #[] 3))) hg6 (fun b off e => by cases e; rw [World.size_alloc]; omega) (by simp)
    exact ⟨hrd.1, fun hn => by
      obtain ⟨b, off, e, hl, hc⟩ := hrd.2 hn
      exact ⟨b, off, e, cell_lt (hc 0 hn), hc⟩⟩
end Go.Proofs.YtlnmioijgclndaaDoor
namespace Go.Proofs.YtlnmioijgclndaaDoor
open Go.ChangeShapes Go.WideShapes Go.ChangeAt Go.RowKit
/-! A region that draws its order and makes values and new blocks alone, but for its last operation, a store. -/
/-- Two frames agree outside some slots. -/
def Off (d : Nat → Nat) (m : Nat) (a a0 : Act) : Prop := a.tmps.size = a0.tmps.size ∧ a.defers = a0.defers ∧ ∀ t, (∀ j, j < m → d j ≠ t) → a.tmps[t]? = a0.tmps[t]?
theorem Off.eval {d : Nat → Nat} {m : Nat} {a a0 : Act} (h : Off d m a a0) {t : Nat} (ht : ∀ j, j < m → d j ≠ t) : a.eval (.tmp t) = a0.eval (.tmp t) := by
  simp [Act.eval, h.2.2 t ht]
theorem wp_region_made {P : Program} {ops : Array Oper} {Q : Exit → Act → World → Prop} {id : Nat} {a0 : Act} {W : World} (m : Nat) (d : Nat → Nat) (G : Nat → Value → World → Prop)
    (hm : P.follows .mixedOrders = true) (hlen : ops.size = m + 1) (hback : ∀ (i : Nat) (o : Oper), ops[i]? = some o → ∀ e ∈ o.after, e.on < i)
    (hd : ∀ i o, i < m → ops[i]? = some o → o.dst = some (d i) ∧ o.guard = none) (hinj : ∀ i j, i < m → j < m → d i = d j → i = j) (hlt : ∀ i, i < m → d i < a0.tmps.size)
    (hl : ∀ o, ops[m]? = some o → o.dst = none ∧ o.guard = none ∧ ∀ j, j < m → ∃ e ∈ o.after, e.on = j ∧ Region.binds .any e = true)
    (hG : ∀ j v w w', Below w.heap.size w w' → G j v w → G j v w')
    (hstep : ∀ i o a w, i < m → ops[i]? = some o → Below W.heap.size W w → Off d m a a0 → (∀ e ∈ o.after, Region.binds .any e = true → G e.on (a.eval (.tmp (d e.on))) w) → ∃ v w', (execOp a.eval o).run P w = .ok (.value v) w' ∧ Below w.heap.size w w' ∧ G i v w')
    (hlast : ∀ o a w, ops[m]? = some o → Below W.heap.size W w → Off d m a a0 → (∀ j, j < m → G j (a.eval (.tmp (d j))) w) → ∃ w', (execOp a.eval o).run P w = .ok .skip w' ∧ Q .normal a w') :
    (Code.region id ops true).wp P Q a0 W := by
  refine wp_region_inv (Inv := fun l a w => l.size = ops.size ∧ ((l.getD m false = false ∧ Below W.heap.size W w ∧ Off d m a a0 ∧ ∀ j, j < m → l.getD j false = true → G j (a.eval (.tmp (d j))) w) ∨ ((∀ j, j < ops.size → l.getD j false = true) ∧ Q .normal a w))) hm hback (fun l a w h => h.1) ?step ?done ?h0
  case done =>
    rintro l a w ⟨hs, h⟩ hall
    rcases h with ⟨h1, _⟩ | ⟨_, h⟩
    · rw [hall m (by omega)] at h1; cases h1
    · exact h
  case h0 =>
    refine ⟨by simp, .inl ⟨by rw [Array.getD_eq_getD_getElem?, Array.getElem?_replicate]; split <;> rfl, (Below.refl W.heap.size W).drew, ⟨rfl, rfl, fun _ _ => rfl⟩, fun j hj hlj => ?_⟩⟩
    simp at hlj
    have : j < ops.size := by omega
    simp [this] at hlj
  case step =>
    rintro l a w i o ⟨hs, h⟩ ho hli hall
    have hi : i < ops.size := (Array.getElem?_eq_some_iff.1 ho).1
    have hil : i < l.size := by omega
    rcases h with ⟨h1, hb, hoff, hg⟩ | ⟨h, _⟩
    · refine wpOp_step ho (fun K hK => ?_)
      have hsz : (l.setIfInBounds i true).size = ops.size := by simpa using hs
      by_cases him : i = m
      · subst him
        obtain ⟨q1, q2, q3⟩ := hl o ho
        have hallj : ∀ j, j < i → l.getD j false = true := fun j hj => by
          obtain ⟨e, he, rfl, hbd⟩ := q3 j hj
          exact hall e he hbd
        obtain ⟨w', hrun, hq⟩ := hlast o a w ho hb hoff (fun j hj => hg j hj (hallj j hj))
        rw [if_pos (by simp [Region.wanted, q2])]
        unfold Oper.wp
        rw [hrun]
        have hput : a.put o.dst undef = a := by rw [q1]; rfl
        refine hK _ _ ⟨hsz, .inr ⟨fun j hj => ?_, ?_⟩⟩
        · by_cases e : j = i
          · subst e; simp [hil]
          · have := hallj j (by omega)
            have hjl : j < l.size := by omega
            have hset : (l.setIfInBounds i true).getD j false = l.getD j false := by simp [Array.getElem?_setIfInBounds_ne (fun e' => e (Eq.symm e'))]
            rw [hset]; exact this
        · first | exact hq | (rw [hput]; exact hq)
      · have him' : i < m := by omega
        obtain ⟨q1, q2⟩ := hd i o him' ho
        have hpre : ∀ e ∈ o.after, Region.binds .any e = true → G e.on (a.eval (.tmp (d e.on))) w := fun e he hbd => hg e.on (Nat.lt_trans (hback i o ho e he) him') (hall e he hbd)
        obtain ⟨v, w', hrun, hb', hgi⟩ := hstep i o a w him' ho hb hoff hpre
        rw [if_pos (by simp [Region.wanted, q2])]
        unfold Oper.wp
        rw [hrun]
        have hdlt : d i < a.tmps.size := by rw [hoff.1]; exact hlt i him'
        have hset : ∀ j, (l.setIfInBounds i true).getD j false = if j = i then true else l.getD j false := fun j => by
          by_cases e : j = i
          · subst e; simp [hil]
          · rw [if_neg e]; simp [Array.getElem?_setIfInBounds_ne (fun e' => e (Eq.symm e'))]
        refine hK _ _ ⟨hsz, .inl ⟨by rw [hset, if_neg (fun e => him e.symm)]; exact h1, step hb hb', ?_, fun j hj hlj => ?_⟩⟩
        · rw [q1]
          refine ⟨by rw [size_put]; exact hoff.1, hoff.2.1, fun t ht => ?_⟩
          rw [← hoff.2.2 t ht]
          simp [Act.put, Array.getElem?_setIfInBounds_ne (ht i him')]
        · rw [q1]
          by_cases e : j = i
          · subst e; rw [eval_put_same hdlt]; exact hgi
          · rw [eval_put_ne (fun e' => e (hinj _ _ hj him' e'.symm))]
            rw [hset, if_neg e] at hlj
            exact hG _ _ _ _ hb' (hg j hj hlj)
    · have := h i hi
      simp [hil] at hli this
      rw [this] at hli; cases hli
/-- What the kernel reckons of a region whose operations write the slots ds, in order, and whose last one is a store that waits for all. -/
def chkOps (ops : Array Oper) (ds : List Nat) : Bool :=
  ops.size == ds.length + 1 && ((List.range ops.size).all fun i => match ops[i]? with
    | some o => o.after.all fun e => decide (e.on < i)
    | none => false) && ((List.range ds.length).all fun i => match ops[i]? with
    | some o => decide (o.dst = some (ds.getD i 0)) && o.guard.isNone
    | none => false) && (match ops[ds.length]? with
    | some o => o.dst.isNone && o.guard.isNone && (List.range ds.length).all fun j => o.after.any fun e => e.on == j && Region.binds .any e
    | none => false) && decide ds.Nodup
theorem wp_region_ds {P : Program} {ops : Array Oper} {Q : Exit → Act → World → Prop} {id : Nat} {a0 : Act} {W : World} (ds : List Nat) (G : Nat → Value → World → Prop)
    (hm : P.follows .mixedOrders = true) (hc : chkOps ops ds = true) (hlt : ∀ t ∈ ds, t < a0.tmps.size)
    (hG : ∀ j v w w', Below w.heap.size w w' → G j v w → G j v w')
    (hstep : ∀ (i : Nat) (o : Oper) (a : Act) (w : World), i < ds.length → ops[i]? = some o → Below W.heap.size W w → (∀ t, t ∉ ds → a.eval (.tmp t) = a0.eval (.tmp t)) → (∀ e ∈ o.after, Region.binds .any e = true → G e.on (a.eval (.tmp (ds.getD e.on 0))) w) → ∃ v w', (execOp a.eval o).run P w = .ok (.value v) w' ∧ Below w.heap.size w w' ∧ G i v w')
    (hlast : ∀ (o : Oper) (a : Act) (w : World), ops[ds.length]? = some o → Below W.heap.size W w → a.defers = a0.defers → a.tmps = ds.foldl (fun tm t => tm.setIfInBounds t (a.tmps.getD t undef)) a0.tmps → (∀ t, t ∉ ds → a.eval (.tmp t) = a0.eval (.tmp t)) → (∀ j, j < ds.length → G j (a.eval (.tmp (ds.getD j 0))) w) → ∃ w', (execOp a.eval o).run P w = .ok .skip w' ∧ Q .normal a w') :
    (Code.region id ops true).wp P Q a0 W := by
  simp only [chkOps, Bool.and_eq_true, beq_iff_eq, List.all_eq_true, List.mem_range, decide_eq_true_eq] at hc
  obtain ⟨⟨⟨⟨c1, c2⟩, c3⟩, c4⟩, c5⟩ := hc
  have hout : ∀ t, t ∉ ds → ∀ j, j < ds.length → ds.getD j 0 ≠ t := fun t ht j hj e => ht (by
    rw [← e, List.getD_eq_getElem?_getD, List.getElem?_eq_getElem hj]; exact List.getElem_mem _)
  have hmem : ∀ j, j < ds.length → ds.getD j 0 ∈ ds := fun j hj => by
    rw [List.getD_eq_getElem?_getD, List.getElem?_eq_getElem hj]; exact List.getElem_mem _
  refine wp_region_made ds.length (fun j => ds.getD j 0) G hm c1 ?back ?hd ?inj (fun i hi => hlt _ (hmem i hi)) ?hl hG ?step ?last
  case back =>
    intro i o ho e he
    have hi : i < ops.size := (Array.getElem?_eq_some_iff.1 ho).1
    have := c2 i hi
    rw [ho] at this
    simp only [Array.all_eq_true_iff_forall_mem, decide_eq_true_eq] at this
    exact this e he
  case hd =>
    intro i o hi ho
    have := c3 i hi
    rw [ho] at this
    simp only [Bool.and_eq_true, decide_eq_true_eq, Option.isNone_iff_eq_none] at this
    exact this
  case inj =>
    intro i j hi hj e
    simp only [List.getD_eq_getElem?_getD, List.getElem?_eq_getElem hi, List.getElem?_eq_getElem hj, Option.getD_some] at e
    exact (List.getElem_inj c5).1 e
  case hl =>
    intro o ho
    rw [ho] at c4
    simp only [Bool.and_eq_true, Option.isNone_iff_eq_none, List.all_eq_true, List.mem_range] at c4
    refine ⟨c4.1.1, c4.1.2, fun j hj => ?_⟩
    obtain ⟨e, he, h⟩ := Array.any_eq_true'.1 (c4.2 j hj)
    rw [Bool.and_eq_true, beq_iff_eq] at h
    exact ⟨e, he, h.1, h.2⟩
  case step =>
    intro i o a w hi ho hb hoff hpre
    exact hstep i o a w hi ho hb (fun t ht => hoff.eval (hout t ht)) hpre
  case last =>
    intro o a w ho hb hoff hpre
    refine hlast o a w ho hb hoff.2.1 (frame_of ds hoff.1 (fun t ht => hoff.2.2 t (hout t ht))) (fun t ht => hoff.eval (hout t ht)) hpre
end Go.Proofs.YtlnmioijgclndaaDoor
