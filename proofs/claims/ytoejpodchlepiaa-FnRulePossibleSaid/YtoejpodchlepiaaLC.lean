import Derived.Test.YtoejpodchlepiaaLR
import Derived.Deep.DeepCutAuto
set_option maxRecDepth 8000
namespace Go.Proofs.Ytoejpodchlepiaa
open Go.ChangeShapes Go.WideShapes Go.ChangeAt Go.RowKit

theorem results_c2 {P : Program} {fn : Func} {p q r : Tmp} {ty : TypeId} (h : fn.results = #[.cell p ty, .tmp q, .tmp r]) (tmps : Array Value) (w : World) (g : Nat) (t : TypeId) (cs : Array Value) (fr : Nat × Nat) (d : TypeDesc) (b c : Value)
    (hp : tmps.getD p undef = .pointer (some ⟨g, 0, none⟩)) (hq : tmps.getD q undef = b) (hr : tmps.getD r undef = c) (hg : w.heap[g]? = some (.cells cs t fr))
    (hu : P.underlying ty = some d) (hd : (match d with | .struct _ | .array _ _ => true | _ => false) = true) (hi : (P.info? ty).map (·.size) = some cs.size) :
    (results fn tmps).run P w = .ok (.tuple #[.agg cs, b, c]) w := by
  have hp' : tmps[p]?.getD undef = .pointer (some ⟨g, 0, none⟩) := by simpa using hp
  have hq' : tmps[q]?.getD undef = b := by simpa using hq
  have hr' : tmps[r]?.getD undef = c := by simpa using hr
  simp [results, h, hp', hq', hr', asAddr, run_loadVar_row w g t ty cs fr d hg hu hd hi]
theorem solved_gv {s : Int} {n : Nat} {g : List Int} (h2 : 2 ≤ s) (h4 : s ≤ 4) (hn : (n : Int) = s * s) (hm : g ∈ sols s n (zeros n) 0) : gv g s = true :=
  okAll_gv (by have := sols_length s _ _ _ _ hm; rw [zeros_length] at this; exact this) hn h2 h4 (sols_ok (by omega : 0 ≤ s) n _ _ _ (okAll_zeros (by omega) n) _ hm)
/-- a drawn rule in block X, and a drawn grid: each in memory of its own. -/
def CaseRel (w0 : World) (B G P X : Nat) (k : Int) (A : Option Addr) (n c : Nat) (v : Int) (xs : List Int) (gv : Value) (wx : World) : Prop :=
  wx.heap[X]? = some (.cells #[.int .i64 k, .slice A n c, .int .i64 v] 25) ∧ Ow wx w0.heap.size A n c xs ∧ (∀ b, (Value.slice A n c).ownBlock = some b → b ≠ X) ∧
    (∃ (gb ng cg : Nat) (g : List Int), gv = .slice (some ⟨gb, 0, none⟩) ng cg ∧ Ow wx w0.heap.size (some ⟨gb, 0, none⟩) ng cg g ∧ 4 ≤ ng ∧ ng ≤ 16 ∧ gb ≠ X ∧ ∀ b, (Value.slice A n c).ownBlock = some b → b ≠ gb) ∧ Rdr wx B G P ∧ w0.grownBy wx (some G)
theorem case_set {w0 wx : World} {B G P X : Nat} {k : Int} {A : Option Addr} {n c : Nat} {v : Int} {xs g : List Int} {gb ng cg : Nat} (hG : G < w0.heap.size) (hB : B ≤ w0.heap.size) (hrow : wx.heap[X]? = some (.cells #[.int .i64 k, .slice A n c, .int .i64 v] 25)) (ho : Ow wx w0.heap.size A n c xs) (hne : ∀ b, (Value.slice A n c).ownBlock = some b → b ≠ X)
    (hog : Ow wx w0.heap.size (some ⟨gb, 0, none⟩) ng cg g) (h4 : 4 ≤ ng) (h16 : ng ≤ 16) (hgX : gb ≠ X) (hgA : ∀ b, (Value.slice A n c).ownBlock = some b → b ≠ gb) (hr : Rdr wx B G P) (hg : w0.grownBy wx (some G)) (j : Nat) (z : Int) :
    CaseRel w0 B G P X k A n c v xs (.slice (some ⟨gb, 0, none⟩) ng cg) (wx.setCell ⟨gb, j, none⟩ (.int .i64 z)) := by
  have hlo := hog.own_lo gb rfl
  have hb : Below w0.heap.size wx (wx.setCell ⟨gb, j, none⟩ (.int .i64 z)) := (Below.refl _ _).setCell hlo _
  exact ⟨(heap_setCell_other wx ⟨gb, j, none⟩ X _ (fun e => hgX e.symm)).trans hrow, ho.far (row := some gb) grown_set (fun b hb' e => hgA b hb' (by injection e with e; omega)), hne,
    ⟨gb, ng, cg, _, rfl, hog.put j z, h4, h16, hgX, hgA⟩, hr.belowN hb hG hB, grown_low hg hb⟩
theorem CaseRel.keep {w0 wx wy : World} {B G P P' X : Nat} {k : Int} {A : Option Addr} {n c : Nat} {v : Int} {xs : List Int} {gv : Value} (h : CaseRel w0 B G P X k A n c v xs gv wx) (hG : G < w0.heap.size) (hX : w0.heap.size ≤ X) (hg : wx.grownBy wy (some G)) (hr : Rdr wy B G P') : CaseRel w0 B G P' X k A n c v xs gv wy := by
  obtain ⟨h1, h2, h3, ⟨gb, ng, cg, g, h4, h5, h6, h7, h8, h9⟩, h10, h11⟩ := h
  have hXl : X < wx.heap.size := (Array.getElem?_eq_some_iff.1 h1).1
  exact ⟨(hg.block X hXl (fun e => by injection e with e; omega)).trans h1, h2.keptG hg hG, h3, ⟨gb, ng, cg, g, h4, h5.keptG hg hG, h6, h7, h8, h9⟩, hr, h11.trans hg⟩
theorem CaseRel.alloc {w0 wx : World} {B G P X : Nat} {k : Int} {A : Option Addr} {n c : Nat} {v : Int} {xs : List Int} {gv : Value} (h : CaseRel w0 B G P X k A n c v xs gv wx) (hG : G < w0.heap.size) (hB : B ≤ w0.heap.size) (hX : w0.heap.size ≤ X) (o : Obj) : CaseRel w0 B G P X k A n c v xs gv (wx.alloc o) :=
  h.keep hG hX (only_alloc (World.grownBy.refl _ _) o) (h.2.2.2.2.1.alloc (Nat.le_trans hB h.2.2.2.2.2.size) o)
def DrewCase (w : World) (B G P : Nat) (e : Ending) (w' : World) : Prop :=
  ∃ (k : Int) (A : Option Addr) (n c : Nat) (v : Int) (xs : List Int) (Ag : Option Addr) (ng cg : Nat) (g : List Int) (s : Int), e = .returned (.tuple #[.agg #[.int .i64 k, .slice A n c, .int .i64 v], .slice Ag ng cg, .int .i64 s]) ∧ Ow w' w.heap.size A n c xs ∧ n ≤ 5 ∧ Ow w' w.heap.size Ag ng cg g ∧ ng ≤ 16 ∧ 2 ≤ s ∧ s ≤ 4 ∧ Rdr w' B G P ∧ w.grownBy w' (some G)
set_option maxHeartbeats 8000000 in
theorem l20Case_any (B G P : Nat) (full : Bool) (w : World) (h : Rdr w B G P) (hBG : B ≤ G) (hP : P ≤ 100) :
    Calls Try.prog 71 #[.pointer (some ⟨G, 0, none⟩), .bool full] w (DrewCase w B G (P + 200)) := by
  have hG0 := h.lt
  have hBw : B ≤ w.heap.size := by omega
  have hr0 := h.alloc hBw (.cells #[.int .i64 0, .slice none 0 0, .int .i64 0] 25)
  have hg0 : w.grownBy (w.alloc (.cells #[.int .i64 0, .slice none 0 0, .int .i64 0] 25)) (some G) := only_alloc (World.grownBy.refl w _) _
  have Hone := Lib.hid rule_one
  have Hi := Lib.hid rule_info
  go_enter Try.func71, Try.ntmps71
  go_wp2_with fail
  obtain ⟨w0, hW⟩ : ∃ w0, w0 = w.alloc (.cells #[.int .i64 0, .slice none 0 0, .int .i64 0] 25) := ⟨_, rfl⟩
  rw [← hW] at hr0 hg0 ⊢
  have hb00 : Below w.heap.size w w0 := by rw [hW]; exact (Below.refl _ _).alloc (Nat.le_refl _) _
  have hR0 : w0.heap[w.heap.size]? = some (.cells #[.int .i64 0, .slice none 0 0, .int .i64 0] 25) := by rw [hW]; exact heap_alloc_new w _
  have hRw : w.heap.size < w0.heap.size := by rw [hW]; simp
  have hRG : w.heap.size ≠ G := by omega
  have hGw := hG0
  have hBw' := hBw
  have hBw := Nat.le_trans hBw hb00.size
  have hG0 := Nat.lt_trans hG0 hRw
  clear hW
  obtain ⟨R0, hR⟩ : ∃ R0, R0 = w.heap.size := ⟨_, rfl⟩
  rw [← hR] at hR0 hRw hRG hGw hBw' ⊢
  have HR := Lib.hid hR
  clear hR
  refine (l20Size_any B G P _ _ hr0 hBG (by omega) (by omega)).mono ?_
  rintro e w1 ⟨s, rfl, ⟨_, _, hs⟩, hr1, hg1⟩
  obtain ⟨h2s, h4s⟩ := hs (Int.le_refl _)
  clear hs
  go_wp2_with fail
  refine (l20Solved_any B G (P + 2) _ _ hr1 hBG (by omega) h2s h4s).mono ?_
  rintro e w2 ⟨Ag, ng, cg, g, rfl, hog, hnn, hmem, hr2, hg2⟩
  obtain ⟨q4, q16⟩ := sq_bd h2s h4s
  have hg4 : 4 ≤ ng := by omega
  have hg16 : ng ≤ 16 := by omega
  have hgv : gv g s = true := solved_gv h2s h4s hnn hmem
  obtain ⟨gb, hAg, hgb, hgbw⟩ := hog.form (by omega)
  subst hAg
  have hg02 := hg1.trans hg2
  have hlo1 := hg1.size
  go_wp2_with fail
  refine (l20Rule_any B G (P + 4) _ _ _ _ _ _ 12 _ hr2 hBG (by omega) hog.rd (Nat.le_refl _) (fun b off e => by cases e; omega) hgv (by omega)).mono ?_
  rintro e w3 ⟨k, A, n, c, v, xs, rfl, ho3, hn5, _, hr3, hg3⟩
  have hog3 := (hog.mono hlo1).keptG hg3 hG0
  have hg03 := hg02.trans hg3
  have hlo2 := hg02.size
  have hneX : ∀ b, (Value.slice A n c).ownBlock = some b → b ≠ w3.heap.size := fun b hb => Nat.ne_of_lt (ho3.own_hi b hb)
  have hneg : ∀ b, (Value.slice A n c).ownBlock = some b → b ≠ gb := fun b hb => by have := ho3.own_lo b hb; omega
  have hX0 : w0.heap.size ≤ w3.heap.size := hg03.size
  have hgbX : gb ≠ w3.heap.size := by have := hg3.size; omega
  have hbA : Below w3.heap.size w3 (w3.alloc (.cells #[.int .i64 k, .slice A n c, .int .i64 v] 25)) := (Below.refl _ _).alloc (Nat.le_refl _) _
  have hC3 : CaseRel w0 B G (P + 4 + 100) w3.heap.size k A n c v xs (.slice (some ⟨gb, 0, none⟩) ng cg) (w3.alloc (.cells #[.int .i64 k, .slice A n c, .int .i64 v] 25)) :=
    ⟨heap_alloc_new w3 _, (ho3.below hbA).mono hlo2, hneX, ⟨gb, ng, cg, g, rfl, hog3.below hbA, hg4, hg16, hgbX, hneg⟩, hr3.alloc (by omega) _, only_alloc hg03 _⟩
  obtain ⟨X, hX⟩ : ∃ X, X = w3.heap.size := ⟨_, rfl⟩
  rw [← hX] at hC3 hX0
  go_wp2_with fail
  rw [← hX]
  refine (pick_any B G (P + 4 + 100) 2 _ hC3.2.2.2.2.1 hBG (by omega)).mono ?_
  rintro e w4 ⟨v4, rfl, ⟨_, _, _⟩, hr4, hg4'⟩
  have hC4 := hC3.keep hG0 hX0 hg4' hr4
  clear hC3 hX hneX hneg hbA ho3 hog3 hg03 hgbX
  go_upto_if 22 with fail
  go_cut [8] from 11 (fun gv wx => CaseRel w0 B G (P + 107) X k A n c v xs gv wx)
  case first =>
    have hk5 : Rdr w4 B G (P + 107) := hC4.2.2.2.2.1.more (by omega)
    cases hv4 : (v4 == 0)
    · go_wp2
      go_meet
      case rel => exact hC4.keep hG0 hX0 (World.grownBy.refl _ _) hk5
    · go_wp2_with fail
      refine (l20Solved_any B G (P + 4 + 100 + 1) _ _ hr4 hBG (by omega) h2s h4s).mono ?_
      rintro e w5 ⟨Ag5, ng5, cg5, g5, rfl, hog5, hnn5, _, hr5, hg5⟩
      obtain ⟨gb5, hAg5, hgb5, hgbw5⟩ := hog5.form (by omega)
      subst hAg5
      have hC5 := hC4.keep hG0 hX0 hg5 (hr5.more (show P + 4 + 100 + 1 + 2 ≤ P + 107 by omega))
      have hXl : X < w4.heap.size := (Array.getElem?_eq_some_iff.1 hC4.1).1
      have hhi := hC4.2.1.own_hi
      go_wp2
      go_meet
      case rel => exact ⟨hC5.1, hC5.2.1, hC5.2.2.1, ⟨gb5, ng5, cg5, g5, rfl, hog5.mono hC4.2.2.2.2.2.size, by omega, by omega, by omega, fun b hb => by have := hhi b hb; omega⟩, hC5.2.2.2.2⟩
  case rest =>
    obtain ⟨gb6, ng6, cg6, g6, hge, _, _, hng6, _⟩ := hcut.2.2.2.1
    subst hge
    have hC6 := hcut
    clear hcut
    go_wp2
    go_loopg [10] ng6 (fun gk iv wx => ∃ q : Nat, q ≤ ng6 ∧ gk = ng6 - q ∧ iv = .int .i64 q ∧ CaseRel w0 B G (P + 107 + q) X k A n c v xs (.slice (some ⟨gb6, 0, none⟩) ng6 cg6) wx)
    case atStart => exact ⟨0, Nat.zero_le _, rfl, rfl, hC6⟩
    case round =>
      obtain ⟨q, hq, hgk, rfl, hC⟩ := hrel
      go_upto_region 7 with fail
      go_cut [33] from 26 to 41 (fun bv wx => ∃ bb : Bool, bv = .bool bb ∧ (bb = true → q < ng6) ∧ wr = wx)
      case first =>
        by_cases hlt : q < ng6
        · have hltI : (q : Int) < (ng6 : Int) := by omega
          go_wp2
          go_meet
          case rel => exact ⟨_, rfl, fun _ => hlt, rfl⟩
        · go_wp2
          go_meet
          case rel => exact ⟨false, rfl, fun h => (by cases h), rfl⟩
      case rest =>
        obtain ⟨bb, rfl, hbb, rfl⟩ := hcut
        cases bb
        · clear hbb
          go_wp2_with fail
          refine (odd_any B G (P + 107 + q) 12 _ hC.2.2.2.2.1 hBG (by omega) (by omega)).mono ?_
          rintro e w8 ⟨ob, rfl, _, hr8, hg8⟩
          have hC8 := hC.keep hG0 hX0 hg8 hr8
          go_upto_if 43 with fail
          go_cut [] from 11 (fun wx => CaseRel w0 B G (P + 140) X k A n c v xs (.slice (some ⟨gb6, 0, none⟩) ng6 cg6) wx)
          case first =>
            cases ob
            · go_wp2
              go_meet
              case rel => exact hC8.keep hG0 hX0 (World.grownBy.refl _ _) (hr8.more (by omega))
            · have es : wrap64 (s + 1) = s + 1 := IntWalk.wrap64_in _ ⟨by omega, by omega⟩
              have hB8 : B ≤ w8.heap.size := Nat.le_trans hBw hC8.2.2.2.2.2.size
              have hG8 := hr8.lt
              go_wp2_with fail
              refine (pick_any B G (P + 107 + q + 1) 3 _ (hr8.alloc hB8 _) hBG (by omega)).mono ?_
              rintro e w9 ⟨v9, rfl, ⟨f0, f1, _⟩, hr9, hg9⟩
              have hC9 := (hC8.keep hG0 hX0 (grown_of_alloc hg9) (hr9.more (show P + 107 + q + 1 + 1 ≤ P + 140 by omega)))
              have Hcl := Lib.hid (fun i => lit_cell hg9 hG8 i)
              have hv9 : v9 = 0 ∨ v9 = 1 ∨ v9 = 2 := by have := f1 (by omega); omega
              clear f1
              obtain ⟨k1, k2, k3, ⟨gb7, ng7, cg7, g7, hge, k5, k6, k7, k8, k9⟩, k10, k11⟩ := hC9
              cases hge
              have hgc := ow_cell k5 (show 0 < ng6 by omega)
              have hgf := World.ownsRow.frozenAt k5 0
              have hl0 : 0 < ng6 := by omega
              have hl0I : (0 : Int) < (ng6 : Int) := by omega
              rcases hv9 with rfl | rfl | rfl
              · have hc := Hcl.out 0
                simp at hc
                go_wp2
                go_meet
                case rel => exact case_set hG0 hBw k1 k2 k3 k5 k6 k7 k8 k9 k10 k11 0 _
              · have hc := Hcl.out 1
                simp at hc
                go_wp2
                go_meet
                case rel => exact case_set hG0 hBw k1 k2 k3 k5 k6 k7 k8 k9 k10 k11 0 _
              · have hc := Hcl.out 2
                simp at hc
                go_wp2
                go_meet
                case rel => exact case_set hG0 hBw k1 k2 k3 k5 k6 k7 k8 k9 k10 k11 0 _
          case rest =>
            obtain ⟨k1, k2, k3, ⟨gb7, ng7, cg7, g7, hge, k5, k6, k7, k8, k9⟩, k10, k11⟩ := hcut
            cases hge
            have hR9 := (k11.block R0 hRw (fun e => hRG (Option.some.inj e))).trans hR0
            go_wp2_with (first | (refine wpList_load_row rfl 25 _ rfl X rfl 25 #[.int .i64 k, .slice A n c, .int .i64 v] (0, 0) _ k1 Try.underlying25 rfl (Hi.out _ _ _ _ _) ?_) | (refine wpList_store_row rfl 25 _ _ rfl R0 #[.int .i64 k, .slice A n c, .int .i64 v] rfl rfl 25 #[.int .i64 0, .slice none 0 0, .int .i64 0] hR9 (Hi.out _ _ _ _ _) rfl (Hone.out _ _ _ _ _) ?_))
            refine bodyPost_ret (v := .tuple #[.agg #[.int .i64 k, .slice A n c, .int .i64 v], .slice (some ⟨gb6, 0, none⟩) ng6 cg6, .int .i64 s]) (results_c2 (by rfl) _ _ R0 25 _ (0, 0) _ _ _ rfl rfl rfl (setRow_heap _ _ _ _ _ _ hR9) Try.underlying25 rfl (Hi.out _ _ _ _ _)) rfl ⟨k, A, n, c, v, xs, _, ng6, cg6, g7, s, rfl, (k2.row5 (fun b hb => ?_)).mono hb00.size, hn5, (k5.row5 (fun b hb => ?_)).mono hb00.size, k7, h2s, h4s, (k10.belowN (setRow_below5 (Below.refl R0 _) (Nat.le_refl _)) hGw hBw').more (by omega), grown_low (hg0.trans k11) (setRow_below5 (Below.refl _ _) (Nat.le_of_eq HR.out.symm))⟩
            · have := k2.own_lo b hb
              omega
            · have := k5.own_lo b hb
              omega
        · have hlt := hbb rfl
          have hltI : (q : Int) < (ng6 : Int) := by omega
          go_wp2_with fail
          refine (pick_any B G (P + 107 + q) 3 _ hC.2.2.2.2.1 hBG (by omega)).mono ?_
          rintro e w8 ⟨v8, rfl, _, hr8, hg8⟩
          have hC8 := hC.keep hG0 hX0 hg8 hr8
          cases hv8 : (v8 == 0)
          · go_wp2
            go_roundg (ng6 - (q + 1))
            case measure => omega
            case rel => exact ⟨q + 1, by omega, rfl, by go_num, hC8⟩
          · obtain ⟨k1, k2, k3, ⟨gb7, ng7, cg7, g7, hge, k5, k6, k7, k8, k9⟩, k10, k11⟩ := hC8
            cases hge
            have hgc := ow_cell k5 hlt
            have hgf := World.ownsRow.frozenAt k5 q
            go_wp2
            go_roundg (ng6 - (q + 1))
            case measure => omega
            case rel => exact ⟨q + 1, by omega, rfl, by go_num, case_set hG0 hBw k1 k2 k3 k5 k6 k7 k8 k9 k10 k11 q 0⟩
end Go.Proofs.Ytoejpodchlepiaa
