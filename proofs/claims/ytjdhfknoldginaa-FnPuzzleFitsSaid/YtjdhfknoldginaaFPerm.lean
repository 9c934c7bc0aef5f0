import Derived.Test.YtjdhfknoldginaaFPuzB
import Derived.Test.YtjdhfknoldginaaFSF
import Derived.Deep.CutRange
import Derived.Deep.CutBlock
import Derived.Deep.RegionWith
import Derived.Test.YtjdhfknoldginaaSq
import Derived.Test.YtjdhfknoldginaaC1L
import Derived.Deep.RegionHeld3
import Derived.Test.YtjdhfknoldginaaFNa
set_option maxRecDepth 8000
namespace Go.Proofs.Ytjdhfknoldginaa
open Go.ChangeShapes Go.WideShapes Go.ChangeAt Go.RowKit
/-- what a draw of a puzzle and a grid hands back. -/
def DrewTry (w : World) (B G P : Nat) (e : Ending) (w' : World) : Prop := ∃ s A1 n c1 gi A2 nr c2 rs A k c m, e = .returned (.tuple #[.agg #[.int .i64 s, .slice A1 n c1, .slice A2 nr c2], .slice A k c]) ∧ 2 ≤ s ∧ s ≤ 4 ∧ Rd w' w'.heap.size A1 n gi ∧ n ≤ 16 ∧ (∀ b off, A1 = some ⟨b, off, none⟩ → w.heap.size ≤ b) ∧ OwR w' w.heap.size (.slice A2 nr c2) rs nr ∧ rs.length = nr ∧ nr ≤ 100 ∧ Ow w' w.heap.size A k c m ∧ k ≤ 16 ∧ Rdr w' B G P ∧ w.grownBy w' (some G)
/-- the grid, in its own block, between the parts. -/
def TSt (W : World) (B G P : Nat) (A : Option Addr) (k c : Nat) (m : List Int) (wr : World) : Prop := Ow wr W.heap.size A k c m ∧ k ≤ 16 ∧ Rdr wr B G P ∧ W.grownBy wr (some G)
/-- what the values of the bent cell's region are. -/
def TyG (G g n c bx : Nat) (s : Int) : Nat → Value → World → Prop
  | 0, v, _ => v = .slice (some ⟨g, 0, none⟩) n c
  | 1, v, _ => v = .pointer (some ⟨G, 0, none⟩)
  | 2, v, _ => v = .slice (some ⟨g, 0, none⟩) n c
  | 3, v, _ => v = .int .i64 (n : Int)
  | 4, v, _ => ∃ x : Int, v = .int .i64 x ∧ 0 ≤ x ∧ x < (n : Int)
  | 5, v, _ => v = .pointer (some ⟨G, 0, none⟩)
  | 6, v, _ => v = .pointer (some ⟨bx, 0, none⟩)
  | 7, v, _ => v = .int .i64 s
  | 8, v, _ => v = .int .i64 s
  | 9, v, _ => v = .int .i64 (s + 1)
  | 10, v, _ => ∃ x : Int, v = .int .i64 x ∧ 0 ≤ x ∧ x < s + 1
  | 11, v, _ => ∃ j : Nat, v = .pointer (some ⟨g, j, none⟩) ∧ j < n
  | _, _, _ => True
theorem tyG_eff {G g n c bx : Nat} {s : Int} (j : Nat) (v : Value) (w w' : World) (hg : TyG G g n c bx s j v w) : TyG G g n c bx s j v w' := by
  match j, hg with
  | 0, hg => exact hg
  | 1, hg => exact hg
  | 2, hg => exact hg
  | 3, hg => exact hg
  | 4, hg => exact hg
  | 5, hg => exact hg
  | 6, hg => exact hg
  | 7, hg => exact hg
  | 8, hg => exact hg
  | 9, hg => exact hg
  | 10, hg => exact hg
  | 11, hg => exact hg
  | _ + 12, hg => exact hg
set_option maxHeartbeats 8000000 in
theorem l20Try_any (B G P : Nat) (w : World) (h : Rdr w B G P) (hBG : B ≤ G) (hP : P ≤ 40) :
    Calls Try.prog 17 #[.pointer (some ⟨G, 0, none⟩), .int .i64 12] w (DrewTry w B G (P + 900)) := by
  have Hone := Lib.hid puz_one
  have Hi := Lib.hid puz_info
  have hGw0 := h.lt
  have hBw0 : B ≤ w.heap.size := by omega
  have h1 := h.alloc hBw0 (.cells #[.int .i64 0, .slice none 0 0, .slice none 0 0] 26)
  obtain ⟨w0, hW⟩ : ∃ w0, w0 = w.alloc (.cells #[.int .i64 0, .slice none 0 0, .slice none 0 0] 26) := ⟨_, rfl⟩
  rw [← hW] at h1
  have hs0 : w0.heap.size = w.heap.size + 1 := by rw [hW]; simp
  have hb00 : Below w.heap.size w w0 := by rw [hW]; exact (Below.refl _ _).alloc (Nat.le_refl _) _
  have hR0 : w0.heap[w.heap.size]? = some (.cells #[.int .i64 0, .slice none 0 0, .slice none 0 0] 26) := by rw [hW]; exact heap_alloc_new w _
  have HW := Lib.hid hW
  clear hW
  go_enter Try.func17, Try.ntmps17
  go_wp2_with fail
  rw [← HW.out]
  refine (l20Puzzle_any B G P 12 w0 h1 hBG (by omega) (by omega)).mono ?_
  rintro e w5 ⟨s5, A1, n1, c1, gi, A2, nr, c2, rs, rfl, t2, t4, hrd, hn16, hlo1, hR, hl, hnr, hr5, hg5, _⟩
  have hG5 : G < w5.heap.size := hr5.lt
  have h05 := hg5.size
  have hx0 := pbox_new w5 s5 A1 n1 c1 A2 nr c2 26
  have hbA : Below w5.heap.size w5 (w5.alloc (.cells #[.int .i64 s5, .slice A1 n1 c1, .slice A2 nr c2] 26)) := (Below.refl _ _).alloc (Nat.le_refl _) _
  have hsA : (w5.alloc (.cells #[.int .i64 s5, .slice A1 n1 c1, .slice A2 nr c2] 26)).heap.size = w5.heap.size + 1 := by simp
  have hrA := hr5.alloc (show B ≤ w5.heap.size by omega) (.cells #[.int .i64 s5, .slice A1 n1 c1, .slice A2 nr c2] 26)
  have hgA : w0.grownBy (w5.alloc (.cells #[.int .i64 s5, .slice A1 n1 c1, .slice A2 nr c2] 26)) (some G) := only_alloc hg5 _
  obtain ⟨W, hW⟩ : ∃ W, w5.alloc (.cells #[.int .i64 s5, .slice A1 n1 c1, .slice A2 nr c2] 26) = W := ⟨_, rfl⟩
  rw [hW] at hx0 hsA hrA hgA
  have hneG : ∀ b off, A1 = some ⟨b, off, none⟩ → G < b := fun b off e => by have := hlo1 b off e; omega
  have hRA : OwR W w0.heap.size (.slice A2 nr c2) rs nr := by rw [← hW]; exact hR.below hbA
  have hrdW : Rd W w5.heap.size A1 n1 gi := by rw [← hW]; exact hrd.below (hbA.mono (Nat.le_refl _))
  have hGW : G < W.heap.size := by omega
  have HPB := Lib.hid (fun wr (hg : W.grownBy wr (some G)) => (⟨(hg.cell_far ⟨w5.heap.size, 0, none⟩ (by show w5.heap.size < _; omega) (fun e2 => by have e3 : w5.heap.size = G := Option.some.inj e2; omega)).trans hx0.1, (hg.cell_far ⟨w5.heap.size, 1, none⟩ (by show w5.heap.size < _; omega) (fun e2 => by have e3 : w5.heap.size = G := Option.some.inj e2; omega)).trans hx0.2.1, (hg.cell_far ⟨w5.heap.size, 2, none⟩ (by show w5.heap.size < _; omega) (fun e2 => by have e3 : w5.heap.size = G := Option.some.inj e2; omega)).trans hx0.2.2⟩ : PBox wr w5.heap.size s5 A1 n1 c1 A2 nr c2))
  have HRd := Lib.hid (fun wr (hg : W.grownBy wr (some G)) => rd_keepV hrdW (by omega) hg hneG)
  have HSF := Lib.hid (fun wr (hg : W.grownBy wr (some G)) => specSolveFirst s5 A1 n1 c1 wr.heap.size gi A2 nr c2 wr.heap.size rs wr ⟨(rd_keepV hrdW (by omega) hg hneG).more (by have := hg.size; omega), Nat.le_refl _, by omega, (hRA.keptL hg (by omega)).rd hl, Nat.le_refl _, by omega⟩)
  have HR0 := Lib.hid ((hgA.block w.heap.size (by omega) (fun e => by have := Option.some.inj e; omega)).trans hR0)
  have HW2 := Lib.hid hW
  have HFin := Lib.hid (And.intro hrdW (And.intro hRA (And.intro hgA (And.intro hb00 (And.intro hlo1 hneG)))))
  have hgA2 : W.grownBy (W.alloc (.cells #[] 3)) (some G) := only_alloc (World.grownBy.refl _ _) _
  obtain ⟨z0, z1, z2⟩ := HPB.out _ hgA2
  have hrm := HRd.out _ hgA2
  have hmade : Ow (W.alloc (.cells #[] 3)) W.heap.size (some ⟨W.heap.size, 0, none⟩) 0 0 [] := Ow.made0 _ _ (Nat.le_refl _)
  have hbm : Below W.heap.size W (W.alloc (.cells #[] 3)) := (Below.refl _ _).alloc (Nat.le_refl _) _
  have hlen := hrd.1
  have hsW : w5.heap.size < W.heap.size := by omega
  clear hsA hs0
  have hs0 : w.heap.size < w0.heap.size := (Array.getElem?_eq_some_iff.1 hR0).1
  clear hW hx0 hbA h hg5 hR hrd h1 hR0 hb00 hRA hrdW hgA hlo1 hneG hgA2
  go_upto_region 2 with fail
  rw [HW2.out]
  go_upto_region 3 with (at_builtin; refine push_new rfl (.tmp 14) (.tmp 16) rfl W.heap.size (some ⟨W.heap.size, 0, none⟩) A1 n1 c1 w5.heap.size gi rfl rfl hmade hrm (by omega) (by simp) ?_; intro A6 c6 w6 ho6 hg6; have hb6 : Below W.heap.size W w6 := hbm.grown hg6 (by simp) (fun k hk => hmade.own_lo k hk))
  have hst0 : TSt W B G (P + 800) A6 n1 c6 gi w6 := ⟨ho6, hn16, hrA.below hb6 (by omega), grown_of_below hb6⟩
  clear ho6 hg6 hb6 hmade hbm hrm z0 z1 z2 hrA
  obtain ⟨z0, z1, z2⟩ := HPB.out _ hst0.2.2.2
  have hsfw := Lib.hid (HSF.out w6 hst0.2.2.2)
  obtain ⟨bb, hbb⟩ : ∃ bb, sfB s5 n1 gi rs = bb := ⟨_, rfl⟩
  obtain ⟨L, hL⟩ : ∃ L, sfL s5 n1 gi rs = L := ⟨_, rfl⟩
  rw [hbb, hL] at hsfw
  clear hbb hL
  go_upto_region 4 with (go_at_call 26; refine hsfw.out.mono ?_; rintro e w7 ⟨A7, m7, c7, rfl, hm7, ho7, hb7⟩)
  have hst7 : W.grownBy w7 (some G) := grown_low hst0.2.2.2 (hb7.mono hst0.2.2.2.size)
  have hst1 : TSt W B G (P + 800) A6 n1 c6 gi w7 := ⟨hst0.1.below hb7, hn16, hst0.2.2.1.below hb7 (by have := hst0.2.2.2.size; omega), hst7⟩
  have hst2 : bb = true → TSt W B G (P + 800) A7 n1 c7 L w7 := fun e => ⟨by rw [← hm7 e]; exact ho7.mono hst0.2.2.2.size, hn16, hst1.2.2.1, hst7⟩
  clear hsfw z0 z1 z2 ho7 hb7 hst0 hst7
  go_cut [28] from 11 (fun bv wx => ∃ b2 : Bool, bv = .bool b2 ∧ (b2 = true → m7 = n1) ∧ TSt W B G (P + 801) A6 n1 c6 gi wx ∧ (b2 = true → TSt W B G (P + 801) A7 n1 c7 L wx))
  case first =>
    cases bb
    · go_wp2
      go_meet
      case rel => exact ⟨false, rfl, fun h => (by cases h), ⟨hst1.1, hn16, hst1.2.2.1.more (by omega), hst1.2.2.2⟩, fun h => (by cases h)⟩
    · have Hm := Lib.hid (hm7 rfl)
      have ho7 := (hst2 rfl).1
      clear hm7 hst2
      obtain ⟨ho, hk, hr, hg⟩ := hst1
      go_wp2_with fail
      refine (pick_any B G (P + 800) 4 _ hr hBG (by omega)).mono ?_
      rintro e w8 ⟨v, rfl, ⟨v0, v1, _⟩, hr8, hg8⟩
      have hv1 := v1 (by omega)
      have t1 : TSt W B G (P + 801) A6 n1 c6 gi w8 := ⟨ho.keptG hg8 hGW, hk, hr8.more (by omega), hg.trans hg8⟩
      have t2' : TSt W B G (P + 801) A7 n1 c7 L w8 := ⟨ho7.keptG hg8 hGW, hk, hr8.more (by omega), hg.trans hg8⟩
      clear v1 ho7 ho hr hg hr8 hg8
      by_cases hv : (0 : Int) < v
      · go_wp2
        go_meet
        case rel => exact ⟨true, by simp, fun _ => Hm.out, t1, fun _ => t2'⟩
      · go_wp2
        go_meet
        case rel => exact ⟨false, by simp [hv], fun h => (by cases h), t1, fun h => (by cases h)⟩
  case rest =>
  obtain ⟨b2, rfl, hm, hst3, hst4⟩ := hcut
  clear hst1 hst2 hm7
  go_upto_if 28 with fail
  go_cut [7, 10] from 11 (fun gv iv wx => ∃ A k c m, gv = .slice A k c ∧ TSt W B G (P + 820) A k c m wx)
  case first =>
    cases b2
    · go_wp2
      go_meet
      case rel => exact ⟨_, _, _, _, rfl, hst3.1, hst3.2.1, hst3.2.2.1.more (by omega), hst3.2.2.2⟩
    · obtain rfl := hm rfl
      have hst := hst4 rfl
      clear hst3 hst4 hm
      go_wp2
      go_loopw [10] (fun iv wr => ∃ (u : Nat) (m : List Int), u ≤ m7 ∧ iv = .int .i64 u ∧ TSt W B G (P + 801 + u) A7 m7 c7 m wr) (fun iv _ => m7 - (intOf iv).toNat)
      case atStart => exact ⟨0, _, Nat.zero_le _, rfl, hst⟩
      case round =>
        obtain ⟨u, m, hu, rfl, ho, hk, hr, hg⟩ := hrel
        by_cases hlt : u < m7
        · have hltI : (u : Int) < m7 := by omega
          obtain ⟨q0, q1, q2⟩ := HPB.out _ hg
          obtain ⟨b, off, hA, hbB, hck⟩ := (HRd.out _ hg).at_ hlt
          obtain ⟨g, hA7, hgl, hgw⟩ := ho.form (by omega)
          subst hA7
          subst hA
          obtain ⟨hc7, hf7⟩ := ho.cell hlt
          have hwr : IntKind.i64.wrap ((u : Int) + 1) = (u : Int) + 1 := IntWalk.i64_in _ (by omega)
          by_cases e0 : nth gi u = 0
          · have e0' : (nth gi u == 0) = true := by simp [e0]
            go_wp2_with fail
            refine (pick_any B G (P + 801 + u) 2 _ hr hBG (by omega)).mono ?_
            rintro e w8 ⟨v, rfl, ⟨v0, v1, _⟩, hr8, hg8⟩
            have hv : v = 0 ∨ v = 1 := by have := v1 (by omega); omega
            have ho8 := ho.keptG hg8 hGW
            have hg18 := hg.trans hg8
            obtain ⟨hc8, hf8⟩ := ho8.cell hlt
            have hop := ho8.putN u 0
            have hbp : Below W.heap.size w8 (w8.setCell ⟨g, u, none⟩ (.int .i64 0)) := Below.setCell (p := (⟨g, u, none⟩ : Addr)) (Below.refl _ _) hgl _
            have hr9 := (hr8.belowN hbp hGW (by omega)).more (show P + 801 + u + 1 ≤ P + 801 + (u + 1) by omega)
            have hg9 := grown_low hg18 hbp
            clear v1 v0 ho hr hg hg8 hc7 hf7 hbp
            rcases hv with rfl | rfl
            · go_wp2
              go_roundw
              case rel => exact ⟨u + 1, _, by omega, by go_num, hop, hk, hr9, hg9⟩
              case measure => simp [intOf]; omega
            · go_wp2
              go_roundw
              case rel => exact ⟨u + 1, _, by omega, by go_num, ho8, hk, hr8.more (by omega), hg18⟩
              case measure => simp [intOf]; omega
          · have e0' : (nth gi u == 0) = false := by simp [e0]
            go_wp2
            go_roundw
            case rel => exact ⟨u + 1, _, by omega, by go_num, ho, hk, hr.more (by omega), hg⟩
            case measure => simp [intOf]; omega
        · obtain rfl : u = m7 := by omega
          have hr' := hr.more (show P + 801 + u ≤ P + 820 by omega)
          go_wp2
          go_meet
          case rel => exact ⟨_, _, _, _, rfl, ho, hk, hr', hg⟩
  case rest =>
  obtain ⟨A, k, c, m, rfl, hst5⟩ := hcut
  clear hst3 hst4 hm
  go_upto_region 11 with fail
  go_cut [57] from 11 (fun bv wx => ∃ bb : Bool, bv = .bool bb ∧ (bb = true → 0 < k) ∧ TSt W B G (P + 821) A k c m wx)
  case first =>
    obtain ⟨ho, hk, hr, hg⟩ := hst5
    by_cases h0 : 0 < k
    · have h0I : (0 : Int) < (k : Int) := by omega
      go_wp2_with fail
      refine (pick_any B G (P + 820) 4 _ hr hBG (by omega)).mono ?_
      rintro e w8 ⟨v, rfl, _, hr8, hg8⟩
      have t1 : TSt W B G (P + 821) A k c m w8 := ⟨ho.keptG hg8 hGW, hk, hr8.more (by omega), hg.trans hg8⟩
      clear ho hr hg hr8 hg8
      go_wp2
      go_meet
      case rel => exact ⟨v == 0, by simp, fun _ => h0, t1⟩
    · obtain rfl : k = 0 := by omega
      go_wp2
      go_meet
      case rel => exact ⟨false, rfl, fun h => (by cases h), ho, hk, hr.more (by omega), hg⟩
  case rest =>
  obtain ⟨b3, rfl, hb3, hst6⟩ := hcut
  clear hst5
  go_upto_if 57 with fail
  go_cut [] from 11 (fun wx => ∃ m, TSt W B G (P + 830) A k c m wx)
  case first =>
    obtain ⟨ho, hk, hr, hg⟩ := hst6
    cases b3
    · go_wp2
      go_meet
      case rel => exact ⟨_, ho, hk, hr.more (by omega), hg⟩
    · have h0 := hb3 rfl
      obtain ⟨g, rfl, hgl, hgw⟩ := ho.form h0
      have h0I : (0 : Int) < (k : Int) := by omega
      have hs3 : s5 = 2 ∨ s5 = 3 ∨ s5 = 4 := by omega
      have Hs3 := Lib.hid hs3
      clear hs3 hb3
      go_wp2
      refine wp_region_dsS [58, 59, 60, 61, 62, 63, 64, 65, 66, 67, 68, 69] (TyG G g k c w5.heap.size s5) (StRel W B G (P + 830)) (fun _ w w' => w.grownBy w' (some G)) (fun j w' => (j = 4 → Rdr w' B G (P + 821)) ∧ (j = 10 → Rdr w' B G (P + 822))) ?C0 ?here (fun _ _ h h' => ⟨mkRel_trans h.1 h'.1, fun A n c xs x => h'.2 A n c xs (h.2 A n c xs x)⟩) (by kernel_rfl) (by kernel_rfl) (by simp) (fun j i v w w' _ _ he hg => tyG_eff j v w w' hg) ?step ?last
      case C0 => exact fun j => ⟨fun _ => hr, fun _ => hr.more (by omega)⟩
      case here => exact stRel_grown hGW (grown_drew (World.grownBy.refl _ _)) (fun h => h)
      case step =>
        intro i o a w' K D hD hcl hi hoo hrel hfr hpre hC hK
        have e0 : a.eval (.tmp 0) = .pointer (some ⟨G, 0, none⟩) := hfr 0 (by simp)
        have e6 : a.eval (.tmp 6) = .pointer (some ⟨w5.heap.size, 0, none⟩) := hfr 6 (by simp)
        have e7 : a.eval (.tmp 7) = .slice (some ⟨g, 0, none⟩) k c := hfr 7 (by simp)
        have hgW := hrel.1.2.1 hg
        obtain ⟨q0, _, _⟩ := HPB.out w' hgW
        have hkeep : ∀ (v : Value), TyG G g k c w5.heap.size s5 i v w' → K (a.put o.dst v) w' := fun v hv => hK v w' (stRel_grown hGW (World.grownBy.refl _ _) (fun h => h)) (World.grownBy.refl _ _) (fun j _ _ h => h) hv
        have hi12 : i < 12 := hi
        have : i = 0 ∨ i = 1 ∨ i = 2 ∨ i = 3 ∨ i = 4 ∨ i = 5 ∨ i = 6 ∨ i = 7 ∨ i = 8 ∨ i = 9 ∨ i = 10 ∨ i = 11 := by omega
        rcases this with rfl | rfl | rfl | rfl | rfl | rfl | rfl | rfl | rfl | rfl | rfl | rfl
        all_goals
          simp only [List.getElem?_toArray, List.getElem?_cons_zero, List.getElem?_cons_succ, Option.some.injEq] at hoo
          subst hoo
        · refine oper_val (v := .slice (some ⟨g, 0, none⟩) k c) (w' := w') ?_ (hkeep _ rfl)
          unfold execOp
          simp only [e7]
          go_simp
        · refine oper_val (v := .pointer (some ⟨G, 0, none⟩)) (w' := w') ?_ (hkeep _ rfl)
          unfold execOp
          simp only [e0]
          go_simp
        · refine oper_val (v := .slice (some ⟨g, 0, none⟩) k c) (w' := w') ?_ (hkeep _ rfl)
          unfold execOp
          simp only [e7]
          go_simp
        · have p2 : a.eval (.tmp 60) = .slice (some ⟨g, 0, none⟩) k c := hpre ⟨2, .data⟩ (by simp) rfl
          have p2' : a.tmps[60]?.getD undef = .slice (some ⟨g, 0, none⟩) k c := by simpa [Act.eval] using p2
          refine oper_val (v := .int .i64 (k : Int)) (w' := w') ?_ (hkeep _ rfl)
          unfold execOp
          go_simp
        · have p1 : a.eval (.tmp 59) = .pointer (some ⟨G, 0, none⟩) := hpre ⟨1, .data⟩ (by simp) rfl
          have p3 : a.eval (.tmp 61) = .int .i64 (k : Int) := hpre ⟨3, .data⟩ (by simp) rfl
          refine oper_call (f := 27) (args := #[.pointer (some ⟨G, 0, none⟩), .int .i64 (k : Int)]) ?_ (pick_any B G (P + 821) (k : Int) w' (hC.1 rfl) hBG (by omega)) ?_
          · unfold execOp
            go_simp
            exact ⟨by simpa [Act.eval] using p1, by simpa [Act.eval] using p3⟩
          · rintro e w8 ⟨v, rfl, ⟨v0, v1, _⟩, hr8, hg8⟩
            exact ⟨_, rfl, hK _ w8 (stRel_grown hGW hg8 (fun _ => hr8.more (by omega))) hg8 (fun j hj hd h => ⟨fun e => absurd e hj, fun _ => hr8⟩) ⟨v, rfl, v0, v1 (by omega)⟩⟩
        · refine oper_val (v := .pointer (some ⟨G, 0, none⟩)) (w' := w') ?_ (hkeep _ rfl)
          unfold execOp
          simp only [e0]
          go_simp
        · refine oper_val (v := .pointer (some ⟨w5.heap.size, 0, none⟩)) (w' := w') ?_ (hkeep _ rfl)
          unfold execOp
          simp only [e6]
          go_simp
        · have p6 : a.eval (.tmp 64) = .pointer (some ⟨w5.heap.size, 0, none⟩) := hpre ⟨6, .data⟩ (by simp) rfl
          refine oper_val (v := .int .i64 s5) (w' := w') ?_ (hkeep _ rfl)
          unfold execOp
          simp only [p6]
          go_simp
        · have p7 : a.eval (.tmp 65) = .int .i64 s5 := hpre ⟨7, .data⟩ (by simp) rfl
          have p7' : a.tmps[65]?.getD undef = .int .i64 s5 := by simpa [Act.eval] using p7
          refine oper_val (v := .int .i64 s5) (w' := w') ?_ (hkeep _ rfl)
          rcases Hs3.out with rfl | rfl | rfl
          all_goals
            unfold execOp
            go_simp
        · have p8 : a.eval (.tmp 66) = .int .i64 s5 := hpre ⟨8, .data⟩ (by simp) rfl
          refine oper_val (v := .int .i64 (s5 + 1)) (w' := w') ?_ (hkeep _ rfl)
          unfold execOp
          simp only [p8]
          go_simp
          exact IntWalk.i64_in _ (by omega)
        · have p5 : a.eval (.tmp 63) = .pointer (some ⟨G, 0, none⟩) := hpre ⟨5, .data⟩ (by simp) rfl
          have p9 : a.eval (.tmp 67) = .int .i64 (s5 + 1) := hpre ⟨9, .data⟩ (by simp) rfl
          have d4 : D 4 := hD ⟨4, .chain⟩ (by simp) rfl
          refine oper_call (f := 27) (args := #[.pointer (some ⟨G, 0, none⟩), .int .i64 (s5 + 1)]) ?_ (pick_any B G (P + 822) (s5 + 1) w' (hC.2 rfl) hBG (by omega)) ?_
          · unfold execOp
            go_simp
            exact ⟨by simpa [Act.eval] using p5, by simpa [Act.eval] using p9⟩
          · rintro e w8 ⟨v, rfl, ⟨v0, v1, _⟩, hr8, hg8⟩
            exact ⟨_, rfl, hK _ w8 (stRel_grown hGW hg8 (fun _ => hr8.more (by omega))) hg8 (fun j hj hd h => ⟨fun e => absurd (by rw [e]; exact d4) hd, fun e => absurd e hj⟩) ⟨v, rfl, v0, v1 (by omega)⟩⟩
        · have p0 : a.eval (.tmp 58) = .slice (some ⟨g, 0, none⟩) k c := hpre ⟨0, .data⟩ (by simp) rfl
          obtain ⟨v, p4, v0, v1⟩ : ∃ x : Int, a.eval (.tmp 62) = .int .i64 x ∧ 0 ≤ x ∧ x < (k : Int) := hpre ⟨4, .data⟩ (by simp) rfl
          obtain ⟨j, rfl⟩ := Int.eq_ofNat_of_zero_le v0
          have hkn : j < k := by omega
          refine oper_val (v := .pointer (some ⟨g, j, none⟩)) (w' := w') ?_ (hkeep _ ⟨j, rfl, hkn⟩)
          unfold execOp
          simp only [p0, p4]
          go_simp
      case last =>
        intro o a w8 hoo hrel hdef htm hfr hpre
        simp only [List.length_cons, List.length_nil, Nat.reduceAdd, List.getElem?_toArray, List.getElem?_cons_zero, List.getElem?_cons_succ, Option.some.injEq] at hoo
        subst hoo
        have g0 : a.tmps.getD 58 undef = .slice (some ⟨g, 0, none⟩) k c := hpre 0 (by simp)
        have g1 : a.tmps.getD 59 undef = .pointer (some ⟨G, 0, none⟩) := hpre 1 (by simp)
        have g2 : a.tmps.getD 60 undef = .slice (some ⟨g, 0, none⟩) k c := hpre 2 (by simp)
        have g3 : a.tmps.getD 61 undef = .int .i64 (k : Int) := hpre 3 (by simp)
        obtain ⟨x4, g4, _⟩ : ∃ x : Int, a.tmps.getD 62 undef = .int .i64 x ∧ _ := hpre 4 (by simp)
        have g5 : a.tmps.getD 63 undef = .pointer (some ⟨G, 0, none⟩) := hpre 5 (by simp)
        have g6 : a.tmps.getD 64 undef = .pointer (some ⟨w5.heap.size, 0, none⟩) := hpre 6 (by simp)
        have g7 : a.tmps.getD 65 undef = .int .i64 s5 := hpre 7 (by simp)
        have g8 : a.tmps.getD 66 undef = .int .i64 s5 := hpre 8 (by simp)
        have g9 : a.tmps.getD 67 undef = .int .i64 (s5 + 1) := hpre 9 (by simp)
        obtain ⟨x, g10, hx⟩ : ∃ x : Int, a.tmps.getD 68 undef = .int .i64 x ∧ _ := hpre 10 (by simp)
        obtain ⟨j, g11, hj⟩ : ∃ j : Nat, a.tmps.getD 69 undef = .pointer (some ⟨g, j, none⟩) ∧ j < k := hpre 11 (by simp)
        have h68 : a.eval (.tmp 68) = .int .i64 x := g10
        have h69 : a.eval (.tmp 69) = .pointer (some ⟨g, j, none⟩) := g11
        have ho8 := hrel.2 _ _ _ _ ho
        have hg8 := hrel.1.2.1 hg
        have hr8 := hrel.1.2.2 hg.size (hr.more (by omega))
        obtain ⟨hc8, hf8⟩ := ho8.cell hj
        have hop := ho8.putN j x
        have hbp : Below W.heap.size w8 (w8.setCell ⟨g, j, none⟩ (.int .i64 x)) := Below.setCell (p := (⟨g, j, none⟩ : Addr)) (Below.refl _ _) hgl _
        have hfin : TSt W B G (P + 830) (some ⟨g, 0, none⟩) k c (m.set j x) (w8.setCell ⟨g, j, none⟩ (.int .i64 x)) := ⟨hop, hk, hr8.belowN hbp hGW (by omega), grown_low hg8 hbp⟩
        refine ⟨w8.setCell ⟨g, j, none⟩ (.int .i64 x), ?_, ?_⟩
        · unfold execOp
          simp only [h68, h69]
          go_simp
        · have key := htm
          simp only [List.foldl_cons, List.foldl_nil, g0, g1, g2, g3, g4, g5, g6, g7, g8, g9, g10, g11, List.setIfInBounds_toArray, List.set_cons_succ, List.set_cons_zero] at key
          clear htm hfr hpre g0 g1 g2 g3 g4 g5 g6 g7 g8 g9 g10 g11 h68 h69
          obtain ⟨tm, df⟩ := a
          dsimp only at key hdef
          subst key hdef
          clear hc8 hf8 hop hbp ho8 hg8 hr8
          go_wp2
          go_meet
          case rel => exact ⟨_, hfin⟩
  case rest =>
  obtain ⟨m, hst7⟩ := hcut
  clear hst6 hb3
  go_upto_region 13 with fail
  go_cut [77] from 11 (fun bv wx => ∃ bb : Bool, bv = .bool bb ∧ (bb = true → 0 < k) ∧ TSt W B G (P + 831) A k c m wx)
  case first =>
    obtain ⟨ho, hk, hr, hg⟩ := hst7
    by_cases h0 : 0 < k
    · have h0I : (0 : Int) < (k : Int) := by omega
      go_wp2_with fail
      refine (odd_any B G (P + 830) 12 _ hr hBG (by omega) (by omega)).mono ?_
      rintro e w8 ⟨b, rfl, _, hr8, hg8⟩
      have t1 : TSt W B G (P + 831) A k c m w8 := ⟨ho.keptG hg8 hGW, hk, hr8.more (by omega), hg.trans hg8⟩
      clear ho hr hg hr8 hg8
      go_wp2
      go_meet
      case rel => exact ⟨b, by simp, fun _ => h0, t1⟩
    · obtain rfl : k = 0 := by omega
      go_wp2
      go_meet
      case rel => exact ⟨false, rfl, fun h => (by cases h), ho, hk, hr.more (by omega), hg⟩
  case rest =>
  obtain ⟨b4, rfl, hb4, hst8⟩ := hcut
  clear hst7
  go_upto_if 77 with fail
  go_cut [] from 11 (fun wx => ∃ m wz, wz = wx ∧ TSt W B G (P + 840) A k c m wz)
  case first =>
    obtain ⟨ho, hk, hr, hg⟩ := hst8
    cases b4
    · go_wp2
      go_meet
      case rel => exact ⟨_, _, rfl, ho, hk, hr.more (by omega), hg⟩
    · have h0 := hb4 rfl
      obtain ⟨g, rfl, hgl, hgw⟩ := ho.form h0
      have h0I : (0 : Int) < (k : Int) := by omega
      have Hr := Lib.hid (hr.alloc (by have := hg.size; omega) (.cells #[.int .i64 (-1), .int .i64 9] 3))
      clear hb4
      go_wp2_with fail
      refine (pick_any B G (P + 831) 2 _ Hr.out hBG (by omega)).mono ?_
      rintro e w8 ⟨v, rfl, ⟨v0, v1, _⟩, hr8, hg8⟩
      have hv : v = 0 ∨ v = 1 := by have := v1 (by omega); omega
      have hgx := (only_alloc (World.grownBy.refl _ _) (.cells #[.int .i64 (-1), .int .i64 9] 3)).trans hg8
      have hlt8 : G < _ := Nat.lt_of_lt_of_le hGW hg.size
      have hrow := (hg8.block _ (by simp) (fun e => by have := Option.some.inj e; omega)).trans (heap_alloc_new _ (.cells #[.int .i64 (-1), .int .i64 9] 3))
      have d0 := cell_of_row _ _ 0 _ _ (0, 0) hrow
      have d1 := cell_of_row _ _ 1 _ _ (0, 0) hrow
      have ho8 := ho.keptG hgx hGW
      have hg18 := hg.trans hgx
      obtain ⟨hc8, hf8⟩ := ho8.cell h0
      have HE := Lib.hid (fun (x : Int) => show TSt W B G (P + 840) (some ⟨g, 0, none⟩) k c (m.set 0 x) (w8.setCell ⟨g, 0, none⟩ (.int .i64 x)) from by
        have hbp : Below W.heap.size w8 (w8.setCell ⟨g, 0, none⟩ (.int .i64 x)) := Below.setCell (p := (⟨g, 0, none⟩ : Addr)) (Below.refl _ _) hgl _
        exact ⟨ho8.putN 0 x, hk, (hr8.belowN hbp hGW (by omega)).more (by omega), grown_low hg18 hbp⟩)
      clear v1 v0 ho hr hg hg8 hrow Hr hgx ho8 hg18 hlt8
      rcases hv with rfl | rfl
      all_goals
        go_wp2
        go_meet
        case rel => exact ⟨_, _, rfl, HE.out _⟩
  case rest =>
  obtain ⟨m, wz, rfl, ho, hk, hr, hg⟩ := hcut
  clear hst8 hb4
  obtain ⟨z0, z1, z2⟩ := HPB.out _ hg
  have hrow : wz.heap[w.heap.size]? = some (.cells #[.int .i64 0, .slice none 0 0, .slice none 0 0] 26) := (hg.block w.heap.size (by omega) (fun e => by have := Option.some.inj e; omega)).trans HR0.out
  have c0 := cell_of_row _ _ 0 _ _ (0, 0) hrow
  have c1' := cell_of_row _ _ 1 _ _ (0, 0) hrow
  have c2' := cell_of_row _ _ 2 _ _ (0, 0) hrow
  have f0 := frozen_of_row _ _ 0 _ _ hrow
  have f1 := frozen_of_row _ _ 1 _ _ hrow
  have f2 := frozen_of_row _ _ 2 _ _ hrow
  have HEnd := Lib.hid (fun Y (hgY : wz.grownBy Y (some w.heap.size)) => show DrewTry w B G (P + 900) (.returned (.tuple #[.agg #[.int .i64 s5, .slice A1 n1 c1, .slice A2 nr c2], .slice A k c])) Y from by
    obtain ⟨hrdW, hRA, hgA, hb00, hlo1, hneG⟩ := HFin.out
    have hgs := hg.size
    have hsz := hgY.size
    have hbY : Below w.heap.size wz Y := ⟨hgY.os, hgY.tape, hgY.output, hgY.size, fun j hj => hgY.block j (by omega) (fun e => by have := Option.some.inj e; omega)⟩
    refine ⟨s5, A1, n1, c1, gi, A2, nr, c2, rs, A, k, c, m, rfl, t2, t4, (rd_keepV (HRd.out _ hg) (by omega) hgY (fun b off e => by have := hlo1 b off e; omega)).more (by omega), hn16, fun b off e => by have := hlo1 b off e; omega, ((hRA.keptL hg (by omega)).keptL hgY (by omega)).mono (by omega), hl, hnr, (ho.keptG hgY (by omega)).mono (by omega), hk, (hr.belowN hbY hGw0 hBw0).more (by omega), grown_low ((grown_of_below hb00).trans (hgA.trans hg)) hbY⟩)
  clear ho hr hg
  go_wp2
  have e0 := heap_setCell_same wz w.heap.size 0 _ _ (.int .i64 s5) hrow
  have e1 := heap_setCell_same _ w.heap.size 1 _ _ (.slice A1 n1 c1) e0
  have e2 := heap_setCell_same _ w.heap.size 2 _ _ (.slice A2 nr c2) e1
  have hgY : wz.grownBy (((wz.setCell ⟨w.heap.size, 0, none⟩ (.int .i64 s5)).setCell ⟨w.heap.size, 1, none⟩ (.slice A1 n1 c1)).setCell ⟨w.heap.size, 2, none⟩ (.slice A2 nr c2)) (some w.heap.size) := (grown_set.trans grown_set).trans grown_set
  exact bodyPost_ret (v := .tuple #[.agg #[.int .i64 s5, .slice A1 n1 c1, .slice A2 nr c2], .slice A k c]) (results_ct (by rfl) _ _ w.heap.size 26 _ (0, 0) _ _ rfl rfl e2 Try.underlying26 rfl (Hi.out _ _ _ _ _ _ _)) rfl (HEnd.out _ hgY)
end Go.Proofs.Ytjdhfknoldginaa
set_option maxRecDepth 8000
namespace Go.Proofs.Ytjdhfknoldginaa
open Go.ChangeShapes Go.WideShapes Go.ChangeAt Go.RowKit

def zeroArr (n : Nat) : Array Value := madeCells #[.int .i64 0] n
theorem make_ints {n : Nat} (hn : n ≤ 1099511627776) (w : World) : (Instr.makeSlice 23 (.int .i64 (n : Int)) (.int .i64 (n : Int))).run Try.prog w = .ok (.slice (some ⟨w.heap.size, 0, none⟩) n n) (w.alloc (.cells (zeroArr n) 3)) := by
  obtain ⟨i0, hi, hz0, hz1, hz2⟩ := info_parts int_info
  have hr := run_make (P := Try.prog) w 23 3 i0 (.int .i64 0) Try.underlying23 hi hz0 .i64 .i64 (n : Int) (n : Int) (by omega) (Int.le_refl _) (by rw [hz2]; omega) (by omega)
  rw [hz1, Int.toNat_natCast, Nat.mul_one] at hr
  exact hr
theorem zeroArr_ow {n lo : Nat} (hn : n ≤ 1099511627776) (w : World) (hlo : lo ≤ w.heap.size) : Ow (w.alloc (.cells (zeroArr n) 3)) lo (some ⟨w.heap.size, 0, none⟩) n n (zeros n) := by
  have hs : (zeroArr n).size = n * 1 := by simp [zeroArr, madeCells]
  have h := World.ownsRow_lit (e := 3) (size := 1) w (zeroArr n) n hlo (by simp only [maxLen]; omega) hs
  unfold Ow
  have e : (zeroArr n).toList = vals (zeros n) := by
    rw [zeroArr, toList_madeCells_one]
    simp [vals, zeros]
  rw [← e]
  exact h
end Go.Proofs.Ytjdhfknoldginaa
namespace Go.Proofs.Ytjdhfknoldginaa
open Go.ChangeShapes Go.WideShapes Go.ChangeAt Go.RowKit

def turnIx (size : Int) (k : Nat) : Nat := ((size - 1 - (k : Int) % size) * size + (k : Int) / size).toNat
def turnG (xs : List Int) (size : Int) (k : Nat) : Int := nth xs (turnIx size k)
def turnL (xs : List Int) (size : Int) : List Int := if gv xs size = true then mapTo (turnG xs size) xs.length else []

theorem turn_facts {size : Int} {n k : Nat} (h2 : 2 ≤ size) (h4 : size ≤ 4) (hn : (n : Int) = size * size) (hk : k < n) :
    (0 ≤ (k : Int) % size ∧ (k : Int) % size < size) ∧ (0 ≤ (k : Int) / size ∧ (k : Int) / size < size) ∧ turnIx size k < n ∧ ((turnIx size k : Nat) : Int) = (size - 1 - (k : Int) % size) * size + (k : Int) / size := by
  unfold turnIx
  have : size = 2 ∨ size = 3 ∨ size = 4 := by omega
  rcases this with rfl | rfl | rfl <;> omega

end Go.Proofs.Ytjdhfknoldginaa
namespace Go.Proofs.Ytjdhfknoldginaa
open Go.ChangeShapes Go.WideShapes Go.ChangeAt Go.RowKit

/-- the number of the cell in a row and a column. -/
def cellIx (size row col : Int) : Nat := (row * size + col).toNat
theorem cell_facts {size row col : Int} {n : Nat} (h2 : 2 ≤ size) (h4 : size ≤ 4) (hn : (n : Int) = size * size) (r0 : 0 ≤ row) (r1 : row < size) (c0 : 0 ≤ col) (c1 : col < size) :
    (0 ≤ row * size ∧ row * size ≤ 12) ∧ cellIx size row col < n ∧ ((cellIx size row col : Nat) : Int) = row * size + col := by
  unfold cellIx
  have : size = 2 ∨ size = 3 ∨ size = 4 := by omega
  rcases this with rfl | rfl | rfl <;> omega

theorem ix_lt {r q s : Nat} (hr : r < s) (hq : q < s) : r * s + q < s * s := by
  have : (r + 1) * s ≤ s * s := Nat.mul_le_mul_right s hr
  rw [Nat.succ_mul] at this
  omega
theorem of_drew_below {w w2 : World} (h : Below w.drew.heap.size w.drew w2) : Below w.heap.size w w2 := ⟨h.os, h.tape, h.output, h.size, h.block⟩
theorem below_drew' {B : Nat} {a w : World} (h : Below B a w) : Below B a w.drew := h.drew
theorem divmod_ix {s r c : Nat} (h2 : 2 ≤ s) (h4 : s ≤ 4) (hr : r < s) (hc : c < s) : ((r * s + c : Nat) : Int) / (s : Int) = r ∧ ((r * s + c : Nat) : Int) % (s : Int) = c := by
  have : s = 2 ∨ s = 3 ∨ s = 4 := by omega
  rcases this with rfl | rfl | rfl <;> omega
theorem turn_ix {s r c : Nat} (h2 : 2 ≤ s) (h4 : s ≤ 4) (hr : r < s) (hc : c < s) : cellIx s ((s : Int) - 1 - c) r = turnIx s (r * s + c) := by
  obtain ⟨hd, hm⟩ := divmod_ix h2 h4 hr hc
  unfold cellIx turnIx
  rw [hd, hm]
end Go.Proofs.Ytjdhfknoldginaa
namespace Go.Proofs.Ytjdhfknoldginaa
open Go.ChangeShapes Go.WideShapes Go.ChangeAt Go.RowKit

def mirIx (size : Int) (k : Nat) : Nat := ((k : Int) / size * size + size - 1 - (k : Int) % size).toNat
def mirG (xs : List Int) (size : Int) (k : Nat) : Int := nth xs (mirIx size k)
def mirL (xs : List Int) (size : Int) : List Int := if gv xs size = true then mapTo (mirG xs size) xs.length else []

theorem mir_facts {size : Int} {n k : Nat} (h2 : 2 ≤ size) (h4 : size ≤ 4) (hn : (n : Int) = size * size) (hk : k < n) :
    (0 ≤ (k : Int) % size ∧ (k : Int) % size < size) ∧ (0 ≤ (k : Int) / size ∧ (k : Int) / size < size) ∧ mirIx size k < n ∧ ((mirIx size k : Nat) : Int) = (k : Int) / size * size + size - 1 - (k : Int) % size := by
  unfold mirIx
  have : size = 2 ∨ size = 3 ∨ size = 4 := by omega
  rcases this with rfl | rfl | rfl <;> omega

theorem mir_ix {s r c : Nat} (h2 : 2 ≤ s) (h4 : s ≤ 4) (hr : r < s) (hc : c < s) : cellIx s r ((s : Int) - 1 - c) = mirIx s (r * s + c) := by
  obtain ⟨hd, hm⟩ := divmod_ix h2 h4 hr hc
  unfold cellIx mirIx
  rw [hd, hm]
  congr 1
  omega
end Go.Proofs.Ytjdhfknoldginaa
namespace Go.Proofs.Ytjdhfknoldginaa
open Go.ChangeShapes Go.WideShapes Go.ChangeAt Go.RowKit

theorem Rd.take_ {w : World} {B : Nat} {A : Option Addr} {n : Nat} {xs : List Int} (h : Rd w B A n xs) {m : Nat} (hm : m ≤ n) : Rd w B A m (xs.take m) := by
  refine ⟨by rw [List.length_take, h.1]; omega, fun h0 => ?_⟩
  obtain ⟨b, off, he, hb, hc⟩ := h.2 (by omega)
  refine ⟨b, off, he, hb, fun k hk => ?_⟩
  rw [hc k (by omega)]
  simp [nth, List.getD_eq_getElem?_getD, hk]
theorem gv_n {xs : List Int} {size : Int} {n : Nat} (h : gv xs size = true) (hl : xs.length = n) : 4 ≤ n ∧ n ≤ 16 ∧ (n : Int) = size * size := by
  obtain ⟨h2, h4⟩ := gv_size h
  have := gv_len h
  obtain ⟨q4, q16⟩ := sq_bd h2 h4
  rw [hl] at this
  omega
theorem gv_short {xs : List Int} {size : Int} {n : Nat} (h : gv xs size = true) (hl : xs.length = n) : gv (xs.take (n - 1)) size = false := by
  obtain ⟨h4, _, hn⟩ := gv_n h hl
  have e : ((xs.take (n - 1)).length : Int) = n - 1 := by rw [List.length_take, hl]; omega
  cases hg : gv (xs.take (n - 1)) size
  · rfl
  · have := gv_len hg
    omega
theorem gv_large {xs : List Int} {size : Int} {n : Nat} (h : gv xs size = true) (hl : xs.length = n) : gv (xs.set 0 (size + 1)) size = false := by
  obtain ⟨h4, _, hn⟩ := gv_n h hl
  cases hg : gv (xs.set 0 (size + 1)) size
  · rfl
  · have := gv_nth hg (k := 0) (by rw [List.length_set, hl]; omega)
    rw [nth_set (by omega), if_pos rfl] at this
    omega

theorem copy_below {w w' : World} (hg : (w.alloc (.cells #[] 3)).grownBy w' (Value.slice (some ⟨w.heap.size, 0, none⟩) 0 0).ownBlock) : Below w.heap.size w w' :=
  ((Below.refl _ _).alloc (Nat.le_refl _) _).grown hg (by simp) (fun k hk => (Ow.made0 w w.heap.size (Nat.le_refl _)).own_lo k hk)
theorem cnz_lt {xs : List Int} {k : Nat} {v : Int} (hk : k < xs.length) : ∀ m, m ≤ k → cnz (xs.set k v) m = cnz xs m := by
  intro m
  induction m with
  | zero => intro _; rfl
  | succ m ih =>
    intro hm
    simp only [cnz]
    have e : k ≠ m := by omega
    rw [ih (by omega), nth_set hk, if_neg e]
theorem cnz_set {xs : List Int} {k : Nat} (hk : k < xs.length) (h : nth xs k ≠ 0) : ∀ m, k < m → cnz (xs.set k 0) m + 1 = cnz xs m := by
  intro m
  induction m with
  | zero => intro hm; omega
  | succ m ih =>
    intro hm
    simp only [cnz]
    by_cases e : k = m
    · subst e
      rw [cnz_lt hk k (Nat.le_refl _), nth_set hk, if_pos rfl, if_pos rfl, if_neg h]
    · rw [nth_set hk, if_neg e]
      have := ih (by omega)
      omega
theorem gv_set0 {xs : List Int} {size : Int} {n k : Nat} (h : gv xs size = true) (hl : xs.length = n) : gv (xs.set k 0) size = true := by
  obtain ⟨h2, h4⟩ := gv_size h
  refine okAll_gv (n := n) (by simpa using hl) (gv_n h hl).2.2 h2 h4 (okAll_set' (fun j hj => gv_nth h (by omega)) (by omega) (by omega))
theorem gf_set {xs : List Int} {size : Int} {k : Nat} (h : gv xs size = true) (hk : k < xs.length) (h0 : nth xs k ≠ 0) : gf (xs.set k 0) size = gf xs size - 1 := by
  have := cnz_set hk h0 xs.length hk
  unfold gf
  rw [if_pos h, if_pos (gv_set0 h rfl), List.length_set]
  omega
theorem cnz_zeros (n m : Nat) : cnz (zeros n) m = 0 := by
  induction m with
  | zero => rfl
  | succ m ih => rw [cnz, ih, zeros_nth]; rfl
theorem gf_zeros {size : Int} {n : Nat} (h2 : 2 ≤ size) (h4 : size ≤ 4) (hn : (n : Int) = size * size) : gf (zeros n) size = 0 := by
  have hg : gv (zeros n) size = true := okAll_gv (zeros_length n) hn h2 h4 (okAll_zeros (by omega) n)
  unfold gf
  rw [if_pos hg, cnz_zeros]; rfl

end Go.Proofs.Ytjdhfknoldginaa
namespace Go.Proofs.Ytjdhfknoldginaa
open Go.ChangeShapes Go.WideShapes Go.ChangeAt Go.RowKit

/-- the list whose value at k is the one of xs at P k. -/
def pm (xs : List Int) (P : Nat → Nat) (n : Nat) : List Int := mapTo (fun k => nth xs (P k)) n
theorem pm_length (xs : List Int) (P : Nat → Nat) (n : Nat) : (pm xs P n).length = n := mapTo_length _ _
theorem pm_nth {xs : List Int} {P : Nat → Nat} {n k : Nat} (h : k < n) : nth (pm xs P n) k = nth xs (P k) := mapTo_nth h
theorem pm_pm {xs : List Int} {P Q : Nat → Nat} {n : Nat} (h : ∀ k, k < n → P k < n) : pm (pm xs Q n) P n = pm xs (fun k => Q (P k)) n := by
  apply ext_nth (by rw [pm_length, pm_length])
  intro k hk
  rw [pm_length] at hk
  rw [pm_nth hk, pm_nth (h k hk), pm_nth hk]
theorem pm_id {xs : List Int} {P : Nat → Nat} {n : Nat} (hl : xs.length = n) (h : ∀ k, k < n → P k = k) : pm xs P n = xs := by
  apply ext_nth (by rw [pm_length, hl])
  intro k hk
  rw [pm_length] at hk
  rw [pm_nth hk, h k hk]
theorem pm_eq {xs : List Int} {P Q : Nat → Nat} {n : Nat} (h : ∀ k, k < n → P k = Q k) : pm xs P n = pm xs Q n := by
  apply ext_nth (by rw [pm_length, pm_length])
  intro k hk
  rw [pm_length] at hk
  rw [pm_nth hk, pm_nth hk, h k hk]
theorem pm_gv {xs : List Int} {size : Int} {P : Nat → Nat} {n : Nat} (hg : gv xs size = true) (hl : xs.length = n) (h : ∀ k, k < n → P k < n) : gv (pm xs P n) size = true := by
  obtain ⟨h2, h4⟩ := gv_size hg
  refine okAll_gv (pm_length _ _ _) (gv_n hg hl).2.2 h2 h4 (fun k hk => ?_)
  rw [pm_nth hk]
  exact gv_nth hg (by rw [hl]; exact h k hk)
theorem cnz_sum (xs : List Int) (n : Nat) : cnz xs n = ((List.range n).map fun k => if nth xs k = 0 then 0 else 1).sum := by
  induction n with
  | zero => rfl
  | succ n ih => simp [cnz, ih, List.range_succ]
theorem pm_cnz {xs : List Int} {P : Nat → Nat} {n : Nat} (hp : (List.map P (List.range n)).Perm (List.range n)) : cnz (pm xs P n) n = cnz xs n := by
  rw [cnz_sum, cnz_sum]
  have h1 : (List.range n).map (fun k => if nth (pm xs P n) k = 0 then 0 else 1) = (List.map P (List.range n)).map (fun k => if nth xs k = 0 then 0 else 1) := by
    rw [List.map_map]
    apply List.map_congr_left
    intro k hk
    have : k < n := by simpa using hk
    simp only [Function.comp, pm_nth this]
  rw [h1]
  exact (hp.map _).sum_nat
theorem pm_gf {xs : List Int} {size : Int} {P : Nat → Nat} {n : Nat} (hg : gv xs size = true) (hl : xs.length = n) (h : ∀ k, k < n → P k < n) (hp : (List.map P (List.range n)).Perm (List.range n)) : gf (pm xs P n) size = gf xs size := by
  unfold gf
  rw [if_pos hg, if_pos (pm_gv hg hl h), pm_length, pm_cnz hp, hl]

theorem size_nat {xs : List Int} {size : Int} (hg : gv xs size = true) : ∃ s : Nat, size = s ∧ s ∈ [2, 3, 4] ∧ xs.length = s * s := by
  obtain ⟨h2, h4⟩ := gv_size hg
  obtain ⟨s, rfl⟩ := Int.eq_ofNat_of_zero_le (by omega : 0 ≤ size)
  refine ⟨s, rfl, by simp; omega, ?_⟩
  have := gv_len hg
  rw [← Int.natCast_mul] at this
  omega
theorem turn_lt : ∀ s ∈ [2, 3, 4], ∀ k, k < s * s → turnIx (s : Nat) k < s * s := by decide +kernel
theorem turn_perm : ∀ s ∈ [2, 3, 4], (List.map (turnIx (s : Nat)) (List.range (s * s))).Perm (List.range (s * s)) := by decide +kernel
theorem turn_four : ∀ s ∈ [2, 3, 4], ∀ k, k < s * s → turnIx (s : Nat) (turnIx (s : Nat) (turnIx (s : Nat) (turnIx (s : Nat) k))) = k := by decide +kernel
theorem turn_edge : ∀ s ∈ [2, 3, 4], ∀ k, k < s → turnIx (s : Nat) (k * s + s - 1) = k := by decide +kernel

/-- what is known of a turned grid. -/
structure TurnFacts (xs : List Int) (size : Int) (n : Nat) : Prop where
  len : (turnL xs size).length = n
  valid : gv (turnL xs size) size = true
  four : turnL (turnL (turnL (turnL xs size) size) size) size = xs
  filled : gf (turnL xs size) size = gf xs size
  edge : ∀ k : Nat, (k : Int) < size → nth (turnL xs size) ((k : Int) * size + size - 1).toNat = nth xs k
theorem turnL_pm {xs : List Int} {size : Int} {n : Nat} (hg : gv xs size = true) (hl : xs.length = n) : turnL xs size = pm xs (turnIx size) n := by
  unfold turnL
  rw [if_pos hg, hl]; rfl
theorem turn_all {xs : List Int} {size : Int} {n : Nat} (hg : gv xs size = true) (hl : xs.length = n) : TurnFacts xs size n := by
  obtain ⟨s, rfl, hs, hls⟩ := size_nat hg
  have hn : n = s * s := by rw [← hl, hls]
  subst hn
  have lt := turn_lt s hs
  have e1 := turnL_pm hg hl
  have g1 : gv (turnL xs s) s = true := by rw [e1]; exact pm_gv hg hl lt
  have l1 : (turnL xs s).length = s * s := by rw [e1, pm_length]
  have e2 := turnL_pm g1 l1
  have g2 : gv (turnL (turnL xs s) s) s = true := by rw [e2]; exact pm_gv g1 l1 lt
  have l2 : (turnL (turnL xs s) s).length = s * s := by rw [e2, pm_length]
  have e3 := turnL_pm g2 l2
  have g3 : gv (turnL (turnL (turnL xs s) s) s) s = true := by rw [e3]; exact pm_gv g2 l2 lt
  have l3 : (turnL (turnL (turnL xs s) s) s).length = s * s := by rw [e3, pm_length]
  have e4 := turnL_pm g3 l3
  refine ⟨l1, g1, ?_, ?_, ?_⟩
  · rw [e4, e3, e2, e1, pm_pm lt, pm_pm (fun k hk => lt _ (lt k hk)), pm_pm (fun k hk => lt _ (lt _ (lt k hk)))]
    exact pm_id hl (turn_four s hs)
  · rw [e1]; exact pm_gf hg hl lt (turn_perm s hs)
  · intro k hk
    have hks : k < s := by omega
    have hi : k * s + s - 1 < s * s := by
      have := ix_lt hks (by omega : s - 1 < s)
      omega
    have e : ((k : Int) * (s : Int) + (s : Int) - 1).toNat = k * s + s - 1 := by
      rw [← Int.natCast_mul]; omega
    rw [e, e1, pm_nth hi, turn_edge s hs k hks]
theorem mir_lt : ∀ s ∈ [2, 3, 4], ∀ k, k < s * s → mirIx (s : Nat) k < s * s := by decide +kernel
theorem mir_two : ∀ s ∈ [2, 3, 4], ∀ k, k < s * s → mirIx (s : Nat) (mirIx (s : Nat) k) = k := by decide +kernel
theorem mir_turn : ∀ s ∈ [2, 3, 4], ∀ k, k < s * s → mirIx (s : Nat) (turnIx (s : Nat) k) = turnIx (s : Nat) (turnIx (s : Nat) (turnIx (s : Nat) (mirIx (s : Nat) k))) := by decide +kernel
structure MirFacts (xs : List Int) (size : Int) (n : Nat) : Prop where
  len : (mirL xs size).length = n
  valid : gv (mirL xs size) size = true
  two : mirL (mirL xs size) size = xs
  turned : turnL (mirL xs size) size = mirL (turnL (turnL (turnL xs size) size) size) size
theorem mirL_pm {xs : List Int} {size : Int} {n : Nat} (hg : gv xs size = true) (hl : xs.length = n) : mirL xs size = pm xs (mirIx size) n := by
  unfold mirL
  rw [if_pos hg, hl]; rfl
theorem mir_all {xs : List Int} {size : Int} {n : Nat} (hg : gv xs size = true) (hl : xs.length = n) : MirFacts xs size n := by
  obtain ⟨s, rfl, hs, hls⟩ := size_nat hg
  have hn : n = s * s := by rw [← hl, hls]
  subst hn
  have lt := turn_lt s hs
  have ltm := mir_lt s hs
  have e1 := mirL_pm hg hl
  have g1 : gv (mirL xs s) s = true := by rw [e1]; exact pm_gv hg hl ltm
  have l1 : (mirL xs s).length = s * s := by rw [e1, pm_length]
  have t1 := turnL_pm hg hl
  have h1 : gv (turnL xs s) s = true := by rw [t1]; exact pm_gv hg hl lt
  have m1 : (turnL xs s).length = s * s := by rw [t1, pm_length]
  have t2 := turnL_pm h1 m1
  have h2 : gv (turnL (turnL xs s) s) s = true := by rw [t2]; exact pm_gv h1 m1 lt
  have m2 : (turnL (turnL xs s) s).length = s * s := by rw [t2, pm_length]
  have t3 := turnL_pm h2 m2
  have h3 : gv (turnL (turnL (turnL xs s) s) s) s = true := by rw [t3]; exact pm_gv h2 m2 lt
  have m3 : (turnL (turnL (turnL xs s) s) s).length = s * s := by rw [t3, pm_length]
  refine ⟨l1, g1, ?_, ?_⟩
  · rw [mirL_pm g1 l1, e1, pm_pm ltm]
    exact pm_id hl (mir_two s hs)
  · rw [turnL_pm g1 l1, mirL_pm h3 m3, t3, t2, t1, e1, pm_pm lt, pm_pm ltm, pm_pm (fun k hk => lt _ (ltm k hk)), pm_pm (fun k hk => lt _ (lt _ (ltm k hk)))]
    exact pm_eq (mir_turn s hs)
end Go.Proofs.Ytjdhfknoldginaa
