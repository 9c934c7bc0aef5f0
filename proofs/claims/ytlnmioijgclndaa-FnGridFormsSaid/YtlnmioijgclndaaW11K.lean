import Derived.Test.YtlnmioijgclndaaW11L
import Derived.Test.YtlnmioijgclndaaIF
import Derived.Test.YtlnmioijgclndaaMadeT
set_option maxRecDepth 8000
namespace Go.Proofs.Ytlnmioijgclndaa
open Go.ChangeShapes Go.WideShapes Go.ChangeAt Go.RowKit
/-- what the operations of the loop's region yield. -/
def gfV (X Y : Value) (k g2 g3 : Nat) (A4 A5 A1 : Option Addr) (n1 c4 c5 c1 t : Nat) (sb : Bool) (j : Nat) : Value := match j with
  | 0 => X
  | 1 => .int .i64 (k : Int)
  | 2 => .pointer (some ⟨g2, k, none⟩)
  | 3 => .slice A4 n1 c4
  | 4 => Y
  | 5 => .int .i64 (k : Int)
  | 6 => .pointer (some ⟨g3, k, none⟩)
  | 7 => .slice A5 n1 c5
  | 8 => .bool true
  | 9 => .bool false
  | 10 => .bool false
  | 11 => X
  | 12 => .int .i64 (k : Int)
  | 13 => .pointer (some ⟨g2, k, none⟩)
  | 14 => .slice A4 n1 c4
  | 15 => .int .i64 (t : Int)
  | 16 => .bool sb
  | 17 => .slice A1 n1 c1
  | 18 => .int .i64 (t : Int)
  | 19 => .bool sb
  | 20 => .bool false
  | 21 => .bool false
  | _ => undef
set_option maxHeartbeats 4000000 in
theorem gridForms_walk (himpl : ISquareFits) (A : Option Addr) (c n : Nat) (bs : List Int) (w : World) (h : Code_ w A n c bs) :
    Calls Try.prog 4 #[.slice A n c] w fun e w' => e = .returned (.bool true) ∧ Below w.heap.size w w' := by
  have Himpl := Lib.hid himpl; clear himpl
  by_cases hn : n ≤ 1048576
  · go_enter Try.func4, Try.ntmps4
    go_wp2_with fail
    refine (drawGridForms _ _ _ _ _ h).mono ?_
    rintro e w1 ⟨A1, n1, c1, xs, s, rfl, hr1, ⟨h16, hc1, hc2⟩, s0, s1, _, hb1⟩
    have hl := Lib.hid hr1.1
    cases hg : gv xs s
    · have HL := Lib.hid (gfL_f (n := n1) hg)
      go_wp2_with fail
      refine (implGridForms _ _ _ _ _ _ _ hr1 (Nat.le_refl _) (by omega)).mono ?_
      rintro e w2 ⟨A2, c2, d2, rfl, hd2, hG2, hb2⟩
      rw [HL.out, show ([] : List (List Int)).length = 0 from rfl]
      go_wp2_with fail
      refine (specGridForms _ _ _ _ _ _ _ (hr1.below hb2) hb2.size (by omega)).mono ?_
      rintro e w3 ⟨A3, c3, d3, rfl, hd3, hG3, hb3⟩
      rw [HL.out, show ([] : List (List Int)).length = 0 from rfl]
      go_wp2_with fail
      refine (alive_any _).mono ?_
      rintro e w5 ⟨rfl, hb5⟩
      go_wp2
      go_ret
      exact ⟨rfl, step (step (step hb1 hb2) hb3) hb5⟩
    · obtain ⟨t, rfl, hs, hls⟩ := size_nat hg
      have hnn : n1 = t * t := by have := hl.out; omega
      have HIm := Lib.hid (fun W (hr : Rd W w1.heap.size A1 n1 xs) (hB : w1.heap.size ≤ W.heap.size) => show Calls Try.prog 22 #[.slice A1 n1 c1, .int .i64 t] W (RetGs W ((List.range 8).map (frm t n1 xs))) from by
        have := implGridForms A1 c1 n1 w1.heap.size xs t W hr hB (by omega)
        rwa [gfL_t hg] at this)
      have HSp := Lib.hid (fun W (hr : Rd W w1.heap.size A1 n1 xs) (hB : w1.heap.size ≤ W.heap.size) => show Calls Try.prog 23 #[.slice A1 n1 c1, .int .i64 t] W (RetGs W ((List.range 8).map (frm t n1 xs))) from by
        have := specGridForms A1 c1 n1 w1.heap.size xs t W hr hB (by omega)
        rwa [gfL_t hg] at this)
      have Hl := Lib.hid (fun k => frm_len (s := (t : Int)) hl.out k)
      have FK := Lib.hid (fun k A' c' B W (hr : Rd W B A' n1 (frm t n1 xs k)) (hB : B ≤ W.heap.size) => show Calls Try.prog 24 #[.slice A' n1 c', .int .i64 t] W (fun e w' => e = .returned (.bool (sqFits xs t)) ∧ Below W.heap.size W w') from by
        have := Himpl.out A' c' n1 B (frm t n1 xs k) t W hr hB (by omega)
        rwa [sqFits_frm hs hnn hl.out hg k] at this)
      have FX := Lib.hid (fun A' c' B W (hr : Rd W B A' n1 xs) (hB : B ≤ W.heap.size) => Himpl.out A' c' n1 B xs t W hr hB (by omega))
      have h0 : frm (t : Int) n1 xs 0 = xs := rfl
      have H0 := Lib.hid h0
      have hsx := same_refl xs
      clear hnn h0
      obtain ⟨sb, hsb⟩ : ∃ sb, sqFits xs t = sb := ⟨_, rfl⟩
      rw [hsb] at FK FX
      clear hsb
      go_wp2_with fail
      refine (HIm.out _ hr1 (Nat.le_refl _)).mono ?_
      rintro e w2 ⟨A2, c2, d2, rfl, hd2, hG2, hb2⟩
      rw [List.length_map, List.length_range] at hG2 ⊢
      have hdl2 : d2.length = 8 := by rw [← cnt_len, hd2]; simp
      go_wp2_with fail
      refine (HSp.out _ (hr1.below hb2) hb2.size).mono ?_
      rintro e w3 ⟨A3, c3, d3, rfl, hd3, hG3, hb3⟩
      rw [List.length_map, List.length_range] at hG3 ⊢
      have hdl3 : d3.length = 8 := by rw [← cnt_len, hd3]; simp
      have HD2 := Lib.hid hd2
      have HD3 := Lib.hid hd3
      have h13 := step hb2 hb3
      have hG2' := hG2.below hb3
      have hr13 := hr1.below h13
      have h13s := h13.size
      have HB1 := Lib.hid (step hb1 h13)
      clear hd2 hd3 hG2 HIm HSp hr1 hb1 hb2 hb3 h13
      go_wp2
      go_loopw [7] (fun i wr => ∃ k : Nat, k ≤ 8 ∧ i = .int .i64 k ∧ Below w3.heap.size w3 wr) (fun i _ => 8 - (intOf i).toNat)
      case atStart => exact ⟨0, by omega, rfl, Below.refl _ _⟩
      case round =>
        obtain ⟨k, hk, rfl, hb⟩ := hrel
        by_cases hlt : k < 8
        · have hltI : (k : Int) < 8 := by omega
          obtain ⟨g2, A4, c4, rfl, -, -, hgw2, hck2, -, ho4, -, -⟩ := (hG2'.below hb).at_ (show k < d2.length by omega)
          obtain ⟨g3, A5, c5, rfl, -, -, hgw3, hck3, -, ho5, -, -⟩ := (hG3.below hb).at_ (show k < d3.length by omega)
          rw [HD2.out, gat_map hlt, Hl.out] at hck2 ho4
          rw [HD3.out, gat_map hlt, Hl.out] at hck3 ho5
          have hsk := same_refl (frm (t : Int) n1 xs k)
          have O4 := Lib.hid (fun W (hW : Below wr.heap.size wr W) => (ho4.below hW).rd)
          have O5 := Lib.hid (fun W (hW : Below wr.heap.size wr W) => (ho5.below hW).rd)
          have OX := Lib.hid (fun W (hW : Below wr.heap.size wr W) => hr13.below ((hb.trans (hW.mono hb.size)).mono h13s))
          have C2 := Lib.hid (fun W (hW : Below wr.heap.size wr W) => (hW.cell (p := ⟨g2, k, none⟩) hgw2).trans hck2)
          have hBx : w1.heap.size ≤ wr.heap.size := Nat.le_trans h13s hb.size
          have hX : Below wr.heap.size wr wr := Below.refl _ _
          have HBk := Lib.hid hb
          clear ho4 ho5 hb
          have hbb : (sb != sb) = false := by simp
          have HK2 := Lib.hid (fun W (hW : Below wr.heap.size wr W) => (hW.cell (p := ⟨g2, k, none⟩) hgw2).trans hck2)
          have HK3 := Lib.hid (fun W (hW : Below wr.heap.size wr W) => (hW.cell (p := ⟨g3, k, none⟩) hgw3).trans hck3)
          have HCs := Lib.hid (fun W (hW : Below wr.heap.size wr W) => show Calls Try.prog 15 #[.slice A4 n1 c4, .slice A5 n1 c5] W (fun e w' => e = .returned (.bool true) ∧ Below W.heap.size W w') from by
            have := sameInts_any _ _ c4 c5 _ _ _ _ _ _ W (O4.out W hW) (O5.out W hW) (by omega)
            rwa [hsk] at this)
          have HCk := Lib.hid (fun W (hW : Below wr.heap.size wr W) => FK.out k A4 c4 _ W (O4.out W hW) (Nat.le_refl _))
          have HCx := Lib.hid (fun W (hW : Below wr.heap.size wr W) => FX.out A1 c1 _ W (OX.out W hW) (Nat.le_trans hBx hW.size))
          obtain ⟨X, hXe⟩ : ∃ X : Value, X = .slice (some ⟨g2, 0, none⟩) 8 c2 := ⟨_, rfl⟩
          obtain ⟨Y, hYe⟩ : ∃ Y : Value, Y = .slice (some ⟨g3, 0, none⟩) 8 c3 := ⟨_, rfl⟩
          have hXd := hXe; have hYd := hYe
          have HXe := Lib.hid hXe; have HYe := Lib.hid hYe
          rw [← hXe, ← hYe]
          clear hXe hYe hX O4 O5 OX C2
          go_wp2_with fail
          refine wp_region_dsT [37, 38, 39, 40, 41, 42, 43, 44, 45, 46, 47, 48, 49, 50, 51, 52, 53, 54, 55, 56, 57, 58] (fun j v _ => v = gfV X Y k g2 g3 A4 A5 A1 n1 c4 c5 c1 t sb j) (fun w1 w2 => Below wr.heap.size w1 w2) (fun _ _ _ => True) (fun _ _ => True) (fun _ => trivial) (below_drewN (Below.refl _ _) 1) (fun _ _ h h' => h.trans h') (fun j => if j = 10 then some false else none) (by kernel_rfl) (by kernel_rfl) (by simp) ?gy ?skip (fun j i v w w' hji _ hb h => h) ?step ?fin
          case gy =>
            intro i o j bq hi hoo hgd v w9 hg
            have hin : i < 22 := hi
            have : i = 0 ∨ i = 1 ∨ i = 2 ∨ i = 3 ∨ i = 4 ∨ i = 5 ∨ i = 6 ∨ i = 7 ∨ i = 8 ∨ i = 9 ∨ i = 10 ∨ i = 11 ∨ i = 12 ∨ i = 13 ∨ i = 14 ∨ i = 15 ∨ i = 16 ∨ i = 17 ∨ i = 18 ∨ i = 19 ∨ i = 20 ∨ i = 21 := by omega
            rcases this with rfl | rfl | rfl | rfl | rfl | rfl | rfl | rfl | rfl | rfl | rfl | rfl | rfl | rfl | rfl | rfl | rfl | rfl | rfl | rfl | rfl | rfl
            all_goals
              simp only [List.getElem?_toArray, List.getElem?_cons_zero, List.getElem?_cons_succ, Option.some.injEq] at hoo
              subst hoo
              first
              | (cases hgd; done)
              | (cases hgd; have hv : v = .bool false := hg; rw [hv]; rfl)
          case skip =>
            intro i o w9 hi hoo hw
            have hin : i < 22 := hi
            have : i = 0 ∨ i = 1 ∨ i = 2 ∨ i = 3 ∨ i = 4 ∨ i = 5 ∨ i = 6 ∨ i = 7 ∨ i = 8 ∨ i = 9 ∨ i = 10 ∨ i = 11 ∨ i = 12 ∨ i = 13 ∨ i = 14 ∨ i = 15 ∨ i = 16 ∨ i = 17 ∨ i = 18 ∨ i = 19 ∨ i = 20 ∨ i = 21 := by omega
            rcases this with rfl | rfl | rfl | rfl | rfl | rfl | rfl | rfl | rfl | rfl | rfl | rfl | rfl | rfl | rfl | rfl | rfl | rfl | rfl | rfl | rfl | rfl
            all_goals
              simp only [List.getElem?_toArray, List.getElem?_cons_zero, List.getElem?_cons_succ, Option.some.injEq] at hoo
              subst hoo
              exact absurd hw (by simp [wantG])
          case step =>
            intro i o a' w9 KK D hD hcl2 hi hoo hwant hrel hfr hpre hC hK
            have e3 : a'.eval (.tmp 3) = .slice A1 n1 c1 := hfr 3 (by simp)
            have e4 : a'.eval (.tmp 4) = .int .i64 (t : Int) := hfr 4 (by simp)
            have e5 : a'.eval (.tmp 5) = X := hfr 5 (by simp)
            have e6 : a'.eval (.tmp 6) = Y := hfr 6 (by simp)
            have e7 : a'.eval (.tmp 7) = .int .i64 (k : Int) := hfr 7 (by simp)
            have hkeep : ∀ (v : Value), v = gfV X Y k g2 g3 A4 A5 A1 n1 c4 c5 c1 t sb i → KK (a'.put o.dst v) w9 := fun v hv => hK v w9 (Below.refl _ _) trivial (fun j _ _ h => h) hv
            have hq2 := HK2.out w9 hrel
            have hq3 := HK3.out w9 hrel
            have hin : i < 22 := hi
            have : i = 0 ∨ i = 1 ∨ i = 2 ∨ i = 3 ∨ i = 4 ∨ i = 5 ∨ i = 6 ∨ i = 7 ∨ i = 8 ∨ i = 9 ∨ i = 10 ∨ i = 11 ∨ i = 12 ∨ i = 13 ∨ i = 14 ∨ i = 15 ∨ i = 16 ∨ i = 17 ∨ i = 18 ∨ i = 19 ∨ i = 20 ∨ i = 21 := by omega
            rcases this with rfl | rfl | rfl | rfl | rfl | rfl | rfl | rfl | rfl | rfl | rfl | rfl | rfl | rfl | rfl | rfl | rfl | rfl | rfl | rfl | rfl | rfl
            all_goals
              simp only [List.getElem?_toArray, List.getElem?_cons_zero, List.getElem?_cons_succ, Option.some.injEq] at hoo
              subst hoo
            · refine oper_val (v := X) (w' := w9) ?_ (hkeep _ rfl)
              unfold execOp
              simp only [e5]
              go_simp
            · refine oper_val (v := .int .i64 (k : Int)) (w' := w9) ?_ (hkeep _ rfl)
              unfold execOp
              simp only [e7]
              go_simp
            · have p0 : a'.eval (.tmp 37) = X := hpre ⟨0, .data⟩ (by simp) rfl
              have p1 : a'.eval (.tmp 38) = .int .i64 (k : Int) := hpre ⟨1, .data⟩ (by simp) rfl
              refine oper_val (v := .pointer (some ⟨g2, k, none⟩)) (w' := w9) ?_ (hkeep _ rfl)
              unfold execOp
              simp only [p0, p1, hXd]
              go_simp
            · have p0 : a'.eval (.tmp 39) = .pointer (some ⟨g2, k, none⟩) := hpre ⟨2, .data⟩ (by simp) rfl
              refine oper_val (v := .slice A4 n1 c4) (w' := w9) ?_ (hkeep _ rfl)
              unfold execOp
              simp only [p0]
              go_simp
            · refine oper_val (v := Y) (w' := w9) ?_ (hkeep _ rfl)
              unfold execOp
              simp only [e6]
              go_simp
            · refine oper_val (v := .int .i64 (k : Int)) (w' := w9) ?_ (hkeep _ rfl)
              unfold execOp
              simp only [e7]
              go_simp
            · have p0 : a'.eval (.tmp 41) = Y := hpre ⟨4, .data⟩ (by simp) rfl
              have p1 : a'.eval (.tmp 42) = .int .i64 (k : Int) := hpre ⟨5, .data⟩ (by simp) rfl
              refine oper_val (v := .pointer (some ⟨g3, k, none⟩)) (w' := w9) ?_ (hkeep _ rfl)
              unfold execOp
              simp only [p0, p1, hYd]
              go_simp
            · have p0 : a'.eval (.tmp 43) = .pointer (some ⟨g3, k, none⟩) := hpre ⟨6, .data⟩ (by simp) rfl
              refine oper_val (v := .slice A5 n1 c5) (w' := w9) ?_ (hkeep _ rfl)
              unfold execOp
              simp only [p0]
              go_simp
            · have p0 : a'.eval (.tmp 40) = .slice A4 n1 c4 := hpre ⟨3, .data⟩ (by simp) rfl
              have p1 : a'.eval (.tmp 44) = .slice A5 n1 c5 := hpre ⟨7, .data⟩ (by simp) rfl
              refine oper_call (f := 15) (args := #[.slice A4 n1 c4, .slice A5 n1 c5]) ?_ (HCs.out w9 hrel) ?_
              · unfold execOp
                go_simp
                exact ⟨(by simpa [Act.eval] using p0), (by simpa [Act.eval] using p1)⟩
              · rintro e w8 ⟨rfl, hb8⟩
                exact ⟨_, rfl, hK _ w8 (hb8.mono hrel.size) trivial (fun j _ _ h => h) rfl⟩
            · have p0 : a'.eval (.tmp 45) = .bool true := hpre ⟨8, .data⟩ (by simp) rfl
              refine oper_val (v := .bool false) (w' := w9) ?_ (hkeep _ rfl)
              unfold execOp
              simp only [p0]
              go_simp
            · have p0 : a'.eval (.tmp 46) = .bool false := hpre ⟨9, .data⟩ (by simp) rfl
              refine oper_val (v := .bool false) (w' := w9) ?_ (hkeep _ rfl)
              unfold execOp
              simp only [p0]
              go_simp
            · refine oper_val (v := X) (w' := w9) ?_ (hkeep _ rfl)
              unfold execOp
              simp only [e5]
              go_simp
            · refine oper_val (v := .int .i64 (k : Int)) (w' := w9) ?_ (hkeep _ rfl)
              unfold execOp
              simp only [e7]
              go_simp
            · have p0 : a'.eval (.tmp 48) = X := hpre ⟨11, .data⟩ (by simp) rfl
              have p1 : a'.eval (.tmp 49) = .int .i64 (k : Int) := hpre ⟨12, .data⟩ (by simp) rfl
              refine oper_val (v := .pointer (some ⟨g2, k, none⟩)) (w' := w9) ?_ (hkeep _ rfl)
              unfold execOp
              simp only [p0, p1, hXd]
              go_simp
            · have p0 : a'.eval (.tmp 50) = .pointer (some ⟨g2, k, none⟩) := hpre ⟨13, .data⟩ (by simp) rfl
              refine oper_val (v := .slice A4 n1 c4) (w' := w9) ?_ (hkeep _ rfl)
              unfold execOp
              simp only [p0]
              go_simp
            · refine oper_val (v := .int .i64 (t : Int)) (w' := w9) ?_ (hkeep _ rfl)
              unfold execOp
              simp only [e4]
              go_simp
            · have p0 : a'.eval (.tmp 51) = .slice A4 n1 c4 := hpre ⟨14, .data⟩ (by simp) rfl
              have p1 : a'.eval (.tmp 52) = .int .i64 (t : Int) := hpre ⟨15, .data⟩ (by simp) rfl
              refine oper_call (f := 24) (args := #[.slice A4 n1 c4, .int .i64 (t : Int)]) ?_ (HCk.out w9 hrel) ?_
              · unfold execOp
                go_simp
                exact ⟨(by simpa [Act.eval] using p0), (by simpa [Act.eval] using p1)⟩
              · rintro e w8 ⟨rfl, hb8⟩
                exact ⟨_, rfl, hK _ w8 (hb8.mono hrel.size) trivial (fun j _ _ h => h) rfl⟩
            · refine oper_val (v := .slice A1 n1 c1) (w' := w9) ?_ (hkeep _ rfl)
              unfold execOp
              simp only [e3]
              go_simp
            · refine oper_val (v := .int .i64 (t : Int)) (w' := w9) ?_ (hkeep _ rfl)
              unfold execOp
              simp only [e4]
              go_simp
            · have p0 : a'.eval (.tmp 54) = .slice A1 n1 c1 := hpre ⟨17, .data⟩ (by simp) rfl
              have p1 : a'.eval (.tmp 55) = .int .i64 (t : Int) := hpre ⟨18, .data⟩ (by simp) rfl
              refine oper_call (f := 24) (args := #[.slice A1 n1 c1, .int .i64 (t : Int)]) ?_ (HCx.out w9 hrel) ?_
              · unfold execOp
                go_simp
                exact ⟨(by simpa [Act.eval] using p0), (by simpa [Act.eval] using p1)⟩
              · rintro e w8 ⟨rfl, hb8⟩
                exact ⟨_, rfl, hK _ w8 (hb8.mono hrel.size) trivial (fun j _ _ h => h) rfl⟩
            · have p0 : a'.eval (.tmp 53) = .bool sb := hpre ⟨16, .data⟩ (by simp) rfl
              have p1 : a'.eval (.tmp 56) = .bool sb := hpre ⟨19, .data⟩ (by simp) rfl
              refine oper_val (v := .bool false) (w' := w9) ?_ (hkeep _ rfl)
              unfold execOp
              simp only [p0, p1]
              go_simp
            · have p0 : a'.eval (.tmp 47) = .bool false := hpre ⟨10, .data⟩ (by simp) rfl
              have p1 : a'.eval (.tmp 57) = .bool false := hpre ⟨20, .data⟩ (by simp) rfl
              refine oper_val (v := .bool false) (w' := w9) ?_ (hkeep _ rfl)
              unfold execOp
              simp only [p0, p1]
              go_simp
          case fin =>
            intro a' w9 hrel hdef htm hpre
            obtain ⟨v37, g37'⟩ : ∃ v, a'.tmps.getD 37 undef = v := ⟨_, rfl⟩
            obtain ⟨v38, g38'⟩ : ∃ v, a'.tmps.getD 38 undef = v := ⟨_, rfl⟩
            obtain ⟨v39, g39'⟩ : ∃ v, a'.tmps.getD 39 undef = v := ⟨_, rfl⟩
            obtain ⟨v40, g40'⟩ : ∃ v, a'.tmps.getD 40 undef = v := ⟨_, rfl⟩
            obtain ⟨v41, g41'⟩ : ∃ v, a'.tmps.getD 41 undef = v := ⟨_, rfl⟩
            obtain ⟨v42, g42'⟩ : ∃ v, a'.tmps.getD 42 undef = v := ⟨_, rfl⟩
            obtain ⟨v43, g43'⟩ : ∃ v, a'.tmps.getD 43 undef = v := ⟨_, rfl⟩
            obtain ⟨v44, g44'⟩ : ∃ v, a'.tmps.getD 44 undef = v := ⟨_, rfl⟩
            obtain ⟨v45, g45'⟩ : ∃ v, a'.tmps.getD 45 undef = v := ⟨_, rfl⟩
            obtain ⟨v46, g46'⟩ : ∃ v, a'.tmps.getD 46 undef = v := ⟨_, rfl⟩
            obtain ⟨v47, g47'⟩ : ∃ v, a'.tmps.getD 47 undef = v := ⟨_, rfl⟩
            obtain ⟨v48, g48'⟩ : ∃ v, a'.tmps.getD 48 undef = v := ⟨_, rfl⟩
            obtain ⟨v49, g49'⟩ : ∃ v, a'.tmps.getD 49 undef = v := ⟨_, rfl⟩
            obtain ⟨v50, g50'⟩ : ∃ v, a'.tmps.getD 50 undef = v := ⟨_, rfl⟩
            obtain ⟨v51, g51'⟩ : ∃ v, a'.tmps.getD 51 undef = v := ⟨_, rfl⟩
            obtain ⟨v52, g52'⟩ : ∃ v, a'.tmps.getD 52 undef = v := ⟨_, rfl⟩
            obtain ⟨v53, g53'⟩ : ∃ v, a'.tmps.getD 53 undef = v := ⟨_, rfl⟩
            obtain ⟨v54, g54'⟩ : ∃ v, a'.tmps.getD 54 undef = v := ⟨_, rfl⟩
            obtain ⟨v55, g55'⟩ : ∃ v, a'.tmps.getD 55 undef = v := ⟨_, rfl⟩
            obtain ⟨v56, g56'⟩ : ∃ v, a'.tmps.getD 56 undef = v := ⟨_, rfl⟩
            obtain ⟨v57, g57'⟩ : ∃ v, a'.tmps.getD 57 undef = v := ⟨_, rfl⟩
            have g58' : a'.tmps.getD 58 undef = .bool false := hpre 21 (by simp)
            have key := htm
            simp only [List.foldl_cons, List.foldl_nil, g37', g38', g39', g40', g41', g42', g43', g44', g45', g46', g47', g48', g49', g50', g51', g52', g53', g54', g55', g56', g57', g58', List.setIfInBounds_toArray, List.set_cons_succ, List.set_cons_zero] at key
            clear htm hpre g37' g38' g39' g40' g41' g42' g43' g44' g45' g46' g47' g48' g49' g50' g51' g52' g53' g54' g55' g56' g57' g58'
            obtain ⟨tm, df⟩ := a'
            dsimp only at key hdef
            subst key hdef
            subst hXd
            subst hYd
            go_wp2
            go_roundw
            case rel => exact ⟨k + 1, by omega, by go_num, step HBk.out hrel⟩
            case measure => simp [intOf]; omega
        · obtain rfl : k = 8 := by omega
          obtain ⟨g2, A4, c4, rfl, -, -, hgw2, hck2, -, ho4, -, -⟩ := (hG2'.below hb).at_ (show 0 < d2.length by omega)
          rw [HD2.out, gat_map (show 0 < 8 by omega), Hl.out] at hck2
          rw [HD2.out, gat_map (show 0 < 8 by omega), Hl.out, H0.out] at ho4
          have hrx := hr13.below (hb.mono h13s)
          go_wp2_with fail
          refine (sameInts_any _ _ _ _ _ _ _ _ _ _ _ ho4.rd hrx (by omega)).mono ?_
          rintro e w5 ⟨rfl, hb5⟩
          go_wp2
          go_ret
          exact ⟨rfl, step (HB1.out.trans (hb.mono HB1.out.size)) hb5⟩
  · go_enter Try.func4, Try.ntmps4
    go_wp2
    go_ret
    exact ⟨rfl, Below.refl _ _⟩
end Go.Proofs.Ytlnmioijgclndaa
