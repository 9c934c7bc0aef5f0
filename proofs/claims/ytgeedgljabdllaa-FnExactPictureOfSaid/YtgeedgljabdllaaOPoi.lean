import Derived.Test.YtgeedgljabdllaaOPv
import Derived.Test.YtgeedgljabdllaaIm2
set_option maxRecDepth 8000
namespace Go.Proofs.Ytgeedgljabdllaa
open Go.ChangeShapes Go.WideShapes Go.ChangeAt Go.RowKit
/-! the reference's PictureOf. -/
theorem results_row_tmp13 {P : Program} {fn : Func} {p q : Tmp} {ty : TypeId} (h : fn.results = #[.cell p ty, .tmp q]) (tmps : Array Value) (w : World) (g : Nat) (t : TypeId) (cs : Array Value) (fr : Nat × Nat) (d : TypeDesc) (b : Value)
    (hp : tmps.getD p undef = .pointer (some ⟨g, 0, none⟩)) (hq : tmps.getD q undef = b) (hg : w.heap[g]? = some (.cells cs t fr))
    (hu : P.underlying ty = some d) (hd : (match d with | .struct _ | .array _ _ => true | _ => false) = true) (hi : (P.info? ty).map (·.size) = some cs.size) :
    (results fn tmps).run P w = .ok (.tuple #[.agg cs, b]) w := by
  have hp' : tmps[p]?.getD undef = .pointer (some ⟨g, 0, none⟩) := by simpa using hp
  have hq' : tmps[q]?.getD undef = b := by simpa using hq
  simp [results, h, hp', hq', asAddr, run_loadVar_row w g t ty cs fr d hg hu hd hi]
def sameLen (rows : List (List Bool)) : Bool := decide (∀ j, j < rows.length → (gtl rows j).length = (gtl rows 0).length)
def pofB (rows : List (List Bool)) : Bool := (inr (rows.length : Int) 1 5 && inr ((gtl rows 0).length : Int) 1 5) && sameLen rows
def pofR (rows : List (List Bool)) : List (List Int) := if pofB rows then rows.map cl else []
def pofC (rows : List (List Bool)) : List (List Int) := if pofB rows then (List.range (gtl rows 0).length).map fun c => cl (clm rows c) else []
/-- a picture puzzle of the call's own. -/
def OwnPic (w : World) (lo : Nat) (RA : Option Addr) (c1 : Nat) (rc : List (List Int)) (CA : Option Addr) (c2 : Nat) (cc : List (List Int)) : Prop :=
  ∃ d1 d2 mid, gsC d1 = rc ∧ gsC d2 = cc ∧ Gs w lo (.slice RA rc.length c1) d1 ∧ UpTo mid (.slice RA rc.length c1) d1 ∧ Gs w mid (.slice CA cc.length c2) d2 ∧ lo ≤ mid
def RetPic (w : World) (rc cc : List (List Int)) (ok : Bool) (e : Ending) (w' : World) : Prop :=
  ∃ RA c1 CA c2, e = .returned (.tuple #[.agg #[.slice RA rc.length c1, .slice CA cc.length c2], .bool ok]) ∧ OwnPic w' w.heap.size RA c1 rc CA c2 cc ∧ Below w.heap.size w w'
theorem retPic_no {w w' : World} {rows : List (List Bool)} (h : pofB rows = false) (hb : Below w.heap.size w w') : RetPic w (pofR rows) (pofC rows) (pofB rows) (.returned (.tuple #[.agg #[.slice none 0 0, .slice none 0 0], .bool false])) w' := by
  have e1 : pofR rows = [] := by simp [pofR, h]
  have e2 : pofC rows = [] := by simp [pofC, h]
  rw [e1, e2, h]
  exact ⟨none, 0, none, 0, rfl, ⟨[], [], w.heap.size, rfl, rfl, Gs.nil_, ⟨fun g hg => by simp [Value.ownBlock] at hg, fun x hx => by simp at hx⟩, Gs.nil_, Nat.le_refl _⟩, hb⟩
/-- ClueOf of a line of at most 8 cells. -/
theorem clueL_cl {L : List Bool} (h : L.length ≤ 8) : clueL L = cl L := if_pos h
theorem cols_succ (rows : List (List Bool)) (k : Nat) : (List.range (k + 1)).map (fun c => cl (clm rows c)) = (List.range k).map (fun c => cl (clm rows c)) ++ [cl (clm rows k)] := by simp [List.range_succ]
theorem map_take_succ {rows : List (List Bool)} {k : Nat} (h : k < rows.length) : (rows.take (k + 1)).map cl = (rows.take k).map cl ++ [cl (gtl rows k)] := by rw [gtl_take h, List.map_append]; rfl
set_option maxHeartbeats 4000000 in
theorem specPictureOf (A : Option Addr) (n c B : Nat) (rows : List (List Bool)) (w : World) (h : Fns w B A n rows) (hB : B ≤ w.heap.size) :
    Calls Try.prog 20 #[.slice A n c] w (RetPic w (pofR rows) (pofC rows) (pofB rows)) := by
  have Hl := Lib.hid h.len
  have hm := h.m
  have Hms := Lib.hid h.ms
  have Hone := Lib.hid pic_one
  have Hi := Lib.hid pic_info
  have hr0 := Lib.hid (PcR.new w (.slice none 0 0) (.slice none 0 0))
  have hb0 : Below w.heap.size w (w.alloc (.cells #[.slice none 0 0, .slice none 0 0] 25)) := (Below.refl _ _).alloc (Nat.le_refl _) _
  have hs0 : w.heap.size < (w.alloc (.cells #[.slice none 0 0, .slice none 0 0] 25)).heap.size := by simp
  have HO : Hid (Calls Try.prog 54 #[.slice A n c] (w.alloc (.cells #[.slice none 0 0, .slice none 0 0] 25)) fun e w1 => ∃ A1 c1, e = .returned (.slice A1 n c1) ∧ Fns w1 w1.heap.size A1 n rows ∧ Below w.heap.size w w1 ∧ PcR w1 w.heap.size (.slice none 0 0) (.slice none 0 0)) := Lib.hid (by
    refine (specOwnRowsBool A n c B rows _ (h.below (hb0.mono hB)) (Nat.le_trans hB hb0.size)).mono ?_
    rintro e w1 ⟨A1, c1, d1, rfl, hd1, hG1, hb1⟩
    rw [Hl.out] at hG1 ⊢
    have hdl : d1.length = n := by rw [← Hl.out, ← hd1, cnt_lenF]
    refine ⟨A1, c1, rfl, ⟨?_, hm, Hms.out⟩, step hb0 hb1, hr0.out.below hs0 hb1⟩
    have := hG1.rr hdl
    rwa [hd1] at this)
  have HE : Hid (pofB rows = ((inr (n : Int) 1 5 && inr ((gtl rows 0).length : Int) 1 5) && sameLen rows)) := Lib.hid (by simp only [pofB, Hl.out])
  clear h
  cases h1 : inr (n : Int) 1 5
  · have Hno := Lib.hid (show pofB rows = false by rw [HE.out, h1]; rfl)
    go_enter Try.func20, Try.ntmps20
    go_wp2_with (first
      | (go_at_call 54; refine HO.out.mono ?_; rintro e w1 ⟨A1, c1, rfl, hF1, hB1, hR1⟩; have hP2 := hR1.below hR1.lt ((Below.refl w1.heap.size w1).alloc (Nat.le_refl _) (.cells #[.slice none 0 0, .slice none 0 0] 25)); have p0 := (PcR.new w1 (.slice none 0 0) (.slice none 0 0)).c0; have p1 := (PcR.new w1 (.slice none 0 0) (.slice none 0 0)).c1; have hb2 := hB1.alloc hB1.size (.cells #[.slice none 0 0, .slice none 0 0] 25))
      | (go_at_call 49; refine (l1In_any _ _ _ _).mono ?_; rintro e wq ⟨rfl, rfl⟩; rw [h1])
      | (refine wpList_store_row rfl 25 _ _ rfl w.heap.size #[.slice none 0 0, .slice none 0 0] rfl rfl 25 #[.slice none 0 0, .slice none 0 0] hP2 (Hi.out _ _) rfl (Hone.out _ _ _ _ _ _) ?_))
    exact bodyPost_ret (v := .tuple #[.agg #[.slice none 0 0, .slice none 0 0], .bool false]) (results_row_tmp13 (by rfl) _ _ w.heap.size 25 _ (0, 0) _ _ rfl rfl (setRow_heap _ _ _ _ _ _ hP2) Try.underlying25 rfl (Hi.out _ _)) rfl (retPic_no Hno.out (below_setRow13 hb2 (Nat.le_refl _)))
  · obtain ⟨n1, n5⟩ := inr_t h1
    have hn0 : 0 < n := by omega
    have hn5 : n ≤ 5 := by omega
    have hn0I : (0 : Int) < (n : Int) := by omega
    have hm0 := Hms.out 0 hn0
    obtain ⟨q0, hq0⟩ : ∃ q0, (gtl rows 0).length = q0 := ⟨_, rfl⟩
    rw [hq0] at hm0
    have Hq0 := Lib.hid hq0
    have HE2 : Hid (pofB rows = ((inr (n : Int) 1 5 && inr (q0 : Int) 1 5) && sameLen rows)) := Lib.hid (by rw [HE.out, hq0])
    have HO2 : Hid (∀ (w1 : World) (A1 : Option Addr), Fns w1 w1.heap.size A1 n rows → ∃ b0 off0, A1 = some ⟨b0, off0, none⟩ ∧ b0 < w1.heap.size ∧ ∃ A' c', w1.cell? ⟨b0, off0, none⟩ = some (.slice A' q0 c')) := Lib.hid (fun w1 A1 hF => by
      obtain ⟨b0, off0, A', c', e, hb, hc, _⟩ := hF.r.at_ hn0
      rw [hq0] at hc
      exact ⟨b0, off0, e, hb, A', c', hc⟩)
    clear hq0
    cases h2 : inr (q0 : Int) 1 5
    · have Hno := Lib.hid (show pofB rows = false by rw [HE2.out, h1, h2]; rfl)
      go_enter Try.func20, Try.ntmps20
      go_wp2_with (first
        | (go_at_call 54; refine HO.out.mono ?_; rintro e w1 ⟨A1, c1, rfl, hF1, hB1, hR1⟩; (obtain ⟨b0, off0, rfl, hb0r, A0, c0, hc0⟩ := HO2.out w1 A1 hF1); have hc02 := (((Below.refl w1.heap.size w1).alloc (Nat.le_refl _) (.cells #[.slice none 0 0, .slice none 0 0] 25)).cell (p := ⟨b0, off0, none⟩) hb0r).trans hc0; have hP2 := hR1.below hR1.lt ((Below.refl w1.heap.size w1).alloc (Nat.le_refl _) (.cells #[.slice none 0 0, .slice none 0 0] 25)); have p0 := (PcR.new w1 (.slice none 0 0) (.slice none 0 0)).c0; have p1 := (PcR.new w1 (.slice none 0 0) (.slice none 0 0)).c1; have hb2 := hB1.alloc hB1.size (.cells #[.slice none 0 0, .slice none 0 0] 25))
        | (go_at_call 49; refine (l1In_any _ _ _ _).mono ?_; rintro e wq ⟨rfl, rfl⟩; first | rw [h1] | rw [h2])
        | (refine wpList_store_row rfl 25 _ _ rfl w.heap.size #[.slice none 0 0, .slice none 0 0] rfl rfl 25 #[.slice none 0 0, .slice none 0 0] hP2 (Hi.out _ _) rfl (Hone.out _ _ _ _ _ _) ?_))
      exact bodyPost_ret (v := .tuple #[.agg #[.slice none 0 0, .slice none 0 0], .bool false]) (results_row_tmp13 (by rfl) _ _ w.heap.size 25 _ (0, 0) _ _ rfl rfl (setRow_heap _ _ _ _ _ _ hP2) Try.underlying25 rfl (Hi.out _ _)) rfl (retPic_no Hno.out (below_setRow13 hb2 (Nat.le_refl _)))
    · obtain ⟨k1, k5⟩ := inr_t h2
      have hq5 : q0 ≤ 5 := by omega
      go_enter Try.func20, Try.ntmps20
      go_wp2_with (first
        | (go_at_call 54; refine HO.out.mono ?_; rintro e w1 ⟨A1, c1, rfl, hF1, hB1, hR1⟩; (obtain ⟨b0, off0, rfl, hb0r, A0, c0, hc0⟩ := HO2.out w1 A1 hF1); have hc02 := (((Below.refl w1.heap.size w1).alloc (Nat.le_refl _) (.cells #[.slice none 0 0, .slice none 0 0] 25)).cell (p := ⟨b0, off0, none⟩) hb0r).trans hc0)
        | (go_at_call 49; refine (l1In_any _ _ _ _).mono ?_; rintro e wq ⟨rfl, rfl⟩; first | rw [h1] | rw [h2]))
      have hb2 : Below w1.heap.size w1 (w1.alloc (.cells #[.slice none 0 0, .slice none 0 0] 25)) := (Below.refl _ _).alloc (Nat.le_refl _) _
      have hPn : PcR (w1.alloc (.cells #[.slice none 0 0, .slice none 0 0] 25)) w1.heap.size (.slice none 0 0) (.slice none 0 0) := PcR.new _ _ _
      have hs2 : (w1.alloc (.cells #[.slice none 0 0, .slice none 0 0] 25)).heap.size = w1.heap.size + 1 := by simp
      have HF1 := Lib.hid hF1
      have HR1 := Lib.hid hR1
      have HB1 := Lib.hid hB1
      have Hc0 := Lib.hid hc0
      have HPn := Lib.hid hPn
      clear hF1 hR1 hB1 hc0 hc02 hPn h1 h2
      go_loopw [5] (fun i wr => ∃ (k : Nat) (d : List GV) (Av : Option Addr) (cv : Nat), k ≤ n ∧ i = .int .i64 k ∧ Hid (PcR wr w1.heap.size (.slice Av k cv) (.slice none 0 0)) ∧ Hid (d.length = k) ∧ Hid (gsC d = (rows.take k).map cl) ∧ Hid (Gs wr (w1.heap.size + 1) (.slice Av k cv) d) ∧ Hid (∀ j, j < k → (gtl rows j).length = q0) ∧ Hid (Below w1.heap.size w1 wr) ∧ w1.heap.size + 1 ≤ wr.heap.size) (fun i _ => n - (intOf i).toNat)
      case atStart => exact ⟨0, [], none, 0, Nat.zero_le _, rfl, HPn, Lib.hid rfl, Lib.hid rfl, Lib.hid Gs.nil_, Lib.hid fun j hj => by omega, Lib.hid hb2, by rw [hs2]; exact Nat.le_refl _⟩
      case round =>
        obtain ⟨k, d, Av, cv, hk, rfl, HPc, Hd, HC0, HG, Hall, Hb, hLOw⟩ := hrel
        have hc0r := (Hb.out.cell (p := ⟨b0, off0, none⟩) hb0r).trans Hc0.out
        by_cases hlt : k < n
        · have hkI : (k : Int) < (n : Int) := by omega
          have hk40 : k ≤ 1099511627776 := by omega
          obtain ⟨b3, off3, A3, c3, e3, hbB3, hck3, hr3⟩ := HF1.out.r.at_ hlt
          injection e3 with e3
          injection e3 with e3a e3b _
          subst e3a e3b
          have hckw := (Hb.out.cell (p := ⟨b0, off0 + k, none⟩) hb0r).trans hck3
          by_cases hq : (gtl rows k).length = q0
          · rw [hq] at hckw hr3
            have HCk := Lib.hid hckw
            have HC : Hid (∀ W, Below wr.heap.size wr W → Calls Try.prog 55 #[.slice A3 q0 c3] W fun e w' => ∃ A c, e = .returned (.slice A (cl (gtl rows k)).length c) ∧ Ow w' W.heap.size A (cl (gtl rows k)).length c (cl (gtl rows k)) ∧ Below W.heap.size W w') := Lib.hid fun W hW => by
              have h8 : (gtl rows k).length ≤ 8 := by omega
              have := specClueOf A3 q0 c3 w1.heap.size (gtl rows k) W (hr3.below (Hb.out.trans (hW.mono Hb.out.size))) (Nat.le_trans Hb.out.size hW.size) (by omega)
              rw [clueL_cl h8] at this
              exact this
            have Hq := Lib.hid hq
            clear hck3 hr3 hq
            go_wp2
            go_quiet (fail)
            go_wp2_with fail
            have hb0w : b0 < wr.heap.size := Nat.lt_of_lt_of_le hb0r Hb.out.size
            clear hckw hc0r
            refine wp_region_fld1 [40, 41, 42, 43, 44, 45, 46, 47, 48, 49] [(0, 40, .pointer (some ⟨w1.heap.size, 0, none⟩), 9), (1, 41, .slice Av k cv, 2), (2, 42, .slice (some ⟨b0, off0, none⟩) n c1, 9), (3, 43, .int .i64 k, 9), (4, 44, .pointer (some ⟨b0, off0 + k, none⟩), 9), (5, 45, .slice A3 q0 c3, 0), (9, 49, .pointer (some ⟨w1.heap.size, 0, none⟩), 3)] 6 7 8 10 41 46 47 48 (by kernel_rfl) (by kernel_rfl) (by simp) (by decide) (by simp) (by simp) (by simp) (by simp) (by decide) ?hall ?hrng
              w1 wr w1.heap.size (w1.heap.size + 1) w1.heap.size 0 k cv (cl (gtl rows k)).length (.slice Av k cv) (.slice none 0 0) Av d (cl (gtl rows k)) 55 #[.slice A3 q0 c3] (below_drewN (Below.refl _ _) _) Hb.out (Nat.le_refl _) (Nat.lt_succ_self _) hLOw (by omega) HPc.out HG.out Hd.out rfl hk40 ?hpure ?hcall HC.out ?hbs ?hap ?hst ?hwait ?hchain ?hfin
            case hall =>
              intro i hi
              have hi' : i < 11 := hi
              have : i = 0 ∨ i = 1 ∨ i = 2 ∨ i = 3 ∨ i = 4 ∨ i = 5 ∨ i = 6 ∨ i = 7 ∨ i = 8 ∨ i = 9 ∨ i = 10 := by omega
              rcases this with rfl | rfl | rfl | rfl | rfl | rfl | rfl | rfl | rfl | rfl | rfl <;> simp
            case hrng =>
              intro y hy
              simp only [List.mem_cons, List.not_mem_nil, or_false] at hy
              rcases hy with rfl | rfl | rfl | rfl <;> (show _ < _; simp)
            case hpure =>
              intro x hx o ho a w3 hoff hpr hH
              simp only [List.mem_cons, List.not_mem_nil, or_false] at hx
              rcases hx with rfl | rfl | rfl | rfl | rfl | rfl | rfl
              · simp only [List.getElem?_toArray, List.getElem?_cons_zero, Option.some.injEq] at ho
                subst ho
                refine ⟨rfl, ?_⟩
                have p : a.eval (.tmp 4) = .pointer (some ⟨w1.heap.size, 0, none⟩) := hoff 4 (by decide)
                unfold execOp
                simp only [p]
                go_simp
              · simp only [List.getElem?_toArray, List.getElem?_cons_zero, List.getElem?_cons_succ, Option.some.injEq] at ho
                subst ho
                refine ⟨rfl, ?_⟩
                have p := hpr (0, 40, .pointer (some ⟨w1.heap.size, 0, none⟩), 9) (by simp) ⟨0, .data⟩ (by simp) rfl rfl
                have hc := ((hH (by simp)).cell (p := ⟨w1.heap.size, 0, none⟩) HPc.out.lt).trans HPc.out.c0
                unfold execOp
                simp only [p]
                go_simp
              · simp only [List.getElem?_toArray, List.getElem?_cons_zero, List.getElem?_cons_succ, Option.some.injEq] at ho
                subst ho
                refine ⟨rfl, ?_⟩
                have p : a.eval (.tmp 0) = .slice (some ⟨b0, off0, none⟩) n c1 := hoff 0 (by decide)
                unfold execOp
                simp only [p]
                go_simp
              · simp only [List.getElem?_toArray, List.getElem?_cons_zero, List.getElem?_cons_succ, Option.some.injEq] at ho
                subst ho
                refine ⟨rfl, ?_⟩
                have p : a.eval (.tmp 5) = .int .i64 k := hoff 5 (by decide)
                unfold execOp
                simp only [p]
                go_simp
              · simp only [List.getElem?_toArray, List.getElem?_cons_zero, List.getElem?_cons_succ, Option.some.injEq] at ho
                subst ho
                refine ⟨rfl, ?_⟩
                have p := hpr (2, 42, .slice (some ⟨b0, off0, none⟩) n c1, 9) (by simp) ⟨2, .data⟩ (by simp) rfl rfl
                have p2 := hpr (3, 43, .int .i64 k, 9) (by simp) ⟨3, .data⟩ (by simp) rfl rfl
                unfold execOp
                simp only [p, p2]
                go_simp
              · simp only [List.getElem?_toArray, List.getElem?_cons_zero, List.getElem?_cons_succ, Option.some.injEq] at ho
                subst ho
                refine ⟨rfl, ?_⟩
                have p := hpr (4, 44, .pointer (some ⟨b0, off0 + k, none⟩), 9) (by simp) ⟨4, .data⟩ (by simp) rfl rfl
                have hc := ((hH (by simp)).cell (p := ⟨b0, off0 + k, none⟩) hb0w).trans HCk.out
                unfold execOp
                simp only [p]
                go_simp
              · simp only [List.getElem?_toArray, List.getElem?_cons_zero, List.getElem?_cons_succ, Option.some.injEq] at ho
                subst ho
                refine ⟨rfl, ?_⟩
                have p : a.eval (.tmp 4) = .pointer (some ⟨w1.heap.size, 0, none⟩) := hoff 4 (by decide)
                unfold execOp
                simp only [p]
                go_simp
            case hcall =>
              intro o ho a w3 hoff hpr
              simp only [List.getElem?_toArray, List.getElem?_cons_zero, List.getElem?_cons_succ, Option.some.injEq] at ho
              subst ho
              refine ⟨rfl, ?_⟩
              have p := hpr (5, 45, .slice A3 q0 c3, 0) (by simp) ⟨5, .data⟩ (by simp) rfl rfl
              have p' : a.tmps[45]?.getD undef = .slice A3 q0 c3 := by rw [← Array.getD_eq_getD_getElem?]; exact p
              unfold execOp
              go_simp
            case hbs =>
              intro o ho a w3 A3 c3 e
              simp only [List.getElem?_toArray, List.getElem?_cons_zero, List.getElem?_cons_succ, Option.some.injEq] at ho
              subst ho
              have e' : a.tmps[46]?.getD undef = .slice A3 (cl (gtl rows k)).length c3 := by rw [← Array.getD_eq_getD_getElem?]; exact e
              refine ⟨rfl, ?_⟩
              unfold execOp
              go_simp
            case hap =>
              intro o ho
              simp only [List.getElem?_toArray, List.getElem?_cons_zero, List.getElem?_cons_succ, Option.some.injEq] at ho
              subst ho
              exact ⟨rfl, rfl, (1, 41, .slice Av k cv, 2), by simp, rfl, rfl, ⟨1, .data⟩, by simp, rfl, rfl⟩
            case hst =>
              intro o ho a w3 hpr hcs hfz
              simp only [List.getElem?_toArray, List.getElem?_cons_zero, List.getElem?_cons_succ, Option.some.injEq] at ho
              subst ho
              refine ⟨rfl, fun A3 n3 c3 e => ?_⟩
              obtain ⟨v3, hv3⟩ := Option.isSome_iff_exists.1 hcs
              have p := hpr (9, 49, .pointer (some ⟨w1.heap.size, 0, none⟩), 3) (by simp) ⟨9, .data⟩ (by simp) rfl rfl
              have e' : a.tmps[48]?.getD undef = .slice A3 n3 c3 := by rw [← Array.getD_eq_getD_getElem?]; exact e
              unfold execOp
              simp only [p, e]
              go_simp
            case hwait =>
              intro x hx hlt o ho
              simp only [List.mem_cons, List.not_mem_nil, or_false] at hx
              rcases hx with rfl | rfl | rfl | rfl | rfl | rfl | rfl
              · exact absurd hlt (by simp)
              · simp only [actAt, List.getD_cons_zero, List.getD_cons_succ] at ho
                simp only [List.getElem?_toArray, List.getElem?_cons_zero, List.getElem?_cons_succ, Option.some.injEq] at ho
                subst ho
                exact ⟨⟨1, .data⟩, by simp, rfl, rfl⟩
              · exact absurd hlt (by simp)
              · exact absurd hlt (by simp)
              · exact absurd hlt (by simp)
              · simp only [actAt, List.getD_cons_zero] at ho
                simp only [List.getElem?_toArray, List.getElem?_cons_zero, List.getElem?_cons_succ, Option.some.injEq] at ho
                subst ho
                exact ⟨⟨5, .data⟩, by simp, rfl, rfl⟩
              · simp only [actAt, List.getD_cons_zero, List.getD_cons_succ] at ho
                simp only [List.getElem?_toArray, List.getElem?_cons_zero, List.getElem?_cons_succ, Option.some.injEq] at ho
                subst ho
                exact ⟨⟨9, .data⟩, by simp, rfl, rfl⟩
            case hchain =>
              intro j hj o ho
              have : j = 0 ∨ j = 1 ∨ j = 2 := by omega
              rcases this with rfl | rfl | rfl
              · simp only [actAt, List.getD_cons_zero, List.getD_cons_succ] at ho ⊢
                simp only [List.getElem?_toArray, List.getElem?_cons_zero, List.getElem?_cons_succ, Option.some.injEq] at ho
                subst ho
                exact ⟨⟨6, .data⟩, by simp, rfl, rfl⟩
              · simp only [actAt, List.getD_cons_zero, List.getD_cons_succ] at ho ⊢
                simp only [List.getElem?_toArray, List.getElem?_cons_zero, List.getElem?_cons_succ, Option.some.injEq] at ho
                subst ho
                exact ⟨⟨7, .data⟩, by simp, rfl, rfl⟩
              · simp only [actAt, List.getD_cons_zero, List.getD_cons_succ] at ho ⊢
                simp only [List.getElem?_toArray, List.getElem?_cons_zero, List.getElem?_cons_succ, Option.some.injEq] at ho
                subst ho
                exact ⟨⟨8, .data⟩, by simp, rfl, rfl⟩
            case hfin =>
              intro a w3 hdf htm hF
              obtain ⟨g5, cap5, y5, hP5, hG5, hb5⟩ := hF
              obtain ⟨v40, r40⟩ : ∃ v, a.tmps.getD 40 undef = v := ⟨_, rfl⟩
              obtain ⟨v41, r41⟩ : ∃ v, a.tmps.getD 41 undef = v := ⟨_, rfl⟩
              obtain ⟨v42, r42⟩ : ∃ v, a.tmps.getD 42 undef = v := ⟨_, rfl⟩
              obtain ⟨v43, r43⟩ : ∃ v, a.tmps.getD 43 undef = v := ⟨_, rfl⟩
              obtain ⟨v44, r44⟩ : ∃ v, a.tmps.getD 44 undef = v := ⟨_, rfl⟩
              obtain ⟨v45, r45⟩ : ∃ v, a.tmps.getD 45 undef = v := ⟨_, rfl⟩
              obtain ⟨v46, r46⟩ : ∃ v, a.tmps.getD 46 undef = v := ⟨_, rfl⟩
              obtain ⟨v47, r47⟩ : ∃ v, a.tmps.getD 47 undef = v := ⟨_, rfl⟩
              obtain ⟨v48, r48⟩ : ∃ v, a.tmps.getD 48 undef = v := ⟨_, rfl⟩
              obtain ⟨v49, r49⟩ : ∃ v, a.tmps.getD 49 undef = v := ⟨_, rfl⟩
              simp only [List.foldl_cons, List.foldl_nil, r40, r41, r42, r43, r44, r45, r46, r47, r48, r49, List.setIfInBounds_toArray, List.set_cons_succ, List.set_cons_zero] at htm
              clear r40 r41 r42 r43 r44 r45 r46 r47 r48 r49
              obtain ⟨tm, df⟩ := a
              dsimp only at htm hdf
              subst htm hdf
              go_wp2
              have Hgs := Lib.hid (show gsC (d ++ [(y5, cl (gtl rows k))]) = (rows.take (k + 1)).map cl by rw [map_take_succ (by rw [Hl.out]; exact hlt), ← HC0.out]; simp [gsC])
              have hsz5 := hP5.lt
              go_roundw
              case rel => exact ⟨k + 1, d ++ [(y5, cl (gtl rows k))], _, cap5, by omega, by go_num, Lib.hid hP5, Lib.hid (by rw [List.length_append, Hd.out]; rfl), Hgs, Lib.hid hG5, Lib.hid (fun j hj => by
                by_cases e : j = k
                · subst e; exact Hq.out
                · exact Hall.out j (by omega)), Lib.hid hb5.1, hsz5⟩
              case measure => simp [intOf]; omega
          · have Hno := Lib.hid (show pofB rows = false by
              rw [HE2.out]
              have : sameLen rows = false := by
                unfold sameLen
                rw [decide_eq_false_iff_not]
                intro hh
                exact hq (by rw [hh k (by rw [Hl.out]; exact hlt), Hq0.out])
              rw [this, Bool.and_false])
            obtain ⟨qk, hqk⟩ : ∃ qk, (gtl rows k).length = qk := ⟨_, rfl⟩
            rw [hqk] at hckw hq
            have hms := Hms.out k hlt
            rw [hqk] at hms
            have hneq : ((qk : Int) != (q0 : Int)) = true := by simp; omega
            have hP2 := Lib.hid (HR1.out.below HR1.out.lt Hb.out)
            clear hqk hr3 hck3
            go_wp2
            go_quiet (fail)
            go_wp2_with ((refine wpList_store_row rfl 25 _ _ rfl w.heap.size #[.slice none 0 0, .slice none 0 0] rfl rfl 25 #[.slice none 0 0, .slice none 0 0] hP2.out (Hi.out _ _) rfl (Hone.out _ _ _ _ _ _) ?_))
            exact bodyPost_ret (v := .tuple #[.agg #[.slice none 0 0, .slice none 0 0], .bool false]) (results_row_tmp13 (by rfl) _ _ w.heap.size 25 _ (0, 0) _ _ rfl rfl (setRow_heap _ _ _ _ _ _ hP2.out) Try.underlying25 rfl (Hi.out _ _)) rfl (retPic_no Hno.out (below_setRow13 (below_drewN (HB1.out.trans (Hb.out.mono HB1.out.size)) _) (Nat.le_refl _)))
        · have hkI : ¬ (k : Int) < (n : Int) := by omega
          have hkn : k = n := by omega
          have Hok := Lib.hid (show pofB rows = true by
            have hs : sameLen rows = true := by
              unfold sameLen
              rw [decide_eq_true_eq]
              intro j hj
              rw [Hall.out j (by rw [hkn, ← Hl.out]; exact hj), Hq0.out]
            rw [HE2.out, hs]
            simp [inr]
            omega)
          have Hrow : Hid (∀ j, j < n → (gtl rows j).length = q0) := Lib.hid fun j hj => Hall.out j (by omega)
          have HGr : Hid (gsC d = rows.map cl) := Lib.hid (by rw [HC0.out, hkn, List.take_of_length_le (by rw [Hl.out]; exact Nat.le_refl _)])
          have Hdn : Hid (d.length = n) := Lib.hid (by rw [Hd.out, hkn])
          have Hvr : Hid (.slice Av k cv = Value.slice Av n cv) := Lib.hid (by rw [hkn])
          obtain ⟨VR, hVR⟩ : ∃ VR, VR = Value.slice Av k cv := ⟨_, rfl⟩
          rw [← hVR] at HPc HG
          obtain ⟨Av2, hAv2⟩ : ∃ Av2, Av2 = Av := ⟨_, rfl⟩
          obtain ⟨cv2, hcv2⟩ : ∃ cv2, cv2 = cv := ⟨_, rfl⟩
          have HVR : Hid (VR = Value.slice Av2 n cv2) := Lib.hid (by rw [hVR, hkn, hAv2, hcv2])
          clear hAv2 hcv2
          obtain ⟨wo, hwo⟩ : ∃ wo : World, wo = wr := ⟨_, rfl⟩
          have HPo : Hid (PcR wo w1.heap.size VR (.slice none 0 0)) := by rw [hwo]; exact HPc
          have HGo : Hid (Gs wo (w1.heap.size + 1) VR d) := by rw [hwo]; exact HG
          have Hbo : Hid (Below w1.heap.size w1 wo) := by rw [hwo]; exact Hb
          have hLOo : w1.heap.size + 1 ≤ wo.heap.size := by rw [hwo]; exact hLOw
          have Hc0o : Hid (wo.cell? ⟨b0, off0, none⟩ = some (.slice A0 q0 c0)) := Lib.hid (by rw [hwo]; exact hc0r)
          obtain ⟨dR, hdR⟩ : ∃ dR, dR = d := ⟨_, rfl⟩
          rw [← hdR] at HGo HGr Hdn
          clear hdR HPc HG Hb hLOw Hd HC0 hVR Hvr Hall hkn hk HPn
          go_wp2
          rw [← hwo]
          clear hwo hc0r
          go_loopw [6] (fun i wr => ∃ (k : Nat) (d : List GV) (Av : Option Addr) (cv : Nat), k ≤ q0 ∧ i = .int .i64 k ∧ Hid (PcR wr w1.heap.size VR (.slice Av k cv)) ∧ Hid (d.length = k) ∧ Hid (gsC d = (List.range k).map fun c => cl (clm rows c)) ∧ Hid (Gs wr (w1.heap.size + 1) VR dR) ∧ Hid (Gs wr wo.heap.size (.slice Av k cv) d) ∧ Hid (Below w1.heap.size w1 wr) ∧ wo.heap.size ≤ wr.heap.size) (fun i _ => q0 - (intOf i).toNat)
          case atStart => exact ⟨0, [], none, 0, Nat.zero_le _, rfl, HPo, Lib.hid rfl, Lib.hid rfl, HGo, Lib.hid Gs.nil_, Hbo, Nat.le_refl _⟩
          case round =>
            obtain ⟨k, d, Av, cv, hk, rfl, HPc, Hd, HC0, HGR, HG, Hb, hLOw⟩ := hrel
            have hc0r := (Hb.out.cell (p := ⟨b0, off0, none⟩) hb0r).trans Hc0.out
            by_cases hlt : k < q0
            · have hkI : (k : Int) < (q0 : Int) := by omega
              have hk40 : k ≤ 1099511627776 := by omega
              have hbL : w1.heap.size < wo.heap.size := hLOo
              have HFr : Hid (∀ W, Below wr.heap.size wr W → Fns W w1.heap.size (some ⟨b0, off0, none⟩) n rows) := Lib.hid fun W hW => HF1.out.below (Hb.out.trans (hW.mono Hb.out.size))
              have HCol : Hid (∀ W, Below wr.heap.size wr W → Calls Try.prog 56 #[.slice (some ⟨b0, off0, none⟩) n c1, .int .i64 k] W fun e w' => ∃ A c, e = .returned (.slice A n c) ∧ OwF w' W.heap.size A n c (clm rows k) ∧ Below W.heap.size W w') := Lib.hid fun W hW => specColumn (some ⟨b0, off0, none⟩) n c1 w1.heap.size rows k W (HFr.out W hW) (Nat.le_trans Hb.out.size hW.size) (fun j hj => by rw [Hrow.out j hj]; exact hlt)
              have HC : Hid (∀ W A c, Below wr.heap.size wr W → OwF W wr.heap.size A n c (clm rows k) → Calls Try.prog 55 #[.slice A n c] W fun e w' => ∃ A c, e = .returned (.slice A (cl (clm rows k)).length c) ∧ Ow w' W.heap.size A (cl (clm rows k)).length c (cl (clm rows k)) ∧ Below W.heap.size W w') := Lib.hid fun W A c _ ho => by
                have := specClueOf A n c W.heap.size (clm rows k) W ho.rd (Nat.le_refl _) (by omega)
                rw [clueL_cl (by rw [clm_length, Hl.out]; omega)] at this
                exact this
              go_wp2_with fail
              refine wp_region_fld2 [58, 59, 60, 61, 62, 63, 64, 65, 66] [(0, 58, .pointer (some ⟨w1.heap.size, 1, none⟩), 9), (1, 59, .slice Av k cv, 3), (2, 60, .slice (some ⟨b0, off0, none⟩) n c1, 0), (3, 61, .int .i64 k, 0), (8, 66, .pointer (some ⟨w1.heap.size, 1, none⟩), 4)] 4 5 6 7 9 59 62 63 64 65 (by kernel_rfl) (by kernel_rfl) (by simp) (by decide) (by simp) (by simp) (by simp) (by simp) (by decide) ?hall ?hrng
                w1 wr w1.heap.size wo.heap.size w1.heap.size 1 k cv (cl (clm rows k)).length VR (.slice Av k cv) Av d (cl (clm rows k)) 55 56 #[.slice (some ⟨b0, off0, none⟩) n c1, .int .i64 k] n (clm rows k) (Below.refl _ _) Hb.out (Nat.le_refl _) hbL hLOw (by omega) HPc.out HG.out Hd.out rfl hk40 ?hpure ?hcallD HCol.out ?hcall HC.out ?hbs ?hap ?hst ?hwait ?hchain ?hfin
              case hall =>
                intro i hi
                have hi' : i < 10 := hi
                have : i = 0 ∨ i = 1 ∨ i = 2 ∨ i = 3 ∨ i = 4 ∨ i = 5 ∨ i = 6 ∨ i = 7 ∨ i = 8 ∨ i = 9 := by omega
                rcases this with rfl | rfl | rfl | rfl | rfl | rfl | rfl | rfl | rfl | rfl <;> simp
              case hrng =>
                intro y hy
                simp only [List.mem_cons, List.not_mem_nil, or_false] at hy
                rcases hy with rfl | rfl | rfl | rfl | rfl <;> (show _ < _; simp)
              case hpure =>
                intro x hx o ho a w3 hoff hpr hH
                simp only [List.mem_cons, List.not_mem_nil, or_false] at hx
                rcases hx with rfl | rfl | rfl | rfl | rfl
                · simp only [List.getElem?_toArray, List.getElem?_cons_zero, Option.some.injEq] at ho
                  subst ho
                  refine ⟨rfl, ?_⟩
                  have p : a.eval (.tmp 4) = .pointer (some ⟨w1.heap.size, 0, none⟩) := hoff 4 (by decide)
                  unfold execOp
                  simp only [p]
                  go_simp
                · simp only [List.getElem?_toArray, List.getElem?_cons_zero, List.getElem?_cons_succ, Option.some.injEq] at ho
                  subst ho
                  refine ⟨rfl, ?_⟩
                  have p := hpr (0, 58, .pointer (some ⟨w1.heap.size, 1, none⟩), 9) (by simp) ⟨0, .data⟩ (by simp) rfl rfl
                  have hc := ((hH (by simp)).cell (p := ⟨w1.heap.size, 1, none⟩) HPc.out.lt).trans HPc.out.c1
                  unfold execOp
                  simp only [p]
                  go_simp
                · simp only [List.getElem?_toArray, List.getElem?_cons_zero, List.getElem?_cons_succ, Option.some.injEq] at ho
                  subst ho
                  refine ⟨rfl, ?_⟩
                  have p : a.eval (.tmp 0) = .slice (some ⟨b0, off0, none⟩) n c1 := hoff 0 (by decide)
                  unfold execOp
                  simp only [p]
                  go_simp
                · simp only [List.getElem?_toArray, List.getElem?_cons_zero, List.getElem?_cons_succ, Option.some.injEq] at ho
                  subst ho
                  refine ⟨rfl, ?_⟩
                  have p : a.eval (.tmp 6) = .int .i64 k := hoff 6 (by decide)
                  unfold execOp
                  simp only [p]
                  go_simp
                · simp only [List.getElem?_toArray, List.getElem?_cons_zero, List.getElem?_cons_succ, Option.some.injEq] at ho
                  subst ho
                  refine ⟨rfl, ?_⟩
                  have p : a.eval (.tmp 4) = .pointer (some ⟨w1.heap.size, 0, none⟩) := hoff 4 (by decide)
                  unfold execOp
                  simp only [p]
                  go_simp
              case hcallD =>
                intro o ho a w3 hoff hpr
                simp only [List.getElem?_toArray, List.getElem?_cons_zero, List.getElem?_cons_succ, Option.some.injEq] at ho
                subst ho
                refine ⟨rfl, ?_⟩
                have p := hpr (2, 60, .slice (some ⟨b0, off0, none⟩) n c1, 0) (by simp) ⟨2, .data⟩ (by simp) rfl rfl
                have p2 := hpr (3, 61, .int .i64 k, 0) (by simp) ⟨3, .data⟩ (by simp) rfl rfl
                have p' : a.tmps[60]?.getD undef = .slice (some ⟨b0, off0, none⟩) n c1 := by rw [← Array.getD_eq_getD_getElem?]; exact p
                have p2' : a.tmps[61]?.getD undef = .int .i64 k := by rw [← Array.getD_eq_getD_getElem?]; exact p2
                unfold execOp
                go_simp
              case hcall =>
                intro o ho a w3 A3 c3 e
                simp only [List.getElem?_toArray, List.getElem?_cons_zero, List.getElem?_cons_succ, Option.some.injEq] at ho
                subst ho
                have e' : a.tmps[62]?.getD undef = .slice A3 n c3 := by rw [← Array.getD_eq_getD_getElem?]; exact e
                refine ⟨rfl, ?_⟩
                unfold execOp
                go_simp
              case hbs =>
                intro o ho a w3 A3 c3 e
                simp only [List.getElem?_toArray, List.getElem?_cons_zero, List.getElem?_cons_succ, Option.some.injEq] at ho
                subst ho
                have e' : a.tmps[63]?.getD undef = .slice A3 (cl (clm rows k)).length c3 := by rw [← Array.getD_eq_getD_getElem?]; exact e
                refine ⟨rfl, ?_⟩
                unfold execOp
                go_simp
              case hap =>
                intro o ho
                simp only [List.getElem?_toArray, List.getElem?_cons_zero, List.getElem?_cons_succ, Option.some.injEq] at ho
                subst ho
                exact ⟨rfl, rfl, (1, 59, .slice Av k cv, 3), by simp, rfl, rfl, ⟨1, .data⟩, by simp, rfl, rfl⟩
              case hst =>
                intro o ho a w3 hpr hcs hfz
                simp only [List.getElem?_toArray, List.getElem?_cons_zero, List.getElem?_cons_succ, Option.some.injEq] at ho
                subst ho
                refine ⟨rfl, fun A3 n3 c3 e => ?_⟩
                obtain ⟨v3, hv3⟩ := Option.isSome_iff_exists.1 hcs
                have p := hpr (8, 66, .pointer (some ⟨w1.heap.size, 1, none⟩), 4) (by simp) ⟨8, .data⟩ (by simp) rfl rfl
                have e' : a.tmps[65]?.getD undef = .slice A3 n3 c3 := by rw [← Array.getD_eq_getD_getElem?]; exact e
                unfold execOp
                simp only [p, e]
                go_simp
              case hwait =>
                intro x hx hlt o ho
                simp only [List.mem_cons, List.not_mem_nil, or_false] at hx
                rcases hx with rfl | rfl | rfl | rfl | rfl
                · exact absurd hlt (by simp)
                · simp only [actAt, List.getD_cons_zero, List.getD_cons_succ] at ho
                  simp only [List.getElem?_toArray, List.getElem?_cons_zero, List.getElem?_cons_succ, Option.some.injEq] at ho
                  subst ho
                  exact ⟨⟨1, .data⟩, by simp, rfl, rfl⟩
                · simp only [actAt, List.getD_cons_zero] at ho
                  simp only [List.getElem?_toArray, List.getElem?_cons_zero, List.getElem?_cons_succ, Option.some.injEq] at ho
                  subst ho
                  exact ⟨⟨2, .data⟩, by simp, rfl, rfl⟩
                · simp only [actAt, List.getD_cons_zero] at ho
                  simp only [List.getElem?_toArray, List.getElem?_cons_zero, List.getElem?_cons_succ, Option.some.injEq] at ho
                  subst ho
                  exact ⟨⟨3, .data⟩, by simp, rfl, rfl⟩
                · simp only [actAt, List.getD_cons_zero, List.getD_cons_succ] at ho
                  simp only [List.getElem?_toArray, List.getElem?_cons_zero, List.getElem?_cons_succ, Option.some.injEq] at ho
                  subst ho
                  exact ⟨⟨8, .data⟩, by simp, rfl, rfl⟩
              case hchain =>
                intro j hj o ho
                have : j = 0 ∨ j = 1 ∨ j = 2 ∨ j = 3 := by omega
                rcases this with rfl | rfl | rfl | rfl
                · simp only [actAt, List.getD_cons_zero, List.getD_cons_succ] at ho ⊢
                  simp only [List.getElem?_toArray, List.getElem?_cons_zero, List.getElem?_cons_succ, Option.some.injEq] at ho
                  subst ho
                  exact ⟨⟨4, .data⟩, by simp, rfl, rfl⟩
                · simp only [actAt, List.getD_cons_zero, List.getD_cons_succ] at ho ⊢
                  simp only [List.getElem?_toArray, List.getElem?_cons_zero, List.getElem?_cons_succ, Option.some.injEq] at ho
                  subst ho
                  exact ⟨⟨5, .data⟩, by simp, rfl, rfl⟩
                · simp only [actAt, List.getD_cons_zero, List.getD_cons_succ] at ho ⊢
                  simp only [List.getElem?_toArray, List.getElem?_cons_zero, List.getElem?_cons_succ, Option.some.injEq] at ho
                  subst ho
                  exact ⟨⟨6, .data⟩, by simp, rfl, rfl⟩
                · simp only [actAt, List.getD_cons_zero, List.getD_cons_succ] at ho ⊢
                  simp only [List.getElem?_toArray, List.getElem?_cons_zero, List.getElem?_cons_succ, Option.some.injEq] at ho
                  subst ho
                  exact ⟨⟨7, .data⟩, by simp, rfl, rfl⟩
              case hfin =>
                intro a w3 hdf htm hF
                obtain ⟨g5, cap5, y5, hP5, hG5, hb5⟩ := hF
                obtain ⟨v58, r58⟩ : ∃ v, a.tmps.getD 58 undef = v := ⟨_, rfl⟩
                obtain ⟨v59, r59⟩ : ∃ v, a.tmps.getD 59 undef = v := ⟨_, rfl⟩
                obtain ⟨v60, r60⟩ : ∃ v, a.tmps.getD 60 undef = v := ⟨_, rfl⟩
                obtain ⟨v61, r61⟩ : ∃ v, a.tmps.getD 61 undef = v := ⟨_, rfl⟩
                obtain ⟨v62, r62⟩ : ∃ v, a.tmps.getD 62 undef = v := ⟨_, rfl⟩
                obtain ⟨v63, r63⟩ : ∃ v, a.tmps.getD 63 undef = v := ⟨_, rfl⟩
                obtain ⟨v64, r64⟩ : ∃ v, a.tmps.getD 64 undef = v := ⟨_, rfl⟩
                obtain ⟨v65, r65⟩ : ∃ v, a.tmps.getD 65 undef = v := ⟨_, rfl⟩
                obtain ⟨v66, r66⟩ : ∃ v, a.tmps.getD 66 undef = v := ⟨_, rfl⟩
                simp only [List.foldl_cons, List.foldl_nil, r58, r59, r60, r61, r62, r63, r64, r65, r66, List.setIfInBounds_toArray, List.set_cons_succ, List.set_cons_zero] at htm
                clear r58 r59 r60 r61 r62 r63 r64 r65 r66
                obtain ⟨tm, df⟩ := a
                dsimp only at htm hdf
                subst htm hdf
                go_wp2
                have Hgs := Lib.hid (show gsC (d ++ [(y5, cl (clm rows k))]) = (List.range (k + 1)).map fun c => cl (clm rows c) by rw [cols_succ, ← HC0.out]; simp [gsC])
                have hGR5 := HGR.out.keepB (mid := wo.heap.size) ⟨fun g hg => (HGo.out.up).1 g hg, fun x hx g hg => (HGo.out.up).2 x hx g hg⟩ (w' := w3) (fun j h1 h2 => hb5.2.2 j h2 (by omega))
                go_roundw
                case rel => exact ⟨k + 1, d ++ [(y5, cl (clm rows k))], _, cap5, by omega, by go_num, Lib.hid hP5, Lib.hid (by rw [List.length_append, Hd.out]; rfl), Hgs, Lib.hid hGR5, Lib.hid hG5, Lib.hid hb5.1, Nat.le_trans hLOw hb5.2.1⟩
                case measure => simp [intOf]; omega
            · have hkI : ¬ (k : Int) < (q0 : Int) := by omega
              have hkn : k = q0 := by omega
              have Hcs := Lib.hid (show gsC d = pofC rows by rw [HC0.out, hkn]; simp only [pofC, Hok.out, Hq0.out, if_true])
              have Hrs := Lib.hid (show gsC dR = pofR rows by rw [HGr.out]; simp only [pofR, Hok.out, if_true])
              have HPv : Hid (PcR wr w1.heap.size (.slice Av2 n cv2) (.slice Av k cv)) := Lib.hid (by rw [← HVR.out]; exact HPc.out)
              have c0 := HPv.out.c0
              have c1' := HPv.out.c1
              have hP2 := Lib.hid (HR1.out.below HR1.out.lt Hb.out)
              clear hkn
              go_wp2_with ((refine wpList_store_row rfl 25 _ _ rfl w.heap.size #[.slice Av2 n cv2, .slice Av k cv] rfl rfl 25 #[.slice none 0 0, .slice none 0 0] hP2.out (Hi.out _ _) rfl (Hone.out _ _ _ _ _ _) ?_))
              refine bodyPost_ret (v := .tuple #[.agg #[.slice Av2 n cv2, .slice Av k cv], .bool true]) (results_row_tmp13 (by rfl) _ _ w.heap.size 25 _ (0, 0) _ _ rfl rfl (setRow_heap _ _ _ _ _ _ hP2.out) Try.underlying25 rfl (Hi.out _ _)) rfl ?_
              have el1 : (pofR rows).length = n := by rw [← Hrs.out, cnt_len, Hdn.out]
              have el2 : (pofC rows).length = k := by rw [← Hcs.out, cnt_len, Hd.out]
              have hg1 := HGR.out
              have hg0 := HGo.out
              rw [HVR.out] at hg1 hg0
              have hoff : ∀ {lo : Nat} {v : Value} {d : List GV}, Gs wr lo v d → w.heap.size < lo → Gs (wr.setRow w.heap.size #[.slice Av2 n cv2, .slice Av k cv]) lo v d := fun hg hl => hg.off (row := some w.heap.size) grown_setRow13 (fun g hgg => by have := Option.some.inj hgg; omega)
              have hw1 := HR1.out.lt
              refine ⟨Av2, cv2, Av, cv, ?_, ⟨dR, d, wo.heap.size, Hrs.out, Hcs.out, ?_, ?_, ?_, ?_⟩, below_setRow13 (HB1.out.trans (Hb.out.mono HB1.out.size)) (Nat.le_refl _)⟩
              · rw [el1, el2, Hok.out]
              · rw [el1]; exact (hoff hg1 (by omega)).mono (by omega)
              · rw [el1]; exact hg0.up
              · rw [el2]; exact hoff HG.out (by omega)
              · omega
end Go.Proofs.Ytgeedgljabdllaa
set_option maxRecDepth 8000
namespace Go.Proofs.Ytgeedgljabdllaa
open Go.ChangeShapes Go.WideShapes Go.ChangeAt Go.RowKit
/-! the program's PictureOf. -/
set_option maxHeartbeats 1000000 in
theorem rowsValid_any (A : Option Addr) (n c B : Nat) (rows : List (List Bool)) (w : World) (h : Fns w B A n rows) :
    Calls Try.prog 52 #[.slice A n c] w fun e w' => e = .returned (.bool (pofB rows)) ∧ w = w' := by
  have Hl := Lib.hid h.len
  have hm := h.m
  have HE : Hid (pofB rows = ((inr (n : Int) 1 5 && inr ((gtl rows 0).length : Int) 1 5) && sameLen rows)) := Lib.hid (by simp only [pofB, Hl.out])
  cases h1 : inr (n : Int) 1 5
  · have Hno := Lib.hid (show pofB rows = false by rw [HE.out, h1]; rfl)
    go_enter Try.func52, Try.ntmps52
    go_wp2_with (go_at_call 80; refine (sideValid_any _ _).mono ?_; rintro e wq ⟨rfl, rfl⟩; rw [h1])
    go_ret
    exact ⟨by rw [Hno.out]; rfl, rfl⟩
  · obtain ⟨n1, n5⟩ := inr_t h1
    have hn0 : 0 < n := by omega
    have hn0I : (0 : Int) < (n : Int) := by omega
    have hm0 := h.ms 0 hn0
    obtain ⟨b0, off0, A0, c0, rfl, hb0r, hc0, _⟩ := h.r.at_ hn0
    obtain ⟨q0, hq0⟩ : ∃ q0, (gtl rows 0).length = q0 := ⟨_, rfl⟩
    rw [hq0] at hm0 hc0
    have hc00 : w.cell? ⟨b0, off0, none⟩ = some (.slice A0 q0 c0) := hc0
    clear hc0
    have Hq0 := Lib.hid hq0
    have HE2 : Hid (pofB rows = ((inr (n : Int) 1 5 && inr (q0 : Int) 1 5) && sameLen rows)) := Lib.hid (by rw [HE.out, hq0])
    clear hq0
    cases h2 : inr (q0 : Int) 1 5
    · have Hno := Lib.hid (show pofB rows = false by rw [HE2.out, h1, h2]; rfl)
      go_enter Try.func52, Try.ntmps52
      go_wp2_with (go_at_call 80; refine (sideValid_any _ _).mono ?_; rintro e wq ⟨rfl, rfl⟩; first | rw [h1] | rw [h2])
      go_ret
      exact ⟨by rw [Hno.out]; rfl, rfl⟩
    · have HE3 : Hid (pofB rows = sameLen rows) := Lib.hid (by rw [HE2.out, h1, h2]; rfl)
      go_enter Try.func52, Try.ntmps52
      go_wp2_with (go_at_call 80; refine (sideValid_any _ _).mono ?_; rintro e wq ⟨rfl, rfl⟩; first | rw [h1] | rw [h2])
      clear h1 h2
      go_loop [19] (fun i => ∃ k : Nat, k ≤ n ∧ i = .int .i64 k ∧ ∀ j, j < k → (gtl rows j).length = q0) (fun i => n - (intOf i).toNat)
      case atStart => exact ⟨0, Nat.zero_le _, rfl, fun j hj => by omega⟩
      case round =>
        obtain ⟨k, hk, rfl, hall⟩ := hrel
        have Hall := Lib.hid hall
        clear hall
        by_cases hlt : k < n
        · have hkI : (k : Int) < (n : Int) := by omega
          obtain ⟨b3, off3, A3, c3, e3, hbB3, hck, hr3⟩ := h.r.at_ hlt
          injection e3 with e3
          injection e3 with e3a e3b _
          subst e3a e3b
          have hms := h.ms k hlt
          obtain ⟨qk, hqk⟩ : ∃ qk, (gtl rows k).length = qk := ⟨_, rfl⟩
          rw [hqk] at hck hms
          have Hqk := Lib.hid hqk
          clear hqk hr3
          by_cases hq : qk = q0
          · have hne : ((qk : Int) != (q0 : Int)) = false := by simp [hq]
            have Hq := Lib.hid hq
            clear hq
            go_wp2
            go_round
            case rel => exact ⟨k + 1, by omega, by go_num, fun j hj => by
              by_cases e : j = k
              · subst e; rw [Hqk.out, Hq.out]
              · exact Hall.out j (by omega)⟩
            case measure => simp [intOf]; omega
          · have hne : ((qk : Int) != (q0 : Int)) = true := by simp; omega
            have Hno := Lib.hid (show pofB rows = false by
              rw [HE3.out]
              unfold sameLen
              rw [decide_eq_false_iff_not]
              intro hh
              exact hq (by rw [← Hqk.out, hh k (by rw [Hl.out]; exact hlt), Hq0.out]))
            clear hq
            go_wp2
            go_ret
            exact ⟨by rw [Hno.out]; rfl, rfl⟩
        · have Hok := Lib.hid (show pofB rows = true by
            rw [HE3.out]
            unfold sameLen
            rw [decide_eq_true_eq]
            intro j hj
            rw [Hall.out j (by rw [Hl.out] at hj; omega), Hq0.out])
          have hkI : ¬ (k : Int) < (n : Int) := by omega
          go_wp2
          go_ret
          exact ⟨by rw [Hok.out]; rfl, rfl⟩
set_option maxHeartbeats 4000000 in
theorem implPictureOf (A : Option Addr) (n c B : Nat) (rows : List (List Bool)) (w : World) (h : Fns w B A n rows) (hB : B ≤ w.heap.size) :
    Calls Try.prog 19 #[.slice A n c] w (RetPic w (pofR rows) (pofC rows) (pofB rows)) := by
  have Hl := Lib.hid h.len
  have hm := h.m
  have Hone := Lib.hid pic_one
  have Hi := Lib.hid pic_info
  have hr0 := PcR.new w (.slice none 0 0) (.slice none 0 0)
  have hb0 : Below w.heap.size w (w.alloc (.cells #[.slice none 0 0, .slice none 0 0] 25)) := (Below.refl _ _).alloc (Nat.le_refl _) _
  have HV := Lib.hid (rowsValid_any A n c B rows _ (h.below (hb0.mono hB)))
  have HF := Lib.hid h
  clear h
  cases hok : pofB rows
  · rw [hok] at HV
    have Hok := Lib.hid hok
    clear hok
    go_enter Try.func19, Try.ntmps19
    go_wp2_with (first
      | (go_at_call 52; refine HV.out.mono ?_; rintro e wq ⟨rfl, rfl⟩)
      | (refine wpList_store_row rfl 25 _ _ rfl w.heap.size #[.slice none 0 0, .slice none 0 0] rfl rfl 25 #[.slice none 0 0, .slice none 0 0] hr0 (Hi.out _ _) rfl (Hone.out _ _ _ _ _ _) ?_))
    have hN := retPic_no Hok.out (below_setRow13 (cs := #[.slice none 0 0, .slice none 0 0]) hb0 (Nat.le_refl _))
    rw [Hok.out] at hN
    exact bodyPost_ret (v := .tuple #[.agg #[.slice none 0 0, .slice none 0 0], .bool false]) (results_row_tmp13 (by rfl) _ _ w.heap.size 25 _ (0, 0) _ _ rfl rfl (setRow_heap _ _ _ _ _ _ hr0) Try.underlying25 rfl (Hi.out _ _)) rfl hN
  · rw [hok] at HV
    have Hok := Lib.hid hok
    have hp := hok
    unfold pofB at hp
    rw [Bool.and_eq_true, Bool.and_eq_true, Hl.out] at hp
    obtain ⟨n1, n5⟩ := inr_t hp.1.1
    have hs := hp.2
    unfold sameLen at hs
    rw [decide_eq_true_eq, Hl.out] at hs
    obtain ⟨q0, hq0⟩ : ∃ q0, (gtl rows 0).length = q0 := ⟨_, rfl⟩
    have hq1 := inr_t hp.1.2
    rw [hq0] at hq1 hs
    have hq5 : q0 ≤ 5 := by omega
    have hn5 : n ≤ 5 := by omega
    have hn0 : 0 < n := by omega
    have hn0I : (0 : Int) < (n : Int) := by omega
    have Hrow : Hid (∀ j, j < n → (gtl rows j).length = q0) := Lib.hid hs
    have Hq0 := Lib.hid hq0
    obtain ⟨b0, off0, A0, c0, rfl, hb0r, hc0, _⟩ := HF.out.r.at_ hn0
    rw [hq0] at hc0
    have hb0w : b0 < w.heap.size := Nat.lt_of_lt_of_le hb0r hB
    have Hc0 := Lib.hid hc0
    clear hok hp hs hq0 hq1 hc0
    go_enter Try.func19, Try.ntmps19
    go_wp2_with (go_at_call 52; refine HV.out.mono ?_; rintro e wq ⟨rfl, rfl⟩)
    have hr1 : PcR ((w.alloc (.cells #[.slice none 0 0, .slice none 0 0] 25)).alloc (.cells #[.slice none 0 0, .slice none 0 0] 25)) w.heap.size (.slice none 0 0) (.slice none 0 0) := hr0.below hr0.lt ((Below.refl _ _).alloc (Nat.le_refl _) _)
    have hPn := PcR.new (w.alloc (.cells #[.slice none 0 0, .slice none 0 0] 25)) (.slice none 0 0) (.slice none 0 0)
    rw [World.size_alloc] at hPn
    have hb2 : Below w.heap.size w ((w.alloc (.cells #[.slice none 0 0, .slice none 0 0] 25)).alloc (.cells #[.slice none 0 0, .slice none 0 0] 25)) := hb0.alloc hb0.size _
    have HR1 := Lib.hid hr1
    have HPn := Lib.hid hPn
    have Hb2i := Lib.hid hb2
    have hs2 : ((w.alloc (.cells #[.slice none 0 0, .slice none 0 0] 25)).alloc (.cells #[.slice none 0 0, .slice none 0 0] 25)).heap.size = w.heap.size + 1 + 1 := by simp
    clear hr0 hr1 hPn hb2 hb0
    go_loopw [17] (fun i wr => ∃ (k : Nat) (d : List GV) (Av : Option Addr) (cv : Nat), k ≤ n ∧ i = .int .i64 k ∧ Hid (PcR wr (w.heap.size + 1) (.slice Av k cv) (.slice none 0 0)) ∧ Hid (PcR wr w.heap.size (.slice none 0 0) (.slice none 0 0)) ∧ Hid (d.length = k) ∧ Hid (gsC d = (rows.take k).map cl) ∧ Hid (Gs wr (w.heap.size + 1 + 1) (.slice Av k cv) d) ∧ Hid (Below w.heap.size w wr) ∧ w.heap.size + 1 + 1 ≤ wr.heap.size) (fun i _ => n - (intOf i).toNat)
    case atStart => exact ⟨0, [], none, 0, Nat.zero_le _, rfl, HPn, HR1, Lib.hid rfl, Lib.hid rfl, Lib.hid Gs.nil_, Hb2i, by rw [hs2]; exact Nat.le_refl _⟩
    case round =>
      obtain ⟨k, d, Av, cv, hk, rfl, HPc, HRr, Hd, HC0, HG, Hb, hLOw⟩ := hrel
      have hc0r := (Hb.out.cell (p := ⟨b0, off0, none⟩) hb0w).trans Hc0.out
      by_cases hlt : k < n
      · have hkI : (k : Int) < (n : Int) := by omega
        have hk40 : k ≤ 1099511627776 := by omega
        obtain ⟨b3, off3, A3, c3, e3, hbB3, hck3, hr3⟩ := HF.out.r.at_ hlt
        injection e3 with e3
        injection e3 with e3a e3b _
        subst e3a e3b
        rw [Hrow.out k hlt] at hck3 hr3
        have hckw := (Hb.out.cell (p := ⟨b0, off0 + k, none⟩) hb0w).trans hck3
        have HC : Hid (∀ W, Below wr.heap.size wr W → Calls Try.prog 53 #[.slice A3 q0 c3] W fun e w' => ∃ A c, e = .returned (.slice A (cl (gtl rows k)).length c) ∧ Ow w' W.heap.size A (cl (gtl rows k)).length c (cl (gtl rows k)) ∧ Below W.heap.size W w') := Lib.hid fun W hW => by
          have h8 : (gtl rows k).length ≤ 8 := by rw [Hrow.out k hlt]; omega
          have hbW : Below w.heap.size w W := Hb.out.trans (hW.mono Hb.out.size)
          have := implClueOf A3 q0 c3 B (gtl rows k) W (hr3.below (hbW.mono hB)) (Nat.le_trans hB hbW.size) (by omega)
          rw [clueL_cl h8] at this
          exact this
        clear hck3 hr3
        go_wp2_with fail
        clear hckw hc0r
        refine wp_region_fld1 [21, 22, 23, 24, 25, 26, 27] [(0, 21, .pointer (some ⟨w.heap.size + 1, 0, none⟩), 9), (1, 22, .slice Av k cv, 2), (2, 23, .slice A3 q0 c3, 0), (6, 27, .pointer (some ⟨w.heap.size + 1, 0, none⟩), 3)] 3 4 5 7 22 24 25 26 (by kernel_rfl) (by kernel_rfl) (by simp) (by decide) (by simp) (by simp) (by simp) (by simp) (by decide) ?hall ?hrng
          w wr w.heap.size (w.heap.size + 1 + 1) (w.heap.size + 1) 0 k cv (cl (gtl rows k)).length (.slice Av k cv) (.slice none 0 0) Av d (cl (gtl rows k)) 53 #[.slice A3 q0 c3] (Below.refl _ _) Hb.out (Nat.le_succ _) (Nat.lt_succ_self _) hLOw (by omega) HPc.out HG.out Hd.out rfl hk40 ?hpure ?hcall HC.out ?hbs ?hap ?hst ?hwait ?hchain ?hfin
        case hall =>
          intro i hi
          have hi' : i < 8 := hi
          have : i = 0 ∨ i = 1 ∨ i = 2 ∨ i = 3 ∨ i = 4 ∨ i = 5 ∨ i = 6 ∨ i = 7 := by omega
          rcases this with rfl | rfl | rfl | rfl | rfl | rfl | rfl | rfl <;> simp
        case hrng =>
          intro y hy
          simp only [List.mem_cons, List.not_mem_nil, or_false] at hy
          rcases hy with rfl | rfl | rfl | rfl <;> (show _ < _; simp)
        case hpure =>
          intro x hx o ho a w3 hoff hpr hH
          simp only [List.mem_cons, List.not_mem_nil, or_false] at hx
          rcases hx with rfl | rfl | rfl | rfl
          · simp only [List.getElem?_toArray, List.getElem?_cons_zero, Option.some.injEq] at ho
            subst ho
            refine ⟨rfl, ?_⟩
            have p : a.eval (.tmp 4) = .pointer (some ⟨w.heap.size + 1, 0, none⟩) := hoff 4 (by decide)
            unfold execOp
            simp only [p]
            go_simp
          · simp only [List.getElem?_toArray, List.getElem?_cons_zero, List.getElem?_cons_succ, Option.some.injEq] at ho
            subst ho
            refine ⟨rfl, ?_⟩
            have p := hpr (0, 21, .pointer (some ⟨w.heap.size + 1, 0, none⟩), 9) (by simp) ⟨0, .data⟩ (by simp) rfl rfl
            have hc := ((hH (by simp)).cell (p := ⟨w.heap.size + 1, 0, none⟩) HPc.out.lt).trans HPc.out.c0
            unfold execOp
            simp only [p]
            go_simp
          · simp only [List.getElem?_toArray, List.getElem?_cons_zero, List.getElem?_cons_succ, Option.some.injEq] at ho
            subst ho
            refine ⟨rfl, ?_⟩
            have p : a.eval (.tmp 6) = .slice A3 q0 c3 := hoff 6 (by decide)
            unfold execOp
            simp only [p]
            go_simp
          · simp only [List.getElem?_toArray, List.getElem?_cons_zero, List.getElem?_cons_succ, Option.some.injEq] at ho
            subst ho
            refine ⟨rfl, ?_⟩
            have p : a.eval (.tmp 4) = .pointer (some ⟨w.heap.size + 1, 0, none⟩) := hoff 4 (by decide)
            unfold execOp
            simp only [p]
            go_simp
        case hcall =>
          intro o ho a w3 hoff hpr
          simp only [List.getElem?_toArray, List.getElem?_cons_zero, List.getElem?_cons_succ, Option.some.injEq] at ho
          subst ho
          refine ⟨rfl, ?_⟩
          have p := hpr (2, 23, .slice A3 q0 c3, 0) (by simp) ⟨2, .data⟩ (by simp) rfl rfl
          have p' : a.tmps[23]?.getD undef = .slice A3 q0 c3 := by rw [← Array.getD_eq_getD_getElem?]; exact p
          unfold execOp
          go_simp
        case hbs =>
          intro o ho a w3 A3 c3 e
          simp only [List.getElem?_toArray, List.getElem?_cons_zero, List.getElem?_cons_succ, Option.some.injEq] at ho
          subst ho
          have e' : a.tmps[24]?.getD undef = .slice A3 (cl (gtl rows k)).length c3 := by rw [← Array.getD_eq_getD_getElem?]; exact e
          refine ⟨rfl, ?_⟩
          unfold execOp
          go_simp
        case hap =>
          intro o ho
          simp only [List.getElem?_toArray, List.getElem?_cons_zero, List.getElem?_cons_succ, Option.some.injEq] at ho
          subst ho
          exact ⟨rfl, rfl, (1, 22, .slice Av k cv, 2), by simp, rfl, rfl, ⟨1, .data⟩, by simp, rfl, rfl⟩
        case hst =>
          intro o ho a w3 hpr hcs hfz
          simp only [List.getElem?_toArray, List.getElem?_cons_zero, List.getElem?_cons_succ, Option.some.injEq] at ho
          subst ho
          refine ⟨rfl, fun A3 n3 c3 e => ?_⟩
          obtain ⟨v3, hv3⟩ := Option.isSome_iff_exists.1 hcs
          have p := hpr (6, 27, .pointer (some ⟨w.heap.size + 1, 0, none⟩), 3) (by simp) ⟨6, .data⟩ (by simp) rfl rfl
          have e' : a.tmps[26]?.getD undef = .slice A3 n3 c3 := by rw [← Array.getD_eq_getD_getElem?]; exact e
          unfold execOp
          simp only [p, e]
          go_simp
        case hwait =>
          intro x hx hlt o ho
          simp only [List.mem_cons, List.not_mem_nil, or_false] at hx
          rcases hx with rfl | rfl | rfl | rfl
          · exact absurd hlt (by simp)
          · simp only [actAt, List.getD_cons_zero, List.getD_cons_succ] at ho
            simp only [List.getElem?_toArray, List.getElem?_cons_zero, List.getElem?_cons_succ, Option.some.injEq] at ho
            subst ho
            exact ⟨⟨1, .data⟩, by simp, rfl, rfl⟩
          · simp only [actAt, List.getD_cons_zero] at ho
            simp only [List.getElem?_toArray, List.getElem?_cons_zero, List.getElem?_cons_succ, Option.some.injEq] at ho
            subst ho
            exact ⟨⟨2, .data⟩, by simp, rfl, rfl⟩
          · simp only [actAt, List.getD_cons_zero, List.getD_cons_succ] at ho
            simp only [List.getElem?_toArray, List.getElem?_cons_zero, List.getElem?_cons_succ, Option.some.injEq] at ho
            subst ho
            exact ⟨⟨6, .data⟩, by simp, rfl, rfl⟩
        case hchain =>
          intro j hj o ho
          have : j = 0 ∨ j = 1 ∨ j = 2 := by omega
          rcases this with rfl | rfl | rfl
          · simp only [actAt, List.getD_cons_zero, List.getD_cons_succ] at ho ⊢
            simp only [List.getElem?_toArray, List.getElem?_cons_zero, List.getElem?_cons_succ, Option.some.injEq] at ho
            subst ho
            exact ⟨⟨3, .data⟩, by simp, rfl, rfl⟩
          · simp only [actAt, List.getD_cons_zero, List.getD_cons_succ] at ho ⊢
            simp only [List.getElem?_toArray, List.getElem?_cons_zero, List.getElem?_cons_succ, Option.some.injEq] at ho
            subst ho
            exact ⟨⟨4, .data⟩, by simp, rfl, rfl⟩
          · simp only [actAt, List.getD_cons_zero, List.getD_cons_succ] at ho ⊢
            simp only [List.getElem?_toArray, List.getElem?_cons_zero, List.getElem?_cons_succ, Option.some.injEq] at ho
            subst ho
            exact ⟨⟨5, .data⟩, by simp, rfl, rfl⟩
        case hfin =>
          intro a w3 hdf htm hF
          obtain ⟨g5, cap5, y5, hP5, hG5, hb5⟩ := hF
          obtain ⟨v21, r21⟩ : ∃ v, a.tmps.getD 21 undef = v := ⟨_, rfl⟩
          obtain ⟨v22, r22⟩ : ∃ v, a.tmps.getD 22 undef = v := ⟨_, rfl⟩
          obtain ⟨v23, r23⟩ : ∃ v, a.tmps.getD 23 undef = v := ⟨_, rfl⟩
          obtain ⟨v24, r24⟩ : ∃ v, a.tmps.getD 24 undef = v := ⟨_, rfl⟩
          obtain ⟨v25, r25⟩ : ∃ v, a.tmps.getD 25 undef = v := ⟨_, rfl⟩
          obtain ⟨v26, r26⟩ : ∃ v, a.tmps.getD 26 undef = v := ⟨_, rfl⟩
          obtain ⟨v27, r27⟩ : ∃ v, a.tmps.getD 27 undef = v := ⟨_, rfl⟩
          simp only [List.foldl_cons, List.foldl_nil, r21, r22, r23, r24, r25, r26, r27, List.setIfInBounds_toArray, List.set_cons_succ, List.set_cons_zero] at htm
          clear r21 r22 r23 r24 r25 r26 r27
          obtain ⟨tm, df⟩ := a
          dsimp only at htm hdf
          subst htm hdf
          go_wp2
          have Hgs := Lib.hid (show gsC (d ++ [(y5, cl (gtl rows k))]) = (rows.take (k + 1)).map cl by rw [map_take_succ (by rw [Hl.out]; exact hlt), ← HC0.out]; simp [gsC])
          have hsz5 := hP5.lt
          have HR5 : Hid (PcR w3 w.heap.size (.slice none 0 0) (.slice none 0 0)) := Lib.hid ((hb5.2.2 w.heap.size (by omega) (by omega)).trans HRr.out)
          go_roundw
          case rel => exact ⟨k + 1, d ++ [(y5, cl (gtl rows k))], _, cap5, by omega, by go_num, Lib.hid hP5, HR5, Lib.hid (by rw [List.length_append, Hd.out]; rfl), Hgs, Lib.hid hG5, Lib.hid hb5.1, hsz5⟩
          case measure => simp [intOf]; omega
      · have hkI : ¬ (k : Int) < (n : Int) := by omega
        have hkn : k = n := by omega
        have HGr : Hid (gsC d = rows.map cl) := Lib.hid (by rw [HC0.out, hkn, List.take_of_length_le (by rw [Hl.out]; exact Nat.le_refl _)])
        have Hdn : Hid (d.length = n) := Lib.hid (by rw [Hd.out, hkn])
        obtain ⟨VR, hVR⟩ : ∃ VR, VR = Value.slice Av k cv := ⟨_, rfl⟩
        rw [← hVR] at HPc HG
        obtain ⟨Av2, hAv2⟩ : ∃ Av2, Av2 = Av := ⟨_, rfl⟩
        obtain ⟨cv2, hcv2⟩ : ∃ cv2, cv2 = cv := ⟨_, rfl⟩
        have HVR : Hid (VR = Value.slice Av2 n cv2) := Lib.hid (by rw [hVR, hkn, hAv2, hcv2])
        clear hAv2 hcv2
        obtain ⟨wo, hwo⟩ : ∃ wo : World, wo = wr := ⟨_, rfl⟩
        have HPo : Hid (PcR wo (w.heap.size + 1) VR (.slice none 0 0)) := by rw [hwo]; exact HPc
        have HRo : Hid (PcR wo w.heap.size (.slice none 0 0) (.slice none 0 0)) := by rw [hwo]; exact HRr
        have HGo : Hid (Gs wo (w.heap.size + 1 + 1) VR d) := by rw [hwo]; exact HG
        have Hbo : Hid (Below w.heap.size w wo) := by rw [hwo]; exact Hb
        have hLOo : w.heap.size + 1 + 1 ≤ wo.heap.size := by rw [hwo]; exact hLOw
        obtain ⟨dR, hdR⟩ : ∃ dR, dR = d := ⟨_, rfl⟩
        rw [← hdR] at HGo HGr Hdn
        clear hdR HPc HG Hb hLOw Hd HC0 hVR hkn hk HPn HR1 HRr Hb2i hs2
        go_wp2
        rw [← hwo]
        clear hwo hc0r
        go_loopw [33] (fun i wr => ∃ (k : Nat) (d : List GV) (Av : Option Addr) (cv : Nat), k ≤ q0 ∧ i = .int .i64 k ∧ Hid (PcR wr (w.heap.size + 1) VR (.slice Av k cv)) ∧ Hid (PcR wr w.heap.size (.slice none 0 0) (.slice none 0 0)) ∧ Hid (d.length = k) ∧ Hid (gsC d = (List.range k).map fun c => cl (clm rows c)) ∧ Hid (Gs wr (w.heap.size + 1 + 1) VR dR) ∧ Hid (Gs wr wo.heap.size (.slice Av k cv) d) ∧ Hid (Below w.heap.size w wr) ∧ wo.heap.size ≤ wr.heap.size) (fun i _ => q0 - (intOf i).toNat)
        case atStart => exact ⟨0, [], none, 0, Nat.zero_le _, rfl, HPo, HRo, Lib.hid rfl, Lib.hid rfl, HGo, Lib.hid Gs.nil_, Hbo, Nat.le_refl _⟩
        case round =>
          obtain ⟨k, d, Av, cv, hk, rfl, HPc0, HRr, Hd, HC0, HGR, HG0, Hb, hLOw⟩ := hrel
          by_cases hlt : k < q0
          · have hkI : (k : Int) < (q0 : Int) := by omega
            have hk40 : k ≤ 1099511627776 := by omega
            have hbL : w.heap.size + 1 < wo.heap.size := hLOo
            obtain ⟨wk, hwk⟩ : ∃ wk : World, wk = wr := ⟨_, rfl⟩
            have Hbk : Hid (Below w.heap.size w wk) := by rw [hwk]; exact Hb
            have hLOk : wo.heap.size ≤ wk.heap.size := by rw [hwk]; exact hLOw
            have HPk : Hid (PcR wk (w.heap.size + 1) VR (.slice Av k cv)) := by rw [hwk]; exact HPc0
            have HRk : Hid (PcR wk w.heap.size (.slice none 0 0) (.slice none 0 0)) := by rw [hwk]; exact HRr
            have HGRk : Hid (Gs wk (w.heap.size + 1 + 1) VR dR) := by rw [hwk]; exact HGR
            have HGk : Hid (Gs wk wo.heap.size (.slice Av k cv) d) := by rw [hwk]; exact HG0
            clear Hb hLOw HPc0 HRr HGR HG0
            go_wp2
            rw [← hwk]
            clear hwk
            go_loopw [8, 38] (fun v i wl => ∃ (j : Nat) (Ac : Option Addr) (cc : Nat), j ≤ n ∧ i = .int .i64 j ∧ v = .slice Ac j cc ∧ Hid (OwF wl wk.heap.size Ac j cc (clmT rows k j)) ∧ Hid (Below wk.heap.size wk wl)) (fun _ i _ => n - (intOf i).toNat)
            case atStart => exact ⟨0, none, 0, Nat.zero_le _, rfl, rfl, Lib.hid (OwF.nil_ _ _), Lib.hid (Below.refl _ _)⟩
            case round =>
              obtain ⟨j, Ac, cc, hj, rfl, rfl, Ho, Hbl⟩ := hrel
              obtain ⟨wl, hwl⟩ : ∃ wl : World, wl = wr := ⟨_, rfl⟩
              rw [← hwl] at Ho Hbl ⊢
              clear hwl
              have HbW : Hid (Below w.heap.size w wl) := Lib.hid (Hbk.out.trans (Hbl.out.mono Hbk.out.size))
              by_cases hjl : j < n
              · have hjI : (j : Int) < (n : Int) := by omega
                obtain ⟨b3, off3, A3, c3, e3, hbB3, hck3, hr3⟩ := HF.out.r.at_ hjl
                injection e3 with e3
                injection e3 with e3a e3b _
                subst e3a e3b
                rw [Hrow.out j hjl] at hck3 hr3
                have hckw := (HbW.out.cell (p := ⟨b0, off0 + j, none⟩) hb0w).trans hck3
                obtain ⟨b4, off4, rfl, hbB4, hcc4⟩ := (hr3.below (HbW.out.mono hB)).at_ hlt
                obtain ⟨v, hv⟩ : ∃ v, nb (gtl rows j) k = v := ⟨_, rfl⟩
                rw [hv] at hcc4
                have HS := Lib.hid (clmT_succ rows k j)
                have Hv := Lib.hid hv
                have hj40 : j ≤ 1099511627776 := by omega
                have hszl := Hbl.out.size
                clear hck3 hr3 hv
                go_wp2_with (at_builtin; (refine push_flag rfl (.tmp 42) (.tmp 47) rfl wk.heap.size Ac j cc (clmT rows k j) v rfl rfl Ho.out hj40 hszl ?_); intro A5 c5 w5 ho5 hg5)
                have hb5 := push_belowF Hbl.out Ho.out (Nat.le_refl _) hszl hg5
                go_roundw
                case rel => exact ⟨j + 1, A5, c5, by omega, by go_num, rfl, Lib.hid (by rw [HS.out, Hv.out]; exact ho5), Lib.hid hb5⟩
                case measure => simp [intOf]; omega
              · have hjI : ¬ (j : Int) < (n : Int) := by omega
                have hjn : j = n := by omega
                have Hcl : Hid (OwF wl wk.heap.size Ac j cc (clm rows k)) := Lib.hid (by
                  have := Ho.out
                  rwa [show clmT rows k j = clm rows k by rw [hjn, ← Hl.out, clmT_all]] at this)
                obtain ⟨AL, hAL⟩ : ∃ AL, AL = Ac := ⟨_, rfl⟩
                obtain ⟨cL, hcL⟩ : ∃ cL, cL = cc := ⟨_, rfl⟩
                rw [← hAL, ← hcL] at Hcl ⊢
                have HPc : Hid (PcR wl (w.heap.size + 1) VR (.slice Av k cv)) := Lib.hid (HPk.out.below HPk.out.lt Hbl.out)
                have HRl : Hid (PcR wl w.heap.size (.slice none 0 0) (.slice none 0 0)) := Lib.hid (HRk.out.below HRk.out.lt Hbl.out)
                have HGRl : Hid (Gs wl (w.heap.size + 1 + 1) VR dR) := Lib.hid (HGRk.out.below Hbl.out)
                have HG : Hid (Gs wl wo.heap.size (.slice Av k cv) d) := Lib.hid (HGk.out.below Hbl.out)
                have Hb2 := HbW
                have hLO2 : wo.heap.size ≤ wl.heap.size := Nat.le_trans hLOk Hbl.out.size
                have HC : Hid (∀ W, Below wl.heap.size wl W → Calls Try.prog 53 #[.slice AL j cL] W fun e w' => ∃ A c, e = .returned (.slice A (cl (clm rows k)).length c) ∧ Ow w' W.heap.size A (cl (clm rows k)).length c (cl (clm rows k)) ∧ Below W.heap.size W w') := Lib.hid fun W hW => by
                  have := implClueOf AL j cL W.heap.size (clm rows k) W (Hcl.out.below hW).rd (Nat.le_refl _) (by omega)
                  rw [clueL_cl (by rw [clm_length, Hl.out]; omega)] at this
                  exact this
                have hjn2 := Lib.hid hjn
                clear hjn hAL hcL hj Ho
                go_wp2_with fail
                refine wp_region_fld1 [50, 51, 52, 53, 54, 55, 56] [(0, 50, .pointer (some ⟨w.heap.size + 1, 1, none⟩), 9), (1, 51, .slice Av k cv, 2), (2, 52, .slice AL j cL, 0), (6, 56, .pointer (some ⟨w.heap.size + 1, 1, none⟩), 3)] 3 4 5 7 51 53 54 55 (by kernel_rfl) (by kernel_rfl) (by simp) (by decide) (by simp) (by simp) (by simp) (by simp) (by decide) ?hall ?hrng
                  w wl w.heap.size wo.heap.size (w.heap.size + 1) 1 k cv (cl (clm rows k)).length VR (.slice Av k cv) Av d (cl (clm rows k)) 53 #[.slice AL j cL] (Below.refl _ _) Hb2.out (Nat.le_succ _) hbL hLO2 (by omega) HPc.out HG.out Hd.out rfl hk40 ?hpure ?hcall HC.out ?hbs ?hap ?hst ?hwait ?hchain ?hfin
                case hall =>
                  intro i hi
                  have hi' : i < 8 := hi
                  have : i = 0 ∨ i = 1 ∨ i = 2 ∨ i = 3 ∨ i = 4 ∨ i = 5 ∨ i = 6 ∨ i = 7 := by omega
                  rcases this with rfl | rfl | rfl | rfl | rfl | rfl | rfl | rfl <;> simp
                case hrng =>
                  intro y hy
                  simp only [List.mem_cons, List.not_mem_nil, or_false] at hy
                  rcases hy with rfl | rfl | rfl | rfl <;> (show _ < _; simp)
                case hpure =>
                  intro x hx o ho a w3 hoff hpr hH
                  simp only [List.mem_cons, List.not_mem_nil, or_false] at hx
                  rcases hx with rfl | rfl | rfl | rfl
                  · simp only [List.getElem?_toArray, List.getElem?_cons_zero, Option.some.injEq] at ho
                    subst ho
                    refine ⟨rfl, ?_⟩
                    have p : a.eval (.tmp 4) = .pointer (some ⟨w.heap.size + 1, 0, none⟩) := hoff 4 (by decide)
                    unfold execOp
                    simp only [p]
                    go_simp
                  · simp only [List.getElem?_toArray, List.getElem?_cons_zero, List.getElem?_cons_succ, Option.some.injEq] at ho
                    subst ho
                    refine ⟨rfl, ?_⟩
                    have p := hpr (0, 50, .pointer (some ⟨w.heap.size + 1, 1, none⟩), 9) (by simp) ⟨0, .data⟩ (by simp) rfl rfl
                    have hc := ((hH (by simp)).cell (p := ⟨w.heap.size + 1, 1, none⟩) HPc.out.lt).trans HPc.out.c1
                    unfold execOp
                    simp only [p]
                    go_simp
                  · simp only [List.getElem?_toArray, List.getElem?_cons_zero, List.getElem?_cons_succ, Option.some.injEq] at ho
                    subst ho
                    refine ⟨rfl, ?_⟩
                    have p : a.eval (.tmp 8) = .slice AL j cL := hoff 8 (by decide)
                    unfold execOp
                    simp only [p]
                    go_simp
                  · simp only [List.getElem?_toArray, List.getElem?_cons_zero, List.getElem?_cons_succ, Option.some.injEq] at ho
                    subst ho
                    refine ⟨rfl, ?_⟩
                    have p : a.eval (.tmp 4) = .pointer (some ⟨w.heap.size + 1, 0, none⟩) := hoff 4 (by decide)
                    unfold execOp
                    simp only [p]
                    go_simp
                case hcall =>
                  intro o ho a w3 hoff hpr
                  simp only [List.getElem?_toArray, List.getElem?_cons_zero, List.getElem?_cons_succ, Option.some.injEq] at ho
                  subst ho
                  refine ⟨rfl, ?_⟩
                  have p := hpr (2, 52, .slice AL j cL, 0) (by simp) ⟨2, .data⟩ (by simp) rfl rfl
                  have p' : a.tmps[52]?.getD undef = .slice AL j cL := by rw [← Array.getD_eq_getD_getElem?]; exact p
                  unfold execOp
                  go_simp
                case hbs =>
                  intro o ho a w3 A3 c3 e
                  simp only [List.getElem?_toArray, List.getElem?_cons_zero, List.getElem?_cons_succ, Option.some.injEq] at ho
                  subst ho
                  have e' : a.tmps[53]?.getD undef = .slice A3 (cl (clm rows k)).length c3 := by rw [← Array.getD_eq_getD_getElem?]; exact e
                  refine ⟨rfl, ?_⟩
                  unfold execOp
                  go_simp
                case hap =>
                  intro o ho
                  simp only [List.getElem?_toArray, List.getElem?_cons_zero, List.getElem?_cons_succ, Option.some.injEq] at ho
                  subst ho
                  exact ⟨rfl, rfl, (1, 51, .slice Av k cv, 2), by simp, rfl, rfl, ⟨1, .data⟩, by simp, rfl, rfl⟩
                case hst =>
                  intro o ho a w3 hpr hcs hfz
                  simp only [List.getElem?_toArray, List.getElem?_cons_zero, List.getElem?_cons_succ, Option.some.injEq] at ho
                  subst ho
                  refine ⟨rfl, fun A3 n3 c3 e => ?_⟩
                  obtain ⟨v3, hv3⟩ := Option.isSome_iff_exists.1 hcs
                  have p := hpr (6, 56, .pointer (some ⟨w.heap.size + 1, 1, none⟩), 3) (by simp) ⟨6, .data⟩ (by simp) rfl rfl
                  have e' : a.tmps[55]?.getD undef = .slice A3 n3 c3 := by rw [← Array.getD_eq_getD_getElem?]; exact e
                  unfold execOp
                  simp only [p, e]
                  go_simp
                case hwait =>
                  intro x hx hlt o ho
                  simp only [List.mem_cons, List.not_mem_nil, or_false] at hx
                  rcases hx with rfl | rfl | rfl | rfl
                  · exact absurd hlt (by simp)
                  · simp only [actAt, List.getD_cons_zero, List.getD_cons_succ] at ho
                    simp only [List.getElem?_toArray, List.getElem?_cons_zero, List.getElem?_cons_succ, Option.some.injEq] at ho
                    subst ho
                    exact ⟨⟨1, .data⟩, by simp, rfl, rfl⟩
                  · simp only [actAt, List.getD_cons_zero] at ho
                    simp only [List.getElem?_toArray, List.getElem?_cons_zero, List.getElem?_cons_succ, Option.some.injEq] at ho
                    subst ho
                    exact ⟨⟨2, .data⟩, by simp, rfl, rfl⟩
                  · simp only [actAt, List.getD_cons_zero, List.getD_cons_succ] at ho
                    simp only [List.getElem?_toArray, List.getElem?_cons_zero, List.getElem?_cons_succ, Option.some.injEq] at ho
                    subst ho
                    exact ⟨⟨6, .data⟩, by simp, rfl, rfl⟩
                case hchain =>
                  intro j hj o ho
                  have : j = 0 ∨ j = 1 ∨ j = 2 := by omega
                  rcases this with rfl | rfl | rfl
                  · simp only [actAt, List.getD_cons_zero, List.getD_cons_succ] at ho ⊢
                    simp only [List.getElem?_toArray, List.getElem?_cons_zero, List.getElem?_cons_succ, Option.some.injEq] at ho
                    subst ho
                    exact ⟨⟨3, .data⟩, by simp, rfl, rfl⟩
                  · simp only [actAt, List.getD_cons_zero, List.getD_cons_succ] at ho ⊢
                    simp only [List.getElem?_toArray, List.getElem?_cons_zero, List.getElem?_cons_succ, Option.some.injEq] at ho
                    subst ho
                    exact ⟨⟨4, .data⟩, by simp, rfl, rfl⟩
                  · simp only [actAt, List.getD_cons_zero, List.getD_cons_succ] at ho ⊢
                    simp only [List.getElem?_toArray, List.getElem?_cons_zero, List.getElem?_cons_succ, Option.some.injEq] at ho
                    subst ho
                    exact ⟨⟨5, .data⟩, by simp, rfl, rfl⟩
                case hfin =>
                  intro a w3 hdf htm hF
                  obtain ⟨g5, cap5, y5, hP5, hG5, hb5⟩ := hF
                  obtain ⟨v50, r50⟩ : ∃ v, a.tmps.getD 50 undef = v := ⟨_, rfl⟩
                  obtain ⟨v51, r51⟩ : ∃ v, a.tmps.getD 51 undef = v := ⟨_, rfl⟩
                  obtain ⟨v52, r52⟩ : ∃ v, a.tmps.getD 52 undef = v := ⟨_, rfl⟩
                  obtain ⟨v53, r53⟩ : ∃ v, a.tmps.getD 53 undef = v := ⟨_, rfl⟩
                  obtain ⟨v54, r54⟩ : ∃ v, a.tmps.getD 54 undef = v := ⟨_, rfl⟩
                  obtain ⟨v55, r55⟩ : ∃ v, a.tmps.getD 55 undef = v := ⟨_, rfl⟩
                  obtain ⟨v56, r56⟩ : ∃ v, a.tmps.getD 56 undef = v := ⟨_, rfl⟩
                  simp only [List.foldl_cons, List.foldl_nil, r50, r51, r52, r53, r54, r55, r56, List.setIfInBounds_toArray, List.set_cons_succ, List.set_cons_zero] at htm
                  clear r50 r51 r52 r53 r54 r55 r56
                  obtain ⟨tm, df⟩ := a
                  dsimp only at htm hdf
                  subst htm hdf
                  go_wp2
                  have Hgs := Lib.hid (show gsC (d ++ [(y5, cl (clm rows k))]) = (List.range (k + 1)).map fun c => cl (clm rows c) by rw [cols_succ, ← HC0.out]; simp [gsC])
                  have hGR5 := HGRl.out.keepB (mid := wo.heap.size) ⟨fun g hg => (HGo.out.up).1 g hg, fun x hx g hg => (HGo.out.up).2 x hx g hg⟩ (w' := w3) (fun j h1 h2 => hb5.2.2 j h2 (by omega))
                  have HR5 : Hid (PcR w3 w.heap.size (.slice none 0 0) (.slice none 0 0)) := Lib.hid ((hb5.2.2 w.heap.size (by omega) (by omega)).trans HRl.out)
                  go_roundw
                  case rel => exact ⟨k + 1, d ++ [(y5, cl (clm rows k))], _, cap5, by omega, by go_num, Lib.hid hP5, HR5, Lib.hid (by rw [List.length_append, Hd.out]; rfl), Hgs, Lib.hid hGR5, Lib.hid hG5, Lib.hid hb5.1, Nat.le_trans hLO2 hb5.2.1⟩
                  case measure => simp [intOf]; omega
          · have hkI : ¬ (k : Int) < (q0 : Int) := by omega
            have hkn : k = q0 := by omega
            have Hcs := Lib.hid (show gsC d = pofC rows by rw [HC0.out, hkn]; simp only [pofC, Hok.out, Hq0.out, if_true])
            have Hrs := Lib.hid (show gsC dR = pofR rows by rw [HGr.out]; simp only [pofR, Hok.out, if_true])
            have HPv : Hid (PcR wr (w.heap.size + 1) (.slice Av2 n cv2) (.slice Av k cv)) := Lib.hid (by rw [← HVR.out]; exact HPc0.out)
            have c0' := HPv.out.c0
            have c1' := HPv.out.c1
            clear hkn
            go_wp2_with ((refine wpList_store_row rfl 25 _ _ rfl w.heap.size #[.slice Av2 n cv2, .slice Av k cv] rfl rfl 25 #[.slice none 0 0, .slice none 0 0] HRr.out (Hi.out _ _) rfl (Hone.out _ _ _ _ _ _) ?_))
            refine bodyPost_ret (v := .tuple #[.agg #[.slice Av2 n cv2, .slice Av k cv], .bool true]) (results_row_tmp13 (by rfl) _ _ w.heap.size 25 _ (0, 0) _ _ rfl rfl (setRow_heap _ _ _ _ _ _ HRr.out) Try.underlying25 rfl (Hi.out _ _)) rfl ?_
            have el1 : (pofR rows).length = n := by rw [← Hrs.out, cnt_len, Hdn.out]
            have el2 : (pofC rows).length = k := by rw [← Hcs.out, cnt_len, Hd.out]
            have hg1 := HGR.out
            have hg0 := HGo.out
            rw [HVR.out] at hg1 hg0
            have hoff : ∀ {lo : Nat} {v : Value} {d : List GV}, Gs wr lo v d → w.heap.size < lo → Gs (wr.setRow w.heap.size #[.slice Av2 n cv2, .slice Av k cv]) lo v d := fun hg hl => hg.off (row := some w.heap.size) grown_setRow13 (fun g hgg => by have := Option.some.inj hgg; omega)
            refine ⟨Av2, cv2, Av, cv, ?_, ⟨dR, d, wo.heap.size, Hrs.out, Hcs.out, ?_, ?_, ?_, ?_⟩, below_setRow13 Hb.out (Nat.le_refl _)⟩
            · rw [el1, el2]
            · rw [el1]; exact (hoff hg1 (by omega)).mono (by omega)
            · rw [el1]; exact hg0.up
            · rw [el2]; exact hoff HG0.out (by omega)
            · omega
end Go.Proofs.Ytgeedgljabdllaa
