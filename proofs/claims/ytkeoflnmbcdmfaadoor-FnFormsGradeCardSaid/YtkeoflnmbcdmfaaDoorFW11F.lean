import Derived.Test.YtkeoflnmbcdmfaaDoorFFg
import Derived.Test.YtkeoflnmbcdmfaaDoorPk
import Derived.Deep.RegionWith
import Derived.Sort.LotA
import Derived.Shelf.Abstract
import Derived.Deep.CutRange
import Derived.Test.YtkeoflnmbcdmfaaDoorDrawL
set_option maxRecDepth 8000
namespace Go.Proofs.YtkeoflnmbcdmfaaDoor
open Go.ChangeShapes Go.WideShapes Go.ChangeAt Go.RowKit
/-! the program's forms. -/
/-- the numbers of the cells. -/
def cNs (n : Nat) : List Int := mapTo (fun j => ((j : Nat) : Int)) n
theorem cNs_len (n : Nat) : (cNs n).length = n := mapTo_length _ _
theorem cNs_nth {n k : Nat} (h : k < n) : nth (cNs n) k = (k : Int) := mapTo_nth h
theorem frm_bq {s : Int} {n : Nat} {xs : List Int} {b q : Nat} (hb : b < 2) (hq : q < 4) : frm s n xs (4 * b + q) = trn s n (if b = 0 then xs else pm xs (mirIx s) n) q := by
  unfold frm
  by_cases h : b = 0
  · subst h; rw [if_pos (by omega), if_pos rfl, show 4 * 0 + q = q by omega]
  · rw [if_neg (by omega), if_neg h, show 4 * b + q - 4 = q by omega]
theorem pks_frm {s n : Nat} {xs : List Int} (hs : s ∈ [2, 3, 4]) (hn : n = s * s) (hl : xs.length = n) {k : Nat} (hk : k < 8) : pks xs (frm s n (cNs n) k) n = frm s n xs k := by
  rw [frm_pm hs hn hl hk, frm_pm hs hn (cNs_len n) hk]
  apply ext_nth (by rw [pks_length, pm_length])
  intro j hj
  rw [pks_length] at hj
  have hlt : tix s k j < n := by rw [hn] at hj ⊢; exact tix_lt s hs k hk j hj
  rw [pks_nth hj, pm_nth hj, pm_nth hj, cNs_nth hlt, Int.toNat_natCast]
theorem frm_cells {s n : Nat} (hs : s ∈ [2, 3, 4]) (hn : n = s * s) {k : Nat} (hk : k < 8) : ∀ j, j < n → 0 ≤ nth (frm s n (cNs n) k) j ∧ nth (frm s n (cNs n) k) j < n := fun j hj => by
  have hlt : tix s k j < n := by rw [hn] at hj ⊢; exact tix_lt s hs k hk j hj
  rw [frm_pm hs hn (cNs_len n) hk, pm_nth hj, cNs_nth hlt]
  omega
/-- what lies in a block stays away from the elements. -/
def Away (d : List GV) (v : Value) : Prop := ∀ y ∈ d, ∀ g, y.1.ownBlock = some g → v.ownBlock ≠ some g
set_option maxHeartbeats 4000000 in
theorem formCells_any (s n : Nat) (w : World) (hs : s ∈ [2, 3, 4]) (hn : n = s * s) :
    Calls Tryd.prog 106 #[.int .i64 s] w (RetGs w ((List.range 8).map (frm s n (cNs n)))) := by
  obtain ⟨i0, hi, hz0, hz1, hz2⟩ := info_parts int_info
  have h4 : 2 ≤ s ∧ s ≤ 4 := by simp at hs; omega
  obtain ⟨h2, h4⟩ := h4
  have hn16 : n ≤ 16 := by subst hn; exact Nat.le_trans (Nat.mul_le_mul h4 h4) (by omega)
  have hn4 : 4 ≤ n := by subst hn; exact Nat.le_trans (by omega) (Nat.mul_le_mul h2 h2)
  have hnI : (s : Int) * (s : Int) = (n : Int) := by rw [hn]; simp
  have e1 : IntKind.i64.wrap ((s : Int) * (s : Int)) = (n : Int) := by rw [hnI]; exact IntWalk.i64_in _ (by omega)
  have e2 : wrap64 ((s : Int) * (s : Int)) = (n : Int) := by rw [hnI]; exact IntWalk.wrap64_in _ ⟨by omega, by omega⟩
  have Hn2 := Lib.hid hnI.symm
  have Hn := Lib.hid hn
  clear hnI hn
  go_enter Tryd.func106, Tryd.ntmps106
  go_wp2_with (refine wpList_make_full _ rfl (.tmp 10) (.tmp 10) 23 rfl w.heap.size 3 i0 (.int .i64 0) 1 Tryd.underlying23 hi hz0 hz1 .i64 .i64 n n n rfl rfl rfl rfl (by rw [hz2]; omega) (by simp only [maxLen]; omega) (Nat.le_refl _) ?_; intro w1 hown hgr)
  have hb1 : Below w.heap.size w w1 := made_below hgr (Nat.le_refl _)
  have ho1 := made_part (cNs n) hown
  have hg1 : w.heap.size < w1.heap.size := (World.ownsRow.lt ho1 w.heap.size (by simp [Value.ownBlock])).2
  obtain ⟨G, hG⟩ : ∃ G, G = w1.heap.size := ⟨_, rfl⟩
  obtain ⟨W, hW⟩ : ∃ W, W = w1.alloc (.cells #[.slice (some ⟨w.heap.size, 0, none⟩) n n, .int .i64 s] 76) := ⟨_, rfl⟩
  have c0 : W.cell? ⟨G, 0, none⟩ = some (.slice (some ⟨w.heap.size, 0, none⟩) n n) := by rw [hW, hG]; exact cell_of_row _ _ 0 _ _ (0, 0) (heap_alloc_new w1 _)
  have c1 : W.cell? ⟨G, 1, none⟩ = some (.int .i64 s) := by rw [hW, hG]; exact cell_of_row _ _ 1 _ _ (0, 0) (heap_alloc_new w1 _)
  have hbW : Below w.heap.size w W := by rw [hW]; exact hb1.alloc hb1.size _
  have hoW : Ow W w.heap.size (some ⟨w.heap.size, 0, none⟩) n n (part (cNs n) 0 n) := by rw [hW]; exact World.ownsRow.alloc ho1 _
  have hGW : G < W.heap.size := by rw [hW, hG]; simp
  have hGw : w.heap.size < G := by omega
  rw [← hG, ← hW]
  clear hown hgr hz0 hz1 hz2 hi e1 e2 hG hW hb1 ho1 hg1
  go_wp2
  go_loopw [17] (fun i wr => ∃ k : Nat, k ≤ n ∧ i = .int .i64 k ∧ Ow wr w.heap.size (some ⟨w.heap.size, 0, none⟩) n n (part (cNs n) k n) ∧ wr.cell? ⟨G, 0, none⟩ = some (.slice (some ⟨w.heap.size, 0, none⟩) n n) ∧ wr.cell? ⟨G, 1, none⟩ = some (.int .i64 s) ∧ G < wr.heap.size ∧ Below w.heap.size w wr) (fun i _ => n - (intOf i).toNat)
  case atStart => exact ⟨0, Nat.zero_le _, rfl, hoW, c0, c1, hGW, hbW⟩
  case round =>
    obtain ⟨k, hk, rfl, ho, c0, c1, hGr, hb⟩ := hrel
    by_cases hlt : k < n
    · obtain ⟨hold, hfr⟩ := ho.cell hlt
      have hltI : (k : Int) < (n : Int) := by omega
      have hst := (World.ownsRow.stored ho k (.int .i64 (nth (cNs n) k))).1
      rw [part_set, cNs_nth hlt] at hst
      have hne : (⟨w.heap.size, k, none⟩ : Addr).block ≠ G := by show w.heap.size ≠ G; omega
      have c0' : (wr.setCell ⟨w.heap.size, k, none⟩ (.int .i64 (k : Int))).cell? ⟨G, 0, none⟩ = some (.slice (some ⟨w.heap.size, 0, none⟩) n n) := by
        rw [World.cell?_setCell_other _ _ _ _ (by simp <;> omega)]; exact c0
      have c1' : (wr.setCell ⟨w.heap.size, k, none⟩ (.int .i64 (k : Int))).cell? ⟨G, 1, none⟩ = some (.int .i64 s) := by
        rw [World.cell?_setCell_other _ _ _ _ (by simp <;> omega)]; exact c1
      have Hst := Lib.hid hst; have C0 := Lib.hid c0'; have C1 := Lib.hid c1'
      clear hst c0' c1' hne
      go_wp2
      go_roundw
      case rel => exact ⟨k + 1, by omega, by go_num, Hst.out, C0.out, C1.out, by simpa using hGr, hb.setCell (Nat.le_refl _) _⟩
      case measure => simp [intOf]; omega
    · obtain rfl : n = k := by omega
      rw [part_all' (cNs_len n)] at ho
      have HM := Lib.hid (fun W (hW : Below wr.heap.size wr W) => show Calls Tryd.prog 122 #[.agg #[.slice (some ⟨w.heap.size, 0, none⟩) n n, .int .i64 s]] W (RetN W n (pm (cNs n) (mirIx s) n)) from (implMirrored (some ⟨w.heap.size, 0, none⟩) n n wr.heap.size (cNs n) s W (ho.rd.below hW) hW.size (by omega) (by omega) Hn2).mono fun e w' h => retN_of h (mapTo_length _ _))
      have hO := Lib.hid ho
      clear ho hoW hbW hGW
      go_wp2_with fail
      go_region_with (go_at_call 122; refine (HM.out _ (by first | exact Below.refl _ _ | exact (Below.refl _ _).drew)).mono ?_; rintro e w2 ⟨A1, c1m, rfl, ho2, hb2⟩; have d0 : w2.cell? ⟨G, 0, none⟩ = some (.slice (some ⟨w.heap.size, 0, none⟩) n n) := (hb2.cell (p := ⟨G, 0, none⟩) hGr).trans c0; have d1 : w2.cell? ⟨G, 1, none⟩ = some (.int .i64 s) := (hb2.cell (p := ⟨G, 1, none⟩) hGr).trans c1)
      all_goals
        have hb2' : Below wr.heap.size wr w2 := of_drew_below hb2
        have ho2' : Ow w2 wr.heap.size A1 n c1m (pm (cNs n) (mirIx s) n) := ho2
        obtain ⟨T, hT⟩ : ∃ T, T = w2.alloc (.cells #[.slice (some ⟨w.heap.size, 0, none⟩) n n, .slice A1 n c1m] 23) := ⟨_, rfl⟩
        obtain ⟨R, hR⟩ : ∃ R, R = w2.heap.size := ⟨_, rfl⟩
        have r0 : T.cell? ⟨R, 0, none⟩ = some (.slice (some ⟨w.heap.size, 0, none⟩) n n) := by rw [hT, hR]; exact cell_of_row _ _ 0 _ _ (0, 0) (heap_alloc_new w2 _)
        have r1 : T.cell? ⟨R, 1, none⟩ = some (.slice A1 n c1m) := by rw [hT, hR]; exact cell_of_row _ _ 1 _ _ (0, 0) (heap_alloc_new w2 _)
        have hRT : R < T.heap.size := by rw [hT, hR]; simp
        have hbT2 : Below w2.heap.size w2 T := by rw [hT]; exact (Below.refl _ _).alloc (Nat.le_refl _) _
        have hbT : Below w.heap.size w T := step (step hb hb2') hbT2
        have oN : Ow T w.heap.size (some ⟨w.heap.size, 0, none⟩) n n (cNs n) := (hO.out.below hb2').below hbT2
        have oM : Ow T wr.heap.size A1 n c1m (pm (cNs n) (mirIx s) n) := ho2'.below hbT2
        have hwr : w.heap.size < wr.heap.size := by omega
        have HA1 := Lib.hid (show (∀ g, (Value.slice A1 n c1m).ownBlock = some g → wr.heap.size ≤ g ∧ g < T.heap.size) from fun g hg => ⟨oM.own_lo g hg, oM.own_hi g hg⟩)
        have hlowT : wr.heap.size ≤ T.heap.size := Nat.le_trans hb2'.size hbT2.size
        obtain ⟨M0, hM0⟩ : ∃ M0, M0 = wr.heap.size := ⟨_, rfl⟩
        rw [← hM0] at oM hwr HA1 hlowT
        rw [← hR, ← hT]
        clear c0 c1 d0 d1 hT hR ho2 hb2 hb2' ho2' hbT2 hO HM hb
        have hwT : w.heap.size ≤ T.heap.size := by omega
        have hnT : w.heap.size < T.heap.size := by omega
        obtain ⟨H, hH⟩ : ∃ H, H = w.heap.size := ⟨_, rfl⟩
        rw [← hH] at r0 oN hnT hwr ⊢
        have HH := Lib.hid hH
        clear hH
        simp only [Act.put, List.getElem_toArray, List.getElem_cons_succ, List.getElem_cons_zero, List.setIfInBounds_toArray, List.set_cons_succ, List.set_cons_zero]
        go_wp2
        go_loopw [5, 32] (fun v i wx => ∃ (b : Nat) (d : List GV) (Av : Option Addr) (cv : Nat), b ≤ 2 ∧ i = .int .i64 b ∧ v = .slice Av (4 * b) cv ∧ d.length = 4 * b ∧ Hid (gsC d = (List.range (4 * b)).map (frm s n (cNs n))) ∧ Gs wx H (.slice Av (4 * b) cv) d ∧ Hid (∀ g, (Value.slice Av (4 * b) cv).ownBlock = some g → T.heap.size ≤ g) ∧ Hid (b = 0 → d = []) ∧ Hid (b = 1 → Away d (.slice A1 n c1m)) ∧ Below T.heap.size T wx) (fun _ i _ => 2 - (intOf i).toNat)
        case atStart => exact ⟨0, [], none, 0, by omega, rfl, rfl, rfl, Lib.hid rfl, Gs.nil_, Lib.hid (fun g hg => by simp [Value.ownBlock] at hg), Lib.hid (fun _ => rfl), Lib.hid (fun h => by omega), Below.refl _ _⟩
        case round =>
          obtain ⟨b, d, Av, cv, hb2, rfl, rfl, hdl, HC, hG, HV, H0, H1, hbx⟩ := hrel
          by_cases hlt2 : b < 2
          · have hlt2' : (b : Int) < 2 := by omega
            have hbase : ∃ Ab cb, T.cell? ⟨R, b, none⟩ = some (.slice Ab n cb) ∧ Ow T H Ab n cb (if b = 0 then cNs n else pm (cNs n) (mirIx s) n) ∧ Away d (.slice Ab n cb) ∧ (∀ g, (Value.slice Ab n cb).ownBlock = some g → g < T.heap.size ∧ (b = 0 → g < M0)) := by
              have : b = 0 ∨ b = 1 := by omega
              rcases this with rfl | rfl
              · exact ⟨_, _, r0, by rw [if_pos rfl]; exact oN, by rw [H0.out rfl]; intro y hy; simp at hy, fun g hg => by simp [Value.ownBlock] at hg; omega⟩
              · exact ⟨_, _, r1, by rw [if_neg (by omega)]; exact oM.mono (by omega), H1.out rfl, fun g hg => ⟨(HA1.out g hg).2, fun h => by omega⟩⟩
            obtain ⟨Ab, cb, rb, oB, hAw, hBl⟩ := hbase
            obtain ⟨Lb, hLb⟩ : ∃ Lb, Lb = if b = 0 then cNs n else pm (cNs n) (mirIx s) n := ⟨_, rfl⟩
            rw [← hLb] at oB
            have HL := Lib.hid (show ∀ q, q < 4 → frm s n (cNs n) (4 * b + q) = trn s n Lb q from fun q hq => by rw [hLb]; exact frm_bq hlt2 hq)
            have HLl := Lib.hid (show Lb.length = n by rw [hLb]; split; exact cNs_len n; exact pm_length _ _ _)
            have rbx := (hbx.cell (p := ⟨R, b, none⟩) hRT).trans rb
            have oBx := oB.below hbx
            have HT : Hid (∀ q W A' c', Rd W W.heap.size A' n (trn s n Lb q) → Calls Tryd.prog 123 #[.agg #[.slice A' n c', .int .i64 s]] W (RetN W n (trn s n Lb (q + 1)))) := Lib.hid fun q W A' c' hr =>
              (implTurned A' c' n W.heap.size (trn s n Lb q) s W hr (Nat.le_refl _) (by omega) (by omega) Hn2).mono fun e w' h => retN_of h (mapTo_length _ _)
            have HBl := Lib.hid hBl
            have HAw := Lib.hid hAw
            clear hLb rb oB hBl hAw
            go_wp2
            obtain ⟨wo, rfl⟩ : ∃ wo : World, wo = wr := ⟨_, rfl⟩
            go_loopw [5, 7, 36] (fun v x i wx => ∃ (q : Nat) (d : List GV) (Av : Option Addr) (cv : Nat) (A' : Option Addr) (c' : Nat), q ≤ 4 ∧ i = .int .i64 q ∧ v = .slice Av (4 * b + q) cv ∧ x = .slice A' n c' ∧ d.length = 4 * b + q ∧ Hid (gsC d = (List.range (4 * b + q)).map (frm s n (cNs n))) ∧ Gs wx H (.slice Av (4 * b + q) cv) d ∧ Hid (∀ g, (Value.slice Av (4 * b + q) cv).ownBlock = some g → T.heap.size ≤ g) ∧ Ow wx H A' n c' (trn s n Lb q) ∧ Hid (Away d (.slice A' n c') ∧ (∀ g, (Value.slice A' n c').ownBlock = some g → (Value.slice Av (4 * b + q) cv).ownBlock ≠ some g) ∧ (b = 0 → Away d (.slice A1 n c1m) ∧ ∀ g, (Value.slice A' n c').ownBlock = some g → (Value.slice A1 n c1m).ownBlock ≠ some g)) ∧ Below T.heap.size T wx) (fun _ _ i _ => 4 - (intOf i).toNat)
            case atStart =>
              refine ⟨0, d, Av, cv, Ab, cb, by omega, rfl, rfl, rfl, hdl, HC, hG, HV, oBx, Lib.hid ⟨HAw.out, fun g hg e => ?_, fun h0 => ⟨?_, fun g hg e => ?_⟩⟩, hbx⟩
              · have := HV.out g e
                have := (HBl.out g hg).1
                omega
              · rw [H0.out h0]; intro y hy; simp at hy
              · have := (HBl.out g hg).2 h0
                have := (HA1.out g e).1
                omega
            case round =>
              obtain ⟨q, d, Av, cv, A', c', hq, rfl, rfl, rfl, hdl, HC, hG, HV, ho, HS, hbx⟩ := hrel
              by_cases hlq : q < 4
              · have hlq' : (q : Int) < 4 := by omega
                have hl : (trn s n Lb q).length = n := trn_len HLl.out q
                have hvs := hG.1
                rw [hdl] at hvs
                have hHw := hbx.size
                have hk40 : 4 * b + q ≤ 1099511627776 := by omega
                have hHT : H ≤ wr.heap.size := by omega
                go_wp2_with (first
                  | (at_builtin; (refine push_sl rfl (.tmp 38) (.tmp 40) rfl H (.slice Av (4 * b + q) cv) (4 * b + q) (d.map Prod.fst) wr.heap.size A' n c' rfl rfl (World.ownsRow.alloc hvs _) (heap_alloc_new wr _) hk40 (by simp <;> omega) ?_); intro g5 cap5 w5 ho5 hg5 hl5; have ho5x := Ow.off (World.ownsRow.alloc ho (.cells #[.slice A' n c'] 23)) hg5 (fun g hg => HS.out.2.1 g hg))
                  | (go_at_call 123; refine (HT.out q _ _ _ ho5x.rd).mono ?_; rintro e w6 ⟨A6, c6, rfl, ho6, hb6⟩))
                have hP := Gs.push (xs := trn s n Lb q) (A3 := A') (c3 := c') (o := .cells #[.slice A' n c'] 23) (g' := g5) (cap := cap5) (w5 := w5) hG (by rw [hl]; exact ho) (Nat.le_refl _) (by rw [hl]; exact HS.out.1) (by rw [hl]; exact HS.out.2.1) (by rw [hl, hdl]; exact ho5) hg5 hl5
                rw [hl, hdl] at hP
                have hb5 : Below T.heap.size T w5 := (hbx.alloc hbx.size _).grown hg5 (by simp <;> omega) (fun g hg => HV.out g hg)
                have HV5 : ∀ g, (Value.slice (some ⟨g5, 0, none⟩) (4 * b + q + 1) cap5).ownBlock = some g → T.heap.size ≤ g := fun g hg => by
                  have e : g5 = g := by simpa [Value.ownBlock] using hg
                  subst e
                  rcases hl5 with h | h
                  · exact HV.out _ h
                  · rw [h]; simp; omega
                have HCn : gsC (d ++ [(.slice A' n c', trn s n Lb q)]) = (List.range (4 * b + (q + 1))).map (frm s n (cNs n)) := by
                  rw [show 4 * b + (q + 1) = 4 * b + q + 1 by omega, List.range_succ, List.map_append, ← HC.out]
                  simp [gsC, HL.out q hlq]
                have hs5 := hb5.size
                have HSn : Away (d ++ [(.slice A' n c', trn s n Lb q)]) (.slice A6 n c6) ∧ (∀ g, (Value.slice A6 n c6).ownBlock = some g → (Value.slice (some ⟨g5, 0, none⟩) (4 * b + q + 1) cap5).ownBlock ≠ some g) ∧ (b = 0 → Away (d ++ [(.slice A' n c', trn s n Lb q)]) (.slice A1 n c1m) ∧ ∀ g, (Value.slice A6 n c6).ownBlock = some g → (Value.slice A1 n c1m).ownBlock ≠ some g) := by
                  refine ⟨fun y hy g hg e => ?_, fun g hg e => ?_, fun h0 => ⟨fun y hy g hg => ?_, fun g hg e => ?_⟩⟩
                  · have := hP.hi hy g hg
                    have := ho6.own_lo g e
                    omega
                  · have := hP.vhi g e
                    have := ho6.own_lo g hg
                    omega
                  · rw [List.mem_append] at hy
                    rcases hy with hy | hy
                    · exact (HS.out.2.2 h0).1 y hy g hg
                    · simp only [List.mem_singleton] at hy
                      subst hy
                      exact (HS.out.2.2 h0).2 g hg
                  · have := ho6.own_lo g hg
                    have := (HA1.out g e).2
                    omega
                have HPn := Lib.hid hP
                have HCn' := Lib.hid HCn
                have HSn' := Lib.hid HSn
                have HV5' := Lib.hid HV5
                clear hP HCn HSn HV5 hvs
                go_roundw
                case rel => exact ⟨q + 1, _, _, _, A6, c6, by omega, by go_num, rfl, rfl, by simp [hdl]; omega, HCn', HPn.out.below hb6, HV5', ho6.mono (by omega), HSn', step hb5 hb6⟩
                case measure => simp [intOf]; omega
              · obtain rfl : q = 4 := by omega
                go_wp2
                go_roundw
                case rel => exact ⟨b + 1, d, Av, cv, by omega, by go_num, rfl, by omega, HC, hG, HV, Lib.hid (fun h => by omega), Lib.hid (fun h => (HS.out.2.2 (by omega)).1), hbx⟩
                case measure => simp [intOf]; omega
          · obtain rfl : b = 2 := by omega
            go_wp2
            go_ret
            rw [HH.out] at hG
            exact retGs_mk hdl HC.out hG (hbT.trans (hbx.mono hwT))
end Go.Proofs.YtkeoflnmbcdmfaaDoor
set_option maxRecDepth 8000
namespace Go.Proofs.YtkeoflnmbcdmfaaDoor
open Go.ChangeShapes Go.WideShapes Go.ChangeAt Go.RowKit Go.Shelf
/-! slices.SortFunc of eight slices by slices.Compare. -/
def sgn (a b : Int) : Int := if a < b then -1 else if b < a then 1 else 0
theorem insIn_go (lt : GV → GV → Bool) (j : Nat) (d : Array GV) (hl : lt d[j + 1]! d[j]! = true) : Sort.insInner lt 0 (j + 1) d = Sort.insInner lt 0 j (Sort.swp d (j + 1) j) := by
  rw [Sort.insInner]
  simp [hl]
theorem insIn_stop (lt : GV → GV → Bool) (j : Nat) (d : Array GV) (h : j ≤ 0 ∨ lt d[j]! d[j - 1]! = false) : Sort.insInner lt 0 j d = d := by
  cases j with
  | zero => rw [Sort.insInner]
  | succ k =>
    rw [Sort.insInner]
    simp only [Nat.add_sub_cancel] at h
    rcases h with h | h
    · omega
    · simp [h]
theorem insOut_go (lt : GV → GV → Bool) (i : Nat) (d : Array GV) (h : i < 8) : Sort.insOuter lt 0 8 i d = Sort.insOuter lt 0 8 (i + 1) (Sort.insInner lt 0 i d) := by rw [Sort.insOuter, if_pos h]
theorem insOut_stop (lt : GV → GV → Bool) (i : Nat) (d : Array GV) (h : ¬ i < 8) : Sort.insOuter lt 0 8 i d = d := by rw [Sort.insOuter, if_neg h]
/-- the order by which the program sorts. -/
def ltK (n : Nat) (x y : GV) : Bool := decide (keyT x.2 n < keyT y.2 n)
/-- what the sort does to the row in block g: nothing else is changed. -/
def SrtW (w wr : World) (lo g m cap : Nat) (dk : Array GV) : Prop := wr.ownsRow lo 23 1 (.slice (some ⟨g, 0, none⟩) m cap) m (dk.toList.map Prod.fst) ∧ w.grownBy wr (some g)
theorem SrtW.cell {w wr : World} {lo g m cap : Nat} {dk : Array GV} (h : SrtW w wr lo g m cap dk) (hs : dk.size = m) {k : Nat} (hk : k < m) : wr.cell? ⟨g, k, none⟩ = some (dk[k]!).1 ∧ wr.frozen? ⟨g, k, none⟩ = false := by
  refine ⟨?_, World.ownsRow.frozenAt h.1 k⟩
  have hkd : k < dk.size := by omega
  rw [World.ownsRow.cellAt h.1 k (by omega), List.getElem?_map, getElem!_pos dk k hkd]
  simp [hkd]
theorem SrtW.drewN {w wr : World} {lo g m cap : Nat} {dk : Array GV} (h : SrtW w wr lo g m cap dk) (q : Nat) : SrtW w (wr.drewN q) lo g m cap dk :=
  ⟨World.ownsRow.kept h.1 (row := none) ⟨rfl, rfl, rfl, Nat.le_refl _, fun _ _ _ => rfl⟩ (by simp [Value.ownBlock]), ⟨h.2.os, h.2.tape, h.2.output, h.2.size, h.2.block⟩⟩
theorem SrtW.swap {w wr : World} {lo g m cap : Nat} {dk : Array GV} (h : SrtW w wr lo g m cap dk) (i j : Nat) :
    SrtW w ((wr.setCell ⟨g, i, none⟩ (dk[j]!).1).setCell ⟨g, j, none⟩ (dk[i]!).1) lo g m cap (Sort.swp dk i j) := by
  obtain ⟨h1, h2⟩ := World.ownsRow.stored h.1 i (dk[j]!).1
  obtain ⟨h3, h4⟩ := World.ownsRow.stored h1 j (dk[i]!).1
  refine ⟨?_, (h.2.trans h2).trans h4⟩
  have e : ((dk.toList.map Prod.fst).set i (dk[j]!).1).set j (dk[i]!).1 = (Sort.swp dk i j).toList.map Prod.fst := by
    unfold Sort.swp
    simp only [Array.toList_setIfInBounds, List.map_set]
  rw [← e]
  exact h3
/-- what is known of the sorted row. -/
theorem ltK_swo (n : Nat) : Sort.SWO (ltK n) :=
  ⟨fun x => by simp [ltK], fun x y z h1 h2 => by simp only [ltK, decide_eq_true_eq] at *; omega, fun x y z h1 h2 => by simp only [ltK, decide_eq_false_iff_not] at *; omega⟩
theorem sorted_any (n : Nat) (d : Array GV) (hd8 : d.size = 8) : (Sort.insertionSort (ltK n) d 0 8).toList.Perm d.toList ∧ (Sort.insertionSort (ltK n) d 0 8).size = 8 ∧ ∀ i j, i < j → j < 8 → keyT ((Sort.insertionSort (ltK n) d 0 8)[i]!).2 n ≤ keyT ((Sort.insertionSort (ltK n) d 0 8)[j]!).2 n := by
  obtain ⟨⟨h1, _, h3⟩, h4⟩ := Sort.insertionSort_holds (lt := ltK n) (ltK_swo n) d 0 8 (by omega) (by omega)
  have hs : (Sort.insertionSort (ltK n) d 0 8).size = 8 := by rw [h1, hd8]
  have e : ∀ a : Array GV, a.size = 8 → a.extract 0 8 = a := fun a ha => by rw [← ha]; simp
  rw [e _ hs, e _ hd8] at h3
  refine ⟨h3, hs, fun i j hij hj => ?_⟩
  have := h4 i j (by omega) hij hj
  simp only [ltK, decide_eq_false_iff_not] at this
  omega
end Go.Proofs.YtkeoflnmbcdmfaaDoor
set_option maxRecDepth 8000
namespace Go.Proofs.YtkeoflnmbcdmfaaDoor
open Go.ChangeShapes Go.WideShapes Go.ChangeAt Go.RowKit
theorem Gs.made {w1 : World} {lo M : Nat} (h : w1.ownsRow lo 23 1 (.slice (some ⟨M, 0, none⟩) 8 8) 8 (madeCells (Value.slice none 0 0).cells (8 * 1)).toList) : Gs w1 lo (.slice (some ⟨M, 0, none⟩) 8 8) (List.replicate 8 (.slice none 0 0, [])) := by
  have h' := h
  rw [Nat.mul_one] at h'
  have e : (List.replicate 8 (Value.slice none 0 0, ([] : List Int))).map Prod.fst = List.replicate 8 (.slice none 0 0) := by rw [List.map_replicate]
  refine ⟨by rw [List.length_replicate, e, ← toList_madeCells_one]; exact h', fun x hx => ?_, ?_⟩
  · obtain rfl := List.eq_of_mem_replicate hx
    exact ⟨⟨none, 0, rfl, Ow.nil_ _ _⟩, fun g hg => by simp [Value.ownBlock] at hg⟩
  · rw [List.pairwise_iff_getElem]
    intro i j hi hj hij g hg
    rw [List.getElem_replicate] at hg
    simp [Value.ownBlock] at hg
theorem gat_made (j : Nat) : gat (gsC (List.replicate 8 (Value.slice none 0 0, []))) j = [] := by
  simp only [gat, gsC, List.map_replicate, List.getD_eq_getElem?_getD, List.getElem?_replicate]
  split <;> rfl
theorem cnt_ext {d : List GV} {f : Nat → List Int} (hd : d.length = 8) (h : ∀ j, j < 8 → gat (gsC d) j = f j) : gsC d = (List.range 8).map f := by
  apply List.ext_getElem (by rw [cnt_len, hd]; simp)
  intro i h1 h2
  rw [cnt_len, hd] at h1
  have := h i h1
  rw [gat_cnt (by omega)] at this
  simp [gsC, this]
set_option maxHeartbeats 2000000 in
theorem forms_any (A : Option Addr) (c n B : Nat) (xs : List Int) (s : Nat) (w : World) (h : Rd w B A n xs) (hB : B ≤ w.heap.size) (hs : s ∈ [2, 3, 4]) (hn : n = s * s) :
    Calls Tryd.prog 77 #[.agg #[.slice A n c, .int .i64 s]] w (RetGs w ((List.range 8).map (frm s n xs))) := by
  obtain ⟨i0, hi, hz0, hz1, hz2⟩ := info_parts sl_info
  have hs4 : 2 ≤ s ∧ s ≤ 4 := by simp at hs; omega
  have hn16 : n ≤ 16 := by subst hn; exact Nat.le_trans (Nat.mul_le_mul hs4.2 hs4.2) (by omega)
  have hlen := Lib.hid h.1
  obtain ⟨W0, hW0⟩ : ∃ W0, w.alloc (.cells #[.slice A n c, .int .i64 s] 76) = W0 := ⟨_, rfl⟩
  have c0 : W0.cell? ⟨w.heap.size, 0, none⟩ = some (.slice A n c) := by rw [← hW0]; exact cell_of_row _ _ 0 _ _ (0, 0) (heap_alloc_new w _)
  have c1 : W0.cell? ⟨w.heap.size, 1, none⟩ = some (.int .i64 s) := by rw [← hW0]; exact cell_of_row _ _ 1 _ _ (0, 0) (heap_alloc_new w _)
  have hb0 : Below w.heap.size w W0 := by rw [← hW0]; exact (Below.refl _ _).alloc (Nat.le_refl _) _
  have hs0 : w.heap.size < W0.heap.size := by rw [← hW0]; simp
  have HF := Lib.hid (formCells_any s n W0 hs hn)
  have HP : Hid (∀ (k : Nat) (W : World) (A3 : Option Addr) (c3 : Nat), k < 8 → Below w.heap.size w W → Rd W W.heap.size A3 n (frm s n (cNs n) k) → Calls Tryd.prog 107 #[.slice A n c, .slice A3 n c3] W (RetN W n (frm s n xs k))) := Lib.hid fun k W A3 c3 hk hW hr => by
    refine (implPick A c n B xs A3 c3 n W.heap.size (frm s n (cNs n) k) W (h.below (hW.mono hB)) hr (Nat.le_trans hB hW.size) (Nat.le_refl _) (by omega) (frm_cells hs hn hk)).mono fun e w' hh => ?_
    rw [pks_frm hs hn hlen.out hk] at hh
    exact retN_of hh (frm_len hlen.out k)
  have Hl := Lib.hid (fun k => frm_len (s := (s : Int)) (cNs_len n) k)
  have HW0 := Lib.hid hW0
  clear hW0 hn hs
  go_enter Tryd.func77, Tryd.ntmps77
  go_wp2_with fail
  rw [HW0.out]
  go_wp2_with (first
    | (go_at_call 106; refine HF.out.mono ?_; rintro e w1 ⟨A1, c1m, d, rfl, hd, hG, hb1⟩; rw [List.length_map, List.length_range] at hG ⊢; have hlo1 := Nat.le_trans hb0.size hb1.size)
    | (refine wpList_make_full _ rfl (.tmp 11) (.tmp 11) 51 rfl w.heap.size 23 i0 (.slice none 0 0) 1 Tryd.underlying51 hi hz0 hz1 .i64 .i64 8 8 8 rfl rfl rfl rfl (by rw [hz2]; omega) (by simp [maxLen]) hlo1 ?_; intro w2 hown hgr))
  have hdl : d.length = 8 := by rw [← cnt_len, hd]; simp
  obtain ⟨M, hM⟩ : ∃ M, M = w1.heap.size := ⟨_, rfl⟩
  rw [← hM] at hown ⊢
  have hG2 := Gs.made hown
  have hb2 : Below M w1 w2 := by rw [hM]; exact made_below hgr (Nat.le_refl _)
  have hc0 := (hb1.cell (p := ⟨w.heap.size, 0, none⟩) hs0).trans c0
  have hcM : w.heap.size < M := by rw [hM]; exact Nat.lt_of_lt_of_le hs0 hb1.size
  have HC := Lib.hid hd
  have hbw1 : Below w.heap.size w w1 := hb0.trans (hb1.mono hb0.size)
  have HMe := Lib.hid hM
  clear hown hgr hz0 hz1 hz2 hi hd c0 c1 HF HW0 hM
  go_wp2
  go_loopw [15] (fun i wr => ∃ (k : Nat) (d' : List GV), k ≤ 8 ∧ i = .int .i64 k ∧ d'.length = 8 ∧ Hid (∀ j, j < 8 → gat (gsC d') j = if j < k then frm s n xs j else []) ∧ Gs wr w.heap.size (.slice (some ⟨M, 0, none⟩) 8 8) d' ∧ Below M w1 wr) (fun i _ => 8 - (intOf i).toNat)
  case atStart => exact ⟨0, _, by omega, rfl, by simp, Lib.hid (fun j hj => by rw [if_neg (by omega)]; exact gat_made j), hG2, hb2⟩
  case round =>
    obtain ⟨k, d', hk, rfl, hdl', HK, hGr, hbr⟩ := hrel
    have hbw : Below w.heap.size w wr := hbw1.trans (hbr.mono (by omega))
    by_cases hlt : k < 8
    · have hlt' : (k : Int) < 8 := by omega
      have hGt : Gs wr W0.heap.size (.slice A1 8 c1m) d := hG.below (by rw [← HMe.out]; exact hbr)
      obtain ⟨g, A3, c3, rfl, -, -, hgw, hck, hfk, ho3, -, -⟩ := hGt.at_ (show k < d.length by omega)
      rw [HC.out, gat_map hlt, Hl.out] at hck ho3
      obtain ⟨gM, A4, c4, hgM, -, -, hgMw, hold, hfr, -, -, -⟩ := hGr.at_ (show k < d'.length by omega)
      injection hgM with hgM
      injection hgM with hgM
      subst hgM
      have hcb := (hbr.cell (p := ⟨w.heap.size, 0, none⟩) hcM).trans hc0
      have hcall := Lib.hid (HP.out k wr A3 c3 hlt hbw ho3.rd)
      have hGt' := Lib.hid hGt
      clear hGt
      go_wp2_with (go_at_call 107; refine hcall.out.mono ?_; rintro e w3 ⟨A5, c5, rfl, ho5, hb5⟩; have hold5 := (hb5.cell (p := ⟨M, k, none⟩) hgMw).trans hold; have hfr5 := (hb5.frozen (p := ⟨M, k, none⟩) hgMw).trans hfr)
      have hP := Gs.put (xs := frm s n xs k) (A3 := A5) (c3 := c5) (hGr.below hb5) (show k < d'.length by omega) (by rw [frm_len hlen.out]; exact ho5) hbw.size (by rw [frm_len hlen.out]; intro x hx b hb q; have := hGr.hi hx b hb; have := ho5.own_lo b q; omega) (by rw [frm_len hlen.out]; intro b hb e; have := ho5.own_lo b hb; omega)
      rw [frm_len hlen.out] at hP
      have hKn : ∀ j, j < 8 → gat (gsC (d'.set k (.slice A5 n c5, frm s n xs k))) j = if j < k + 1 then frm s n xs j else [] := fun j hj => by
        rw [cnt_set, gat_set (by rw [cnt_len]; omega), HK.out j hj]
        by_cases e : j = k
        · subst e; rw [if_pos rfl, if_pos (by omega)]
        · rw [if_neg e]
          by_cases e2 : j < k
          · rw [if_pos e2, if_pos (by omega)]
          · rw [if_neg e2, if_neg (by omega)]
      have HPn := Lib.hid hP
      have HKn := Lib.hid hKn
      have hbn : Below M w1 (w3.setCell ⟨M, k, none⟩ (.slice A5 n c5)) := (hbr.trans (hb5.mono (by have := hbr.size; have := HMe.out; omega))).setCell (Nat.le_refl _) _
      clear hP hKn
      go_roundw
      case rel => exact ⟨k + 1, _, by omega, by go_num, by simp [hdl'], HKn, HPn.out, hbn⟩
      case measure => simp [intOf]; omega
    · obtain rfl : k = 8 := by omega
      have hce := cnt_ext hdl' (fun j hj => by rw [HK.out j hj, if_pos hj])
      have HCE := Lib.hid hce
      clear hce
      go_wp2
      go_ret
      exact retGs_mk hdl' HCE.out hGr hbw
set_option maxHeartbeats 1000000 in
theorem implGridForms (A : Option Addr) (c n B : Nat) (xs : List Int) (size : Int) (w : World) (h : Rd w B A n xs) (hB : B ≤ w.heap.size) (hm : n ≤ 1099511627776) :
    Calls Tryd.prog 44 #[.slice A n c, .int .i64 size] w (RetGs w (gfL xs size n)) := by
  have hlen := Lib.hid h.1
  have h1 := h.alloc hB (.cells #[.slice A n c, .int .i64 size] 76)
  have hB0 : Below w.heap.size w (w.alloc (.cells #[.slice A n c, .int .i64 size] 76)) := (Below.refl _ _).alloc (Nat.le_refl _) _
  have hB1 := Nat.le_trans hB hB0.size
  cases hg : gv xs size
  · have HL := Lib.hid (gfL_f (n := n) hg)
    go_enter Tryd.func44, Tryd.ntmps44
    go_wp2_with (go_at_call 70; refine (implValid _ _ _ _ _ _ _ h1 hB1 hm).mono ?_; rintro e w1 ⟨rfl, hb1⟩; rw [hg])
    go_ret
    rw [HL.out]
    exact ⟨_, _, [], rfl, rfl, Gs.nil_, step hB0 hb1⟩
  · obtain ⟨s, rfl, hs, hls⟩ := size_nat hg
    have hn : n = s * s := by have := hlen.out; omega
    have HL := Lib.hid (gfL_t (n := n) hg)
    have HF := Lib.hid (fun W (hW : Below w.heap.size w W) => forms_any A c n B xs s W (h.below (hW.mono hB)) (Nat.le_trans hB hW.size) hs hn)
    clear hn
    go_enter Tryd.func44, Tryd.ntmps44
    go_wp2_with (go_at_call 70; refine (implValid _ _ _ _ _ _ _ h1 hB1 hm).mono ?_; rintro e w1 ⟨rfl, hb1⟩; rw [hg]; have hbox := box_cell hb1; have hB2 := step hB0 hb1)
    have c0 := hbox 0
    have c1 := hbox 1
    simp at c0 c1
    clear hbox
    go_wp2_with (go_at_call 77; refine (HF.out _ hB2).mono ?_; rintro e w2 ⟨A1, c1', d, rfl, hd, hG, hb2⟩; rw [List.length_map, List.length_range] at hG ⊢)
    go_ret
    rw [HL.out]
    have hdl : d.length = 8 := by rw [← cnt_len, hd]; simp
    exact retGs_mk hdl hd (hG.mono hB2.size) (step hB2 hb2)
end Go.Proofs.YtkeoflnmbcdmfaaDoor
set_option maxRecDepth 8000
namespace Go.Proofs.YtkeoflnmbcdmfaaDoor
open Go.ChangeShapes Go.WideShapes Go.ChangeAt Go.RowKit
set_option maxHeartbeats 4000000 in
theorem formsGrade_walk (A : Option Addr) (c n : Nat) (bs : List Int) (w : World) (h : Code_ w A n c bs) (hT : Tz w) :
    Calls Tryd.prog 15 #[.slice A n c] w fun e w' => e = .returned (.bool true) ∧ Below w.heap.size w w' := by
  by_cases hn : n ≤ 1048576
  · go_enter Tryd.func15, Tryd.ntmps15
    go_wp2_with fail
    refine (drawGridForms _ _ _ _ _ h).mono ?_
    rintro e w1 ⟨A1, n1, c1, xs, s, rfl, hr1, ⟨h16, hc1, hc2⟩, s0, s1, _, hb1⟩
    have hl := Lib.hid hr1.1
    have HTz := Lib.hid (fun w' (hb : Below w.heap.size w w') => hT.below hT.lt hb)
    cases hg : gv xs s
    · have HL := Lib.hid (gfL_f (n := n1) hg)
      go_wp2_with fail
      refine (implGridForms _ _ _ _ _ _ _ hr1 (Nat.le_refl _) (by omega)).mono ?_
      rintro e w2 ⟨A2, c2, d2, rfl, hd2, hG2, hb2⟩
      rw [HL.out, show ([] : List (List Int)).length = 0 from rfl]
      go_wp2_with fail
      refine (specGridForms _ _ _ _ _ _ _ (hr1.below hb2) hb2.size (by omega)).mono ?_
      rintro e w3 ⟨A3, c3, d3, rfl, hd3, hG3, hb3⟩
      rw [HL.out, show ([] : List (List Int)).length = 0 from rfl]
      go_wp2_with fail
      refine (alive_any _).mono ?_
      rintro e w5 ⟨rfl, hb5⟩
      go_wp2
      go_ret
      exact ⟨rfl, step (step (step hb1 hb2) hb3) hb5⟩
    · obtain ⟨t, rfl, hs, hls⟩ := size_nat hg
      have hnn : n1 = t * t := by have := hl.out; omega
      have HIm := Lib.hid (fun W (hr : Rd W w1.heap.size A1 n1 xs) (hB : w1.heap.size ≤ W.heap.size) => show Calls Tryd.prog 44 #[.slice A1 n1 c1, .int .i64 t] W (RetGs W ((List.range 8).map (frm t n1 xs))) from by
        have := implGridForms A1 c1 n1 w1.heap.size xs t W hr hB (by omega)
        rwa [gfL_t hg] at this)
      have HSp := Lib.hid (fun W (hr : Rd W w1.heap.size A1 n1 xs) (hB : w1.heap.size ≤ W.heap.size) => show Calls Tryd.prog 45 #[.slice A1 n1 c1, .int .i64 t] W (RetGs W ((List.range 8).map (frm t n1 xs))) from by
        have := specGridForms A1 c1 n1 w1.heap.size xs t W hr hB (by omega)
        rwa [gfL_t hg] at this)
      have Hl := Lib.hid (fun k => frm_len (s := (t : Int)) hl.out k)
      have HC := Lib.hid (fun (ys : List Int) (he : csI t n1 ys [] 600 = csI t n1 xs [] 600) A' c' B W (hr : Rd W B A' n1 ys) (hB : B ≤ W.heap.size) (hz : Tz W) => show Calls Tryd.prog 22 #[.agg #[.int .i64 t, .slice A' n1 c', .slice none 0 0], .int .i64 600] W (fun e w' => e = .returned (.int .i64 (csI t n1 xs [] 600)) ∧ Below W.heap.size W w') from by
        have := implCountSolutions t A' n1 c' B ys none 0 0 B [] 600 W ⟨hr, hB, by omega, ⟨rfl, fun h => absurd h (by omega)⟩, hB, by omega⟩ hz
        rwa [he] at this)
      have CX := Lib.hid (HC.out xs rfl)
      have C1 := Lib.hid (HC.out _ (form_count hs hnn hl.out hg (a := 1) (by omega)))
      have C4 := Lib.hid (HC.out _ (form_count hs hnn hl.out hg (a := 4) (by omega)))
      obtain ⟨q, hq⟩ : ∃ q, csI t n1 xs [] 600 = q := ⟨_, rfl⟩
      rw [hq] at CX C1 C4
      have hqq : (q == q) = true := by simp
      clear hnn HC hq
      go_wp2_with fail
      refine (HIm.out _ hr1 (Nat.le_refl _)).mono ?_
      rintro e w2 ⟨A2, c2, d2, rfl, hd2, hG2, hb2⟩
      rw [List.length_map, List.length_range] at hG2 ⊢
      have hdl2 : d2.length = 8 := by rw [← cnt_len, hd2]; simp
      go_wp2_with fail
      refine (HSp.out _ (hr1.below hb2) hb2.size).mono ?_
      rintro e w3 ⟨A3, c3, d3, rfl, hd3, hG3, hb3⟩
      rw [List.length_map, List.length_range] at hG3 ⊢
      obtain ⟨g1, A4, c4, rfl, -, -, hgw1, hck1, -, ho1, -, -⟩ := (hG2.below hb3).at_ (show 1 < d2.length by omega)
      obtain ⟨g2, A5, c5, hgg, -, -, -, hck4, -, ho4, -, -⟩ := (hG2.below hb3).at_ (show 4 < d2.length by omega)
      injection hgg with hgg
      injection hgg with hgg _ _
      subst hgg
      rw [hd2, gat_map (by omega), Hl.out] at hck1 ho1 hck4 ho4
      have h13 := step hb2 hb3
      have h03 := step hb1 h13
      have hr13 := hr1.below h13
      have h13s := h13.size
      clear hG2 hG3 hd2 hd3 HIm HSp
      have HO1 := Lib.hid (fun W (hW : Below w3.heap.size w3 W) => (ho1.below hW).rd)
      have HO4 := Lib.hid (fun W (hW : Below w3.heap.size w3 W) => (ho4.below hW).rd)
      have HOX := Lib.hid (fun W (hW : Below w3.heap.size w3 W) => hr13.below (hW.mono h13s))
      have HK1 := Lib.hid (fun W (hW : Below w3.heap.size w3 W) => (hW.cell (p := ⟨g1, 1, none⟩) hgw1).trans hck1)
      have HK4 := Lib.hid (fun W (hW : Below w3.heap.size w3 W) => (hW.cell (p := ⟨g1, 4, none⟩) hgw1).trans hck4)
      have HZ := Lib.hid (fun W (hW : Below w3.heap.size w3 W) => HTz.out _ (step h03 hW))
      clear ho1 ho4
      go_wp2_with fail
      refine (CX.out _ _ _ _ (HOX.out _ (Below.refl _ _)) h13s (HZ.out _ (Below.refl _ _))).mono ?_
      rintro e w4 ⟨rfl, hb4⟩
      have hk1 := HK1.out _ hb4
      go_wp2_with fail
      refine (C1.out _ _ _ _ (HO1.out _ hb4) (Nat.le_refl _) (HZ.out _ hb4)).mono ?_
      rintro e w5 ⟨rfl, hb5⟩
      have h35 := step hb4 hb5
      have hk4 := HK4.out _ h35
      go_wp2_with fail
      refine (C4.out _ _ _ _ (HO4.out _ h35) (Nat.le_refl _) (HZ.out _ h35)).mono ?_
      rintro e w6 ⟨rfl, hb6⟩
      go_wp2
      go_ret
      exact ⟨rfl, step (step h03 h35) hb6⟩
  · go_enter Tryd.func15, Tryd.ntmps15
    go_wp2
    go_ret
    exact ⟨rfl, Below.refl _ _⟩
end Go.Proofs.YtkeoflnmbcdmfaaDoor
