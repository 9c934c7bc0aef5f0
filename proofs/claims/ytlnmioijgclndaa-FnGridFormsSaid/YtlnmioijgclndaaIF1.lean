import Derived.Test.YtlnmioijgclndaaGs
import Derived.Test.YtlnmioijgclndaaPk
import Derived.Deep.RegionWith
set_option maxRecDepth 8000
namespace Go.Proofs.Ytlnmioijgclndaa
open Go.ChangeShapes Go.WideShapes Go.ChangeAt Go.RowKit
/-! the program's forms. -/
/-- the numbers of the cells. -/
def cNs (n : Nat) : List Int := mapTo (fun j => ((j : Nat) : Int)) n
theorem cNs_len (n : Nat) : (cNs n).length = n := mapTo_length _ _
theorem cNs_nth {n k : Nat} (h : k < n) : nth (cNs n) k = (k : Int) := mapTo_nth h
theorem frm_bq {s : Int} {n : Nat} {xs : List Int} {b q : Nat} (hb : b < 2) (hq : q < 4) : frm s n xs (4 * b + q) = trn s n (if b = 0 then xs else pm xs (mirIx s) n) q := by
  unfold frm
  by_cases h : b = 0
  · subst h; rw [if_pos (by omega), if_pos rfl, show 4 * 0 + q = q by omega]
  · rw [if_neg (by omega), if_neg h, show 4 * b + q - 4 = q by omega]
theorem pks_frm {s n : Nat} {xs : List Int} (hs : s ∈ [2, 3, 4]) (hn : n = s * s) (hl : xs.length = n) {k : Nat} (hk : k < 8) : pks xs (frm s n (cNs n) k) n = frm s n xs k := by
  rw [frm_pm hs hn hl hk, frm_pm hs hn (cNs_len n) hk]
  apply ext_nth (by rw [pks_length, pm_length])
  intro j hj
  rw [pks_length] at hj
  have hlt : tix s k j < n := by rw [hn] at hj ⊢; exact tix_lt s hs k hk j hj
  rw [pks_nth hj, pm_nth hj, pm_nth hj, cNs_nth hlt, Int.toNat_natCast]
theorem frm_cells {s n : Nat} (hs : s ∈ [2, 3, 4]) (hn : n = s * s) {k : Nat} (hk : k < 8) : ∀ j, j < n → 0 ≤ nth (frm s n (cNs n) k) j ∧ nth (frm s n (cNs n) k) j < n := fun j hj => by
  have hlt : tix s k j < n := by rw [hn] at hj ⊢; exact tix_lt s hs k hk j hj
  rw [frm_pm hs hn (cNs_len n) hk, pm_nth hj, cNs_nth hlt]
  omega
/-- what lies in a block stays away from the elements. -/
def Away (d : List GV) (v : Value) : Prop := ∀ y ∈ d, ∀ g, y.1.ownBlock = some g → v.ownBlock ≠ some g
set_option maxHeartbeats 4000000 in
theorem formCells_any (s n : Nat) (w : World) (hs : s ∈ [2, 3, 4]) (hn : n = s * s) :
    Calls Try.prog 79 #[.int .i64 s] w (RetGs w ((List.range 8).map (frm s n (cNs n)))) := by
  obtain ⟨i0, hi, hz0, hz1, hz2⟩ := info_parts int_info
  have h4 : 2 ≤ s ∧ s ≤ 4 := by simp at hs; omega
  obtain ⟨h2, h4⟩ := h4
  have hn16 : n ≤ 16 := by subst hn; exact Nat.le_trans (Nat.mul_le_mul h4 h4) (by omega)
  have hn4 : 4 ≤ n := by subst hn; exact Nat.le_trans (by omega) (Nat.mul_le_mul h2 h2)
  have hnI : (s : Int) * (s : Int) = (n : Int) := by rw [hn]; simp
  have e1 : IntKind.i64.wrap ((s : Int) * (s : Int)) = (n : Int) := by rw [hnI]; exact IntWalk.i64_in _ (by omega)
  have e2 : wrap64 ((s : Int) * (s : Int)) = (n : Int) := by rw [hnI]; exact IntWalk.wrap64_in _ ⟨by omega, by omega⟩
  have Hn2 := Lib.hid hnI.symm
  have Hn := Lib.hid hn
  clear hnI hn
  go_enter Try.func79, Try.ntmps79
  go_wp2_with (refine wpList_make_full _ rfl (.tmp 10) (.tmp 10) 23 rfl w.heap.size 3 i0 (.int .i64 0) 1 Try.underlying23 hi hz0 hz1 .i64 .i64 n n n rfl rfl rfl rfl (by rw [hz2]; omega) (by simp only [maxLen]; omega) (Nat.le_refl _) ?_; intro w1 hown hgr)
  have hb1 : Below w.heap.size w w1 := made_below hgr (Nat.le_refl _)
  have ho1 := made_part (cNs n) hown
  have hg1 : w.heap.size < w1.heap.size := (World.ownsRow.lt ho1 w.heap.size (by simp [Value.ownBlock])).2
  obtain ⟨G, hG⟩ : ∃ G, G = w1.heap.size := ⟨_, rfl⟩
  obtain ⟨W, hW⟩ : ∃ W, W = w1.alloc (.cells #[.slice (some ⟨w.heap.size, 0, none⟩) n n, .int .i64 s] 45) := ⟨_, rfl⟩
  have c0 : W.cell? ⟨G, 0, none⟩ = some (.slice (some ⟨w.heap.size, 0, none⟩) n n) := by rw [hW, hG]; exact cell_of_row _ _ 0 _ _ (0, 0) (heap_alloc_new w1 _)
  have c1 : W.cell? ⟨G, 1, none⟩ = some (.int .i64 s) := by rw [hW, hG]; exact cell_of_row _ _ 1 _ _ (0, 0) (heap_alloc_new w1 _)
  have hbW : Below w.heap.size w W := by rw [hW]; exact hb1.alloc hb1.size _
  have hoW : Ow W w.heap.size (some ⟨w.heap.size, 0, none⟩) n n (part (cNs n) 0 n) := by rw [hW]; exact World.ownsRow.alloc ho1 _
  have hGW : G < W.heap.size := by rw [hW, hG]; simp
  have hGw : w.heap.size < G := by omega
  rw [← hG, ← hW]
  clear hown hgr hz0 hz1 hz2 hi e1 e2 hG hW hb1 ho1 hg1
  go_wp2
  go_loopw [17] (fun i wr => ∃ k : Nat, k ≤ n ∧ i = .int .i64 k ∧ Ow wr w.heap.size (some ⟨w.heap.size, 0, none⟩) n n (part (cNs n) k n) ∧ wr.cell? ⟨G, 0, none⟩ = some (.slice (some ⟨w.heap.size, 0, none⟩) n n) ∧ wr.cell? ⟨G, 1, none⟩ = some (.int .i64 s) ∧ G < wr.heap.size ∧ Below w.heap.size w wr) (fun i _ => n - (intOf i).toNat)
  case atStart => exact ⟨0, Nat.zero_le _, rfl, hoW, c0, c1, hGW, hbW⟩
  case round =>
    obtain ⟨k, hk, rfl, ho, c0, c1, hGr, hb⟩ := hrel
    by_cases hlt : k < n
    · obtain ⟨hold, hfr⟩ := ho.cell hlt
      have hltI : (k : Int) < (n : Int) := by omega
      have hst := (World.ownsRow.stored ho k (.int .i64 (nth (cNs n) k))).1
      rw [part_set, cNs_nth hlt] at hst
      have hne : (⟨w.heap.size, k, none⟩ : Addr).block ≠ G := by show w.heap.size ≠ G; omega
      have c0' : (wr.setCell ⟨w.heap.size, k, none⟩ (.int .i64 (k : Int))).cell? ⟨G, 0, none⟩ = some (.slice (some ⟨w.heap.size, 0, none⟩) n n) := by
        rw [World.cell?_setCell_other _ _ _ _ (by simp <;> omega)]; exact c0
      have c1' : (wr.setCell ⟨w.heap.size, k, none⟩ (.int .i64 (k : Int))).cell? ⟨G, 1, none⟩ = some (.int .i64 s) := by
        rw [World.cell?_setCell_other _ _ _ _ (by simp <;> omega)]; exact c1
      have Hst := Lib.hid hst; have C0 := Lib.hid c0'; have C1 := Lib.hid c1'
      clear hst c0' c1' hne
      go_wp2
      go_roundw
      case rel => exact ⟨k + 1, by omega, by go_num, Hst.out, C0.out, C1.out, by simpa using hGr, hb.setCell (Nat.le_refl _) _⟩
      case measure => simp [intOf]; omega
    · obtain rfl : n = k := by omega
      rw [part_all' (cNs_len n)] at ho
      have HM := Lib.hid (fun W (hW : Below wr.heap.size wr W) => show Calls Try.prog 50 #[.agg #[.slice (some ⟨w.heap.size, 0, none⟩) n n, .int .i64 s]] W (RetN W n (pm (cNs n) (mirIx s) n)) from (implMirrored (some ⟨w.heap.size, 0, none⟩) n n wr.heap.size (cNs n) s W (ho.rd.below hW) hW.size (by omega) (by omega) Hn2).mono fun e w' h => retN_of h (mapTo_length _ _))
      have hO := Lib.hid ho
      clear ho hoW hbW hGW
      go_wp2_with fail
      go_region_with (go_at_call 50; refine (HM.out _ (by first | exact Below.refl _ _ | exact (Below.refl _ _).drew)).mono ?_; rintro e w2 ⟨A1, c1m, rfl, ho2, hb2⟩; have d0 : w2.cell? ⟨G, 0, none⟩ = some (.slice (some ⟨w.heap.size, 0, none⟩) n n) := (hb2.cell (p := ⟨G, 0, none⟩) hGr).trans c0; have d1 : w2.cell? ⟨G, 1, none⟩ = some (.int .i64 s) := (hb2.cell (p := ⟨G, 1, none⟩) hGr).trans c1)
      all_goals
        have hb2' : Below wr.heap.size wr w2 := of_drew_below hb2
        have ho2' : Ow w2 wr.heap.size A1 n c1m (pm (cNs n) (mirIx s) n) := ho2
        obtain ⟨T, hT⟩ : ∃ T, T = w2.alloc (.cells #[.slice (some ⟨w.heap.size, 0, none⟩) n n, .slice A1 n c1m] 23) := ⟨_, rfl⟩
        obtain ⟨R, hR⟩ : ∃ R, R = w2.heap.size := ⟨_, rfl⟩
        have r0 : T.cell? ⟨R, 0, none⟩ = some (.slice (some ⟨w.heap.size, 0, none⟩) n n) := by rw [hT, hR]; exact cell_of_row _ _ 0 _ _ (0, 0) (heap_alloc_new w2 _)
        have r1 : T.cell? ⟨R, 1, none⟩ = some (.slice A1 n c1m) := by rw [hT, hR]; exact cell_of_row _ _ 1 _ _ (0, 0) (heap_alloc_new w2 _)
        have hRT : R < T.heap.size := by rw [hT, hR]; simp
        have hbT2 : Below w2.heap.size w2 T := by rw [hT]; exact (Below.refl _ _).alloc (Nat.le_refl _) _
        have hbT : Below w.heap.size w T := step (step hb hb2') hbT2
        have oN : Ow T w.heap.size (some ⟨w.heap.size, 0, none⟩) n n (cNs n) := (hO.out.below hb2').below hbT2
        have oM : Ow T wr.heap.size A1 n c1m (pm (cNs n) (mirIx s) n) := ho2'.below hbT2
        have hwr : w.heap.size < wr.heap.size := by omega
        have HA1 := Lib.hid (show (∀ g, (Value.slice A1 n c1m).ownBlock = some g → wr.heap.size ≤ g ∧ g < T.heap.size) from fun g hg => ⟨oM.own_lo g hg, oM.own_hi g hg⟩)
        have hlowT : wr.heap.size ≤ T.heap.size := Nat.le_trans hb2'.size hbT2.size
        obtain ⟨M0, hM0⟩ : ∃ M0, M0 = wr.heap.size := ⟨_, rfl⟩
        rw [← hM0] at oM hwr HA1 hlowT
        rw [← hR, ← hT]
        clear c0 c1 d0 d1 hT hR ho2 hb2 hb2' ho2' hbT2 hO HM hb
        have hwT : w.heap.size ≤ T.heap.size := by omega
        have hnT : w.heap.size < T.heap.size := by omega
        obtain ⟨H, hH⟩ : ∃ H, H = w.heap.size := ⟨_, rfl⟩
        rw [← hH] at r0 oN hnT hwr ⊢
        have HH := Lib.hid hH
        clear hH
        simp only [Act.put, List.getElem_toArray, List.getElem_cons_succ, List.getElem_cons_zero, List.setIfInBounds_toArray, List.set_cons_succ, List.set_cons_zero]
        go_wp2
        go_loopw [5, 32] (fun v i wx => ∃ (b : Nat) (d : List GV) (Av : Option Addr) (cv : Nat), b ≤ 2 ∧ i = .int .i64 b ∧ v = .slice Av (4 * b) cv ∧ d.length = 4 * b ∧ Hid (cnt d = (List.range (4 * b)).map (frm s n (cNs n))) ∧ Gs wx H (.slice Av (4 * b) cv) d ∧ Hid (∀ g, (Value.slice Av (4 * b) cv).ownBlock = some g → T.heap.size ≤ g) ∧ Hid (b = 0 → d = []) ∧ Hid (b = 1 → Away d (.slice A1 n c1m)) ∧ Below T.heap.size T wx) (fun _ i _ => 2 - (intOf i).toNat)
        case atStart => exact ⟨0, [], none, 0, by omega, rfl, rfl, rfl, Lib.hid rfl, Gs.nil_, Lib.hid (fun g hg => by simp [Value.ownBlock] at hg), Lib.hid (fun _ => rfl), Lib.hid (fun h => by omega), Below.refl _ _⟩
        case round =>
          obtain ⟨b, d, Av, cv, hb2, rfl, rfl, hdl, HC, hG, HV, H0, H1, hbx⟩ := hrel
          by_cases hlt2 : b < 2
          · have hlt2' : (b : Int) < 2 := by omega
            have hbase : ∃ Ab cb, T.cell? ⟨R, b, none⟩ = some (.slice Ab n cb) ∧ Ow T H Ab n cb (if b = 0 then cNs n else pm (cNs n) (mirIx s) n) ∧ Away d (.slice Ab n cb) ∧ (∀ g, (Value.slice Ab n cb).ownBlock = some g → g < T.heap.size ∧ (b = 0 → g < M0)) := by
              have : b = 0 ∨ b = 1 := by omega
              rcases this with rfl | rfl
              · exact ⟨_, _, r0, by rw [if_pos rfl]; exact oN, by rw [H0.out rfl]; intro y hy; simp at hy, fun g hg => by simp [Value.ownBlock] at hg; omega⟩
              · exact ⟨_, _, r1, by rw [if_neg (by omega)]; exact oM.mono (by omega), H1.out rfl, fun g hg => ⟨(HA1.out g hg).2, fun h => by omega⟩⟩
            obtain ⟨Ab, cb, rb, oB, hAw, hBl⟩ := hbase
            obtain ⟨Lb, hLb⟩ : ∃ Lb, Lb = if b = 0 then cNs n else pm (cNs n) (mirIx s) n := ⟨_, rfl⟩
            rw [← hLb] at oB
            have HL := Lib.hid (show ∀ q, q < 4 → frm s n (cNs n) (4 * b + q) = trn s n Lb q from fun q hq => by rw [hLb]; exact frm_bq hlt2 hq)
            have HLl := Lib.hid (show Lb.length = n by rw [hLb]; split; exact cNs_len n; exact pm_length _ _ _)
            have rbx := (hbx.cell (p := ⟨R, b, none⟩) hRT).trans rb
            have oBx := oB.below hbx
            have HT : Hid (∀ q W A' c', Rd W W.heap.size A' n (trn s n Lb q) → Calls Try.prog 49 #[.agg #[.slice A' n c', .int .i64 s]] W (RetN W n (trn s n Lb (q + 1)))) := Lib.hid fun q W A' c' hr =>
              (implTurned A' c' n W.heap.size (trn s n Lb q) s W hr (Nat.le_refl _) (by omega) (by omega) Hn2).mono fun e w' h => retN_of h (mapTo_length _ _)
            have HBl := Lib.hid hBl
            have HAw := Lib.hid hAw
            clear hLb rb oB hBl hAw
            go_wp2
            obtain ⟨wo, rfl⟩ : ∃ wo : World, wo = wr := ⟨_, rfl⟩
            go_loopw [5, 7, 36] (fun v x i wx => ∃ (q : Nat) (d : List GV) (Av : Option Addr) (cv : Nat) (A' : Option Addr) (c' : Nat), q ≤ 4 ∧ i = .int .i64 q ∧ v = .slice Av (4 * b + q) cv ∧ x = .slice A' n c' ∧ d.length = 4 * b + q ∧ Hid (cnt d = (List.range (4 * b + q)).map (frm s n (cNs n))) ∧ Gs wx H (.slice Av (4 * b + q) cv) d ∧ Hid (∀ g, (Value.slice Av (4 * b + q) cv).ownBlock = some g → T.heap.size ≤ g) ∧ Ow wx H A' n c' (trn s n Lb q) ∧ Hid (Away d (.slice A' n c') ∧ (∀ g, (Value.slice A' n c').ownBlock = some g → (Value.slice Av (4 * b + q) cv).ownBlock ≠ some g) ∧ (b = 0 → Away d (.slice A1 n c1m) ∧ ∀ g, (Value.slice A' n c').ownBlock = some g → (Value.slice A1 n c1m).ownBlock ≠ some g)) ∧ Below T.heap.size T wx) (fun _ _ i _ => 4 - (intOf i).toNat)
            case atStart =>
              refine ⟨0, d, Av, cv, Ab, cb, by omega, rfl, rfl, rfl, hdl, HC, hG, HV, oBx, Lib.hid ⟨HAw.out, fun g hg e => ?_, fun h0 => ⟨?_, fun g hg e => ?_⟩⟩, hbx⟩
              · have := HV.out g e
                have := (HBl.out g hg).1
                omega
              · rw [H0.out h0]; intro y hy; simp at hy
              · have := (HBl.out g hg).2 h0
                have := (HA1.out g e).1
                omega
            case round =>
              obtain ⟨q, d, Av, cv, A', c', hq, rfl, rfl, rfl, hdl, HC, hG, HV, ho, HS, hbx⟩ := hrel
              by_cases hlq : q < 4
              · have hlq' : (q : Int) < 4 := by omega
                have hl : (trn s n Lb q).length = n := trn_len HLl.out q
                have hvs := hG.1
                rw [hdl] at hvs
                have hHw := hbx.size
                have hk40 : 4 * b + q ≤ 1099511627776 := by omega
                have hHT : H ≤ wr.heap.size := by omega
                go_wp2_with (first
                  | (at_builtin; (refine push_sl rfl (.tmp 38) (.tmp 40) rfl H (.slice Av (4 * b + q) cv) (4 * b + q) (d.map Prod.fst) wr.heap.size A' n c' rfl rfl (World.ownsRow.alloc hvs _) (heap_alloc_new wr _) hk40 (by simp <;> omega) ?_); intro g5 cap5 w5 ho5 hg5 hl5; have ho5x := Ow.off (World.ownsRow.alloc ho (.cells #[.slice A' n c'] 23)) hg5 (fun g hg => HS.out.2.1 g hg))
                  | (go_at_call 49; refine (HT.out q _ _ _ ho5x.rd).mono ?_; rintro e w6 ⟨A6, c6, rfl, ho6, hb6⟩))
                have hP := Gs.push (xs := trn s n Lb q) (A3 := A') (c3 := c') (o := .cells #[.slice A' n c'] 23) (g' := g5) (cap := cap5) (w5 := w5) hG (by rw [hl]; exact ho) (Nat.le_refl _) (by rw [hl]; exact HS.out.1) (by rw [hl]; exact HS.out.2.1) (by rw [hl, hdl]; exact ho5) hg5 hl5
                rw [hl, hdl] at hP
                have hb5 : Below T.heap.size T w5 := (hbx.alloc hbx.size _).grown hg5 (by simp <;> omega) (fun g hg => HV.out g hg)
                have HV5 : ∀ g, (Value.slice (some ⟨g5, 0, none⟩) (4 * b + q + 1) cap5).ownBlock = some g → T.heap.size ≤ g := fun g hg => by
                  have e : g5 = g := by simpa [Value.ownBlock] using hg
                  subst e
                  rcases hl5 with h | h
                  · exact HV.out _ h
                  · rw [h]; simp; omega
                have HCn : cnt (d ++ [(.slice A' n c', trn s n Lb q)]) = (List.range (4 * b + (q + 1))).map (frm s n (cNs n)) := by
                  rw [show 4 * b + (q + 1) = 4 * b + q + 1 by omega, List.range_succ, List.map_append, ← HC.out]
                  simp [cnt, HL.out q hlq]
                have hs5 := hb5.size
                have HSn : Away (d ++ [(.slice A' n c', trn s n Lb q)]) (.slice A6 n c6) ∧ (∀ g, (Value.slice A6 n c6).ownBlock = some g → (Value.slice (some ⟨g5, 0, none⟩) (4 * b + q + 1) cap5).ownBlock ≠ some g) ∧ (b = 0 → Away (d ++ [(.slice A' n c', trn s n Lb q)]) (.slice A1 n c1m) ∧ ∀ g, (Value.slice A6 n c6).ownBlock = some g → (Value.slice A1 n c1m).ownBlock ≠ some g) := by
                  refine ⟨fun y hy g hg e => ?_, fun g hg e => ?_, fun h0 => ⟨fun y hy g hg => ?_, fun g hg e => ?_⟩⟩
                  · have := hP.hi hy g hg
                    have := ho6.own_lo g e
                    omega
                  · have := hP.vhi g e
                    have := ho6.own_lo g hg
                    omega
                  · rw [List.mem_append] at hy
                    rcases hy with hy | hy
                    · exact (HS.out.2.2 h0).1 y hy g hg
                    · simp only [List.mem_singleton] at hy
                      subst hy
                      exact (HS.out.2.2 h0).2 g hg
                  · have := ho6.own_lo g hg
                    have := (HA1.out g e).2
                    omega
                have HPn := Lib.hid hP
                have HCn' := Lib.hid HCn
                have HSn' := Lib.hid HSn
                have HV5' := Lib.hid HV5
                clear hP HCn HSn HV5 hvs
                go_roundw
                case rel => exact ⟨q + 1, _, _, _, A6, c6, by omega, by go_num, rfl, rfl, by simp [hdl]; omega, HCn', HPn.out.below hb6, HV5', ho6.mono (by omega), HSn', step hb5 hb6⟩
                case measure => simp [intOf]; omega
              · obtain rfl : q = 4 := by omega
                go_wp2
                go_roundw
                case rel => exact ⟨b + 1, d, Av, cv, by omega, by go_num, rfl, by omega, HC, hG, HV, Lib.hid (fun h => by omega), Lib.hid (fun h => (HS.out.2.2 (by omega)).1), hbx⟩
                case measure => simp [intOf]; omega
          · obtain rfl : b = 2 := by omega
            go_wp2
            go_ret
            rw [HH.out] at hG
            exact retGs_mk hdl HC.out hG (hbT.trans (hbx.mono hwT))
end Go.Proofs.Ytlnmioijgclndaa
