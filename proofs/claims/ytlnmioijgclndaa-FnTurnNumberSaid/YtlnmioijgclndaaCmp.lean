import Derived.Test.YtlnmioijgclndaaIF3
import Derived.Lib.SliceRun
set_option maxRecDepth 8000
namespace Go.Proofs.Ytlnmioijgclndaa
open Go.ChangeShapes Go.WideShapes Go.ChangeAt Go.RowKit Go.Shelf
/-! slices.CompactFunc of eight slices by slices.Equal. -/
theorem equalQ_any (A A' : Option Addr) (c c' n B B' : Nat) (xs ys : List Int) (w : World) (h : Rd w B A n xs) (h' : Rd w B' A' n ys) (hm : n ≤ 1099511627776) :
    Calls Try.prog 60 #[.slice A n c, .slice A' n c'] w fun e w' => e = .returned (.bool (same xs ys)) ∧ ∃ m, w' = w.drewN m := by
  have hl := Lib.hid h.1
  have hl' := Lib.hid h'.1
  go_enter Try.func60, Try.ntmps60
  go_wp2
  go_loopw [13] (fun i wr => ∃ k q : Nat, k ≤ n ∧ i = .int .i64 k ∧ eqTo xs ys k ∧ Hid (wr = w.drewN q)) (fun i _ => n - (intOf i).toNat)
  case atStart => exact ⟨0, 0, Nat.zero_le _, rfl, eqTo_zero, Lib.hid rfl⟩
  case round =>
    obtain ⟨k, q, hk, rfl, heq, HW⟩ := hrel
    have hr : Rd wr B A n xs := h.below (by rw [HW.out]; exact below_drewN (Below.refl _ _) _)
    have hr' : Rd wr B' A' n ys := h'.below (by rw [HW.out]; exact below_drewN (Below.refl _ _) _)
    by_cases hlt : k < n
    · obtain ⟨b, off, rfl, hbB, hck⟩ := hr.at_ hlt
      obtain ⟨b', off', rfl, hbB', hck'⟩ := hr'.at_ hlt
      have hltI : (k : Int) < (n : Int) := by omega
      by_cases e : nth xs k = nth ys k
      · have hne : (nth xs k != nth ys k) = false := by simp [e]
        have He := Lib.hid e; clear e
        go_wp2
        go_quiet (fail)
        go_wp2
        go_roundw
        case rel => exact ⟨k + 1, q + nq, by omega, by go_num, eqTo_succ heq He.out, Lib.hid (by rw [HW.out, World.drewN_drewN])⟩
        case measure => simp [intOf]; omega
      · have hne : (nth xs k != nth ys k) = true := by simp [e]
        have He := Lib.hid e; clear e
        go_wp2
        go_quiet (fail)
        go_wp2
        go_ret
        exact ⟨by rw [same_f He.out]; rfl, q + nq, by rw [HW.out, World.drewN_drewN]⟩
    · obtain rfl : k = n := by omega
      go_wp2
      go_ret
      exact ⟨by rw [same_t hl.out hl'.out heq]; rfl, q, HW.out⟩
theorem grownSet {w : World} {g o : Nat} {v : Value} : w.grownBy (w.setCell ⟨g, o, none⟩ v) (some g) := ⟨rfl, rfl, rfl, by simp [World.setCell], fun k _ hk => heap_setCell_other w ⟨g, o, none⟩ k v (fun e => hk (by rw [e]))⟩
theorem grown_setCells {g : Nat} : ∀ (vs : List Value) (o : Nat) (w : World), w.grownBy (w.setCells g o vs) (some g)
  | [], _, w => World.grownBy.refl w _
  | _ :: vs, o, w => (grownSet (w := w) (g := g) (o := o)).trans (grown_setCells vs (o + 1) _)
/-- the row in block g holds vs; nothing else is changed. -/
def RowW (w wr : World) (lo g cap : Nat) (vs : List Value) : Prop := wr.ownsRow lo 23 1 (.slice (some ⟨g, 0, none⟩) 8 cap) 8 vs ∧ w.grownBy wr (some g)
theorem RowW.cell {w wr : World} {lo g cap k : Nat} {vs : List Value} {v : Value} (h : RowW w wr lo g cap vs) (hk : k < 8) (hv : vs[k]? = some v) : wr.cell? ⟨g, k, none⟩ = some v ∧ wr.frozen? ⟨g, k, none⟩ = false :=
  ⟨by rw [World.ownsRow.cellAt h.1 k (by omega)]; exact hv, World.ownsRow.frozenAt h.1 k⟩
theorem RowW.drewN {w wr : World} {lo g cap : Nat} {vs : List Value} (h : RowW w wr lo g cap vs) (q : Nat) : RowW w (wr.drewN q) lo g cap vs :=
  ⟨World.ownsRow.kept h.1 (row := none) ⟨rfl, rfl, rfl, Nat.le_refl _, fun _ _ _ => rfl⟩ (by simp [Value.ownBlock]), ⟨h.2.os, h.2.tape, h.2.output, h.2.size, h.2.block⟩⟩
theorem RowW.set_ {w wr : World} {lo g cap k : Nat} {vs : List Value} (h : RowW w wr lo g cap vs) (v : Value) : RowW w (wr.setCell ⟨g, k, none⟩ v) lo g cap (vs.set k v) := by
  obtain ⟨h1, h2⟩ := World.ownsRow.stored h.1 k v
  exact ⟨h1, h.2.trans h2⟩
theorem same_iff {xs ys : List Int} : same xs ys = true ↔ xs = ys := by simp [same]
set_option maxHeartbeats 4000000 in
theorem compactFunc_any (n lo g cap : Nat) (d : List GV) (w : World) (hdl : d.length = 8) (hG : Gs w lo (.slice (some ⟨g, 0, none⟩) 8 cap) d) (hl : ∀ x ∈ d, x.2.length = n) (hn : n ≤ 16) :
    Calls Try.prog 59 #[.slice (some ⟨g, 0, none⟩) 8 cap, .func (.func 60) #[] #[]] w fun e w' => ∃ c', e = .returned (.slice (some ⟨g, 0, none⟩) (cpt (cnt d) 8) c') ∧ w.grownBy w' (some g) := by
  have eg : ∀ args w, (callFunc 60 args).run Try.prog w = .ok (.enter 60 args) w := enters_of Try.func60 (by kernel_rfl) rfl
  have hcap : 8 ≤ cap := by
    rcases hG.1.2 with ⟨h1, _⟩ | ⟨g', cap', cur, hv, _, _, hle, _⟩
    · cases h1
    · injection hv with _ _ hc
      omega
  have hR : RowW w w lo g cap (d.map Prod.fst) := by
    refine ⟨?_, World.grownBy.refl _ _⟩
    have := hG.1
    rwa [hdl] at this
  have hval : ∀ k, k < 8 → ∃ A c, (d.map Prod.fst)[k]? = some (.slice A n c) ∧ (gat (cnt d) k).length = n ∧ ∀ W, w.grownBy W (some g) → Rd W W.heap.size A n (gat (cnt d) k) := fun k hk => by
    have hkd : k < d.length := by omega
    obtain ⟨⟨A, c, e, ho⟩, hsz⟩ := hG.2.1 d[k] (List.getElem_mem hkd)
    have hln := hl d[k] (List.getElem_mem hkd)
    rw [hln] at e ho
    refine ⟨A, c, by rw [List.getElem?_map, List.getElem?_eq_getElem hkd]; simp [e], by rw [gat_cnt hkd]; exact hln, fun W hW => ?_⟩
    rw [gat_cnt hkd]
    exact (Ow.off ho hW (fun b hb q => by have := hsz b (by rw [e]; exact hb); simp [Value.ownBlock] at this; injection q with q; exact this q)).rd
  have HV := Lib.hid hval
  have hcall : ∀ i j A c A' c' W, i < 8 → j < 8 → (d.map Prod.fst)[i]? = some (.slice A n c) → (d.map Prod.fst)[j]? = some (.slice A' n c') → w.grownBy W (some g) → ∀ q, Calls Try.prog 60 #[.slice A n c, .slice A' n c'] (W.drewN q) fun e w' => e = .returned (.bool (same (gat (cnt d) i) (gat (cnt d) j))) ∧ ∃ m, w' = (W.drewN q).drewN m := fun i j A c A' c' W hi hj e1 e2 hW q => by
    obtain ⟨A1, c1, f1, _, r1⟩ := HV.out i hi
    obtain ⟨A2, c2, f2, _, r2⟩ := HV.out j hj
    rw [e1] at f1
    rw [e2] at f2
    injection f1 with f1
    injection f1 with f1a _ f1c
    injection f2 with f2
    injection f2 with f2a _ f2c
    subst f1a f1c f2a f2c
    have hWq : w.grownBy (W.drewN q) (some g) := ⟨hW.os, hW.tape, hW.output, hW.size, hW.block⟩
    exact equalQ_any A A' c c' n _ _ _ _ (W.drewN q) (r1 _ hWq) (r2 _ hWq) (by omega)
  have HCl := Lib.hid hcall
  have hz : ∀ W : World, (zeroValue 23).run Try.prog W = .ok (.slice none 0 0) W := fun W => by rfl
  have HZ := Lib.hid hz
  clear hval hcall hz hl hG
  go_enter Try.func59, Try.ntmps59
  go_wp2
  go_loopw [5] (fun v wr => ∃ k : Nat, 1 ≤ k ∧ k ≤ 8 ∧ v = .int .i64 k ∧ RowW w wr lo g cap (d.map Prod.fst) ∧ Hid (cpt (cnt d) k = k)) (fun v _ => 8 - (intOf v).toNat)
  case atStart => exact ⟨1, by omega, by omega, rfl, hR, Lib.hid rfl⟩
  case round =>
    obtain ⟨k, hk1, hk8, rfl, hRr, HC⟩ := hrel
    by_cases hlt : k < 8
    · obtain ⟨kp, rfl⟩ : ∃ kp, k = kp + 1 := ⟨k - 1, by omega⟩
      have hltI : (kp : Int) + 1 < 8 := by omega
      obtain ⟨Aj, cj0, ej, -, -⟩ := HV.out (kp + 1) (by omega)
      obtain ⟨Ap, cp0, ep, -, -⟩ := HV.out kp (by omega)
      obtain ⟨cj, fj⟩ := hRr.cell (show kp + 1 < 8 by omega) ej
      obtain ⟨cp, fp⟩ := hRr.cell (show kp < 8 by omega) ep
      have Hq := Lib.hid (HCl.out (kp + 1) kp Aj cj0 Ap cp0 wr (by omega) (by omega) ej ep hRr.2)
      have hwp : IntKind.i64.wrap (kp : Int) = (kp : Int) := IntWalk.i64_in _ (by omega)
      have jz : (kp : Int) + 1 < 8 := by omega
      have jz1 : (kp : Int) < 8 := by omega
      have p0 : (0 : Int) ≤ (kp : Int) + 1 := by omega
      have e0 : ((kp : Int) + 1).toNat = kp + 1 := by omega
      have HRr := Lib.hid hRr
      clear hRr
      cases hsm : same (gat (cnt d) (kp + 1)) (gat (cnt d) kp)
      · rw [hsm] at Hq
        have HCn := Lib.hid (show cpt (cnt d) (kp + 1 + 1) = kp + 1 + 1 by
          have hne : ¬ (0 < kp + 1 ∧ gat (cnt d) (kp + 1) = gat (cnt d) (kp + 1 - 1)) := fun q => by
            have := same_iff.2 q.2
            rw [show kp + 1 - 1 = kp by omega, hsm] at this
            cases this
          show (if 0 < kp + 1 ∧ gat (cnt d) (kp + 1) = gat (cnt d) (kp + 1 - 1) then cpt (cnt d) (kp + 1) else cpt (cnt d) (kp + 1) + 1) = _
          rw [if_neg hne, HC.out])
        go_wp2_with fail
        go_quiet ((go_at_fn 60; exact Calls.quiet_of (Hq.out _)))
        go_wp2
        go_roundw
        case rel => exact ⟨kp + 1 + 1, by omega, by omega, by go_num, HRr.out.drewN _, HCn⟩
        case measure => simp [intOf]; omega
      · rw [hsm] at Hq
        have HCn := Lib.hid (show cpt (cnt d) (kp + 1 + 1) = kp + 1 by
          show (if 0 < kp + 1 ∧ gat (cnt d) (kp + 1) = gat (cnt d) (kp + 1 - 1) then cpt (cnt d) (kp + 1) else cpt (cnt d) (kp + 1) + 1) = _
          rw [if_pos ⟨by omega, by rw [show kp + 1 - 1 = kp by omega]; exact same_iff.1 hsm⟩, HC.out])
        go_wp2_with fail
        go_quiet ((go_at_fn 60; exact Calls.quiet_of (Hq.out _)))
        go_wp2
        have hR2 := HRr.out.drewN nq
        clear cj fj cp fp Hq HRr
        generalize wr.drewN nq = wq at hR2 ⊢
        obtain ⟨K, hK⟩ : ∃ K, K = kp + 1 := ⟨_, rfl⟩
        obtain ⟨m, hm⟩ : ∃ m, m = 7 - kp := ⟨_, rfl⟩
        have hKm : K + m = 8 := by omega
        have hK1 : 1 ≤ K := by omega
        have hm1 : 1 ≤ m := by omega
        rw [← hK] at HCn ⊢
        rw [← hm]
        clear hK hm e0 p0 jz1 jz hwp hltI hk1 hk8 hlt ej ep HC hsm
        go_loopw [5, 7] (fun a b wx => ∃ (kk k2 : Nat) (vs : List Value), a = .int .i64 kk ∧ b = .int .i64 k2 ∧ 1 ≤ k2 ∧ K + k2 ≤ 8 ∧ 1 ≤ kk ∧ kk + 1 ≤ K + k2 ∧ RowW w wx lo g cap vs ∧ Hid (∀ j, kk ≤ j → vs[j]? = (d.map Prod.fst)[j]?) ∧ Hid (cpt (cnt d) (K + k2) = kk)) (fun _ b _ => 8 - (intOf b).toNat)
        case atStart => exact ⟨K, 1, _, rfl, rfl, by omega, by omega, hK1, by omega, hR2, Lib.hid (fun j _ => rfl), HCn⟩
        case round =>
          obtain ⟨kk, k2, vs, rfl, rfl, h1, hle, hkk1, hkk, hRx, HVs, HCx⟩ := hrel
          by_cases hlt2 : K + k2 < 8
          · obtain ⟨q, rfl⟩ : ∃ q, k2 = q + 1 := ⟨k2 - 1, by omega⟩
            have hqm : (q : Int) + 1 < (m : Int) := by omega
            obtain ⟨Aj, cj0, ej, -, -⟩ := HV.out (K + (q + 1)) (by omega)
            obtain ⟨Ap, cp0, ep, -, -⟩ := HV.out (K + q) (by omega)
            obtain ⟨Ak, ck0, ek, -, -⟩ := HV.out kk (by omega)
            obtain ⟨cj, fj⟩ := hRx.cell (k := K + (q + 1)) (by omega) (by rw [HVs.out _ (by omega)]; exact ej)
            obtain ⟨cp, fp⟩ := hRx.cell (k := K + q) (by omega) (by rw [HVs.out _ (by omega)]; exact ep)
            obtain ⟨ck, fk⟩ := hRx.cell (k := kk) (by omega) (by rw [HVs.out _ (Nat.le_refl _)]; exact ek)
            have Hq := Lib.hid (HCl.out (K + (q + 1)) (K + q) Aj cj0 Ap cp0 wr (by omega) (by omega) ej ep hRx.2)
            have hwp : IntKind.i64.wrap (q : Int) = (q : Int) := IntWalk.i64_in _ (by omega)
            have jz1 : (q : Int) < (m : Int) := by omega
            have p0 : (0 : Int) ≤ (q : Int) + 1 := by omega
            have e0 : ((q : Int) + 1).toNat = q + 1 := by omega
            have hkk8 : (kk : Int) < 8 := by omega
            have HRx := Lib.hid hRx
            clear hRx ej ep ek
            cases hsm : same (gat (cnt d) (K + (q + 1))) (gat (cnt d) (K + q))
            · rw [hsm] at Hq
              have HCn2 := Lib.hid (show cpt (cnt d) (K + (q + 1 + 1)) = kk + 1 by
                have hne : ¬ (0 < K + (q + 1) ∧ gat (cnt d) (K + (q + 1)) = gat (cnt d) (K + (q + 1) - 1)) := fun z => by
                  have := same_iff.2 z.2
                  rw [show K + (q + 1) - 1 = K + q by omega, hsm] at this
                  cases this
                show (if 0 < K + (q + 1) ∧ gat (cnt d) (K + (q + 1)) = gat (cnt d) (K + (q + 1) - 1) then cpt (cnt d) (K + (q + 1)) else cpt (cnt d) (K + (q + 1)) + 1) = _
                rw [if_neg hne, HCx.out])
              go_wp2_with fail
              go_quiet ((go_at_fn 60; exact Calls.quiet_of (Hq.out _)))
              have hR3 := HRx.out.drewN nq
              have cj2 : (wr.drewN nq).cell? ⟨g, K + (q + 1), none⟩ = some (.slice Aj n cj0) := cj
              have ck2 : (wr.drewN nq).cell? ⟨g, kk, none⟩ = some (.slice Ak n ck0) := ck
              have fk2 : (wr.drewN nq).frozen? ⟨g, kk, none⟩ = false := fk
              clear cj fj cp fp ck fk Hq HRx
              generalize wr.drewN nq = wy at hR3 cj2 ck2 fk2 ⊢
              go_wp2
              go_roundw
              case rel => exact ⟨kk + 1, q + 1 + 1, _, by go_num, by go_num, by omega, by omega, by omega, by omega, hR3.set_ _, Lib.hid (fun j hj => by rw [List.getElem?_set_ne (by omega)]; exact HVs.out j (by omega)), HCn2⟩
              case measure => simp [intOf]; omega
            · rw [hsm] at Hq
              have HCn2 := Lib.hid (show cpt (cnt d) (K + (q + 1 + 1)) = kk by
                show (if 0 < K + (q + 1) ∧ gat (cnt d) (K + (q + 1)) = gat (cnt d) (K + (q + 1) - 1) then cpt (cnt d) (K + (q + 1)) else cpt (cnt d) (K + (q + 1)) + 1) = _
                rw [if_pos ⟨by omega, by rw [show K + (q + 1) - 1 = K + q by omega]; exact same_iff.1 hsm⟩, HCx.out])
              go_wp2_with fail
              go_quiet ((go_at_fn 60; exact Calls.quiet_of (Hq.out _)))
              go_wp2
              go_roundw
              case rel => exact ⟨kk, q + 1 + 1, _, by go_num, by go_num, by omega, by omega, by omega, by omega, HRx.out.drewN _, HVs, HCn2⟩
              case measure => simp [intOf]; omega
          · have hend : K + k2 = 8 := by omega
            have hk2m : ¬ (k2 : Int) < (m : Int) := by omega
            have hkk8 : (kk : Int) < 8 := by omega
            have hcl : ∀ ty, (Builtin.clear_ #[31] ty #[.slice (some ⟨g, kk, none⟩) (8 - kk) (cap - kk)]).run Try.prog wr = .ok (.tuple #[]) (wr.setCells g kk (List.replicate (8 - kk) (.slice none 0 0))) := fun ty =>
              Lib.run_clear_slice wr 31 23 ty (.slice none 0 0) Try.underlying31 HZ.out rfl rfl g kk (8 - kk) (cap - kk) (by omega) (fun j hj => by
                obtain ⟨Ak, ck0, ek, -, -⟩ := HV.out (kk + j) (by omega)
                rw [(hRx.cell (k := kk + j) (by omega) (by rw [HVs.out _ (by omega)]; exact ek)).1]; rfl) (fun j hj => World.ownsRow.frozenAt hRx.1 (kk + j))
            have hgr := hRx.2.trans (grown_setCells (g := g) (List.replicate (8 - kk) (.slice none 0 0)) kk wr)
            have hC8 : cpt (cnt d) 8 = kk := by rw [← hend]; exact HCx.out
            have HC8 := Lib.hid hC8
            have Hgr := Lib.hid hgr
            clear hC8 hgr hRx hend
            go_wp2
            go_ret
            exact ⟨⟨cap, by rw [HC8.out]; rfl⟩, Hgr.out⟩
    · obtain rfl : k = 8 := by omega
      go_wp2
      go_ret
      exact ⟨cap, by rw [HC.out]; rfl, hRr.2⟩
theorem len_of_mem {xs ys : List Int} {s : Int} {n : Nat} (h : ∃ j, j < 8 ∧ ys = rf xs s n j) : ys.length = n := by
  obtain ⟨j, _, e⟩ := h
  rw [e]; exact rf_len _ _ _ _
theorem mem_rf {d : List GV} {xs : List Int} {s : Int} {n k : Nat} (hp : (cnt d).Perm ((List.range 8).map (rf xs s n))) (hk : k < 8) (hd : d.length = 8) : ∃ j, j < 8 ∧ gat (cnt d) k = rf xs s n j := by
  have hm : gat (cnt d) k ∈ cnt d := by
    rw [gat_cnt (by omega)]
    exact List.mem_map_of_mem (List.getElem_mem (by omega))
  have := hp.mem_iff.1 hm
  simp only [List.mem_map, List.mem_range] at this
  obtain ⟨j, hj, e⟩ := this
  exact ⟨j, hj, e.symm⟩
theorem all_len {d : List GV} {xs : List Int} {s : Int} {n : Nat} (hp : (cnt d).Perm ((List.range 8).map (rf xs s n))) {x : GV} (hx : x ∈ d) : x.2.length = n := by
  have := hp.mem_iff.1 (show x.2 ∈ cnt d from List.mem_map_of_mem hx)
  simp only [List.mem_map, List.mem_range] at this
  obtain ⟨j, _, e⟩ := this
  rw [← e]; exact rf_len _ _ _ _
theorem rf_in {d : List GV} {xs : List Int} {s : Int} {n j : Nat} (hp : (cnt d).Perm ((List.range 8).map (rf xs s n))) (hj : j < 8) (hd : d.length = 8) : ∃ k, k < 8 ∧ gat (cnt d) k = rf xs s n j := by
  have : rf xs s n j ∈ cnt d := hp.mem_iff.2 (List.mem_map_of_mem (by simpa using hj))
  obtain ⟨k, hk, e⟩ := List.getElem_of_mem this
  rw [cnt_len, hd] at hk
  refine ⟨k, hk, ?_⟩
  rw [gat_cnt (by omega), ← e]
  simp [cnt]
theorem sorted_first {d : List GV} {xs : List Int} {s : Int} {n : Nat} (hp : (cnt d).Perm ((List.range 8).map (rf xs s n))) (hso : ∀ i j, i < j → j < 8 → keyT (gat (cnt d) i) n ≤ keyT (gat (cnt d) j) n) (hd : d.length = 8) (hD : ∀ k, dig (rf xs s n k) n) : gat (cnt d) 0 = bestT (rf xs s n) n 8 := by
  obtain ⟨i, hi, ei⟩ := mem_rf hp (show 0 < 8 by omega) hd
  obtain ⟨j, hj, ej⟩ := bestT_mem (F := rf xs s n) (n := n) 8 (by omega)
  obtain ⟨k, hk, ek⟩ := rf_in hp hj hd
  have h1 := bestT_le (F := rf xs s n) (n := n) 8 i hi
  have h2 : keyT (gat (cnt d) 0) n ≤ keyT (rf xs s n j) n := by
    rw [← ek]
    by_cases h0 : k = 0
    · subst h0; exact Int.le_refl _
    · exact hso 0 k (by omega) hk
  rw [← ei] at h1
  rw [ej] at h1 ⊢
  refine keyT_eq (by rw [ei]; exact hD i) (hD j) (by rw [ei]; exact rf_len _ _ _ _) (rf_len _ _ _ _) ?_
  omega
theorem sorted_count {d : List GV} {xs : List Int} {s : Int} {n : Nat} (hp : (cnt d).Perm ((List.range 8).map (rf xs s n))) (hso : ∀ i j, i < j → j < 8 → keyT (gat (cnt d) i) n ≤ keyT (gat (cnt d) j) n) (hd : d.length = 8) (hD : ∀ k, dig (rf xs s n k) n) : (fnd (rf xs s n) 8).length = cpt (cnt d) 8 := by
  have h1 : (fnd (rf xs s n) 8).length = (fnd (gat (cnt d)) 8).length := fnd_same ⟨fun k hk => by
    obtain ⟨j, hj, e⟩ := rf_in hp hk hd
    exact ⟨j, hj, e.symm⟩, fun k hk => mem_rf hp hk hd⟩
  rw [h1]
  exact cpt_fnd (n := n) (m := 8) (fun k hk => len_of_mem (mem_rf hp hk hd)) (fun k hk => by
    obtain ⟨j, _, e⟩ := mem_rf hp hk hd
    rw [e]; exact hD j) hso 8 (Nat.le_refl _)
set_option maxHeartbeats 1000000 in
theorem implCanonicalGrid (A : Option Addr) (c n B : Nat) (xs : List Int) (size : Int) (w : World) (h : Rd w B A n xs) (hB : B ≤ w.heap.size) (hm : n ≤ 1099511627776) :
    Calls Try.prog 14 #[.slice A n c, .int .i64 size] w (RetSl w (cnL xs size n)) := by
  have hlen := Lib.hid h.1
  have h1 := h.alloc hB (.cells #[.slice A n c, .int .i64 size] 45)
  have hB0 : Below w.heap.size w (w.alloc (.cells #[.slice A n c, .int .i64 size] 45)) := (Below.refl _ _).alloc (Nat.le_refl _) _
  have hB1 := Nat.le_trans hB hB0.size
  cases hg : gv xs size
  · have HL := Lib.hid (cnL_f (n := n) hg)
    go_enter Try.func14, Try.ntmps14
    go_wp2_with (go_at_call 44; refine (implValid _ _ _ _ _ _ _ h1 hB1 hm).mono ?_; rintro e w1 ⟨rfl, hb1⟩; rw [hg])
    go_ret
    rw [HL.out]
    exact ⟨_, _, rfl, Ow.nil_ _ _, step hB0 hb1⟩
  · obtain ⟨s, rfl, hs, hls⟩ := size_nat hg
    have hn : n = s * s := by have := hlen.out; omega
    have HL := Lib.hid (cnL_t (n := n) hg)
    have HF := Lib.hid (fun W (hW : Below w.heap.size w W) => renamedForms_any A c n B xs s W (h.below (hW.mono hB)) (Nat.le_trans hB hW.size) hs hn hg)
    have HD := Lib.hid (rf_dig hs hn hlen.out hg)
    clear hn
    go_enter Try.func14, Try.ntmps14
    go_wp2_with (go_at_call 44; refine (implValid _ _ _ _ _ _ _ h1 hB1 hm).mono ?_; rintro e w1 ⟨rfl, hb1⟩; rw [hg]; have hbox := box_cell hb1; have hB2 := step hB0 hb1)
    have c0 := hbox 0
    have c1 := hbox 1
    simp at c0 c1
    clear hbox
    go_wp2_with (go_at_call 45; refine (HF.out _ hB2).mono ?_; rintro e w2 ⟨g, c2, d, rfl, hdl, hp, hso, hG, hb2⟩; obtain ⟨g', A3, c3, hgg, -, -, hgw, hck, hfk, ho3, -, -⟩ := hG.at_ (show 0 < d.length by omega); injection hgg with hgg; injection hgg with hgg; subst hgg; have hmem := mem_rf hp (show 0 < 8 by omega) hdl)
    go_ret
    have e : gat (cnt d) 0 = cnL xs s n := by
      rw [HL.out]
      exact sorted_first hp hso hdl HD.out
    have ho4 : Ow w2 w1.heap.size A3 (gat (cnt d) 0).length c3 (cnL xs s n) := by rw [← e]; exact ho3
    exact retSl_mk (ho4.mono hB2.size) (step hB2 hb2)
set_option maxHeartbeats 1000000 in
theorem implFormCount (A : Option Addr) (c n B : Nat) (xs : List Int) (size : Int) (w : World) (h : Rd w B A n xs) (hB : B ≤ w.heap.size) (hm : n ≤ 1099511627776) :
    Calls Try.prog 29 #[.slice A n c, .int .i64 size] w fun e w' => e = .returned (.int .i64 (fcI xs size n)) ∧ Below w.heap.size w w' := by
  have hlen := Lib.hid h.1
  have h1 := h.alloc hB (.cells #[.slice A n c, .int .i64 size] 45)
  have hB0 : Below w.heap.size w (w.alloc (.cells #[.slice A n c, .int .i64 size] 45)) := (Below.refl _ _).alloc (Nat.le_refl _) _
  have hB1 := Nat.le_trans hB hB0.size
  cases hg : gv xs size
  · have HL := Lib.hid (show fcI xs size n = -1 by simp [fcI, hg])
    go_enter Try.func29, Try.ntmps29
    go_wp2_with (go_at_call 44; refine (implValid _ _ _ _ _ _ _ h1 hB1 hm).mono ?_; rintro e w1 ⟨rfl, hb1⟩; rw [hg])
    go_ret
    rw [HL.out]
    exact ⟨rfl, step hB0 hb1⟩
  · obtain ⟨s, rfl, hs, hls⟩ := size_nat hg
    have hn : n = s * s := by have := hlen.out; omega
    have HL := Lib.hid (show fcI xs s n = ((fnd (rf xs s n) 8).length : Nat) by simp [fcI, hg])
    have hn16 := (gv_n hg hlen.out).2.1
    have HF := Lib.hid (fun W (hW : Below w.heap.size w W) => renamedForms_any A c n B xs s W (h.below (hW.mono hB)) (Nat.le_trans hB hW.size) hs hn hg)
    have HD := Lib.hid (rf_dig hs hn hlen.out hg)
    clear hn
    go_enter Try.func29, Try.ntmps29
    go_wp2_with (go_at_call 44; refine (implValid _ _ _ _ _ _ _ h1 hB1 hm).mono ?_; rintro e w1 ⟨rfl, hb1⟩; rw [hg]; have hbox := box_cell hb1; have hB2 := step hB0 hb1)
    have c0 := hbox 0
    have c1 := hbox 1
    simp at c0 c1
    clear hbox
    go_wp2_with (first
      | (go_at_call 45; refine (HF.out _ hB2).mono ?_; rintro e w2 ⟨g, c2, d, rfl, hdl, hp, hso, hG, hb2⟩; have hgl := hG.vlo g (by simp [Value.ownBlock]))
      | (go_at_call 59; refine (compactFunc_any n w1.heap.size g c2 d w2 hdl hG (fun x hx => all_len hp hx) hn16).mono ?_; rintro e w3 ⟨c3, rfl, hg3⟩))
    go_ret
    have e : (fnd (rf xs s n) 8).length = cpt (cnt d) 8 := sorted_count hp hso hdl HD.out
    refine ⟨by rw [HL.out, e]; rfl, ?_⟩
    exact (step hB2 hb2).grown hg3 (step hB2 hb2).size (fun b hb => by injection hb with hb; have := hB2.size; omega)
end Go.Proofs.Ytlnmioijgclndaa
