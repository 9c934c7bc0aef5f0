import Derived.Test.YtgeedgljabdllaaFl2
set_option maxRecDepth 8000
namespace Go.Proofs.Ytgeedgljabdllaa
open Go.ChangeShapes Go.WideShapes Go.ChangeAt Go.RowKit
theorem cv_parts {xs : List Int} {n : Nat} (h : cvB xs (n : Int) = true) : xs.length ≤ 4 ∧ n ≤ 8 ∧ ∀ v ∈ xs, 1 ≤ v ∧ v ≤ n := by
  unfold cvB at h
  simp only [Bool.and_eq_true, decide_eq_true_eq] at h
  obtain ⟨⟨h1, h2⟩, h3⟩ := h
  have h8 := inr_t h2
  have hall : ∀ j, j < xs.length → inr (nth xs j) 1 8 = true := fun j hj => by
    have := allN_at h1 hj
    simp only [inr, decide_eq_true_eq]
    exact this
  have hb := sI_bound hall
  refine ⟨by omega, by omega, fun v hv => ?_⟩
  obtain ⟨k, hk, rfl⟩ := List.getElem_of_mem hv
  have e : nth xs k = xs[k] := by simp [nth, List.getD_eq_getElem?_getD, hk]
  have hm := (sI_mono (xs := xs) (k := k + 1) (m := xs.length) (fun j _ hj => (allN_at h1 hj).1) hk).1
  have h0 := (sI_bound (xs := xs) (k := k) (fun j hj => hall j (by omega))).1
  have h5 := allN_at h1 hk
  simp only [sI] at hm
  omega
theorem okK_parts {ks cs : List Int} {n : Nat} (hl : ks.length = n) (h : okK ks cs n = true) : cs.length ≤ 4 ∧ 1 ≤ n ∧ n ≤ 8 ∧ ∀ v ∈ cs, 1 ≤ v ∧ v ≤ n := by
  unfold okK at h
  rw [Bool.and_eq_true] at h
  have h1 := kvB_len h.1
  have h2 := cv_parts h.2
  exact ⟨h2.1, by omega, by omega, h2.2.2⟩
set_option maxHeartbeats 1000000 in
theorem forced_any (A : Option Addr) (m c B : Nat) (cs : List Int) (A' : Option Addr) (n c' B' : Nat) (ks : List Int) (W : Nat) (w : World) (h : Rd w B A m cs) (hB : B ≤ w.heap.size) (hm : m ≤ 4) (hcs : ∀ v ∈ cs, 1 ≤ v ∧ v ≤ n) (h' : Rd w B' A' n ks) (hB' : B' ≤ w.heap.size) (hn1 : 1 ≤ n) (hn : n ≤ 8) (hc : n ≤ c') (hc2 : c' ≤ 9223372036854775807) :
    Calls Try.prog 114 #[.agg #[.slice A m c, .slice A' n c'], .int .i64 W] w (RetSl w (mapTo (fun j => fcV W (flC (kk ks) cs n j)) n)) := by
  obtain ⟨i0, hi, hz0, hz1, hz2⟩ := info_parts int_info
  have hb0 : Below w.heap.size w (w.alloc (.cells #[.slice A m c, .slice A' n c'] 124)) := (Below.refl _ _).alloc (Nat.le_refl _) _
  have hx0 := lbox_new w A m c A' n c'
  have hsV : w.heap.size < (w.alloc (.cells #[.slice A m c, .slice A' n c'] 124)).heap.size := by simp
  generalize hV : w.alloc (.cells #[.slice A m c, .slice A' n c'] 124) = V at *
  have HV := Lib.hid hV
  have hrV := h.below (hb0.mono hB)
  have hrV' := h'.below (hb0.mono hB')
  have HX := Lib.hid (fun (w' : World) (hb : Below V.heap.size V w') => show w'.cell? ⟨w.heap.size, 0, none⟩ = some (.slice A m c) ∧ w'.cell? ⟨w.heap.size, 1, none⟩ = some (.slice A' n c') from
    ⟨(cell_of_row _ _ 0 _ _ (0, 0) ((hb.block _ (by omega)).trans hx0)).trans rfl, (cell_of_row _ _ 1 _ _ (0, 0) ((hb.block _ (by omega)).trans hx0)).trans rfl⟩)
  have HF := Lib.hid (fun (w' : World) (hb : Below V.heap.size V w') => filledWays_any A m c B cs A' n c' B' ks w' (hrV.below (hb.mono (Nat.le_trans hB hb0.size))) (Nat.le_trans hB (Nat.le_trans hb0.size hb.size)) hm hcs (hrV'.below (hb.mono (Nat.le_trans hB' hb0.size))) (Nat.le_trans hB' (Nat.le_trans hb0.size hb.size)) hn1 hn hc hc2)
  have hf8 : ∀ j, flC (kk ks) cs n j ≤ 256 := fun j => Nat.le_trans (sm_le (fun L => by split <;> omega)) (Nat.pow_le_pow_right (by omega) hn : 2 ^ n ≤ 2 ^ 8)
  obtain ⟨z0, z1⟩ := HX.out V (Below.refl _ _)
  clear hV hx0 hrV hrV'
  go_enter Try.func114, Try.ntmps114
  go_upto_region 1 with fail
  rw [HV.out]
  go_wp2_with (first
    | (refine wpList_make_full _ rfl (.tmp 10) (.tmp 10) 28 rfl V.heap.size 3 i0 (.int .i64 0) 1 Try.underlying28 hi hz0 hz1 .i64 .i64 n n n rfl rfl rfl rfl (by rw [hz2]; omega) (by simp only [maxLen]; omega) (Nat.le_refl _) ?_; intro w2 hown hgr; have ho1 := made_part ks hown; have hb1 := made_below hgr (Nat.le_refl V.heap.size); rw [part_zero'] at ho1; obtain ⟨y0, y1⟩ := HX.out w2 hb1; clear hown hgr)
    | (go_at_call 117; refine (HF.out w2 hb1).mono ?_; rintro e w3 ⟨A3, c3, rfl, ho3, hb3⟩; rw [mapTo_length] at ho3 ⊢))
  have hb4 : Below w.heap.size w w3 := hb0.trans ((step hb1 hb3).mono hb0.size)
  have ho4 := ho1.below hb3
  have hG : V.heap.size < w2.heap.size := by obtain ⟨_, e, _, hg⟩ := ho1.form (by omega); cases e; exact hg
  have hwG : w.heap.size < V.heap.size := by omega
  have ho5 := ho3.mono (show V.heap.size + 1 ≤ w2.heap.size by omega)
  clear hb3 ho1 ho3 hb1 y0 y1 z0 z1 hi hz0 hz1 hz2 HX HF hb0 hG HV
  generalize V.heap.size = G at *
  go_loopw [15] (fun i wr => ∃ k : Nat, k ≤ n ∧ i = .int .i64 k ∧ Ow wr G (some ⟨G, 0, none⟩) n n (mix (fun j => fcV W (flC (kk ks) cs n j)) (fun _ => 0) k n) ∧ Ow wr (G + 1) A3 n c3 (mapTo (fun x => (flC (kk ks) cs n x : Int)) n) ∧ Below w.heap.size w wr) (fun i _ => n - (intOf i).toNat)
  case atStart => exact ⟨0, Nat.zero_le _, rfl, by rw [mix_zero]; exact ho4, ho5, hb4⟩
  case round =>
    obtain ⟨k, hk, rfl, ho, hr, hb⟩ := hrel
    by_cases hlt : k < n
    · have hkI : (k : Int) < (n : Int) := by omega
      obtain ⟨b3, off3, rfl, hbB3, hck⟩ := hr.rd.at_ hlt
      rw [mapTo_nth hlt] at hck
      have hcx := ho.cell hlt
      obtain ⟨cx1, cx2⟩ := hcx
      have HS := Lib.hid (fun (v : Int) (e : fcV W (flC (kk ks) cs n k) = v) => show Ow (wr.setCell ⟨G, k, none⟩ (.int .i64 v)) G (some ⟨G, 0, none⟩) n n (mix (fun j => fcV W (flC (kk ks) cs n j)) (fun _ => 0) (k + 1) n) ∧ Ow (wr.setCell ⟨G, k, none⟩ (.int .i64 v)) (G + 1) (some ⟨b3, off3, none⟩) n c3 (mapTo (fun x => (flC (kk ks) cs n x : Int)) n) ∧ Below w.heap.size w (wr.setCell ⟨G, k, none⟩ (.int .i64 v)) from by
        have hst := World.ownsRow.stored ho k (.int .i64 v)
        rw [← e, mix_set (fun j => fcV W (flC (kk ks) cs n j)), e] at hst
        refine ⟨hst.1, World.ownsRow.kept hr hst.2 (.inr fun e2 => ?_), hb.setCell (Nat.le_of_lt hwG) _⟩
        have h1 := hr.own_lo b3 rfl
        have e3 : some b3 = some G := e2
        have := Option.some.inj e3
        omega)
      have h8 := hf8 k
      clear ho hr
      generalize flC (kk ks) cs n k = X at *
      by_cases hx0 : X = 0
      · have e0 : ((X : Int) == 0) = true := by simp [hx0]
        have HX := Lib.hid (HS.out 0 (by simp [fcV, hx0]))
        clear hx0
        go_wp2
        go_roundw
        case rel => exact ⟨k + 1, by omega, by go_num, HX.out⟩
        case measure => simp [intOf]; omega
      · have e0 : ((X : Int) == 0) = false := by simp [hx0]
        by_cases hxS : X = W
        · have eS : ((X : Int) == (W : Int)) = true := by simp [hxS]
          have HX := Lib.hid (HS.out 1 (by unfold fcV; rw [if_neg hx0, if_pos hxS]))
          clear hx0 hxS
          go_wp2
          go_roundw
          case rel => exact ⟨k + 1, by omega, by go_num, HX.out⟩
          case measure => simp [intOf]; omega
        · have eS : ((X : Int) == (W : Int)) = false := by simp; omega
          have HX := Lib.hid (HS.out (-1) (by unfold fcV; rw [if_neg hx0, if_neg hxS]))
          clear hx0 hxS
          go_wp2
          go_roundw
          case rel => exact ⟨k + 1, by omega, by go_num, HX.out⟩
          case measure => simp [intOf]; omega
    · have hkn : k = n := by omega
      rw [hkn, mix_all] at ho
      have hkI : ¬ ((k : Int) < (n : Int)) := by omega
      clear hkn hlt hk
      go_wp2
      go_ret
      exact retSl_mk (ho.mono (Nat.le_of_lt hwG)) hb
theorem implLineForced (A : Option Addr) (m c B : Nat) (cs : List Int) (A' : Option Addr) (n c' B' : Nat) (ks : List Int) (w : World) (h : Rd w B A m cs) (hB : B ≤ w.heap.size) (hm : m ≤ 1099511627776) (hx : B64 cs) (h' : Rd w B' A' n ks) (hB' : B' ≤ w.heap.size) (hn : n ≤ 1099511627776) (hc : n ≤ c') (hc2 : c' ≤ 9223372036854775807) :
    Calls Try.prog 106 #[.slice A m c, .slice A' n c'] w (RetSB w (forI cs ks) (forB cs ks)) := by
  have hl := Lib.hid h.1
  have hl' := Lib.hid h'.1
  have hb0 : Below w.heap.size w (w.alloc (.cells #[.slice A m c, .slice A' n c'] 124)) := (Below.refl _ _).alloc (Nat.le_refl _) _
  have hr := h.below (hb0.mono hB)
  have hr' := h'.below (hb0.mono hB')
  have hBv := Nat.le_trans hB hb0.size
  have hBv' := Nat.le_trans hB' hb0.size
  have hx0 := lbox_new w A m c A' n c'
  have hs0 : w.heap.size < (w.alloc (.cells #[.slice A m c, .slice A' n c'] 124)).heap.size := by simp
  cases hok : okK ks cs n
  · have He := Lib.hid (show forI cs ks = [] ∧ forB cs ks = false by unfold forI forB; rw [hl'.out, hok]; exact ⟨rfl, rfl⟩)
    go_enter Try.func106, Try.ntmps106
    go_wp2_with (go_at_call 112; refine (valid_any _ _ _ _ _ _ _ _ _ _ _ hr hBv hm hx hr' hBv' hn).mono ?_; rintro e w1 ⟨rfl, hb1⟩; rw [hok])
    go_ret2
    rw [He.out.1, He.out.2]
    exact ⟨none, 0, rfl, Ow.nil_ _ _, hb0.trans (hb1.mono hb0.size)⟩
  · have He := Lib.hid (show forI cs ks = (if wys (kk ks) cs n = 0 then ks else forL cs ks) ∧ forB cs ks = decide (wys (kk ks) cs n ≠ 0) by unfold forI forB; rw [hl'.out, hok]; exact ⟨rfl, rfl⟩)
    obtain ⟨p1, p2, p3, p4⟩ := okK_parts hl'.out hok
    rw [hl.out] at p1
    have p5 : ∀ v ∈ cs, 1 ≤ v ∧ v ≤ 8 := fun v hv => ⟨(p4 v hv).1, by have := (p4 v hv).2; omega⟩
    have HY := Lib.hid (fun (w1 : World) (hb1 : Below (w.alloc (.cells #[.slice A m c, .slice A' n c'] 124)).heap.size (w.alloc (.cells #[.slice A m c, .slice A' n c'] 124)) w1) => show w1.cell? ⟨w.heap.size, 0, none⟩ = some (.slice A m c) ∧ w1.cell? ⟨w.heap.size, 1, none⟩ = some (.slice A' n c') from
      ⟨(cell_of_row _ _ 0 _ _ (0, 0) ((hb1.block _ hs0).trans hx0)).trans rfl, (cell_of_row _ _ 1 _ _ (0, 0) ((hb1.block _ hs0).trans hx0)).trans rfl⟩)
    have HL := Lib.hid (show forL cs ks = mapTo (fun j => fcV (wys (kk ks) cs n) (flC (kk ks) cs n j)) n by unfold forL; rw [hl'.out])
    obtain ⟨W, hW⟩ : ∃ W, W = wys (kk ks) cs n := ⟨_, rfl⟩
    rw [← hW] at He HL
    have HW := Lib.hid hW
    clear hW
    by_cases h0 : W = 0
    · have h0I : ((W : Int) == 0) = true := by simp [h0]
      have HE := Lib.hid (show forI cs ks = ks ∧ forB cs ks = false by rw [He.out.1, He.out.2, h0]; exact ⟨rfl, rfl⟩)
      clear h0
      go_enter Try.func106, Try.ntmps106
      go_wp2_with (first
        | (go_at_call 112; refine (valid_any _ _ _ _ _ _ _ _ _ _ _ hr hBv hm hx hr' hBv' hn).mono ?_; rintro e w1 ⟨rfl, hb1⟩; rw [hok]; obtain ⟨y0, y1⟩ := HY.out w1 hb1)
        | (go_at_call 113; refine (ways_any A m c B cs A' n c' B' ks w1 (hr.below (hb1.mono hBv)) (Nat.le_trans hBv hb1.size) p1 p5 (hr'.below (hb1.mono hBv')) (Nat.le_trans hBv' hb1.size) p3 hc hc2).mono ?_; rintro e w2 ⟨rfl, hb2⟩; rw [← HW.out])
        | (go_at_call 62; refine (clone_all A' n c' B' ks w2 (hr'.below ((step hb1 hb2).mono hBv')) (Nat.le_trans hBv' (step hb1 hb2).size) hn).mono ?_; rintro e w3 ⟨A3, c3, rfl, ho3, hb3⟩))
      go_ret2
      rw [HE.out.1, HE.out.2]
      exact retSB_mk (ho3.mono (by have := (step hb1 hb2).size; omega)) (hb0.trans ((step (step hb1 hb2) hb3).mono hb0.size))
    · have h0I : ((W : Int) == 0) = false := by simp [h0]
      have HE := Lib.hid (show forI cs ks = mapTo (fun j => fcV W (flC (kk ks) cs n j)) n ∧ forB cs ks = true by rw [He.out.1, He.out.2, HL.out]; simp [h0])
      clear h0
      go_enter Try.func106, Try.ntmps106
      go_wp2_with (first
        | (go_at_call 112; refine (valid_any _ _ _ _ _ _ _ _ _ _ _ hr hBv hm hx hr' hBv' hn).mono ?_; rintro e w1 ⟨rfl, hb1⟩; rw [hok]; obtain ⟨y0, y1⟩ := HY.out w1 hb1)
        | (go_at_call 113; refine (ways_any A m c B cs A' n c' B' ks w1 (hr.below (hb1.mono hBv)) (Nat.le_trans hBv hb1.size) p1 p5 (hr'.below (hb1.mono hBv')) (Nat.le_trans hBv' hb1.size) p3 hc hc2).mono ?_; rintro e w2 ⟨rfl, hb2⟩; rw [← HW.out]; obtain ⟨x0, x1⟩ := HY.out w2 (step hb1 hb2))
        | (go_at_call 114; refine (forced_any A m c B cs A' n c' B' ks W w2 (hr.below ((step hb1 hb2).mono hBv)) (Nat.le_trans hBv (step hb1 hb2).size) p1 p4 (hr'.below ((step hb1 hb2).mono hBv')) (Nat.le_trans hBv' (step hb1 hb2).size) p2 p3 hc hc2).mono ?_; rintro e w3 ⟨A3, c3, rfl, ho3, hb3⟩; rw [mapTo_length] at ho3 ⊢))
      go_ret2
      rw [HE.out.1, HE.out.2]
      exact retSB_mk (ho3.mono (by have := (step hb1 hb2).size; omega)) (hb0.trans ((step (step hb1 hb2) hb3).mono hb0.size))
end Go.Proofs.Ytgeedgljabdllaa
