import Derived.Test.YtgeedgljabdllaaLt
import Derived.Test.YtgeedgljabdllaaPn
import Derived.WalkKit
set_option maxRecDepth 8000
namespace Go.Proofs.Ytgeedgljabdllaa
open Go.ChangeShapes Go.WideShapes Go.ChangeAt Go.RowKit
/-! the reference's ways and what is forced. -/
def okK (ks cs : List Int) (n : Nat) : Bool := kvB ks && cvB cs (n : Int)
def cW (ks cs : List Int) (n k : Nat) : Nat := sN k (fun m => if okL (kk ks) cs (lnB m n) then 1 else 0)
def cF (ks cs : List Int) (n k j : Nat) : Nat := sN k (fun m => if okL (kk ks) cs (lnB m n) && nb (lnB m n) j then 1 else 0)
def waysI (cs ks : List Int) : Int := if okK ks cs ks.length then ((wys (kk ks) cs ks.length : Nat) : Int) else -1
def fcV (ways x : Nat) : Int := if x = 0 then 0 else if x = ways then 1 else -1
def forL (cs ks : List Int) : List Int := mapTo (fun j => fcV (wys (kk ks) cs ks.length) (flC (kk ks) cs ks.length j)) ks.length
def forI (cs ks : List Int) : List Int := if okK ks cs ks.length then (if wys (kk ks) cs ks.length = 0 then ks else forL cs ks) else []
def forB (cs ks : List Int) : Bool := okK ks cs ks.length && decide (wys (kk ks) cs ks.length ≠ 0)
theorem sN_le1 (k : Nat) (p : Nat → Bool) : sN k (fun m => if p m then 1 else 0) ≤ k := by
  induction k with
  | zero => exact Nat.le_refl _
  | succ k ih => simp only [sN]; split <;> omega
theorem cW_succ (ks cs : List Int) (n k : Nat) : cW ks cs n (k + 1) = cW ks cs n k + if okL (kk ks) cs (lnB k n) then 1 else 0 := rfl
theorem cF_succ (ks cs : List Int) (n k j : Nat) : cF ks cs n (k + 1) j = cF ks cs n k j + if okL (kk ks) cs (lnB k n) && nb (lnB k n) j then 1 else 0 := rfl
theorem cW_all (ks cs : List Int) (n : Nat) : cW ks cs n (2 ^ n) = wys (kk ks) cs n := sN_lines n (fun L => if okL (kk ks) cs L then 1 else 0)
theorem cF_all (ks cs : List Int) (n j : Nat) : cF ks cs n (2 ^ n) j = flC (kk ks) cs n j := sN_lines n (fun L => if okL (kk ks) cs L && nb L j then 1 else 0)
theorem clue_ln {m n : Nat} (h : n ≤ 8) : clueL (lnB m n) = cl (lnB m n) := by simp [clueL, lnB_length, h]
theorem pow8 {n : Nat} (h : n ≤ 8) : ∃ P : Nat, P = 2 ^ n ∧ P ≤ 256 ∧ wrap64 ((2 : Int) ^ n) = (P : Int) := by
  refine ⟨2 ^ n, rfl, Nat.pow_le_pow_right (by omega) h, ?_⟩
  have : 2 ^ n ≤ 2 ^ 8 := Nat.pow_le_pow_right (by omega) h
  rw [show ((2 : Int) ^ n) = ((2 ^ n : Nat) : Int) by simp]
  generalize 2 ^ n = p at *
  exact IntWalk.wrap64_in _ ⟨by omega, by omega⟩
/-- g in the first j places, then h. -/
def mix (g h : Nat → Int) (j n : Nat) : List Int := mapTo (fun i => if i < j then g i else h i) n
theorem mix_length (g h : Nat → Int) (j n : Nat) : (mix g h j n).length = n := mapTo_length _ _
theorem mapTo_congr {g h : Nat → Int} {n : Nat} (H : ∀ i, i < n → g i = h i) : mapTo g n = mapTo h n := by
  unfold mapTo
  exact List.map_congr_left fun i hi => H i (List.mem_range.1 hi)
theorem mix_zero (g h : Nat → Int) (n : Nat) : mix g h 0 n = mapTo h n := mapTo_congr fun _ _ => if_neg (by omega)
theorem mix_all (g h : Nat → Int) (n : Nat) : mix g h n n = mapTo g n := mapTo_congr fun _ hi => if_pos hi
theorem mix_nth {g h : Nat → Int} {j n i : Nat} (hi : i < n) : nth (mix g h j n) i = if i < j then g i else h i := mapTo_nth hi
theorem mapTo_set (g : Nat → Int) (v : Int) (j n : Nat) : (vals (mapTo g n)).set j (.int .i64 v) = vals (mapTo (fun i => if i = j then v else g i) n) := by
  apply List.ext_getElem
  · simp [vals, mapTo]
  · intro i h1 h2
    simp only [vals, mapTo, List.map_map, List.getElem_set, List.getElem_map, List.getElem_range, Function.comp]
    by_cases e : j = i
    · subst e; simp
    · rw [if_neg e, if_neg (by omega)]
theorem mix_set (g h : Nat → Int) (j n : Nat) : (vals (mix g h j n)).set j (.int .i64 (g j)) = vals (mix g h (j + 1) n) := by
  unfold mix
  rw [mapTo_set]
  congr 1
  refine mapTo_congr fun i _ => ?_
  by_cases e : i = j
  · subst e; simp
  · rw [if_neg e]
    by_cases h : i < j
    · rw [if_pos h, if_pos (by omega)]
    · rw [if_neg h, if_neg (by omega)]
theorem mix_same {g h : Nat → Int} {j : Nat} (n : Nat) (e : g j = h j) : mix g h (j + 1) n = mix g h j n := by
  refine mapTo_congr fun i _ => ?_
  by_cases h1 : i < j
  · rw [if_pos h1, if_pos (by omega)]
  · by_cases h2 : i = j
    · subst h2; rw [if_pos (by omega), if_neg h1, e]
    · rw [if_neg h1, if_neg (by omega)]
theorem part_zero' (xs : List Int) (n : Nat) : part xs 0 n = mapTo (fun _ => 0) n := by simp [part, mapTo]
theorem kvB_len {ks : List Int} (h : kvB ks = true) : 1 ≤ ks.length ∧ ks.length ≤ 8 := by
  unfold kvB at h
  rw [Bool.and_eq_true] at h
  have := inr_t h.2
  omega
/-- the post of a call that hands back a slice of its own and a bool. -/
def RetSB (w : World) (xs : List Int) (b : Bool) (e : Ending) (w' : World) : Prop := ∃ A c, e = .returned (.tuple #[.slice A xs.length c, .bool b]) ∧ Ow w' w.heap.size A xs.length c xs ∧ Below w.heap.size w w'
theorem retSB_mk {w w' : World} {A : Option Addr} {n c : Nat} {xs : List Int} {b : Bool} (h : Ow w' w.heap.size A n c xs) (hb : Below w.heap.size w w') : RetSB w xs b (.returned (.tuple #[.slice A n c, .bool b])) w' := by
  obtain rfl := h.len
  exact ⟨A, c, rfl, h, hb⟩
theorem nb_none {L : List Bool} {k : Nat} (h : L.length ≤ k) : nb L k = false := by simp [nb, List.getD_eq_getElem?_getD, List.getElem?_eq_none h]
set_option maxHeartbeats 2000000 in
theorem specLineForced (A A' : Option Addr) (m c n c' B B' : Nat) (cs ks : List Int) (w : World) (h : Rd w B A m cs) (hB : B ≤ w.heap.size) (hm : m ≤ 1099511627776) (h' : Rd w B' A' n ks) (hB' : B' ≤ w.heap.size) (hn : n ≤ 1099511627776) :
    Calls Try.prog 64 #[.slice A m c, .slice A' n c'] w (RetSB w (forI cs ks) (forB cs ks)) := by
  have hl' := Lib.hid h'.1
  have hb0 : Below w.heap.size w (w.alloc (.cells #[] 3)) := (Below.refl _ _).alloc (Nat.le_refl _) _
  have hO := Ow.made0 w w.heap.size (Nat.le_refl _)
  obtain ⟨i0, hi, hz0, hz1, hz2⟩ := info_parts int_info
  cases hk : kvB ks
  · have He := Lib.hid (show forI cs ks = [] ∧ forB cs ks = false by simp [forI, forB, okK, hk])
    go_enter Try.func64, Try.ntmps64
    go_wp2_with (go_at_call 92; refine (specKnownValid _ _ _ _ _ _ h' hn).mono ?_; rintro e w' ⟨rfl, rfl⟩; rw [hk])
    go_ret2
    rw [He.out.1, He.out.2]
    exact ⟨_, _, rfl, hO, hb0⟩
  · cases hc : cvB cs (n : Int)
    · have He := Lib.hid (show forI cs ks = [] ∧ forB cs ks = false by simp [forI, forB, okK, hl'.out, hc])
      go_enter Try.func64, Try.ntmps64
      go_wp2_with (first | (go_at_call 92; refine (specKnownValid _ _ _ _ _ _ h' hn).mono ?_; rintro e w' ⟨rfl, rfl⟩; rw [hk]) | (go_at_call 48; refine (specClueValid _ _ _ _ _ _ _ h hm).mono ?_; rintro e w' ⟨rfl, rfl⟩; rw [hc]))
      go_ret2
      rw [He.out.1, He.out.2]
      exact ⟨_, _, rfl, hO, hb0⟩
    · have hn8 := kvB_len hk
      rw [hl'.out] at hn8
      obtain ⟨P, hP, hP2, hwr⟩ := pow8 hn8.2
      have HF := Lib.hid (show ∀ j, cF ks cs n P j = flC (kk ks) cs n j from fun j => by rw [hP, cF_all])
      have He := Lib.hid (show forI cs ks = (if cW ks cs n P = 0 then ks else mapTo (fun j => fcV (cW ks cs n P) (cF ks cs n P j)) n) ∧ forB cs ks = decide (cW ks cs n P ≠ 0) by
        rw [hP, cW_all]
        simp only [forI, forB, okK, hl'.out, hc, hk, forL, Bool.true_and, Bool.and_self, if_true, cF_all, and_self])
      clear hP
      go_enter Try.func64, Try.ntmps64
      go_wp2_with (first | (go_at_call 92; refine (specKnownValid _ _ _ _ _ _ h' hn).mono ?_; rintro e w' ⟨rfl, rfl⟩; rw [hk]) | (go_at_call 48; refine (specClueValid _ _ _ _ _ _ _ h hm).mono ?_; rintro e w' ⟨rfl, rfl⟩; rw [hc]) | (refine wpList_make_full _ rfl (.tmp 25) (.tmp 25) 28 rfl w.heap.size 3 i0 (.int .i64 0) 1 Try.underlying28 hi hz0 hz1 .i64 .i64 n n n rfl rfl rfl rfl (by rw [hz2]; omega) (by simp only [maxLen]; omega) (Nat.le_refl _) ?_; intro w1 hown hgr))
      have ho1 := made_part ks hown
      have hb1 := made_below hgr (Nat.le_refl w.heap.size)
      rw [part_zero'] at ho1
      clear hown hgr hk hc
      go_wp2
      go_loopw [7, 8] (fun t i wr => ∃ k : Nat, k ≤ P ∧ i = .int .i64 k ∧ t = .int .i64 (cW ks cs n k) ∧ Ow wr w.heap.size (some ⟨w.heap.size, 0, none⟩) n n (mapTo (fun j => (cF ks cs n k j : Int)) n) ∧ Below w.heap.size w wr) (fun _ i _ => P - (intOf i).toNat)
      case atStart => exact ⟨0, Nat.zero_le _, rfl, rfl, ho1, hb1⟩
      case round =>
        obtain ⟨k, hkP, rfl, rfl, ho, hb⟩ := hrel
        have hle : cW ks cs n k ≤ k := sN_le1 k _
        have hs := Lib.hid (cW_succ ks cs n k)
        have hsF := Lib.hid (cF_succ ks cs n k)
        have hcl := Lib.hid (clue_ln (m := k) hn8.2)
        have hlF : ∀ j, cF ks cs n k j ≤ k := fun j => sN_le1 k _
        generalize hS : cW ks cs n k = S at *
        have HS := Lib.hid hS; clear hS
        by_cases hlt : k < P
        · have hkI : (k : Int) < (P : Int) := by omega
          have Hskip := Lib.hid (show okL (kk ks) cs (lnB k n) = false → cW ks cs n (k + 1) = S ∧ mapTo (fun j => (cF ks cs n (k + 1) j : Int)) n = mapTo (fun j => (cF ks cs n k j : Int)) n from fun e => ⟨by rw [hs.out, e]; simp, mapTo_congr fun j _ => by rw [hsF.out, e]; simp⟩)
          cases hf : ft (kk ks) 0 (lnB k n)
          · have Hs := Lib.hid (Hskip.out (by simp [okL, hf]))
            go_wp2_with (first | (go_at_call 93; refine (specLine12 k n _ (by omega)).mono ?_; rintro e w1 ⟨A1, c1, rfl, hoL, hbL⟩; have hb2 := step hb hbL) | (go_at_call 94; refine (specFits12 _ _ _ _ _ _ _ _ _ _ _ hoL.rd (h'.below (hb2.mono hB')) (Nat.le_refl _) hn).mono ?_; rintro e w' ⟨rfl, rfl⟩; rw [hf]))
            go_roundw
            case rel => exact ⟨k + 1, by omega, by go_num, by rw [Hs.out.1], by rw [Hs.out.2]; exact ho.below hbL, hb2⟩
            case measure => simp [intOf]; omega
          · cases hsm : same (clueL (lnB k n)) cs
            · have Hs := Lib.hid (Hskip.out (by rw [hcl.out] at hsm; simp only [same] at hsm; simp [okL, hf, hsm]))
              go_wp2_with (first | (go_at_call 93; refine (specLine12 k n _ (by omega)).mono ?_; rintro e w1 ⟨A1, c1, rfl, hoL, hbL⟩; have hb2 := step hb hbL) | (go_at_call 94; refine (specFits12 _ _ _ _ _ _ _ _ _ _ _ hoL.rd (h'.below (hb2.mono hB')) (Nat.le_refl _) hn).mono ?_; rintro e w' ⟨rfl, rfl⟩; rw [hf]) | (go_at_call 95; refine (specSame12 _ _ _ _ _ _ _ _ _ _ _ hoL.rd (Nat.le_refl _) hn (h.below (hb2.mono hB)) (Nat.le_trans hB hb2.size)).mono ?_; rintro e w2 ⟨rfl, hb3⟩; rw [hsm]; have hb4 := step hb2 hb3))
              go_roundw
              case rel => exact ⟨k + 1, by omega, by go_num, by rw [Hs.out.1], by rw [Hs.out.2]; exact (ho.below hbL).below hb3, hb4⟩
              case measure => simp [intOf]; omega
            · have hok := Lib.hid (show okL (kk ks) cs (lnB k n) = true by rw [hcl.out] at hsm; simp only [same] at hsm; simp [okL, hf, hsm])
              have Hs := Lib.hid (show cW ks cs n (k + 1) = S + 1 by rw [hs.out, hok.out]; simp)
              have HsF := Lib.hid (show ∀ j, cF ks cs n (k + 1) j = cF ks cs n k j + if nb (lnB k n) j then 1 else 0 from fun j => by rw [hsF.out, hok.out, Bool.true_and])
              go_wp2_with (first | (go_at_call 93; refine (specLine12 k n _ (by omega)).mono ?_; rintro e w1 ⟨A1, c1, rfl, hoL, hbL⟩; have hb2 := step hb hbL) | (go_at_call 94; refine (specFits12 _ _ _ _ _ _ _ _ _ _ _ hoL.rd (h'.below (hb2.mono hB')) (Nat.le_refl _) hn).mono ?_; rintro e w' ⟨rfl, rfl⟩; rw [hf]) | (go_at_call 95; refine (specSame12 _ _ _ _ _ _ _ _ _ _ _ hoL.rd (Nat.le_refl _) hn (h.below (hb2.mono hB)) (Nat.le_trans hB hb2.size)).mono ?_; rintro e w2 ⟨rfl, hb3⟩; rw [hsm]; have hb4 := step hb2 hb3))
              have ho4 := (ho.below hbL).below hb3
              have hlo : w.heap.size + 1 ≤ wr.heap.size := by
                obtain ⟨g, e, _, hg⟩ := ho.form (by omega)
                cases e
                exact hg
              have hr4 := (hoL.below hb3).mono hlo
              clear hsm hf ho
              go_loopw [10] (fun i wr => ∃ j : Nat, j ≤ n ∧ i = .int .i64 j ∧ Ow wr w.heap.size (some ⟨w.heap.size, 0, none⟩) n n (mix (fun j => (cF ks cs n (k + 1) j : Int)) (fun j => (cF ks cs n k j : Int)) j n) ∧ OwF wr (w.heap.size + 1) A1 n c1 (lnB k n) ∧ Below w.heap.size w wr) (fun i _ => n - (intOf i).toNat)
              case atStart => exact ⟨0, Nat.zero_le _, rfl, by rw [mix_zero]; exact ho4, hr4, hb4⟩
              case round =>
                obtain ⟨j, hj, rfl, ho, hr, hb⟩ := hrel
                by_cases hltj : j < n
                · have hjI : (j : Int) < (n : Int) := by omega
                  obtain ⟨b1, off1, rfl, hbB1, hck⟩ := hr.rd.at_ hltj
                  have hj1 := hlF j
                  have Hj1 := Lib.hid (HsF.out j)
                  cases hbit : nb (lnB k n) j
                  · have Hm := Lib.hid (mix_same (g := fun j => (cF ks cs n (k + 1) j : Int)) (h := fun j => (cF ks cs n k j : Int)) (j := j) n (by show (cF ks cs n (k + 1) j : Int) = (cF ks cs n k j : Int); rw [HsF.out j, hbit]; simp))
                    rw [hbit] at hck
                    clear hbit
                    go_wp2
                    go_roundw
                    case rel => exact ⟨j + 1, by omega, by go_num, by rw [Hm.out]; exact ho, hr, hb⟩
                    case measure => simp [intOf]; omega
                  · have Hm := Lib.hid (mix_set (fun j => (cF ks cs n (k + 1) j : Int)) (fun j => (cF ks cs n k j : Int)) j n)
                    have Hv := Lib.hid (show (cF ks cs n (k + 1) j : Int) = (cF ks cs n k j : Int) + 1 by rw [HsF.out j, hbit]; simp)
                    rw [hbit] at hck
                    clear hbit
                    have hold := World.ownsRow.cellAt ho j (by omega)
                    rw [vals_get (by rw [mix_length]; exact hltj), mix_nth hltj, if_neg (Nat.lt_irrefl j)] at hold
                    have hfr := World.ownsRow.frozenAt ho j
                    have hst := World.ownsRow.stored ho j (.int .i64 (cF ks cs n (k + 1) j))
                    rw [Hm.out, Hv.out] at hst
                    have Hst := Lib.hid hst; clear hst
                    generalize hX : cF ks cs n k j = X at *
                    clear hX
                    go_wp2
                    go_roundw
                    case rel => exact ⟨j + 1, by omega, by go_num, Hst.out.1, hr.keptF (v := .slice (some ⟨w.heap.size, 0, none⟩) n n) Hst.out.2 (fun g e => by cases e; exact Nat.lt_succ_self _), hb.setCell (Nat.le_refl _) _⟩
                    case measure => simp [intOf]; omega
                · have hjn : j = n := by omega
                  rw [hjn, mix_all] at ho
                  have hjI : ¬ ((j : Int) < (n : Int)) := by omega
                  clear hjn hlF hltj hj hr
                  go_wp2
                  go_roundw
                  case rel => exact ⟨k + 1, by omega, by go_num, by rw [Hs.out]; go_num, ho, hb⟩
                  case measure => simp [intOf]; omega
        · obtain rfl : k = P := by omega
          have hW := Lib.hid (show forI cs ks = (if S = 0 then ks else mapTo (fun j => fcV S (cF ks cs n k j)) n) ∧ forB cs ks = decide (S ≠ 0) by rw [← HS.out]; exact He.out)
          by_cases h0 : S = 0
          · have hW2 := Lib.hid (show forI cs ks = ks ∧ forB cs ks = false by rw [hW.out.1, hW.out.2, h0]; simp)
            have h0I : ((S : Int) == 0) = true := by simp [h0]
            clear h0
            have hOr := Lib.hid ((Ow.made0 wr w.heap.size hb.size))
            have hbr := hb.alloc hb.size (.cells #[] 3)
            have Hrd := Lib.hid (h'.below (hbr.mono hB'))
            have hsz : w.heap.size ≤ (wr.alloc (.cells #[] 3)).heap.size := hbr.size
            go_wp2_with (at_builtin; (refine push_new rfl (.tmp 70) (.tmp 71) rfl w.heap.size (some ⟨wr.heap.size, 0, none⟩) A' n c' B' ks rfl rfl hOr.out Hrd.out hn hsz ?_); intro A1 c1 w1 ho1 hg1; have hb1 := hbr.grown hg1 hbr.size (fun k hk => hOr.out.own_lo k hk))
            go_ret2
            rw [hW2.out.1, hW2.out.2]
            exact retSB_mk ho1 hb1
          · have hW2 := Lib.hid (show forI cs ks = mapTo (fun j => fcV S (cF ks cs n k j)) n ∧ forB cs ks = true by rw [hW.out.1, hW.out.2]; simp [h0])
            have h0I : ((S : Int) == 0) = false := by simp [h0]
            have H0 := Lib.hid h0
            clear h0
            have hlo : w.heap.size + 1 ≤ wr.heap.size := by
              obtain ⟨g, e, _, hg⟩ := ho.form (by omega)
              cases e
              exact hg
            have hbr := hb.alloc hb.size (.cells #[] 3)
            have hOr := Ow.made0 wr (w.heap.size + 1) hlo
            have ho5 := ho.below (((Below.refl _ _).alloc (Nat.le_refl wr.heap.size) (.cells #[] 3)))
            have hlF8 : ∀ j, cF ks cs n k j ≤ 256 := fun j => Nat.le_trans (hlF j) hP2
            clear ho hb
            go_wp2
            clear hwr
            go_loopw [11, 12] (fun v i wr => ∃ (j : Nat) (A1 : Option Addr) (c1 : Nat), j ≤ n ∧ i = .int .i64 j ∧ v = .slice A1 j c1 ∧ Ow wr (w.heap.size + 1) A1 j c1 (mapTo (fun j => fcV S (cF ks cs n k j)) j) ∧ Ow wr w.heap.size (some ⟨w.heap.size, 0, none⟩) n n (mapTo (fun j => (cF ks cs n k j : Int)) n) ∧ Below w.heap.size w wr) (fun _ i _ => n - (intOf i).toNat)
            case atStart => exact ⟨0, _, _, Nat.zero_le _, rfl, rfl, hOr, ho5, hbr⟩
            case round =>
              obtain ⟨j, A1, c1, hj, rfl, rfl, ho1, ho, hb⟩ := hrel
              by_cases hltj : j < n
              · have hjI : (j : Int) < (n : Int) := by omega
                have hj40 : j ≤ 1099511627776 := by omega
                have hold := World.ownsRow.cellAt ho j (by omega)
                rw [vals_get (by rw [mapTo_length]; exact hltj), mapTo_nth hltj] at hold
                have hj8 := hlF8 j
                have Hm := Lib.hid (mapTo_succ (fun j => fcV S (cF ks cs n k j)) j)
                have hlo1 : w.heap.size + 1 ≤ wr.heap.size := by
                  obtain ⟨g, e, _, hg⟩ := ho.form (by omega)
                  cases e
                  exact hg
                generalize hX : cF ks cs n k j = X at *
                clear hX
                by_cases hx0 : X = 0
                · have e0 : ((X : Int) == 0) = true := by simp [hx0]
                  have HX := Lib.hid (show fcV S X = 0 by simp [fcV, hx0])
                  clear hx0
                  go_wp2_with (at_builtin; refine push_int rfl (.tmp 89) (.tmp 90) rfl (w.heap.size + 1) A1 _ c1 _ _ rfl rfl ho1 hj40 hlo1 ?_; intro A2 c2 w2 ho2 hg2)
                  have hb2 := push_below hb ho1 (Nat.le_succ _) hb.size hg2
                  have ho3 := (ho.below ((Below.refl _ _).alloc (Nat.le_refl wr.heap.size) (.cells #[.int .i64 0] 3))).keptB hg2 (fun k e => ho1.own_lo k e)
                  go_roundw
                  case rel => exact ⟨j + 1, A2, c2, by omega, by go_num, rfl, by rw [Hm.out, HX.out]; exact ho2, ho3, hb2⟩
                  case measure => simp [intOf]; omega
                · have e0 : ((X : Int) == 0) = false := by simp [hx0]
                  by_cases hxS : X = S
                  · have eS : ((X : Int) == (S : Int)) = true := by simp [hxS]
                    have HX := Lib.hid (show fcV S X = 1 by have := H0.out; simp [fcV, hxS, this])
                    clear hx0 hxS
                    go_wp2_with (at_builtin; refine push_int rfl (.tmp 95) (.tmp 96) rfl (w.heap.size + 1) A1 _ c1 _ _ rfl rfl ho1 hj40 hlo1 ?_; intro A2 c2 w2 ho2 hg2)
                    have hb2 := push_below hb ho1 (Nat.le_succ _) hb.size hg2
                    have ho3 := (ho.below ((Below.refl _ _).alloc (Nat.le_refl wr.heap.size) (.cells #[.int .i64 1] 3))).keptB hg2 (fun k e => ho1.own_lo k e)
                    go_roundw
                    case rel => exact ⟨j + 1, A2, c2, by omega, by go_num, rfl, by rw [Hm.out, HX.out]; exact ho2, ho3, hb2⟩
                    case measure => simp [intOf]; omega
                  · have eS : ((X : Int) == (S : Int)) = false := by simp; omega
                    have HX := Lib.hid (show fcV S X = -1 by simp [fcV, hx0, hxS])
                    clear hx0 hxS
                    go_wp2_with (at_builtin; refine push_int rfl (.tmp 84) (.tmp 85) rfl (w.heap.size + 1) A1 _ c1 _ _ rfl rfl ho1 hj40 hlo1 ?_; intro A2 c2 w2 ho2 hg2)
                    have hb2 := push_below hb ho1 (Nat.le_succ _) hb.size hg2
                    have ho3 := (ho.below ((Below.refl _ _).alloc (Nat.le_refl wr.heap.size) (.cells #[.int .i64 (-1)] 3))).keptB hg2 (fun k e => ho1.own_lo k e)
                    go_roundw
                    case rel => exact ⟨j + 1, A2, c2, by omega, by go_num, rfl, by rw [Hm.out, HX.out]; exact ho2, ho3, hb2⟩
                    case measure => simp [intOf]; omega
              · obtain rfl : j = n := by omega
                go_wp2
                go_ret2
                rw [hW2.out.1, hW2.out.2]
                exact retSB_mk (ho1.mono (Nat.le_succ _)) hb
end Go.Proofs.Ytgeedgljabdllaa
