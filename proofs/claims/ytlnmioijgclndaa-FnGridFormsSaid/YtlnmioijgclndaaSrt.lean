import Derived.Test.YtlnmioijgclndaaFc
import Derived.Sort.LotA
import Derived.Shelf.Abstract
set_option maxRecDepth 8000
namespace Go.Proofs.Ytlnmioijgclndaa
open Go.ChangeShapes Go.WideShapes Go.ChangeAt Go.RowKit Go.Shelf
/-! slices.SortFunc of eight slices by slices.Compare. -/
def sgn (a b : Int) : Int := if a < b then -1 else if b < a then 1 else 0
theorem isNaN_any (x : Int) (w : World) : Calls Try.prog 101 #[.int .i64 x] w fun e w' => e = .returned (.bool false) ∧ w = w' := by
  have hx : (x != x) = false := by simp
  go_enter Try.func101, Try.ntmps101
  go_wp2
  go_ret
  exact ⟨rfl, rfl⟩
theorem cmpInt_any (x y : Int) (w : World) : Calls Try.prog 87 #[.int .i64 x, .int .i64 y] w fun e w' => e = .returned (.int .i64 (sgn x y)) ∧ w = w' := by
  by_cases h1 : x < y
  · have HS := Lib.hid (show sgn x y = -1 by simp [sgn, h1])
    go_enter Try.func87, Try.ntmps87
    go_wp2_with (go_at_call 101; refine (isNaN_any _ _).mono ?_; rintro e w' ⟨rfl, rfl⟩)
    go_ret
    exact ⟨by rw [HS.out]; rfl, rfl⟩
  · by_cases h2 : y < x
    · have HS := Lib.hid (show sgn x y = 1 by simp [sgn, h1, h2])
      go_enter Try.func87, Try.ntmps87
      go_wp2_with (go_at_call 101; refine (isNaN_any _ _).mono ?_; rintro e w' ⟨rfl, rfl⟩)
      go_ret
      exact ⟨by rw [HS.out]; rfl, rfl⟩
    · have HS := Lib.hid (show sgn x y = 0 by simp [sgn, h1, h2])
      go_enter Try.func87, Try.ntmps87
      go_wp2_with (go_at_call 101; refine (isNaN_any _ _).mono ?_; rintro e w' ⟨rfl, rfl⟩)
      go_ret
      exact ⟨by rw [HS.out]; rfl, rfl⟩
theorem compare_any (A A' : Option Addr) (c c' n B B' : Nat) (xs ys : List Int) (w : World) (h : Rd w B A n xs) (h' : Rd w B' A' n ys) (hm : n ≤ 1099511627776) (hx : dig xs n) (hy : dig ys n) :
    Calls Try.prog 72 #[.slice A n c, .slice A' n c'] w fun e w' => e = .returned (.int .i64 (sgn (keyT xs n) (keyT ys n))) ∧ w = w' := by
  have Hx := Lib.hid hx
  have Hy := Lib.hid hy
  clear hx hy
  go_enter Try.func72, Try.ntmps72
  go_wp2
  go_loop [11] (fun i => ∃ k : Nat, k ≤ n ∧ i = .int .i64 k ∧ eqTo xs ys k) (fun i => n - (intOf i).toNat)
  case atStart => exact ⟨0, Nat.zero_le _, rfl, eqTo_zero⟩
  case round =>
    obtain ⟨k, hk, rfl, heq⟩ := hrel
    by_cases hlt : k < n
    · obtain ⟨b, off, rfl, hbB, hck⟩ := h.at_ hlt
      obtain ⟨b', off', rfl, hbB', hck'⟩ := h'.at_ hlt
      have hltI : (k : Int) < (n : Int) := by omega
      have hltI' : ¬ (n : Int) ≤ (k : Int) := by omega
      by_cases e : nth xs k = nth ys k
      · have HS := Lib.hid (show sgn (nth xs k) (nth ys k) = 0 by rw [e]; simp [sgn])
        have He := Lib.hid e; clear e
        go_wp2_with (go_at_call 87; refine (cmpInt_any _ _ _).mono ?_; rintro e w' ⟨rfl, rfl⟩; rw [HS.out])
        go_round
        case rel => exact ⟨k + 1, by omega, by go_num, eqTo_succ heq He.out⟩
        case measure => simp [intOf]; omega
      · rcases Int.lt_or_lt_of_ne e with q | q
        · have HS := Lib.hid (show sgn (nth xs k) (nth ys k) = -1 by simp [sgn, q])
          have HR := Lib.hid (show sgn (keyT xs n) (keyT ys n) = -1 by
            have := keyT_lt Hx.out Hy.out heq hlt q
            simp [sgn, this])
          clear e q
          go_wp2_with (go_at_call 87; refine (cmpInt_any _ _ _).mono ?_; rintro e w' ⟨rfl, rfl⟩; rw [HS.out])
          go_ret
          exact ⟨by rw [HR.out]; rfl, rfl⟩
        · have HS := Lib.hid (show sgn (nth xs k) (nth ys k) = 1 by simp [sgn, q]; omega)
          have HR := Lib.hid (show sgn (keyT xs n) (keyT ys n) = 1 by
            have := keyT_lt Hy.out Hx.out (fun j hj => (heq j hj).symm) hlt q
            simp [sgn, this]; omega)
          clear e q
          go_wp2_with (go_at_call 87; refine (cmpInt_any _ _ _).mono ?_; rintro e w' ⟨rfl, rfl⟩; rw [HS.out])
          go_ret
          exact ⟨by rw [HR.out]; rfl, rfl⟩
    · obtain rfl : k = n := by omega
      have HR := Lib.hid (show sgn (keyT xs k) (keyT ys k) = 0 by rw [keyT_to heq]; simp [sgn])
      go_wp2
      go_ret
      exact ⟨by rw [HR.out]; rfl, rfl⟩
theorem insIn_go (lt : GV → GV → Bool) (j : Nat) (d : Array GV) (hl : lt d[j + 1]! d[j]! = true) : Sort.insInner lt 0 (j + 1) d = Sort.insInner lt 0 j (Sort.swp d (j + 1) j) := by
  rw [Sort.insInner]
  simp [hl]
theorem insIn_stop (lt : GV → GV → Bool) (j : Nat) (d : Array GV) (h : j ≤ 0 ∨ lt d[j]! d[j - 1]! = false) : Sort.insInner lt 0 j d = d := by
  cases j with
  | zero => rw [Sort.insInner]
  | succ k =>
    rw [Sort.insInner]
    simp only [Nat.add_sub_cancel] at h
    rcases h with h | h
    · omega
    · simp [h]
theorem insOut_go (lt : GV → GV → Bool) (i : Nat) (d : Array GV) (h : i < 8) : Sort.insOuter lt 0 8 i d = Sort.insOuter lt 0 8 (i + 1) (Sort.insInner lt 0 i d) := by rw [Sort.insOuter, if_pos h]
theorem insOut_stop (lt : GV → GV → Bool) (i : Nat) (d : Array GV) (h : ¬ i < 8) : Sort.insOuter lt 0 8 i d = d := by rw [Sort.insOuter, if_neg h]
/-- the order by which the program sorts. -/
def ltK (n : Nat) (x y : GV) : Bool := decide (keyT x.2 n < keyT y.2 n)
/-- what the sort does to the row in block g: nothing else is changed. -/
def SrtW (w wr : World) (lo g m cap : Nat) (dk : Array GV) : Prop := wr.ownsRow lo 23 1 (.slice (some ⟨g, 0, none⟩) m cap) m (dk.toList.map Prod.fst) ∧ w.grownBy wr (some g)
theorem SrtW.cell {w wr : World} {lo g m cap : Nat} {dk : Array GV} (h : SrtW w wr lo g m cap dk) (hs : dk.size = m) {k : Nat} (hk : k < m) : wr.cell? ⟨g, k, none⟩ = some (dk[k]!).1 ∧ wr.frozen? ⟨g, k, none⟩ = false := by
  refine ⟨?_, World.ownsRow.frozenAt h.1 k⟩
  have hkd : k < dk.size := by omega
  rw [World.ownsRow.cellAt h.1 k (by omega), List.getElem?_map, getElem!_pos dk k hkd]
  simp [hkd]
theorem SrtW.drewN {w wr : World} {lo g m cap : Nat} {dk : Array GV} (h : SrtW w wr lo g m cap dk) (q : Nat) : SrtW w (wr.drewN q) lo g m cap dk :=
  ⟨World.ownsRow.kept h.1 (row := none) ⟨rfl, rfl, rfl, Nat.le_refl _, fun _ _ _ => rfl⟩ (by simp [Value.ownBlock]), ⟨h.2.os, h.2.tape, h.2.output, h.2.size, h.2.block⟩⟩
theorem SrtW.swap {w wr : World} {lo g m cap : Nat} {dk : Array GV} (h : SrtW w wr lo g m cap dk) (i j : Nat) :
    SrtW w ((wr.setCell ⟨g, i, none⟩ (dk[j]!).1).setCell ⟨g, j, none⟩ (dk[i]!).1) lo g m cap (Sort.swp dk i j) := by
  obtain ⟨h1, h2⟩ := World.ownsRow.stored h.1 i (dk[j]!).1
  obtain ⟨h3, h4⟩ := World.ownsRow.stored h1 j (dk[i]!).1
  refine ⟨?_, (h.2.trans h2).trans h4⟩
  have e : ((dk.toList.map Prod.fst).set i (dk[j]!).1).set j (dk[i]!).1 = (Sort.swp dk i j).toList.map Prod.fst := by
    unfold Sort.swp
    simp only [Array.toList_setIfInBounds, List.map_set]
  rw [← e]
  exact h3
set_option maxHeartbeats 4000000 in
theorem insertionSort_any (n lo g cap : Nat) (d : Array GV) (w : World) (hd8 : d.size = 8) (hS : SrtW w w lo g 8 cap d) (he : ∀ x ∈ d.toList, ∃ A c, x.1 = .slice A n c)
    (hc : ∀ W, w.grownBy W (some g) → ∀ x ∈ d.toList, ∀ y ∈ d.toList, Calls Try.prog 72 #[x.1, y.1] W fun e w' => e = .returned (.int .i64 (sgn (keyT x.2 n) (keyT y.2 n))) ∧ W = w') :
    Calls Try.prog 91 #[.slice (some ⟨g, 0, none⟩) 8 cap, .int .i64 0, .int .i64 8, .func (.func 72) #[] #[]] w fun e w' =>
      e = .returned (.tuple #[]) ∧ SrtW w w' lo g 8 cap (Sort.insertionSort (ltK n) d 0 8) := by
  have eg : ∀ args w, (callFunc 72 args).run Try.prog w = .ok (.enter 72 args) w := enters_of Try.func72 (by kernel_rfl) rfl
  have HC := Lib.hid hc
  have HE := Lib.hid he
  clear hc he
  go_enter Try.func91, Try.ntmps91
  go_wp2
  go_loopw [8] (fun vi wr => ∃ (i : Nat) (dk : Array GV), vi = .int .i64 i ∧ 0 < i ∧ i ≤ 8 ∧ dk.size = 8 ∧ Hid (∀ k, k < 8 → dk[k]! ∈ d.toList) ∧ SrtW w wr lo g 8 cap dk ∧ Hid (Sort.insOuter (ltK n) 0 8 i dk = Sort.insOuter (ltK n) 0 8 1 d)) (fun vi _ => 8 - (intOf vi).toNat)
  case atStart => exact ⟨1, d, rfl, by omega, by omega, hd8, Lib.hid (fun k hk => by rw [getElem!_pos d k (by omega)]; exact Array.getElem_mem_toList _), hS, Lib.hid rfl⟩
  case round =>
    obtain ⟨i, dk, rfl, hi0, hi8, hsk, HM, hSk, HO⟩ := hrel
    by_cases hlt : i < 8
    · have hltz : (i : Int) < 8 := by omega
      go_wp2
      obtain ⟨wo, rfl⟩ : ∃ wo : World, wo = wr := ⟨_, rfl⟩
      go_loopw [9] (fun vj wr => ∃ (j : Nat) (dj : Array GV), vj = .int .i64 j ∧ j ≤ i ∧ dj.size = 8 ∧ Hid (∀ k, k < 8 → dj[k]! ∈ d.toList) ∧ SrtW w wr lo g 8 cap dj ∧ Hid (Sort.insInner (ltK n) 0 j dj = Sort.insInner (ltK n) 0 i dk)) (fun vj _ => (intOf vj).toNat)
      case atStart => exact ⟨i, dk, rfl, Nat.le_refl _, hsk, HM, hSk, Lib.hid rfl⟩
      case round =>
        obtain ⟨j, dj, rfl, hji, hsj, HMj, hSj, HI⟩ := hrel
        have out : (j ≤ 0 ∨ ltK n dj[j]! dj[j - 1]! = false) → Hid (Sort.insOuter (ltK n) 0 8 (i + 1) dj = Sort.insOuter (ltK n) 0 8 1 d) := fun hs => Lib.hid (by
          rw [← HO.out, insOut_go _ _ _ hlt, ← HI.out, insIn_stop _ _ _ hs])
        have OUT := Lib.hid out
        clear out
        by_cases hja : 0 < j
        · obtain ⟨jp, rfl⟩ : ∃ jp, j = jp + 1 := ⟨j - 1, by omega⟩
          obtain ⟨⟨vj, Lj⟩, hxj⟩ : ∃ x, dj[jp + 1]! = x := ⟨_, rfl⟩
          obtain ⟨⟨vp, Lp⟩, hxp⟩ : ∃ x, dj[jp]! = x := ⟨_, rfl⟩
          obtain ⟨cj, fj⟩ := hSj.cell hsj (show jp + 1 < 8 by omega)
          obtain ⟨cp, fp⟩ := hSj.cell hsj (show jp < 8 by omega)
          have hmj := HMj.out (jp + 1) (by omega)
          have hmp := HMj.out jp (by omega)
          rw [hxj] at cj hmj
          rw [hxp] at cp hmp
          obtain ⟨Aj, cj0, ej⟩ := HE.out _ hmj
          obtain ⟨Ap, cp0, ep⟩ := HE.out _ hmp
          dsimp only at ej ep cj cp
          subst ej ep
          have hcmp : ∀ q, Calls Try.prog 72 #[.slice Aj n cj0, .slice Ap n cp0] (wr.drewN q) fun e w' => e = .returned (.int .i64 (sgn (keyT Lj n) (keyT Lp n))) ∧ w' = wr.drewN q := fun q =>
            (HC.out _ (hSj.drewN q).2 _ hmj _ hmp).mono fun e w' h => ⟨h.1, h.2.symm⟩
          have Hcmp := Lib.hid hcmp
          have hjaz : (0 : Int) < (jp : Int) + 1 := by omega
          have hwp : IntKind.i64.wrap (jp : Int) = (jp : Int) := IntWalk.i64_in _ (by omega)
          have jz : (jp : Int) + 1 < 8 := by omega
          have jz1 : (jp : Int) < 8 := by omega
          have p0 : (0 : Int) ≤ (jp : Int) + 1 := by omega
          have e0 : ((jp : Int) + 1).toNat = jp + 1 := by omega
          have HSj := Lib.hid hSj
          clear hcmp hmj hmp hSj
          by_cases hlv : keyT Lj n < keyT Lp n
          · have hsg : sgn (keyT Lj n) (keyT Lp n) = -1 := by simp [sgn, hlv]
            rw [hsg] at Hcmp
            go_wp2_with fail
            go_quiet ((go_at_fn 72; exact Calls.quiet_of_same (Hcmp.out _)))
            go_wp2_with fail
            have hS2 := HSj.out.drewN nq
            have cj2 : (wr.drewN nq).cell? ⟨g, jp + 1, none⟩ = some (.slice Aj n cj0) := cj
            have cp2 : (wr.drewN nq).cell? ⟨g, jp, none⟩ = some (.slice Ap n cp0) := cp
            have fj2 : (wr.drewN nq).frozen? ⟨g, jp + 1, none⟩ = false := fj
            have fp2 : (wr.drewN nq).frozen? ⟨g, jp, none⟩ = false := fp
            clear cj cp fj fp Hcmp HSj
            generalize wr.drewN nq = wq at hS2 cj2 cp2 fj2 fp2 ⊢
            have hsw := hS2.swap (jp + 1) jp
            rw [hxp, hxj] at hsw
            dsimp only at hsw
            obtain ⟨j1, hj1⟩ : ∃ j1, j1 = jp + 1 := ⟨_, rfl⟩
            rw [← hj1] at cj2 fj2 e0 hsw
            have J1 := Lib.hid hj1
            have HSW := Lib.hid hsw
            have HG := Lib.hid (insIn_go (ltK n) jp dj (by rw [hxj, hxp]; exact decide_eq_true hlv))
            have HMn := Lib.hid (show ∀ k, k < 8 → (Sort.swp dj j1 jp)[k]! ∈ d.toList from fun k hk => by
              have hm : ∀ (a : GV) (e : Array GV) (q : Nat), e.size = 8 → a ∈ d.toList → (∀ k, k < 8 → e[k]! ∈ d.toList) → ∀ k, k < 8 → (e.setIfInBounds q a)[k]! ∈ d.toList := fun a e q he ha hall k hk => by
                by_cases hq : k = q
                · subst hq
                  rw [getElem!_pos _ k (by simp <;> omega)]
                  simpa using ha
                · rw [getElem!_pos _ k (by simp <;> omega), Array.getElem_setIfInBounds_ne (by omega) (fun h => hq h.symm), ← getElem!_pos e k (by omega)]
                  exact hall k hk
              unfold Sort.swp
              exact hm _ _ _ (by simp [hsj]) (HMj.out j1 (by have := J1.out; omega)) (hm _ _ _ hsj (HMj.out jp (by omega)) HMj.out) k hk)
            clear hj1 hsw hS2
            go_region
            go_wp2
            go_roundw
            case rel => exact ⟨jp, Sort.swp dj j1 jp, by go_num, by omega, by simp [Sort.swp, hsj], HMn, by exact HSW.out.drewN 1, Lib.hid (by rw [← HI.out, J1.out, HG.out])⟩
            case measure => simp [intOf] <;> omega
          · have hsg : ∃ r, sgn (keyT Lj n) (keyT Lp n) = r ∧ 0 ≤ r := by
              by_cases q : keyT Lp n < keyT Lj n
              · exact ⟨1, by simp [sgn, q]; omega, by omega⟩
              · exact ⟨0, by simp [sgn, q, hlv], by omega⟩
            obtain ⟨r, hr, r0⟩ := hsg
            have rn : ¬ r < 0 := by omega
            rw [hr] at Hcmp
            have O := OUT.out (Or.inr (by simp only [Nat.add_sub_cancel]; rw [hxj, hxp]; exact decide_eq_false hlv))
            go_wp2_with fail
            go_quiet ((go_at_fn 72; exact Calls.quiet_of_same (Hcmp.out _)))
            go_wp2
            go_roundw
            case rel => exact ⟨i + 1, dj, by go_num, by omega, by omega, hsj, HMj, HSj.out.drewN _, O⟩
            case measure => simp [intOf]; omega
        · obtain rfl : j = 0 := by omega
          have O := OUT.out (Or.inl (Nat.le_refl _))
          go_wp2_with fail
          go_quiet (fail)
          go_wp2
          go_roundw
          case rel => exact ⟨i + 1, dj, by go_num, by omega, by omega, hsj, HMj, hSj.drewN _, O⟩
          case measure => simp [intOf]; omega
    · obtain rfl : i = 8 := by omega
      go_wp2
      go_end0
      exact ⟨rfl, by unfold Sort.insertionSort; rw [← HO.out, insOut_stop _ _ _ hlt]; exact hSk⟩
theorem len8_any (w : World) : Calls Try.prog 86 #[.int .u64 8] w fun e w' => (∃ l : Int, e = .returned (.int .i64 l)) ∧ w = w' := by
  have h64 : Calls Try.prog 100 #[.int .u64 8] w fun e w' => (∃ l : Int, e = .returned (.int .i64 l)) ∧ w = w' := by
    go_enter Try.func100, Try.ntmps100
    go_wp2
    go_ret
    exact ⟨⟨_, rfl⟩, rfl⟩
  go_enter Try.func86, Try.ntmps86
  go_wp2_with (go_at_call 100; refine h64.mono ?_; rintro e w' ⟨⟨l, rfl⟩, rfl⟩)
  go_ret
  exact ⟨⟨l, rfl⟩, rfl⟩
theorem pdqsort_any (lim : Int) (n lo g cap : Nat) (d : Array GV) (w : World) (hd8 : d.size = 8) (hS : SrtW w w lo g 8 cap d) (he : ∀ x ∈ d.toList, ∃ A c, x.1 = .slice A n c)
    (hc : ∀ W, w.grownBy W (some g) → ∀ x ∈ d.toList, ∀ y ∈ d.toList, Calls Try.prog 72 #[x.1, y.1] W fun e w' => e = .returned (.int .i64 (sgn (keyT x.2 n) (keyT y.2 n))) ∧ W = w') :
    Calls Try.prog 85 #[.slice (some ⟨g, 0, none⟩) 8 cap, .int .i64 0, .int .i64 8, .int .i64 lim, .func (.func 72) #[] #[]] w fun e w' =>
      e = .returned (.tuple #[]) ∧ SrtW w w' lo g 8 cap (Sort.insertionSort (ltK n) d 0 8) := by
  have HI := Lib.hid (insertionSort_any n lo g cap d w hd8 hS he hc)
  clear hc he
  go_enter Try.func85, Try.ntmps85
  go_wp2
  refine wp_loop_rounds 1 ?_
  rw [rounds_succ]
  go_wp2_with (go_at_call 91; refine HI.out.mono ?_; rintro e w' ⟨rfl, hS'⟩)
  (try simp only [Exit.inBlock, Exit.then]); refine bodyPost_ret (results_none rfl _ _ _) rfl ?_
  exact ⟨rfl, hS'⟩
theorem sortFunc_any (n lo g cap : Nat) (d : Array GV) (w : World) (hd8 : d.size = 8) (hS : SrtW w w lo g 8 cap d) (he : ∀ x ∈ d.toList, ∃ A c, x.1 = .slice A n c)
    (hc : ∀ W, w.grownBy W (some g) → ∀ x ∈ d.toList, ∀ y ∈ d.toList, Calls Try.prog 72 #[x.1, y.1] W fun e w' => e = .returned (.int .i64 (sgn (keyT x.2 n) (keyT y.2 n))) ∧ W = w') :
    Calls Try.prog 71 #[.slice (some ⟨g, 0, none⟩) 8 cap, .func (.func 72) #[] #[]] w fun e w' =>
      e = .returned (.tuple #[]) ∧ SrtW w w' lo g 8 cap (Sort.insertionSort (ltK n) d 0 8) := by
  have HP := Lib.hid (fun lim => pdqsort_any lim n lo g cap d w hd8 hS he hc)
  clear hc he
  go_enter Try.func71, Try.ntmps71
  go_wp2_with (first | (go_at_call 86; refine (len8_any _).mono ?_; rintro e w' ⟨⟨l, rfl⟩, rfl⟩) | (go_at_call 85; refine (HP.out _).mono ?_; rintro e w' ⟨rfl, hS'⟩))
  go_end0
  exact ⟨rfl, hS'⟩
/-- what is known of the sorted row. -/
theorem ltK_swo (n : Nat) : Sort.SWO (ltK n) :=
  ⟨fun x => by simp [ltK], fun x y z h1 h2 => by simp only [ltK, decide_eq_true_eq] at *; omega, fun x y z h1 h2 => by simp only [ltK, decide_eq_false_iff_not] at *; omega⟩
theorem sorted_any (n : Nat) (d : Array GV) (hd8 : d.size = 8) : (Sort.insertionSort (ltK n) d 0 8).toList.Perm d.toList ∧ (Sort.insertionSort (ltK n) d 0 8).size = 8 ∧ ∀ i j, i < j → j < 8 → keyT ((Sort.insertionSort (ltK n) d 0 8)[i]!).2 n ≤ keyT ((Sort.insertionSort (ltK n) d 0 8)[j]!).2 n := by
  obtain ⟨⟨h1, _, h3⟩, h4⟩ := Sort.insertionSort_holds (lt := ltK n) (ltK_swo n) d 0 8 (by omega) (by omega)
  have hs : (Sort.insertionSort (ltK n) d 0 8).size = 8 := by rw [h1, hd8]
  have e : ∀ a : Array GV, a.size = 8 → a.extract 0 8 = a := fun a ha => by rw [← ha]; simp
  rw [e _ hs, e _ hd8] at h3
  refine ⟨h3, hs, fun i j hij hj => ?_⟩
  have := h4 i j (by omega) hij hj
  simp only [ltK, decide_eq_false_iff_not] at this
  omega
end Go.Proofs.Ytlnmioijgclndaa
