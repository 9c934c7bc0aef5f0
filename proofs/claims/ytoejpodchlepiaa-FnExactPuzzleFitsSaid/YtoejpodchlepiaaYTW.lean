import Derived.Test.YtoejpodchlepiaaYRS
import Derived.Test.YtoejpodchlepiaaYWz
import Derived.Test.YtoejpodchlepiaaYDrawH
set_option maxRecDepth 8000
namespace Go.Proofs.Ytoejpodchlepiaa
open Go.ChangeShapes Go.WideShapes Go.ChangeAt Go.RowKit
/-- what tryWays leaves: all ways told and the callback never said no, or it said no. -/
def TryPost (J : List (List Int) → World → Prop) (Jx : World → Prop) (lo V n c cell : Nat) (vs : List Int) (ways : List (List Int)) (e : Ending) (Y : World) : Prop :=
  (e = .returned (.bool true) ∧ J ways Y ∧ ∃ ys, Ow Y lo (some ⟨V, 0, none⟩) n c ys ∧ ∀ i, i < cell → nth ys i = nth vs i) ∨ (e = .returned (.bool false) ∧ Jx Y)
theorem nth_set_ne {xs : List Int} {k i : Nat} {v : Int} (h : k ≠ i) : nth (xs.set k v) i = nth xs i := by simp [nth, List.getD_eq_getElem?_getD, List.getElem?_set_ne h]
theorem nth_set_same {xs : List Int} {k : Nat} {v : Int} (h : k < xs.length) : nth (xs.set k v) k = v := by simp [nth, List.getD_eq_getElem?_getD, List.getElem?_set_self h]
theorem grown_tr2 {a b c : World} {r : Option Nat} (h : a.grownBy b r) (k : b.grownBy c r) : a.grownBy c r := h.trans k
theorem bits_in {M t u : Nat} (h : M.testBit t = true) (h1 : 1 ≤ t) (h2 : t ≤ u) : (t : Int) ∈ bitsTo M u := by
  induction u with
  | zero => omega
  | succ u ih =>
    simp only [bitsTo, List.mem_append]
    by_cases e : t = u + 1
    · subst e; right; rw [if_pos h]; simp
    · left; exact ih (by omega)
set_option maxHeartbeats 1000000 in
theorem tryWays_any {lb : Array Value} {ms : List Int} {n c lo V cm : Nat} {Am : Option Addr} {J : List (List Int) → World → Prop} {Jx : World → Prop}
    (hM : ∀ pre X, J pre X → Rd X V Am n ms) (hm : ∀ i, i < n → 0 ≤ nth ms i ∧ nth ms i < 32) (hn : n ≤ 4)
    (hJ : ∀ pre X Y, J pre X → X.grownBy Y (some V) → J pre Y)
    (hcb : ∀ pre ys X, ys ∈ allW ms n [] → J pre X → Ow X lo (some ⟨V, 0, none⟩) n c ys → Calls Try.prog 136 lb X fun e Y => (e = .returned (.bool true) ∧ J (pre ++ [ys]) Y ∧ Ow Y lo (some ⟨V, 0, none⟩) n c ys) ∨ (e = .returned (.bool false) ∧ Jx Y)) :
    ∀ (d cell : Nat) (vs ys0 : List Int) (pre : List (List Int)) (X : World), cell + d = n → vs.length = cell → J pre X → Ow X lo (some ⟨V, 0, none⟩) n c ys0 → (∀ i, i < cell → nth ys0 i = nth vs i) → (∀ ys ∈ allW ms d vs, ys ∈ allW ms n []) →
      Calls Try.prog 135 #[.slice Am n cm, .slice (some ⟨V, 0, none⟩) n c, .int .i64 cell, .func (.func 136) #[] lb] X (TryPost J Jx lo V n c cell vs (pre ++ allW ms d vs)) := by
  intro d
  induction d with
  | zero =>
    intro cell vs ys0 pre X hd hl hj ho hys hin
    obtain rfl : cell = n := by omega
    obtain rfl : ys0 = vs := ext_nth (by rw [ho.len, hl]) (fun k hk => hys k (by rw [ho.len] at hk; exact hk))
    have HC := Lib.hid (hcb pre ys0 X (hin ys0 (by simp [allW])) hj ho)
    go_enter Try.func135, Try.ntmps135
    go_wp2_with fail
    refine HC.out.mono ?_
    rintro e Y (⟨rfl, hj', ho'⟩ | ⟨rfl, hx⟩)
    · go_wp2
      go_ret
      exact .inl ⟨rfl, hj', ys0, ho', fun _ _ => rfl⟩
    · go_wp2
      go_ret
      exact .inr ⟨rfl, hx⟩
  | succ d ih =>
    intro cell vs ys0 pre X hd hl hj ho hys hin
    have hlt : cell < n := by omega
    have hltI : (cell : Int) < (n : Int) := by omega
    have hneI : ((cell : Int) == (n : Int)) = false := by simp; omega
    obtain ⟨m0, m1⟩ := hm cell hlt
    obtain ⟨M, hMv⟩ := Int.eq_ofNat_of_zero_le m0
    have hM32 : M < 32 := by omega
    have HW := Lib.hid (show allW ms (d + 1) vs = (bitsTo M 4).flatMap fun x => allW ms d (vs ++ [x]) by simp only [allW, hl, hMv, Int.toNat_natCast])
    have Hin : ∀ (x : Int), x ∈ bitsTo M 4 → ∀ ys ∈ allW ms d (vs ++ [x]), ys ∈ allW ms n [] := fun x hx ys hy => hin ys (by rw [HW.out]; exact List.mem_flatMap.2 ⟨x, hx, hy⟩)
    rw [HW.out]
    have Hc1 := Lib.hid (show (cell : Int) + 1 = ((cell + 1 : Nat) : Int) by omega)
    have Hd := Lib.hid hd
    have Hl := Lib.hid hl
    clear hd hl
    go_enter Try.func135, Try.ntmps135
    go_wp2
    go_loopw [9] (fun v wr => ∃ (u t : Nat) (ys : List Int), u ≤ 4 ∧ t = u + 1 ∧ v = .int .i64 t ∧ J (pre ++ (bitsTo M u).flatMap fun x => allW ms d (vs ++ [x])) wr ∧ Ow wr lo (some ⟨V, 0, none⟩) n c ys ∧ ∀ i, i < cell → nth ys i = nth vs i) (fun v _ => 6 - (intOf v).toNat)
    case atStart => exact ⟨0, 1, ys0, by omega, rfl, rfl, by simpa [bitsTo] using hj, ho, hys⟩
    case round =>
      obtain ⟨u, t, ys, hu, ht, rfl, hj, ho, hys⟩ := hrel
      by_cases hu4 : u < 4
      · have ht4 : (t : Int) ≤ 4 := by omega
        have ht64 : (t : Int) < 64 := by omega
        obtain ⟨b, off, rfl, hbV, hck⟩ := (hM _ _ hj).at_ hlt
        rw [hMv] at hck
        have hand := and_pow0 M t hM32 (by omega)
        have hbits : bitsTo M (u + 1) = bitsTo M u ++ (if M.testBit t = true then [(t : Int)] else []) := by rw [bitsTo, ht]; rfl
        cases hb : M.testBit t
        · rw [hb] at hand
          have Hj := Lib.hid (show ∀ Y, wr.grownBy Y (some V) → J (pre ++ (bitsTo M (u + 1)).flatMap fun x => allW ms d (vs ++ [x])) Y from fun Y hg => by
            rw [hbits, hb]; simpa using hJ _ _ _ hj hg)
          have Ht := Lib.hid ht
          clear hbits hb ht
          go_wp2
          go_quiet (fail)
          go_wp2
          go_roundw
          case rel => exact ⟨u + 1, t + 1, ys, by omega, by have := Ht.out; omega, by go_num, Hj.out _ (grown_of_below (below_drewN (Below.refl _ _) _)), ho.below (below_drewN (Below.refl _ _) _), hys⟩
          case measure => simp [intOf]; omega
        · rw [hb] at hand
          obtain ⟨hold, hfr⟩ := ho.cell hlt
          have hmem : (t : Int) ∈ bitsTo M 4 := bits_in hb (by omega) (by omega)
          have Hj := Lib.hid (show ∀ Y, J ((pre ++ (bitsTo M u).flatMap fun x => allW ms d (vs ++ [x])) ++ allW ms d (vs ++ [(t : Int)])) Y → J (pre ++ (bitsTo M (u + 1)).flatMap fun x => allW ms d (vs ++ [x])) Y from fun Y h => by
            rw [hbits, hb]; simpa using h)
          have hys2 : ∀ i, i < cell + 1 → nth (ys.set cell (t : Int)) i = nth (vs ++ [(t : Int)]) i := fun i hi => by
            rw [nth_push Hl.out]
            by_cases e : i = cell
            · subst e; rw [nth_set_same (by rw [ho.len]; exact hlt), if_neg (by omega), if_pos rfl]
            · rw [nth_set_ne (fun e' => e e'.symm), if_pos (by omega)]; exact hys i (by omega)
          have hback : ∀ zs : List Int, (∀ i, i < cell + 1 → nth zs i = nth (vs ++ [(t : Int)]) i) → ∀ i, i < cell → nth zs i = nth vs i := fun zs h i hi => by
            rw [h i (by omega), nth_push Hl.out, if_pos hi]
          have HI := Lib.hid (show ∀ q, Calls Try.prog 135 #[.slice (some ⟨b, off, none⟩) n cm, .slice (some ⟨V, 0, none⟩) n c, .int .i64 ((cell : Int) + 1), .func (.func 136) #[] lb] ((wr.drewN q).setCell ⟨V, cell, none⟩ (.int .i64 (t : Int))) fun e Y =>
              ∃ bb : Bool, e = .returned (.bool bb) ∧ (bb = true → J (pre ++ (bitsTo M (u + 1)).flatMap fun x => allW ms d (vs ++ [x])) Y ∧ ∃ zs, Ow Y lo (some ⟨V, 0, none⟩) n c zs ∧ ∀ i, i < cell → nth zs i = nth vs i) ∧ (bb = false → Jx Y) from fun q => by
            rw [Hc1.out]
            refine (ih (cell + 1) (vs ++ [(t : Int)]) (ys.set cell (t : Int)) (pre ++ (bitsTo M u).flatMap fun x => allW ms d (vs ++ [x])) _ (by have := Hd.out; omega) (by rw [List.length_append, Hl.out]; rfl) (hJ _ _ _ hj (grown_tr2 (grown_of_below (below_drewN (Below.refl wr.heap.size wr) q)) (grown_set (i := cell) (v := .int .i64 (t : Int))))) (Ow.put (ho.below (below_drewN (Below.refl _ _) q)) cell (t : Int)) hys2 (Hin _ hmem)).mono ?_
            rintro e Y (⟨rfl, hj', zs, ho', hz⟩ | ⟨rfl, hx⟩)
            · exact ⟨true, rfl, fun _ => ⟨Hj.out _ hj', zs, ho', hback zs hz⟩, fun h => by cases h⟩
            · exact ⟨false, rfl, fun h => (by cases h), fun _ => hx⟩)
          have Ht := Lib.hid ht
          clear hbits hb ht hys2 hback hmem Hj ih hj ho hys hM hJ hcb
          go_wp2
          go_quiet (fail)
          go_wp2_with (go_at_call 135; refine (HI.out _).mono ?_; rintro e Y ⟨bb, rfl, hT, hF⟩)
          · rename_i hbb
            obtain rfl : bb = false := by simpa using hbb
            go_ret
            exact .inr ⟨rfl, hF rfl⟩
          · rename_i hbb
            obtain rfl : bb = true := by simpa using hbb
            obtain ⟨hj3, zs, ho3, hz3⟩ := hT rfl
            exact ⟨⟨u + 1, t + 1, zs, by omega, by have := Ht.out; omega, by go_num, hj3, ho3, hz3⟩, by simp [intOf]; omega⟩
      · obtain rfl : u = 4 := by omega
        subst ht
        go_wp2
        go_ret
        exact .inl ⟨rfl, hj, ys, ho, hys⟩
end Go.Proofs.Ytoejpodchlepiaa
