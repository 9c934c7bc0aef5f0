import Derived.Test.YtigkcgfhiakikaaIz
import Derived.Test.YtigkcgfhiakikaaInts
import Derived.Test.YtigkcgfhiakikaaOpb
set_option maxRecDepth 8000
namespace Go.Proofs.Ytigkcgfhiakikaa
open Go.ChangeShapes Go.WideShapes Go.ChangeAt Go.RowKit
/-! slices of bools in the exact laws. -/
theorem ext_nb {xs ys : List Bool} (hl : xs.length = ys.length) (h : ∀ k, k < xs.length → nb xs k = nb ys k) : xs = ys := by
  apply List.ext_getElem hl
  intro i h1 h2
  have := h i h1
  simpa [nb, List.getD_eq_getElem?_getD, h1, h2] using this
def partF (xs : List Bool) (k n : Nat) : List Bool := (List.range n).map fun j => if j < k then nb xs j else false
theorem partF_length (xs : List Bool) (k n : Nat) : (partF xs k n).length = n := by simp [partF]
theorem partF_zero (xs : List Bool) (n : Nat) : bvals (partF xs 0 n) = List.replicate n (.bool false) := by
  apply List.ext_getElem <;> simp [bvals, partF]
theorem partF_nb (xs : List Bool) (k n j : Nat) (h : j < n) : nb (partF xs k n) j = if j < k then nb xs j else false := by
  simp [nb, partF, List.getD_eq_getElem?_getD, h]
theorem partF_all {xs : List Bool} {n : Nat} (h : xs.length = n) : partF xs n n = xs := by
  apply ext_nb (by rw [partF_length]; exact h.symm)
  intro k hk
  rw [partF_length] at hk
  rw [partF_nb _ _ _ _ hk, if_pos hk]
theorem partF_set (xs : List Bool) (k n : Nat) : (bvals (partF xs k n)).set k (.bool (nb xs k)) = bvals (partF xs (k + 1) n) := by
  apply List.ext_getElem
  · simp [bvals, partF]
  · intro i h1 h2
    simp only [bvals, partF, List.map_map, List.getElem_set, List.getElem_map, List.getElem_range, Function.comp]
    by_cases e : k = i
    · subst e; simp
    · rw [if_neg e]
      by_cases h : i < k
      · rw [if_pos h, if_pos (by omega)]
      · rw [if_neg h, if_neg (by omega)]
def sameF (xs ys : List Bool) : Bool := decide (xs = ys)
theorem sameF_refl (xs : List Bool) : sameF xs xs = true := by simp [sameF]
theorem toBoolS_any (A : Option Addr) (c n B : Nat) (xs : List Bool) (w : World) (h : RdF w B A n xs) (hB : B ≤ w.heap.size) (hm : n ≤ 1099511627776) :
    Calls Try.prog 32 #[.slice A n c] w fun e w' => e = .returned (.slice (some ⟨w.heap.size, 0, none⟩) n n) ∧ OwF w' w.heap.size (some ⟨w.heap.size, 0, none⟩) n n xs ∧ Below w.heap.size w w' := by
  obtain ⟨i0, hi, hz0, hz1, hz2⟩ := info_parts bool_info
  have hlen := Lib.hid h.1
  go_enter Try.func32, Try.ntmps32
  go_wp2_with (refine wpList_make_full _ rfl (.tmp 6) (.tmp 6) 23 rfl w.heap.size 4 i0 (.bool false) 1 Try.underlying23 hi hz0 hz1 .i64 .i64 n n n rfl rfl rfl rfl ?_ ?_ (Nat.le_refl _) ?_)
  · rw [hz2]; omega
  · simp only [maxLen]; omega
  · intro w1 hown hgr
    have hown1 : OwF w1 w.heap.size (some ⟨w.heap.size, 0, none⟩) n n (partF xs 0 n) := by
      unfold OwF
      rw [partF_zero, ← toList_madeCells_one]
      exact hown
    have hb1 : Below w.heap.size w w1 := (Below.refl _ _).grown hgr (Nat.le_refl _) (fun k hk => by cases hk)
    clear hown hgr
    go_wp2
    go_loopw [4] (fun i wr => ∃ k : Nat, k ≤ n ∧ i = .int .i64 k ∧ OwF wr w.heap.size (some ⟨w.heap.size, 0, none⟩) n n (partF xs k n) ∧ Below w.heap.size w wr) (fun i _ => n - (intOf i).toNat)
    case atStart => exact ⟨0, Nat.zero_le _, rfl, hown1, hb1⟩
    case round =>
      obtain ⟨k, hk, rfl, ho, hb⟩ := hrel
      by_cases hlt : k < n
      · obtain ⟨b, off, rfl, hbB, hck⟩ := (h.below (hb.mono hB)).at_ hlt
        have hold := World.ownsRow.cellAt ho k (by omega)
        rw [bvals_get (by rw [partF_length]; exact hlt)] at hold
        have hfr := World.ownsRow.frozenAt ho k
        have hst := World.ownsRow.stored ho k (.bool (nb xs k))
        rw [partF_set] at hst
        have Hst := Lib.hid hst; clear hst
        generalize nb xs k = bb at *
        go_wp2
        go_roundw
        case rel => exact ⟨k + 1, by omega, by go_num, Hst.out.1, hb.setCell (Nat.le_refl _) _⟩
        case measure => simp [intOf]; omega
      · obtain rfl : k = n := by omega
        rw [partF_all hlen.out] at ho
        go_wp2
        go_ret
        exact ⟨rfl, ho, hb⟩
theorem eqBoolS_same (A A' : Option Addr) (c c' n B B' : Nat) (xs : List Bool) (w : World) (h : RdF w B A n xs) (h' : RdF w B' A' n xs) (hm : n ≤ 1099511627776) :
    Calls Try.prog 34 #[.slice A n c, .slice A' n c'] w fun e w' => e = .returned (.bool true) ∧ Below w.heap.size w w' := by
  go_enter Try.func34, Try.ntmps34
  go_wp2
  go_loopw [5] (fun i wr => ∃ k : Nat, k ≤ n ∧ i = .int .i64 k ∧ Below w.heap.size w wr ∧ RdF wr B A n xs ∧ RdF wr B' A' n xs) (fun i _ => n - (intOf i).toNat)
  case atStart => exact ⟨0, Nat.zero_le _, rfl, Below.refl _ _, h, h'⟩
  case round =>
    obtain ⟨k, hk, rfl, hb, hr, hr'⟩ := hrel
    by_cases hlt : k < n
    · obtain ⟨b, off, rfl, hbB, hck⟩ := hr.at_ hlt
      obtain ⟨b', off', rfl, hbB', hck'⟩ := hr'.at_ hlt
      have hltI : (k : Int) < (n : Int) := by omega
      generalize nb xs k = bb at *
      have hne : (bb != bb) = false := by simp
      go_wp2
      go_quiet (fail)
      go_wp2
      go_roundw
      case rel => exact ⟨k + 1, by omega, by go_num, ⟨hb.os, hb.tape, hb.output, hb.size, hb.block⟩, hr, hr'⟩
      case measure => simp [intOf]; omega
    · obtain rfl : k = n := by omega
      go_wp2
      go_ret
      exact ⟨rfl, hb⟩
def markedF (xs : List Bool) (m : Int) (k n : Nat) : List Bool := (List.range n).map fun (j : Nat) => if j < k then decide ((m + (j : Int)).tmod 3 = 0) else nb xs j
theorem markBoolS_any (A : Option Addr) (c n lo : Nat) (xs : List Bool) (m : Int) (w : World) (h : OwF w lo A n c xs) (hm : n ≤ 1099511627776) (h0 : 0 ≤ m) (h1 : m ≤ 4611686018427387904) :
    Calls Try.prog 35 #[.slice A n c, .int .i64 m] w fun e w' => e = .returned (.int .i64 (m + n)) ∧ w.grownBy w' (Value.slice A n c).ownBlock := by
  go_enter Try.func35, Try.ntmps35
  go_wp2
  go_loopw [1, 5] (fun q i wr => ∃ (k : Nat) (ys : List Bool), k ≤ n ∧ i = .int .i64 k ∧ q = .int .i64 (m + k) ∧ OwF wr lo A n c ys ∧ w.grownBy wr (Value.slice A n c).ownBlock) (fun _ i _ => n - (intOf i).toNat)
  case atStart => exact ⟨0, xs, Nat.zero_le _, rfl, by simp, h, World.grownBy.refl _ _⟩
  case round =>
    obtain ⟨k, ys, hk, rfl, rfl, ho, hg⟩ := hrel
    by_cases hlt : k < n
    · obtain ⟨g, rfl, hlog, hgw⟩ := ho.form (by omega)
      have hold := World.ownsRow.cellAt ho k (by omega)
      rw [bvals_get (by rw [ho.len]; exact hlt)] at hold
      have hfr := World.ownsRow.frozenAt ho k
      have Hst := Lib.hid (fun bb : Bool => show OwF (wr.setCell ⟨g, k, none⟩ (.bool bb)) lo (some ⟨g, 0, none⟩) n c (ys.set k bb) ∧ wr.grownBy (wr.setCell ⟨g, k, none⟩ (.bool bb)) (some g) from by
        have := World.ownsRow.stored ho k (.bool bb)
        rw [show (bvals ys).set k (.bool bb) = bvals (ys.set k bb) by simp [bvals, List.map_set]] at this
        exact this)
      generalize nb ys k = b0 at *
      go_wp2
      go_roundw
      case rel => exact ⟨k + 1, _, by omega, by go_num, by go_num, (Hst.out _).1, hg.trans (Hst.out _).2⟩
      case measure => simp [intOf]; omega
    · obtain rfl : k = n := by omega
      go_wp2
      go_ret
      exact ⟨rfl, hg⟩
theorem clueL_len (L : List Bool) : (clueL L).length ≤ 9 := by
  have := cS_le L (L.length + 1)
  rw [cS_all] at this
  unfold clueL
  split
  · simp at this; omega
  · simp
theorem forI_len (cs ks : List Int) : (forI cs ks).length ≤ ks.length := by
  unfold forI
  split
  · split
    · exact Nat.le_refl _
    · unfold forL; rw [mapTo_length]; exact Nat.le_refl _
  · simp
set_option maxHeartbeats 1000000 in
theorem exactClueOf_walk (A : Option Addr) (c n : Nat) (L : List Bool) (w : World) (h : RdF w w.heap.size A n L) :
    Calls Try.prog 10 #[.slice A n c] w fun e w' => e = .returned (.bool true) ∧ Below w.heap.size w w' := by
  by_cases hn : n ≤ 1048576
  · have hlen := clueL_len L
    have hsame := same_refl (clueL L)
    go_enter Try.func10, Try.ntmps10
    go_wp2_with fail
    refine (toBoolS_any _ _ _ _ _ _ h (Nat.le_refl _) (by omega)).mono ?_
    rintro e w0 ⟨rfl, ho0, hb0⟩
    go_wp2_with fail
    refine (specClueOf _ _ _ _ _ _ ho0.rd (Nat.le_refl _) (by omega)).mono ?_
    rintro e w1 ⟨A0, c0, rfl, hog0, hb1⟩
    have hr0 := hog0.rd
    have hw1 := step hb0 hb1
    go_wp2_with fail
    refine (toBoolS_any _ _ _ _ _ _ (h.below hw1) hw1.size (by omega)).mono ?_
    rintro e w2 ⟨rfl, hox, hb2⟩
    have hrx := hox.rd
    go_wp2_with fail
    refine (implClueOf _ _ _ _ _ _ hox.rd (Nat.le_refl _) (by omega)).mono ?_
    rintro e w3 ⟨A1, c1, rfl, hog, hb3⟩
    have h13 := step hb2 hb3
    go_wp2_with fail
    refine (eqIntS_any _ _ _ _ _ _ _ _ _ _ _ hog.rd (hr0.below h13) (by omega)).mono ?_
    rintro e w4 ⟨rfl, hb4⟩
    have h14 := step h13 hb4
    have hw4 := step hw1 h14
    go_wp2_with fail
    refine (toBoolS_any _ _ _ _ _ _ (h.below hw4) hw4.size (by omega)).mono ?_
    rintro e w5 ⟨rfl, hoy, hb5⟩
    go_wp2_with fail
    refine (eqBoolS_same _ _ _ _ _ _ _ _ _ (hrx.below (step (step hb3 hb4) hb5)) hoy.rd (by omega)).mono ?_
    rintro e w6 ⟨rfl, hb6⟩
    have h36 := step (step hb4 hb5) hb6
    have h26 := step hb3 h36
    have h16 := step hb2 h26
    go_wp2_with fail
    refine (markBoolS_any _ _ _ _ _ _ _ (hox.below h26) (by omega) (by omega) (by omega)).mono ?_
    rintro e w7 ⟨rfl, hg7⟩
    have h17 := h16.trans ((Below.refl _ _).grown hg7 h16.size hox.own_lo)
    have hog7 : Ow w7 w2.heap.size A1 (clueL L).length c1 (clueL L) := World.ownsRow.kept (hog.below h36) hg7 (by
      cases e : (Value.slice A1 (clueL L).length c1).ownBlock with
      | none => exact .inl rfl
      | some g => exact .inr fun he => by have h1 := hog.own_lo g e; have h2 := hox.own_hi g he.symm; omega)
    clear hg7
    go_wp2_with fail
    refine (eqIntS_any _ _ _ _ _ _ _ _ _ _ _ hog7.rd (hr0.below h17) (by omega)).mono ?_
    rintro e w8 ⟨rfl, hb8⟩
    have h18 := step h17 hb8
    have hog8 := hog7.below hb8
    go_wp2_with fail
    refine (markIntS_any _ _ _ _ _ _ _ hog8 (by omega) (by omega) (by omega)).mono ?_
    rintro e w9 ⟨rfl, hog9, hg9⟩
    rw [marked_all] at hog9
    have h19 := h18.trans (below_own hg9 (fun g hg => Nat.le_trans hb2.size (hog8.own_lo g hg)) h18.size)
    clear hg9
    go_wp2_with fail
    refine (heldIntS_seq _ _ _ _ _ _ hog9.rd (by omega) (by omega) (by omega)).mono ?_
    rintro e w9' ⟨rfl, rfl⟩
    have hw9 := step hw1 h19
    go_wp2_with fail
    refine (toBoolS_any _ _ _ _ _ _ (h.below hw9) hw9.size (by omega)).mono ?_
    rintro e w10 ⟨rfl, hoz, hb10⟩
    go_wp2_with fail
    refine (implClueOf _ _ _ _ _ _ hoz.rd (Nat.le_refl _) (by omega)).mono ?_
    rintro e w11 ⟨A2, c2, rfl, hoh, hb11⟩
    have h1b := step (step h19 hb10) hb11
    go_wp2_with fail
    refine (eqIntS_any _ _ _ _ _ _ _ _ _ _ _ hoh.rd (hr0.below h1b) (by omega)).mono ?_
    rintro e w12 ⟨rfl, hb12⟩
    have h1c := step h1b hb12
    have hwc := step hw1 h1c
    go_wp2_with fail
    refine (heldIntS_seq _ _ _ _ _ _ (((hog9.below hb10).below hb11).below hb12).rd (by omega) (by omega) (by omega)).mono ?_
    rintro e w12' ⟨rfl, rfl⟩
    go_wp2
    go_ret
    exact ⟨rfl, hwc⟩
  · go_enter Try.func10, Try.ntmps10
    go_wp2
    go_ret
    exact ⟨rfl, Below.refl _ _⟩
theorem exactClueValid_walk (A : Option Addr) (c n : Nat) (xs : List Int) (cells : Int) (w : World) (h : Rd w w.heap.size A n xs) (hx : B64 xs) (_hs : -9223372036854775808 ≤ cells ∧ cells ≤ 9223372036854775807) :
    Calls Try.prog 11 #[.slice A n c, .int .i64 cells] w fun e w' => e = .returned (.bool true) ∧ Below w.heap.size w w' := by
  by_cases hn : n ≤ 1048576
  · have hs := same_refl xs
    have hne : (cvB xs cells != cvB xs cells) = false := by simp
    go_enter Try.func11, Try.ntmps11
    go_wp2_with fail
    refine (toIntS_any _ _ _ _ _ _ h (Nat.le_refl _) (by omega)).mono ?_
    rintro e w1 ⟨rfl, ho1, hb1⟩
    go_wp2_with fail
    refine (specClueValid _ _ _ _ _ _ _ ho1.rd (by omega)).mono ?_
    rintro e w1' ⟨rfl, rfl⟩
    go_wp2_with fail
    refine (toIntS_any _ _ _ _ _ _ (h.below hb1) hb1.size (by omega)).mono ?_
    rintro e w2 ⟨rfl, ho2, hb2⟩
    go_wp2_with fail
    refine (implClueValid _ _ _ _ _ _ _ ho2.rd (by omega) hx).mono ?_
    rintro e w2' ⟨rfl, rfl⟩
    have hbb := step hb1 hb2
    go_wp2_with fail
    refine (toIntS_any _ _ _ _ _ _ (h.below hbb) hbb.size (by omega)).mono ?_
    rintro e w4 ⟨rfl, ho4, hb4⟩
    go_wp2_with fail
    refine (eqIntS_any _ _ _ _ _ _ _ _ _ _ _ (ho2.below hb4).rd ho4.rd (by omega)).mono ?_
    rintro e w5 ⟨rfl, hb5⟩
    go_wp2
    go_ret
    exact ⟨rfl, step (step hbb hb4) hb5⟩
  · go_enter Try.func11, Try.ntmps11
    go_wp2
    go_ret
    exact ⟨rfl, Below.refl _ _⟩
theorem exactKnownValid_walk (A : Option Addr) (c n : Nat) (xs : List Int) (w : World) (h : Rd w w.heap.size A n xs) :
    Calls Try.prog 12 #[.slice A n c] w fun e w' => e = .returned (.bool true) ∧ Below w.heap.size w w' := by
  by_cases hn : n ≤ 1048576
  · have hs := same_refl xs
    have hne : (kvB xs != kvB xs) = false := by simp
    go_enter Try.func12, Try.ntmps12
    go_wp2_with fail
    refine (toIntS_any _ _ _ _ _ _ h (Nat.le_refl _) (by omega)).mono ?_
    rintro e w1 ⟨rfl, ho1, hb1⟩
    go_wp2_with fail
    refine (specKnownValid _ _ _ _ _ _ ho1.rd (by omega)).mono ?_
    rintro e w1' ⟨rfl, rfl⟩
    go_wp2_with fail
    refine (toIntS_any _ _ _ _ _ _ (h.below hb1) hb1.size (by omega)).mono ?_
    rintro e w2 ⟨rfl, ho2, hb2⟩
    go_wp2_with fail
    refine (implKnownValid _ _ _ _ _ _ ho2.rd (by omega)).mono ?_
    rintro e w2' ⟨rfl, rfl⟩
    have hbb := step hb1 hb2
    go_wp2_with fail
    refine (toIntS_any _ _ _ _ _ _ (h.below hbb) hbb.size (by omega)).mono ?_
    rintro e w4 ⟨rfl, ho4, hb4⟩
    go_wp2_with fail
    refine (eqIntS_any _ _ _ _ _ _ _ _ _ _ _ (ho2.below hb4).rd ho4.rd (by omega)).mono ?_
    rintro e w5 ⟨rfl, hb5⟩
    go_wp2
    go_ret
    exact ⟨rfl, step (step hbb hb4) hb5⟩
  · go_enter Try.func12, Try.ntmps12
    go_wp2
    go_ret
    exact ⟨rfl, Below.refl _ _⟩
set_option maxHeartbeats 1000000 in
theorem exactLineWays_walk (A : Option Addr) (c n : Nat) (xs : List Int) (A' : Option Addr) (c' n' : Nat) (ys : List Int) (w : World) (h : Rd w w.heap.size A n xs) (hx : B64 xs) (h' : Rd w w.heap.size A' n' ys) :
    Calls Try.prog 13 #[.slice A n c, .slice A' n' c'] w fun e w' => e = .returned (.bool true) ∧ Below w.heap.size w w' := by
  by_cases hn : n ≤ 1048576
  · by_cases hn' : n' ≤ 1048576
    · have hs := same_refl xs
      have hs' := same_refl ys
      have hne : (waysI xs ys != waysI xs ys) = false := by simp
      go_enter Try.func13, Try.ntmps13
      go_wp2_with fail
      refine (toIntS_any _ _ _ _ _ _ h (Nat.le_refl _) (by omega)).mono ?_
      rintro e w1 ⟨rfl, ho1, hb1⟩
      go_wp2_with fail
      refine (toIntS_any _ _ _ _ _ _ (h'.below hb1) hb1.size (by omega)).mono ?_
      rintro e w2 ⟨rfl, ho2, hb2⟩
      go_wp2_with fail
      refine (specLineWays _ _ _ _ _ _ _ _ _ _ _ (ho1.below hb2).rd (Nat.le_refl _) (by omega) ho2.rd (Nat.le_refl _) (by omega)).mono ?_
      rintro e w3 ⟨rfl, hb3⟩
      have hw3 := step (step hb1 hb2) hb3
      go_wp2_with fail
      refine (toIntS_any _ _ _ _ _ _ (h.below hw3) hw3.size (by omega)).mono ?_
      rintro e w4 ⟨rfl, ho4, hb4⟩
      have hw4 := step hw3 hb4
      go_wp2_with fail
      refine (toIntS_any _ _ _ _ _ _ (h'.below hw4) hw4.size (by omega)).mono ?_
      rintro e w5 ⟨rfl, ho5, hb5⟩
      have hw5 := step hw4 hb5
      go_wp2_with fail
      refine (implLineWays _ _ _ _ _ _ _ _ _ _ _ (ho4.below hb5).rd (Nat.le_refl _) (by omega) hx ho5.rd (Nat.le_refl _) (by omega) (Nat.le_refl _) (by omega)).mono ?_
      rintro e w6 ⟨rfl, hb6⟩
      have hw6 := step hw5 hb6
      go_wp2_with fail
      refine (toIntS_any _ _ _ _ _ _ (h.below hw6) hw6.size (by omega)).mono ?_
      rintro e w7 ⟨rfl, ho7, hb7⟩
      go_wp2_with fail
      refine (eqIntS_any _ _ _ _ _ _ _ _ _ _ _ (((ho4.below hb5).below hb6).below hb7).rd ho7.rd (by omega)).mono ?_
      rintro e w8 ⟨rfl, hb8⟩
      have hw8 := step (step hw6 hb7) hb8
      go_wp2_with fail
      refine (toIntS_any _ _ _ _ _ _ (h'.below hw8) hw8.size (by omega)).mono ?_
      rintro e w9 ⟨rfl, ho9, hb9⟩
      go_wp2_with fail
      refine (eqIntS_any _ _ _ _ _ _ _ _ _ _ _ ((((ho5.below hb6).below hb7).below hb8).below hb9).rd ho9.rd (by omega)).mono ?_
      rintro e w10 ⟨rfl, hb10⟩
      go_wp2
      go_ret
      exact ⟨rfl, step (step hw8 hb9) hb10⟩
    · go_enter Try.func13, Try.ntmps13
      go_wp2
      go_ret
      exact ⟨rfl, Below.refl _ _⟩
  · go_enter Try.func13, Try.ntmps13
    go_wp2
    go_ret
    exact ⟨rfl, Below.refl _ _⟩
set_option maxHeartbeats 2000000 in
theorem exactLineForced_walk (A : Option Addr) (c n : Nat) (xs : List Int) (A' : Option Addr) (c' n' : Nat) (ys : List Int) (w : World) (h : Rd w w.heap.size A n xs) (hx : B64 xs) (h' : Rd w w.heap.size A' n' ys) :
    Calls Try.prog 14 #[.slice A n c, .slice A' n' c'] w fun e w' => e = .returned (.bool true) ∧ Below w.heap.size w w' := by
  by_cases hn : n ≤ 1048576
  · by_cases hn' : n' ≤ 1048576
    · have hs := same_refl xs
      have hs' := same_refl ys
      have hsf := same_refl (forI xs ys)
      have hlf : (forI xs ys).length ≤ 1048576 := by have := forI_len xs ys; have := h'.1; omega
      have hne : (forB xs ys != forB xs ys) = false := by simp
      have HSp := Lib.hid (fun (w2 : World) (A A' : Option Addr) (r : Rd w2 w2.heap.size A n xs) (r' : Rd w2 w2.heap.size A' n' ys) => specLineForced A A' n n n' n' _ _ xs ys w2 r (Nat.le_refl _) (by omega) r' (Nat.le_refl _) (by omega))
      have HIm := Lib.hid (fun (w2 : World) (A A' : Option Addr) (r : Rd w2 w2.heap.size A n xs) (r' : Rd w2 w2.heap.size A' n' ys) => implLineForced A n n _ xs A' n' n' _ ys w2 r (Nat.le_refl _) (by omega) hx r' (Nat.le_refl _) (by omega) (Nat.le_refl _) (by omega))
      generalize forI xs ys = fs at *
      generalize forB xs ys = fb at *
      obtain ⟨q, hq⟩ : ∃ q, q = fs.length := ⟨_, rfl⟩
      go_enter Try.func14, Try.ntmps14
      go_wp2_with fail
      refine (toIntS_any _ _ _ _ _ _ h (Nat.le_refl _) (by omega)).mono ?_
      rintro e w1 ⟨rfl, ho1, hb1⟩
      go_wp2_with fail
      refine (toIntS_any _ _ _ _ _ _ (h'.below hb1) hb1.size (by omega)).mono ?_
      rintro e w2 ⟨rfl, ho2, hb2⟩
      go_wp2_with fail
      refine (HSp.out w2 _ _ (ho1.below hb2).rd ho2.rd).mono ?_
      rintro e w3 ⟨A0, c0, rfl, hog0, hb3⟩
      have hr0 := hog0.rd
      have hw3 := step (step hb1 hb2) hb3
      go_wp2_with fail
      refine (toIntS_any _ _ _ _ _ _ (h.below hw3) hw3.size (by omega)).mono ?_
      rintro e w4 ⟨rfl, hox, hb4⟩
      have hw4 := step hw3 hb4
      go_wp2_with fail
      refine (toIntS_any _ _ _ _ _ _ (h'.below hw4) hw4.size (by omega)).mono ?_
      rintro e w5 ⟨rfl, hoy, hb5⟩
      have h35 := step hb4 hb5
      go_wp2_with fail
      refine (HIm.out w5 _ _ (hox.below hb5).rd hoy.rd).mono ?_
      rintro e w6 ⟨A1, c1, rfl, hog, hb6⟩
      have h36 := step h35 hb6
      go_wp2_with fail
      refine (eqIntS_any _ _ _ _ _ _ _ _ _ _ _ hog.rd (hr0.below h36) (by omega)).mono ?_
      rintro e w7 ⟨rfl, hb7⟩
      have h37 := step h36 hb7
      have hw7 := step hw3 h37
      go_wp2_with fail
      refine (toIntS_any _ _ _ _ _ _ (h.below hw7) hw7.size (by omega)).mono ?_
      rintro e w8 ⟨rfl, ho8, hb8⟩
      have h58 := step (step hb6 hb7) hb8
      go_wp2_with fail
      refine (eqIntS_any _ _ _ _ _ _ _ _ _ _ _ ((hox.below hb5).below h58).rd ho8.rd (by omega)).mono ?_
      rintro e w9 ⟨rfl, hb9⟩
      have hw9 := step (step hw7 hb8) hb9
      have h39 := step (step h37 hb8) hb9
      have h59 := step h58 hb9
      go_wp2_with fail
      refine (toIntS_any _ _ _ _ _ _ (h'.below hw9) hw9.size (by omega)).mono ?_
      rintro e w10 ⟨rfl, ho10, hb10⟩
      go_wp2_with fail
      refine (eqIntS_any _ _ _ _ _ _ _ _ _ _ _ ((hoy.below h59).below hb10).rd ho10.rd (by omega)).mono ?_
      rintro e w11 ⟨rfl, hb11⟩
      have h3b := step (step h39 hb10) hb11
      have h5b := step (step h59 hb10) hb11
      have hox11 := (hox.below hb5).below h5b
      have hoy11 := hoy.below h5b
      have hog11 := hog.below (step (step (step (step hb7 hb8) hb9) hb10) hb11)
      go_wp2_with fail
      refine (markIntS_any _ _ _ _ _ _ _ hox11 (by omega) (by omega) (by omega)).mono ?_
      rintro e w12 ⟨rfl, _, hg12⟩
      have h3c := h3b.trans (below_own hg12 hox11.own_lo h3b.size)
      have hoy12 : Ow w12 w4.heap.size _ n' n' ys := hoy11.kept hg12 (fun g hg => by
        have h1 := hox.own_hi g hg
        exact h1)
      have hog12 := hog11.kept hg12 (fun g hg => Nat.lt_of_lt_of_le (hox.own_hi g hg) hb5.size)
      clear hg12
      go_wp2_with fail
      refine (markIntS_any _ _ _ _ _ _ _ hoy12 (by omega) (by omega) (by omega)).mono ?_
      rintro e w13 ⟨rfl, _, hg13⟩
      have h3d := h3c.trans (below_own hg13 (fun g hg => Nat.le_trans hb4.size (hoy12.own_lo g hg)) h3c.size)
      have hog13 := hog12.kept hg13 (fun g hg => hoy.own_hi g hg)
      clear hg13
      go_wp2_with fail
      refine (eqIntS_any _ _ _ _ _ _ _ _ _ _ _ hog13.rd (hr0.below h3d) (by omega)).mono ?_
      rintro e w14 ⟨rfl, hb14⟩
      have h3e := step h3d hb14
      have hog14 := hog13.below hb14
      go_wp2_with fail
      refine (markIntS_any _ _ _ _ _ _ _ hog14 (by omega) (by omega) (by omega)).mono ?_
      rintro e w15 ⟨rfl, hog15, hg15⟩
      rw [marked_all] at hog15
      have h3f := h3e.trans (below_own hg15 (fun g hg => Nat.le_trans h35.size (hog14.own_lo g hg)) h3e.size)
      clear hg15
      go_wp2_with fail
      refine (heldIntS_seq _ _ _ _ _ _ hog15.rd (by omega) (by omega) (by omega)).mono ?_
      rintro e w15' ⟨rfl, rfl⟩
      have hwf := step hw3 h3f
      go_wp2_with fail
      refine (toIntS_any _ _ _ _ _ _ (h.below hwf) hwf.size (by omega)).mono ?_
      rintro e w16 ⟨rfl, ho16, hb16⟩
      have hwg := step hwf hb16
      go_wp2_with fail
      refine (toIntS_any _ _ _ _ _ _ (h'.below hwg) hwg.size (by omega)).mono ?_
      rintro e w17 ⟨rfl, ho17, hb17⟩
      go_wp2_with fail
      refine (HIm.out w17 _ _ (ho16.below hb17).rd ho17.rd).mono ?_
      rintro e w18 ⟨A2, c2, rfl, hoh, hb18⟩
      have h3i := step (step (step h3f hb16) hb17) hb18
      go_wp2_with fail
      refine (eqIntS_any _ _ _ _ _ _ _ _ _ _ _ hoh.rd (hr0.below h3i) (by omega)).mono ?_
      rintro e w19 ⟨rfl, hb19⟩
      have h3j := step h3i hb19
      have hwj := step hw3 h3j
      go_wp2_with fail
      refine (heldIntS_seq _ _ _ _ _ _ ((((hog15.below hb16).below hb17).below hb18).below hb19).rd (by omega) (by omega) (by omega)).mono ?_
      rintro e w19' ⟨rfl, rfl⟩
      go_wp2
      go_ret
      exact ⟨rfl, hwj⟩
    · go_enter Try.func14, Try.ntmps14
      go_wp2
      go_ret
      exact ⟨rfl, Below.refl _ _⟩
  · go_enter Try.func14, Try.ntmps14
    go_wp2
    go_ret
    exact ⟨rfl, Below.refl _ _⟩
end Go.Proofs.Ytigkcgfhiakikaa
