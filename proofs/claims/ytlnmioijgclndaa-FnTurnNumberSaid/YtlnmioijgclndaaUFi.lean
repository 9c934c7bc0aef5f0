import Derived.Test.YtlnmioijgclndaaUIM
namespace Go.Proofs.Ytlnmioijgclndaa
open Go.ChangeShapes Go.WideShapes Go.ChangeAt Go.RowKit

def agree (ys xs : List Int) (p : Nat) : Prop := ∀ j, j < p → nth ys j = nth xs j
theorem lmask_agree {xs ys : List Int} {s : Nat} : ∀ k, agree ys xs k → lmask ys s k = lmask xs s k ∧ twice ys s k = twice xs s k := by
  intro k
  induction k with
  | zero => intro _; exact ⟨rfl, rfl⟩
  | succ k ih =>
    intro h
    obtain ⟨h1, h2⟩ := ih (fun j hj => h j (by omega))
    have h3 := h k (by omega)
    simp only [lmask, twice, h1, h2, h3]
    exact ⟨trivial, trivial⟩
theorem twice_tail {xs : List Int} {s p : Nat} : ∀ k, p ≤ k → (∀ j, p ≤ j → j < k → nth xs j = 0) → twice xs s k = twice xs s p := by
  intro k
  induction k with
  | zero => intro h _; have : p = 0 := by omega
            subst this; rfl
  | succ k ih =>
    intro h hz
    by_cases e : p = k + 1
    · subst e; rfl
    · rw [(lmask_z (s := s) (hz k (by omega) (by omega))).2]
      exact ih (by omega) (fun j h1 h2 => hz j h1 (by omega))
/-- all values from p on are 0. -/
def zfrom (xs : List Int) (p n : Nat) : Prop := ∀ j, p ≤ j → j < n → nth xs j = 0
theorem zfrom_set {xs : List Int} {p n : Nat} {v : Int} (h : zfrom xs p n) (hl : xs.length = n) (hp : p < n) : zfrom (xs.set p v) (p + 1) n := fun j h1 h2 => by
  rw [nth_set (by omega), if_neg (by omega)]
  exact h j (by omega) h2
theorem agree_set (xs : List Int) {p n : Nat} (v : Int) (hl : xs.length = n) (hp : p < n) : agree (xs.set p v) xs p := fun j h1 => by
  rw [nth_set (by omega), if_neg (by omega)]
theorem clash_put {xs : List Int} {s n p v : Nat} (hs : s ∈ [2, 3, 4]) (hn : n = s * s) (hl : xs.length = n) (hok : okAll xs s n) (hz : zfrom xs p n) (hc : clash xs s = false) (hp : p < n) (v1 : 1 ≤ v) (v2 : v ≤ s) :
    clash (xs.set p (v : Int)) s = ((lmask xs s p (p / s)).testBit v || (lmask xs s p (s + p % s)).testBit v) := by
  have hok' := okAll_set (v := (v : Int)) hok hl hp (by omega) (by omega)
  have ha := agree_set xs (v : Int) hl hp
  have hat : nth (xs.set p (v : Int)) p = (v : Int) := by rw [nth_set (by omega), if_pos rfl]
  rw [← twice_clash hs hn hok', twice_tail n (by omega) (zfrom_set (v := (v : Int)) hz hl hp), (lmask_nz (s := s) hat (by omega)).2, (lmask_agree p ha).1, (lmask_agree p ha).2]
  rw [← twice_clash hs hn hok, twice_tail n (by omega) hz] at hc
  rw [hc, Bool.false_or]
theorem lmask_put {xs : List Int} {s n p v : Nat} (hl : xs.length = n) (hp : p < n) (v1 : 1 ≤ v) : lmask (xs.set p (v : Int)) s (p + 1) = mput (mput (lmask xs s p) (p / s) v) (s + p % s) v := by
  have ha := agree_set xs (v : Int) hl hp
  have hat : nth (xs.set p (v : Int)) p = (v : Int) := by rw [nth_set (by omega), if_pos rfl]
  rw [(lmask_nz (s := s) hat (by omega)).1, (lmask_agree p ha).1]

/-- what the search leaves as it was: all but the blocks P and G. -/
def Chg (w w' : World) (P G : Nat) : Prop := w'.os = w.os ∧ w'.tape = w.tape ∧ w'.output = w.output ∧ w.heap.size ≤ w'.heap.size ∧ ∀ k, k < w.heap.size → k ≠ P → k ≠ G → w'.heap[k]? = w.heap[k]?
theorem Chg.refl (w : World) (P G : Nat) : Chg w w P G := ⟨rfl, rfl, rfl, Nat.le_refl _, fun _ _ _ _ => rfl⟩
theorem Chg.trans {w w1 w2 : World} {P G : Nat} (h : Chg w w1 P G) (h2 : Chg w1 w2 P G) : Chg w w2 P G :=
  ⟨h2.1.trans h.1, h2.2.1.trans h.2.1, h2.2.2.1.trans h.2.2.1, Nat.le_trans h.2.2.2.1 h2.2.2.2.1, fun k hk hP hG => (h2.2.2.2.2 k (Nat.lt_of_lt_of_le hk h.2.2.2.1) hP hG).trans (h.2.2.2.2 k hk hP hG)⟩
theorem Chg.ofBelow {w w' : World} {P G : Nat} (h : Below w.heap.size w w') : Chg w w' P G := ⟨h.os, h.tape, h.output, h.size, fun k hk _ _ => h.block k hk⟩
theorem Chg.setP (w : World) (P G i : Nat) (v : Value) : Chg w (w.setCell ⟨P, i, none⟩ v) P G := ⟨rfl, rfl, rfl, by simp, fun k _ hk _ => heap_setCell_other w _ k v hk⟩
theorem Chg.setG (w : World) (P G i : Nat) (v : Value) : Chg w (w.setCell ⟨G, i, none⟩ v) P G := ⟨rfl, rfl, rfl, by simp, fun k _ _ hk => heap_setCell_other w _ k v hk⟩
theorem Chg.below {w w' : World} {P G B : Nat} (h : Chg w w' P G) (hP : B ≤ P) (hG : B ≤ G) (hB : B ≤ w.heap.size) : Below B w w' := ⟨h.1, h.2.1, h.2.2.1, h.2.2.2.1, fun k hk => h.2.2.2.2 k (Nat.lt_of_lt_of_le hk hB) (by omega) (by omega)⟩
theorem Chg.mbox {w w' : World} {P G g : Nat} {M : Nat → Nat} {s : Int} (h : Chg w w' P G) (hx : MBox w g M s) (hP : g ≠ P) (hG : g ≠ G) : MBox w' g M s := (h.2.2.2.2 g hx.lt hP hG).trans hx

/-- the search: its grid in block G, what is left to skip. -/
def SB (w : World) (P G n : Nat) (s sk : Int) (ys : List Int) : Prop :=
  w.heap[P]? = some (.cells #[.slice (some ⟨G, 0, none⟩) n n, .int .i64 s, .int .i64 sk] 59) ∧ w.heap[G]? = some (.cells (vals ys).toArray 3) ∧ ys.length = n ∧ P ≠ G
section
variable {w w' : World} {P G n : Nat} {s sk : Int} {ys : List Int}
theorem SB.c0 (h : SB w P G n s sk ys) : w.cell? ⟨P, 0, none⟩ = some (.slice (some ⟨G, 0, none⟩) n n) := cell_of_row _ _ 0 _ _ _ h.1
theorem SB.c1 (h : SB w P G n s sk ys) : w.cell? ⟨P, 1, none⟩ = some (.int .i64 s) := cell_of_row _ _ 1 _ _ _ h.1
theorem SB.c2 (h : SB w P G n s sk ys) : w.cell? ⟨P, 2, none⟩ = some (.int .i64 sk) := cell_of_row _ _ 2 _ _ _ h.1
theorem SB.f2 (h : SB w P G n s sk ys) : w.frozen? ⟨P, 2, none⟩ = false := frozen_of_row _ _ 2 _ _ h.1
theorem SB.ltP (h : SB w P G n s sk ys) : P < w.heap.size := (Array.getElem?_eq_some_iff.1 h.1).1
theorem SB.ltG (h : SB w P G n s sk ys) : G < w.heap.size := (Array.getElem?_eq_some_iff.1 h.2.1).1
theorem SB.g (h : SB w P G n s sk ys) {k : Nat} (hk : k < n) : w.cell? ⟨G, k, none⟩ = some (.int .i64 (nth ys k)) ∧ w.frozen? ⟨G, k, none⟩ = false :=
  ⟨(cell_of_row _ _ k _ _ _ h.2.1).trans (by rw [List.getElem?_toArray]; exact vals_get (by rw [h.2.2.1]; exact hk)), frozen_of_row _ _ k _ _ h.2.1⟩
theorem SB.below {B : Nat} (h : SB w P G n s sk ys) (hb : Below B w w') (hP : P < B) (hG : G < B) : SB w' P G n s sk ys := ⟨(hb.block P hP).trans h.1, (hb.block G hG).trans h.2.1, h.2.2⟩
theorem SB.setP (h : SB w P G n s sk ys) (u : Int) : SB (w.setCell ⟨P, 2, none⟩ (.int .i64 u)) P G n s u ys :=
  ⟨by rw [heap_setCell_same w P 2 _ _ _ h.1]; rfl, (heap_setCell_other w _ G _ (fun e => h.2.2.2 e.symm)).trans h.2.1, h.2.2⟩
theorem SB.setG (h : SB w P G n s sk ys) (k : Nat) (u : Int) : SB (w.setCell ⟨G, k, none⟩ (.int .i64 u)) P G n s sk (ys.set k u) :=
  ⟨(heap_setCell_other w _ P _ h.2.2.2).trans h.1, by rw [heap_setCell_same w G k _ _ _ h.2.1, ← vals_set, List.setIfInBounds_toArray], by rw [List.length_set]; exact h.2.2.1, h.2.2.2⟩
end
def FillPost (w : World) (P G n s : Nat) (xs : List Int) (p : Nat) (r : Option (List Int) × Int) (e : Ending) (w' : World) : Prop :=
  Chg w w' P G ∧
    match r.1 with
    | some y => e = .returned (.bool true) ∧ ∃ sk, SB w' P G n s sk y
    | none => e = .returned (.bool false) ∧ ∃ ys, SB w' P G n s r.2 ys ∧ agree ys xs p
end Go.Proofs.Ytlnmioijgclndaa
namespace Go.Proofs.Ytlnmioijgclndaa
open Go.ChangeShapes Go.WideShapes Go.ChangeAt Go.RowKit

set_option maxHeartbeats 1000000 in
theorem fill_any (P G n s : Nat) (hs : s ∈ [2, 3, 4]) (hn : n = s * s) (f : Nat) : ∀ (xs ys : List Int) (p : Nat) (sk : Int) (w : World),
    p + f = n → xs.length = n → Hid (okAll xs s n) → Hid (zfrom xs p n) → clash xs s = false → agree ys xs p → SB w P G n s sk ys → 0 ≤ sk → sk ≤ 9223372036854775807 →
    Calls Try.prog 65 #[.pointer (some ⟨P, 0, none⟩), .int .i64 p, .agg (mcells (lmask xs s p) s)] w (FillPost w P G n s xs p (srch s f xs p sk)) := by
  have hs2 : 2 ≤ s := by simp at hs; omega
  have hs4 : s ≤ 4 := by simp at hs; omega
  have hn16 : n ≤ 16 := by simp at hs; rcases hs with rfl | rfl | rfl <;> omega
  have Hn := Lib.hid hn; clear hn
  induction f with
  | zero =>
    intro xs ys p sk w hp hl hok hz hcl hag hS k0 k1
    obtain rfl : p = n := by omega
    have hnn : ((p : Int) == (p : Int)) = true := by simp
    have hys : ys = xs := ext_nth (by rw [hS.2.2.1, hl]) (fun k hk => hag k (by rw [hS.2.2.1] at hk; exact hk))
    subst hys
    have Hl := Lib.hid hl; clear hl
    have Hcl := Lib.hid hcl; clear hcl
    have hB := (Below.refl w.heap.size w).alloc (Nat.le_refl _) (.cells (mcells (lmask ys s p) s) 51)
    have hS1 := hS.below hB hS.ltP hS.ltG
    have hS2 := hS1.setP (sk - 1)
    have hC : Chg w ((w.alloc (.cells (mcells (lmask ys s p) s) 51)).setCell ⟨P, 2, none⟩ (.int .i64 (sk - 1))) P G := (Chg.ofBelow hB).trans (Chg.setP _ P G 2 _)
    have a0 := hS1.c0
    have a2 := hS1.c2
    have a3 := hS1.f2
    have b2 := hS2.c2
    have HS2 := Lib.hid hS2; clear hS2
    by_cases h0 : sk = 0
    · have hsr := Lib.hid (show srch s 0 ys p sk = (some ys, sk) by rw [srch, if_pos h0])
      have hlt : sk - 1 < 0 := by omega
      clear h0
      go_enter Try.func65, Try.ntmps65
      go_wp2
      go_ret
      rw [hsr.out]
      exact ⟨hC, rfl, _, HS2.out⟩
    · have hsr := Lib.hid (show srch s 0 ys p sk = (none, sk - 1) by rw [srch, if_neg h0])
      have hlt : ¬ sk - 1 < 0 := by omega
      clear h0
      go_enter Try.func65, Try.ntmps65
      go_wp2
      go_ret
      rw [hsr.out]
      exact ⟨hC, rfl, _, HS2.out, fun _ _ => rfl⟩
  | succ f ih =>
    intro xs ys p sk w hp hl hok hz hcl hag hS k0 k1
    have hpn : p < n := by omega
    have hpp : ((p : Int) == (n : Int)) = false := by simp; omega
    have Hp := Lib.hid (show (p + 1) + f = n by omega)
    clear hp
    have Ih := Lib.hid ih; clear ih
    have Hl := Lib.hid hl; clear hl
    have Hc0 := Lib.hid hcl; clear hcl
    have Hag := Lib.hid hag; clear hag
    have hT := Lib.hid (show srch s (f + 1) xs p sk = tryFrom (fun ys l => srch s f ys (p + 1) l) xs s p (s + 1 - 1) 1 sk from by rw [srch, Int.toNat_natCast]; rfl)
    have Hi9 := Lib.hid (show (Try.prog.info? 51).map (·.size) = some (mcells (lmask xs s p) s).size by rw [mcells_size]; kernel_rfl)
    obtain ⟨hr8, hc8⟩ := rc_lt s hs p (by have := Hn.out; omega)
    have Hr : Hid ((p : Int) / (s : Int) = ((p / s : Nat) : Int)) := Lib.hid (by simp)
    have Hc : Hid ((s : Int) + (p : Int) % (s : Int) = ((s + p % s : Nat) : Int)) := Lib.hid (by simp)
    have Hm := Lib.hid (lmask_lt (xs := xs) (by omega : (s : Int) ≤ 4) hok.out p (by omega))
    have hB := (Below.refl w.heap.size w).alloc (Nat.le_refl _) (.cells (mcells (lmask xs s p) s) 51)
    have hS1 := hS.below hB hS.ltP hS.ltG
    have hx1 : Hid (MBox (w.alloc (.cells (mcells (lmask xs s p) s) 51)) w.heap.size (lmask xs s p) s) := Lib.hid (heap_alloc_new _ _)
    have hPw := hS.ltP
    have hGw := hS.ltG
    have hC1 : Chg w (w.alloc (.cells (mcells (lmask xs s p) s) 51)) P G := Chg.ofBelow hB
    have a0 := hS1.c0
    clear hS hB
    go_enter Try.func65, Try.ntmps65
    go_wp2
    go_loopw [7] (fun i wr => ∃ (v : Nat) (l : Int) (zs : List Int), 1 ≤ v ∧ v ≤ s + 1 ∧ i = .int .i64 v ∧ Hid (srch s (f + 1) xs p sk = tryFrom (fun ys l => srch s f ys (p + 1) l) xs s p (s + 1 - v) v l) ∧ Chg w wr P G ∧ SB wr P G n s l zs ∧ Hid (agree zs xs p) ∧ Hid (MBox wr w.heap.size (lmask xs s p) s) ∧ 0 ≤ l ∧ l ≤ 9223372036854775807) (fun i _ => (s + 1 - intOf i).toNat)
    case atStart => exact ⟨1, sk, ys, by omega, by omega, rfl, hT, hC1, hS1, Hag, hx1, k0, k1⟩
    case round =>
      clear a0 hS1 hx1 hC1 hT
      obtain ⟨v, l, zs, v1, v2, rfl, hS', hC, hS, hag, hx, l0, l1⟩ := hrel
      have a1 := hS.c1
      by_cases hlt : v ≤ s
      · have Hcl := Lib.hid (clash_put hs Hn.out Hl.out hok.out hz.out Hc0.out hpn v1 hlt)
        have Hr2 := Lib.hid (show s + 1 - v = (s - v) + 1 by omega)
        have Hr3 := Lib.hid (show s - v = s + 1 - (v + 1) by omega)
        have HS' := Lib.hid (show srch s (f + 1) xs p sk = tryFrom (fun ys l => srch s f ys (p + 1) l) xs s p ((s - v) + 1) v l by rw [← Hr2.out]; exact hS'.out)
        clear hS'
        cases hcc : clash (xs.set p (v : Int)) s
        · have Hlm := Lib.hid (lmask_put (s := s) Hl.out hpn v1)
          have hok2 := Lib.hid (okAll_set hok.out Hl.out hpn (by omega : (0 : Int) ≤ (v : Int)) (by omega : (v : Int) ≤ s))
          have hz2 := Lib.hid (zfrom_set (v := (v : Int)) hz.out Hl.out hpn)
          have Hl2 := Lib.hid (show (xs.set p (v : Int)).length = n by rw [List.length_set]; exact Hl.out)
          have hag2 : Hid (agree (zs.set p (v : Int)) (xs.set p (v : Int)) (p + 1)) := Lib.hid (fun j hj => by
            rw [nth_set (by rw [hS.2.2.1]; exact hpn), nth_set (by rw [Hl.out]; exact hpn)]
            split
            · rfl
            · exact hag.out j (by omega))
          have hagx := Lib.hid (agree_set xs (v : Int) Hl.out hpn)
          cases hrr : srch s f (xs.set p (v : Int)) (p + 1) l with
          | mk o l2 =>
            have Hrr := Lib.hid hrr
            obtain ⟨bd0, bd1⟩ : 0 ≤ l2 ∧ l2 ≤ l := by
              have hbd := srch_bd (size := s) (f := f) (xs := xs.set p (v : Int)) (p := p + 1) l0
              rw [hrr] at hbd
              exact hbd
            clear hrr
            have Hcc := Lib.hid hcc
            cases o with
            | none =>
              have Hno := Lib.hid (tryFrom_none (rec := fun ys l => srch s f ys (p + 1) l) (r := s - v) hcc Hrr.out)
              go_wp2_with (first | (refine wpList_load_row rfl 51 _ rfl w.heap.size rfl 51 (mcells (lmask xs s p) s) (0, 0) _ hx.out Try.underlying51 rfl Hi9.out ?_) | (go_at_call 81; refine (meets_any (lmask xs s p) s p (p / s) (s + p % s) v _ (by omega) (by omega) Hr.out Hc.out hr8 hc8 (by omega) (by omega) Hm.out).mono ?_; rintro e w1 ⟨rfl, hb1⟩; rw [← Hcl.out]; have hS1 := hS.below hb1 hS.ltP hS.ltG; have hx1 := Lib.hid (MBox.below hx.out hx.out.lt hb1); have hC1 := hC.trans (Chg.ofBelow hb1); clear hb1; rw [Hcc.out]; have a0 := hS1.c0; obtain ⟨g1, g2⟩ := hS1.g hpn; have hS2 := Lib.hid (hS1.setG p (v : Int)); have hC2 := hC1.trans (Chg.setG _ P G p (.int .i64 (v : Int))); have hx2 := Lib.hid (MBox.other (k := p) (v := .int .i64 (v : Int)) hx1.out (show w.heap.size ≠ G by omega))) | (refine wpList_load_row rfl 51 _ rfl w.heap.size rfl 51 (mcells (lmask xs s p) s) (0, 0) _ hx2.out Try.underlying51 rfl Hi9.out ?_) | (go_at_call 82; refine (with_any (lmask xs s p) s p (p / s) (s + p % s) v _ (by omega) (by omega) Hr.out Hc.out hr8 hc8 (by omega) (by omega) Hm.out).mono ?_; rintro e w3 ⟨rfl, hb3⟩; rw [← Hlm.out]; have hS3 := hS2.out.below hb3 (by have := hS2.out.ltP; exact this) (by have := hS2.out.ltG; exact this); have hx3 := Lib.hid (MBox.below hx2.out hx2.out.lt hb3); have hC3 := hC2.trans (Chg.ofBelow hb3); clear hb3) | (go_at_call 65; rw [show ((p : Int) + 1) = ((p + 1 : Nat) : Int) from by omega]; refine (Ih.out _ _ (p + 1) l _ Hp.out Hl2.out hok2 hz2 Hcc.out hag2.out hS3 l0 l1).mono ?_; rintro e w4 hpost; rw [Hrr.out] at hpost; obtain ⟨hC4, rfl, zs4, hS4, hag4⟩ := hpost))
              have hx4 := Lib.hid (hC4.mbox hx3.out (by omega) (by omega))
              go_roundw
              case rel => exact ⟨v + 1, l2, zs4, by omega, by omega, by go_num, by rw [← Hr3.out]; exact Lib.hid (HS'.out.trans Hno.out), hC3.trans hC4, hS4, Lib.hid (fun j hj => (hag4 j (by omega)).trans (hagx.out j hj)), hx4, bd0, by omega⟩
              case measure => simp [intOf]; omega
            | some y =>
              have Hno := Lib.hid (tryFrom_some (rec := fun ys l => srch s f ys (p + 1) l) (r := s - v) hcc Hrr.out)
              go_wp2_with (first | (refine wpList_load_row rfl 51 _ rfl w.heap.size rfl 51 (mcells (lmask xs s p) s) (0, 0) _ hx.out Try.underlying51 rfl Hi9.out ?_) | (go_at_call 81; refine (meets_any (lmask xs s p) s p (p / s) (s + p % s) v _ (by omega) (by omega) Hr.out Hc.out hr8 hc8 (by omega) (by omega) Hm.out).mono ?_; rintro e w1 ⟨rfl, hb1⟩; rw [← Hcl.out]; have hS1 := hS.below hb1 hS.ltP hS.ltG; have hx1 := Lib.hid (MBox.below hx.out hx.out.lt hb1); have hC1 := hC.trans (Chg.ofBelow hb1); clear hb1; rw [Hcc.out]; have a0 := hS1.c0; obtain ⟨g1, g2⟩ := hS1.g hpn; have hS2 := Lib.hid (hS1.setG p (v : Int)); have hC2 := hC1.trans (Chg.setG _ P G p (.int .i64 (v : Int))); have hx2 := Lib.hid (MBox.other (k := p) (v := .int .i64 (v : Int)) hx1.out (show w.heap.size ≠ G by omega))) | (refine wpList_load_row rfl 51 _ rfl w.heap.size rfl 51 (mcells (lmask xs s p) s) (0, 0) _ hx2.out Try.underlying51 rfl Hi9.out ?_) | (go_at_call 82; refine (with_any (lmask xs s p) s p (p / s) (s + p % s) v _ (by omega) (by omega) Hr.out Hc.out hr8 hc8 (by omega) (by omega) Hm.out).mono ?_; rintro e w3 ⟨rfl, hb3⟩; rw [← Hlm.out]; have hS3 := hS2.out.below hb3 (by have := hS2.out.ltP; exact this) (by have := hS2.out.ltG; exact this); have hx3 := Lib.hid (MBox.below hx2.out hx2.out.lt hb3); have hC3 := hC2.trans (Chg.ofBelow hb3); clear hb3) | (go_at_call 65; rw [show ((p : Int) + 1) = ((p + 1 : Nat) : Int) from by omega]; refine (Ih.out _ _ (p + 1) l _ Hp.out Hl2.out hok2 hz2 Hcc.out hag2.out hS3 l0 l1).mono ?_; rintro e w4 hpost; rw [Hrr.out] at hpost; obtain ⟨hC4, rfl, sk4, hS4⟩ := hpost))
              go_ret
              rw [HS'.out, Hno.out]
              exact ⟨hC3.trans hC4, rfl, sk4, hS4⟩
        · have Hno := Lib.hid (tryFrom_clash (rec := fun ys l => srch s f ys (p + 1) l) (r := s - v) (l := l) hcc)
          have Hcc := Lib.hid hcc
          clear hcc
          go_wp2_with (first | (refine wpList_load_row rfl 51 _ rfl w.heap.size rfl 51 (mcells (lmask xs s p) s) (0, 0) _ hx.out Try.underlying51 rfl Hi9.out ?_) | (go_at_call 81; refine (meets_any (lmask xs s p) s p (p / s) (s + p % s) v _ (by omega) (by omega) Hr.out Hc.out hr8 hc8 (by omega) (by omega) Hm.out).mono ?_; rintro e w1 ⟨rfl, hb1⟩; rw [← Hcl.out]; have hS1 := hS.below hb1 hS.ltP hS.ltG; have hx1 := Lib.hid (MBox.below hx.out hx.out.lt hb1); have hC1 := hC.trans (Chg.ofBelow hb1); clear hb1; rw [Hcc.out]))
          go_roundw
          case rel => exact ⟨v + 1, l, zs, by omega, by omega, by go_num, by rw [← Hr3.out]; exact Lib.hid (HS'.out.trans Hno.out), hC1, hS1, hag, hx1, l0, l1⟩
          case measure => simp [intOf]; omega
      · go_wp2
        go_ret
        have e : s + 1 - v = 0 := by omega
        rw [hS'.out, e]
        exact ⟨hC, rfl, zs, hS, hag.out⟩
end Go.Proofs.Ytlnmioijgclndaa
