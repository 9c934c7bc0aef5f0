import Derived.Test.YtkeoflnmbcdmfaaDoorSOwnP
import Derived.Test.YtkeoflnmbcdmfaaDoorSSl
import Derived.Test.YtkeoflnmbcdmfaaDoorBase
import Derived.Shelf.Abstract
import Derived.Test.YtkeoflnmbcdmfaaDoorSHo
import Derived.Deep.RegionWith
set_option maxRecDepth 8000
namespace Go.Proofs.YtkeoflnmbcdmfaaDoor
open Go.ChangeShapes Go.WideShapes Go.ChangeAt Go.RowKit

/-- the cell is one of the puzzle's, and given. -/
def givenB (n : Nat) (gi : List Int) (i : Int) : Bool := inr i 0 ((n : Int) - 1) && decide (0 < nth gi i.toNat)
def redB (s : Int) (n : Nat) (gi : List Int) (rs : List RuleM) (i : Int) : Bool := pvB s gi rs && givenB n gi i && oneB s n gi rs && oneB s n (gi.set i.toNat 0) rs
set_option maxHeartbeats 2000000 in
theorem specIsRedundant (s : Int) (Ag : Option Addr) (n cg Bg : Nat) (gi : List Int) (Ar : Option Addr) (nr cr Br : Nat) (rs : List RuleM) (i : Int) (w : World) (hp : PGs w s Ag n cg Bg gi Ar nr cr Br rs) :
    Calls Tryd.prog 29 #[.agg #[.int .i64 s, .slice Ag n cg, .slice Ar nr cr], .int .i64 i] w fun e w' => e = .returned (.bool (redB s n gi rs i)) ∧ Below w.heap.size w w' := by
  have hx0 := pbox_new w s Ag n cg Ar nr cr 26
  have hb0 : Below w.heap.size w (w.alloc (.cells #[.int .i64 s, .slice Ag n cg, .slice Ar nr cr] 26)) := (Below.refl _ _).alloc (Nat.le_refl _) _
  have hs0 : w.heap.size < (w.alloc (.cells #[.int .i64 s, .slice Ag n cg, .slice Ar nr cr] 26)).heap.size := by simp
  have HP := Lib.hid (fun w' (hb : Below w.heap.size w w') => specPuzzleValid s Ag n cg Bg gi Ar nr cr Br rs w' (hp.below hb).g (hp.below hb).gB hp.gm (hp.below hb).r (hp.below hb).rB hp.rm)
  have HO := Lib.hid (fun w' (hb : Below w.heap.size w w') => specOne s Ag n cg Bg gi Ar nr cr Br rs w' (hp.below hb))
  have hlen := Lib.hid hp.g.1
  have hm := hp.gm
  cases hv : pvB s gi rs
  · have HL := Lib.hid (show redB s n gi rs i = false by simp [redB, hv])
    go_enter Tryd.func29, Tryd.ntmps29
    go_wp2_with (go_at_call 20; refine (HP.out _ hb0).mono ?_; rintro e w1 ⟨rfl, hb1⟩; rw [hv]; have hB1 := step hb0 hb1; clear hb1)
    go_ret
    exact ⟨by rw [HL.out]; rfl, hB1⟩
  · cases hin : inr i 0 ((n : Int) - 1)
    · have HL := Lib.hid (show redB s n gi rs i = false by simp [redB, givenB, hin])
      have Hin := Lib.hid hin
      clear hin
      go_enter Tryd.func29, Tryd.ntmps29
      go_wp2_with (first | (go_at_call 20; refine (HP.out _ hb0).mono ?_; rintro e w1 ⟨rfl, hb1⟩; rw [hv]; have hB1 := step hb0 hb1; obtain ⟨d0, d1, d2⟩ := hx0.below hs0 hb1; clear hb1) | (go_at_call 57; refine (l1In_any _ _ _ _).mono ?_; rintro e w' ⟨rfl, rfl⟩; (rw [Hin.out])))
      go_ret
      exact ⟨by rw [HL.out]; rfl, hB1⟩
    · obtain ⟨k, rfl⟩ := Int.eq_ofNat_of_zero_le (show 0 ≤ i by simp [inr] at hin; omega)
      have hk : k < n := by simp [inr] at hin; omega
      have Hin := Lib.hid hin
      clear hin
      obtain ⟨b, off, rfl, hbB, hck⟩ := hp.g.at_ hk
      have hbw : b < w.heap.size := Nat.lt_of_lt_of_le hbB hp.gB
      have HW := Lib.hid (fun w' (hb : Below w.heap.size w w') => specWithout (Bg := Bg) s (some ⟨b, off, none⟩) n cg gi Ar nr cr k w' (hp.below hb).g (hp.below hb).gB hm hk)
      have HC := Lib.hid (fun w' (hb : Below w.heap.size w w') => ((hb.cell (p := ⟨b, off + k, none⟩) hbw).trans hck : w'.cell? ⟨b, off + k, none⟩ = some (.int .i64 (nth gi k))))
      by_cases hx : 0 < nth gi k
      · cases ho : oneB s n gi rs
        · have HL := Lib.hid (show redB s n gi rs k = false by simp [redB, ho])
          go_enter Tryd.func29, Tryd.ntmps29
          go_wp2_with (first | (go_at_call 20; refine (HP.out _ hb0).mono ?_; rintro e w1 ⟨rfl, hb1⟩; rw [hv]; have hB1 := step hb0 hb1; obtain ⟨d0, d1, d2⟩ := hx0.below hs0 hb1; have hck1 := HC.out _ hB1; clear hb1) | (go_at_call 57; refine (l1In_any _ _ _ _).mono ?_; rintro e w' ⟨rfl, rfl⟩; (rw [Hin.out])) | (go_at_call 65; refine (HO.out _ hB1).mono ?_; rintro e w2 ⟨rfl, hb2⟩; rw [ho]))
          go_ret
          exact ⟨by rw [HL.out]; rfl, step hB1 hb2⟩
        · cases ho2 : oneB s n (gi.set k 0) rs
          all_goals
            have HL := Lib.hid (show redB s n gi rs k = oneB s n (gi.set k 0) rs by simp [redB, givenB, hv, Hin.out, hx, ho])
            rw [ho2] at HL
            have HO2 := Lib.hid (fun w' (hb : Below w.heap.size w w') A' c' B' (h : Rd w' B' A' n (gi.set k 0)) (hB : B' ≤ w'.heap.size) => specOne s A' n c' B' (gi.set k 0) Ar nr cr Br rs w' ⟨h, hB, hm, (hp.below hb).r, (hp.below hb).rB, hp.rm⟩)
            go_enter Tryd.func29, Tryd.ntmps29
            go_wp2_with (first | (go_at_call 20; refine (HP.out _ hb0).mono ?_; rintro e w1 ⟨rfl, hb1⟩; rw [hv]; have hB1 := step hb0 hb1; obtain ⟨d0, d1, d2⟩ := hx0.below hs0 hb1; have hs1 := Nat.lt_of_lt_of_le hs0 hb1.size; have hck1 := HC.out _ hB1; clear hb1) | (go_at_call 57; refine (l1In_any _ _ _ _).mono ?_; rintro e w' ⟨rfl, rfl⟩; (rw [Hin.out])) | (go_at_call 66; refine (HW.out _ hB2).mono ?_; rintro e w3 ⟨A3, c3, rfl, ho3, hb3⟩; have hB3 := step hB2 hb3; clear hb3) | (go_at_call 65; refine (HO.out _ hB1).mono ?_; rintro e w2 ⟨rfl, hb2⟩; rw [ho]; have hB2 := step hB1 hb2; obtain ⟨e0, e1, e2⟩ := PBox.below ⟨d0, d1, d2⟩ hs1 hb2; clear hb2) | (go_at_call 65; refine (HO2.out _ hB3 _ _ _ ho3.rd (Nat.le_refl _)).mono ?_; rintro e w4 ⟨rfl, hb4⟩; rw [ho2]; have hB4 := step hB3 hb4; clear hb4))
            go_ret
            exact ⟨by rw [HL.out]; rfl, hB4⟩
      · have HL := Lib.hid (show redB s n gi rs k = false by simp [redB, givenB, hx])
        go_enter Tryd.func29, Tryd.ntmps29
        go_wp2_with (first | (go_at_call 20; refine (HP.out _ hb0).mono ?_; rintro e w1 ⟨rfl, hb1⟩; rw [hv]; have hB1 := step hb0 hb1; obtain ⟨d0, d1, d2⟩ := hx0.below hs0 hb1; have hck1 := HC.out _ hB1; clear hb1) | (go_at_call 57; refine (l1In_any _ _ _ _).mono ?_; rintro e w' ⟨rfl, rfl⟩; (rw [Hin.out])))
        go_ret
        exact ⟨by rw [HL.out]; rfl, hB1⟩
end Go.Proofs.YtkeoflnmbcdmfaaDoor
set_option maxRecDepth 8000
namespace Go.Proofs.YtkeoflnmbcdmfaaDoor
/-! making puzzles: what the lists mean. -/
def Le0 (a b : List Int) : Prop := a.length = b.length ∧ ∀ i, nth a i = nth b i ∨ nth a i = 0
theorem Le0.refl (a : List Int) : Le0 a a := ⟨rfl, fun _ => .inl rfl⟩
theorem Le0.trans {a b c : List Int} (h : Le0 a b) (h' : Le0 b c) : Le0 a c := ⟨h.1.trans h'.1, fun i => by
  rcases h.2 i with e | e
  · rcases h'.2 i with e' | e'
    · exact .inl (e.trans e')
    · exact .inr (e.trans e')
  · exact .inr e⟩
theorem Le0.set (a : List Int) (k : Nat) : Le0 (a.set k 0) a := ⟨by simp, nth_set0 a k⟩
theorem nth_setM {a : List Int} {k i : Nat} {z : Int} (hk : k < a.length) : nth (a.set k z) i = if i = k then z else nth a i := by
  by_cases e : i = k
  · subst e; rw [if_pos rfl]; simp [nth, List.getD_eq_getElem?_getD, hk]
  · rw [if_neg e]; simp [nth, List.getD_eq_getElem?_getD, List.getElem?_set_ne (fun h => e h.symm)]
theorem Le0.set2 {a b : List Int} (h : Le0 a b) (k : Nat) : Le0 (a.set k 0) (b.set k 0) := ⟨by simpa using h.1, fun i => by
  by_cases hk : k < a.length
  · rw [nth_setM hk, nth_setM (by rw [← h.1]; exact hk)]
    by_cases e : i = k
    · rw [if_pos e, if_pos e]; exact .inl rfl
    · rw [if_neg e, if_neg e]; exact h.2 i
  · rw [List.set_eq_of_length_le (by omega), List.set_eq_of_length_le (by rw [← h.1]; omega)]; exact h.2 i⟩
theorem pv_put {s : Int} {gi : List Int} {rs : List RuleM} (h : pvB s gi rs = true) (c : Nat) : pvB s (gi.set c 0) rs = true := by
  simp only [pvB, Bool.and_eq_true] at h ⊢
  exact ⟨⟨h.1.1, gv_put h.1.2 c⟩, h.2⟩
theorem ps_mono {s : Int} {gi gi' g : List Int} {rs : List RuleM} (hv : pvB s gi' rs = true) (hle : Le0 gi' gi) (h : psB s gi rs g = true) : psB s gi' rs g = true := by
  unfold psB at h ⊢
  rw [Bool.and_eq_true] at h ⊢
  obtain ⟨h1, h2⟩ := h
  obtain ⟨_, b, c, d, e⟩ := fp_parts.1 h1
  refine ⟨fp_parts.2 ⟨hv, b, fun i hi => ?_, d, e⟩, h2⟩
  have h3 := c i hi
  unfold giveOk at h3 ⊢
  rcases hle.2 i with e | e
  · rw [e]; exact h3
  · rw [e]; simp
theorem filt_leM {p q : List Int → Bool} (h : ∀ y, p y = true → q y = true) : ∀ L : List (List Int), (L.filter p).length ≤ (L.filter q).length := by
  intro L
  induction L with
  | nil => exact Nat.le_refl _
  | cons a L ih =>
    by_cases e : p a = true
    · rw [List.filter_cons_of_pos e, List.filter_cons_of_pos (h a e)]; simp only [List.length_cons]; omega
    · rw [List.filter_cons_of_neg e]
      by_cases e' : q a = true
      · rw [List.filter_cons_of_pos e']; simp only [List.length_cons]; omega
      · rw [List.filter_cons_of_neg e']; exact ih
theorem cv_sqM {s : Nat} {gi : List Int} {rs : List RuleM} {n : Nat} (hl : gi.length = n) (hv : pvB s gi rs = true) (hn : n = s * s) : cv s gi rs (s * s) [] = (sqL s).filter (psB s gi rs) := by
  rw [← solL_is hv, ← hn, ← hl]; exact cv_is hv
theorem cv_le {s : Nat} {gi gi' : List Int} {rs : List RuleM} {n : Nat} (hl : gi.length = n) (hv : pvB s gi rs = true) (hv' : pvB s gi' rs = true) (hn : n = s * s) (hle : Le0 gi' gi) : (cv s gi rs (s * s) []).length ≤ (cv s gi' rs (s * s) []).length := by
  rw [cv_sqM hl hv hn, cv_sqM (hle.1.trans hl) hv' hn]
  exact filt_leM (fun y h => ps_mono hv' hle h) _
theorem one_iff {s : Nat} {gi : List Int} {rs : List RuleM} {n : Nat} (hl : gi.length = n) (hv : pvB s gi rs = true) (hn : n = s * s) : oneB s n gi rs = true ↔ (cv s gi rs (s * s) []).length = 1 := by
  unfold oneB
  rw [beq_iff_eq, allS_cv hl hv (by omega) hn, List.length_take]
  omega
theorem one_same {s : Nat} {gi gi' : List Int} {rs : List RuleM} {n : Nat} (hl : gi.length = n) (hv : pvB s gi rs = true) (hv' : pvB s gi' rs = true) (hn : n = s * s) (hle : Le0 gi' gi) (h : oneB s n gi rs = true) (h' : oneB s n gi' rs = true) : cv s gi rs (s * s) [] = cv s gi' rs (s * s) [] := by
  have hl' := hle.1.trans hl
  have h1 := (one_iff hl hv hn).1 h
  have h2 := (one_iff hl' hv' hn).1 h'
  obtain ⟨y, hy⟩ := List.length_eq_one_iff.1 h1
  obtain ⟨z, hz⟩ := List.length_eq_one_iff.1 h2
  have e1 : y ∈ (sqL s).filter (psB s gi rs) := by rw [← cv_sqM hl hv hn, hy]; simp
  have e2 : y ∈ (sqL s).filter (psB s gi' rs) := List.mem_filter.2 ⟨(List.mem_filter.1 e1).1, ps_mono hv' hle (List.mem_filter.1 e1).2⟩
  rw [← cv_sqM hl' hv' hn, hz] at e2
  rw [hy, hz]
  simp at e2
  rw [e2]
theorem sf_same {s : Nat} {gi gi' : List Int} {rs : List RuleM} {n : Nat} (hl : gi.length = n) (hv : pvB s gi rs = true) (hv' : pvB s gi' rs = true) (hn : n = s * s) (hle : Le0 gi' gi) (h : oneB s n gi rs = true) (h' : oneB s n gi' rs = true) : sfL s n gi' rs = sfL s n gi rs ∧ sfB s n gi' rs = sfB s n gi rs := by
  have hl' := hle.1.trans hl
  have e := one_same hl hv hv' hn hle h h'
  obtain ⟨y, hy⟩ := List.length_eq_one_iff.1 ((one_iff hl hv hn).1 h)
  have a := sf_cons hl hv hn hy
  have b := sf_cons hl' hv' hn (e ▸ hy)
  exact ⟨b.1.trans a.1.symm, b.2.trans a.2.symm⟩
theorem one_cs {s : Int} {gi : List Int} {rs : List RuleM} {n : Nat} (hv : pvB s gi rs = true) : (csI s n gi rs 2 == 1) = oneB s n gi rs := by
  have h2 : inr (2 : Int) 1 600 = true := by decide
  simp only [csI, hv, h2, Bool.true_and, if_true, oneB]
  rw [show (2 : Int).toNat = 2 from rfl, Bool.eq_iff_iff]
  simp only [beq_iff_eq]
  omega
theorem one_cs' {s : Int} {gi : List Int} {rs : List RuleM} {n : Nat} (hv : pvB s gi rs = true) (h : oneB s n gi rs = true) : csI s n gi rs 2 = 1 := by
  have := one_cs (n := n) hv
  rw [h] at this
  simpa using this
/-- between a puzzle with one solution and one with fewer given and one solution every puzzle has one. -/
theorem one_mid {s : Nat} {a b c : List Int} {rs : List RuleM} {n : Nat} (hl : c.length = n) (ha : pvB s a rs = true) (hb : pvB s b rs = true) (hc : pvB s c rs = true) (hn : n = s * s) (hab : Le0 a b) (hbc : Le0 b c) (h1 : oneB s n a rs = true) (h2 : oneB s n c rs = true) : oneB s n b rs = true := by
  have hlb := hbc.1.trans hl
  have q1 := cv_le hl hc hb hn hbc
  have q2 := cv_le hlb hb ha hn hab
  have q3 := (one_iff (hab.1.trans hlb) ha hn).1 h1
  have q4 := (one_iff hl hc hn).1 h2
  exact (one_iff hlb hb hn).2 (by omega)
def redTo (s : Int) (n : Nat) (gi : List Int) (rs : List RuleM) : Nat → Bool
  | 0 => false
  | k + 1 => redTo s n gi rs k || redB s n gi rs k
theorem redTo_hit {s : Int} {n : Nat} {gi : List Int} {rs : List RuleM} {k m : Nat} (hk : k < m) (e : redB s n gi rs k = true) : redTo s n gi rs m = true := by
  induction m with
  | zero => omega
  | succ m ih =>
    simp only [redTo, Bool.or_eq_true]
    by_cases h : k = m
    · subst h; exact .inr e
    · exact .inl (ih (by omega))
theorem redTo_none {s : Int} {n : Nat} {gi : List Int} {rs : List RuleM} {m : Nat} (h : ∀ k : Nat, k < m → redB s n gi rs k = false) : redTo s n gi rs m = false := by
  induction m with
  | zero => rfl
  | succ m ih => simp only [redTo, ih (fun k hk => h k (by omega)), h m (by omega)]; rfl
def minB (s : Int) (n : Nat) (gi : List Int) (rs : List RuleM) : Bool := pvB s gi rs && oneB s n gi rs && !redTo s n gi rs n
theorem red_iff {s : Int} {n : Nat} {gi : List Int} {rs : List RuleM} {k : Nat} (hl : gi.length = n) (hv : pvB s gi rs = true) (h1 : oneB s n gi rs = true) (hk : k < n) : redB s n gi rs k = ((nth gi k != 0) && oneB s n (gi.set k 0) rs) := by
  have h0 := (gv_nth (pv_gv hv).1 (show k < gi.length by omega)).1
  have e1 : inr (k : Int) 0 ((n : Int) - 1) = true := by unfold inr; simp; omega
  have e2 : decide (0 < nth gi k) = (nth gi k != 0) := by
    rw [Bool.eq_iff_iff, decide_eq_true_iff, bne_iff_ne]; omega
  simp only [redB, givenB, hv, h1, e1, Int.toNat_natCast, e2, Bool.true_and, Bool.and_true]
theorem red_false {s : Int} {n : Nat} {gi : List Int} {rs : List RuleM} {i : Int} (h : (pvB s gi rs && oneB s n gi rs) = false) : redB s n gi rs i = false := by
  unfold redB
  cases h1 : pvB s gi rs <;> cases h2 : oneB s n gi rs <;> simp_all
end Go.Proofs.YtkeoflnmbcdmfaaDoor
set_option maxRecDepth 8000
namespace Go.Proofs.YtkeoflnmbcdmfaaDoor
open Go.ChangeShapes Go.WideShapes Go.ChangeAt Go.RowKit Go.Shelf
/-! slices.ContainsFunc over ints, with a closure that may make blocks. -/
def anyN (f : Int → Bool) (xs : List Int) : Nat → Bool
  | 0 => false
  | k + 1 => anyN f xs k || f (nth xs k)
theorem anyN_hit {f : Int → Bool} {xs : List Int} {k n : Nat} (hk : k < n) (e : f (nth xs k) = true) : anyN f xs n = true := by
  induction n with
  | zero => omega
  | succ n ih =>
    simp only [anyN, Bool.or_eq_true]
    by_cases h : k = n
    · subst h; exact .inr e
    · exact .inl (ih (by omega))
/-- what is asked of the closure: it answers f, and leaves what was there. -/
def CloB (g : Nat) (lb : Array Value) (f : Int → Bool) (xs : List Int) (n : Nat) (w : World) : Prop :=
  ∀ (W : World) (i : Nat), i < n → Below w.heap.size w W → Calls Tryd.prog g (#[.int .i64 (nth xs i)] ++ lb) W fun e w' => e = .returned (.bool (f (nth xs i))) ∧ Below W.heap.size W w'
set_option maxHeartbeats 1000000 in
theorem indexFunc_any (A : Option Addr) (c n B : Nat) (xs : List Int) (f : Int → Bool) (g : Nat) (lb : Array Value) (eg : ∀ args w, (callFunc g args).run Tryd.prog w = .ok (.enter g args) w) (w : World) (h : Rd w B A n xs) (hB : B ≤ w.heap.size) (hm : n ≤ 1099511627776) (hp : CloB g lb f xs n w) :
    Calls Tryd.prog 120 #[.slice A n c, .func (.func g) #[] lb] w fun e w' => ∃ r : Int, e = .returned (.int .i64 r) ∧ decide (0 ≤ r) = anyN f xs n ∧ Below w.heap.size w w' := by
  have HP := Lib.hid hp
  have HH := Lib.hid (fun (W : World) (hb : Below w.heap.size w W) => h.below (hb.mono hB))
  clear hp
  go_enter Tryd.func120, Tryd.ntmps120
  go_wp2
  go_loopw [8] (fun i wr => ∃ k : Nat, k ≤ n ∧ i = .int .i64 k ∧ Below w.heap.size w wr ∧ Hid (anyN f xs k = false)) (fun i _ => n - (intOf i).toNat)
  case atStart => exact ⟨0, Nat.zero_le _, rfl, Below.refl _ _, Lib.hid rfl⟩
  case round =>
    obtain ⟨k, hk, rfl, hR, hno⟩ := hrel
    by_cases hlt : k < n
    · obtain ⟨b, off, rfl, hbB, hck⟩ := (HH.out _ hR).at_ hlt
      have hcall := HP.out wr k hlt hR
      obtain ⟨y, hy⟩ : ∃ y, nth xs k = y := ⟨_, rfl⟩
      rw [hy] at hck hcall
      have Hy := Lib.hid hy
      clear hy
      cases e : f y
      · have Hn := Lib.hid (show anyN f xs (k + 1) = false by simp only [anyN, hno.out, Hy.out, e]; rfl)
        rw [e] at hcall
        go_wp2_with (go_at_fn g; refine hcall.mono ?_; rintro e w1 ⟨rfl, hb1⟩; have hR1 := step hR hb1)
        go_roundw
        case rel => exact ⟨k + 1, by omega, by go_num, hR1, Hn⟩
        case measure => simp [intOf]; omega
      · have Hn := Lib.hid (show anyN f xs n = true from anyN_hit hlt (by rw [Hy.out]; exact e))
        rw [e] at hcall
        go_wp2_with (go_at_fn g; refine hcall.mono ?_; rintro e w1 ⟨rfl, hb1⟩; have hR1 := step hR hb1)
        go_ret
        exact ⟨_, rfl, by rw [Hn.out]; simp, hR1⟩
    · obtain rfl : k = n := by omega
      go_wp2
      go_ret
      exact ⟨_, rfl, by rw [hno.out]; rfl, hR⟩
theorem containsFunc_any (A : Option Addr) (c n B : Nat) (xs : List Int) (f : Int → Bool) (g : Nat) (lb : Array Value) (eg : ∀ args w, (callFunc g args).run Tryd.prog w = .ok (.enter g args) w) (w : World) (h : Rd w B A n xs) (hB : B ≤ w.heap.size) (hm : n ≤ 1099511627776) (hp : CloB g lb f xs n w) :
    Calls Tryd.prog 100 #[.slice A n c, .func (.func g) #[] lb] w fun e w' => e = .returned (.bool (anyN f xs n)) ∧ Below w.heap.size w w' := by
  have HI := Lib.hid (indexFunc_any A c n B xs f g lb eg w h hB hm hp)
  clear hp h eg
  go_enter Tryd.func100, Tryd.ntmps100
  go_wp2_with (go_at_call 120; refine HI.out.mono ?_; rintro e w1 ⟨r, rfl, hr, hb1⟩; have hr' : decide (r ≥ 0) = anyN f xs n := hr)
  go_ret
  exact ⟨by first | (rw [← hr]; rfl) | (rw [← hr]), hb1⟩
end Go.Proofs.YtkeoflnmbcdmfaaDoor
set_option maxRecDepth 8000
namespace Go.Proofs.YtkeoflnmbcdmfaaDoor
open Go.ChangeShapes Go.WideShapes Go.ChangeAt Go.RowKit
set_option maxHeartbeats 1000000 in
theorem makeable_any (s : Int) (Ag : Option Addr) (n cg Bg : Nat) (gi : List Int) (Ar : Option Addr) (nr cr Br : Nat) (rs : List RuleM) (w : World) (hp : PGc w s Ag n cg Bg gi Ar nr cr Br rs) (hT : Tz w) :
    Calls Tryd.prog 63 #[.agg #[.int .i64 s, .slice Ag n cg, .slice Ar nr cr]] w fun e w' => e = .returned (.bool (pvB s gi rs && oneB s n gi rs)) ∧ Below w.heap.size w w' := by
  have hx0 := pbox_new w s Ag n cg Ar nr cr 26
  have hb0 : Below w.heap.size w (w.alloc (.cells #[.int .i64 s, .slice Ag n cg, .slice Ar nr cr] 26)) := (Below.refl _ _).alloc (Nat.le_refl _) _
  have hs0 : w.heap.size < (w.alloc (.cells #[.int .i64 s, .slice Ag n cg, .slice Ar nr cr] 26)).heap.size := by simp
  obtain ⟨z0, z1, z2⟩ := id hx0
  have HV := Lib.hid (valid_any s Ag n cg Bg gi Ar nr cr Br rs _ (hp.below hb0))
  cases hv : pvB s gi rs
  · go_enter Tryd.func63, Tryd.ntmps63
    go_wp2_with (go_at_call 48; refine HV.out.mono ?_; rintro e w4 ⟨rfl, hb4⟩; rw [hv])
    go_ret
    exact ⟨rfl, step hb0 hb4⟩
  · have HC := Lib.hid (fun w' (hb : Below w.heap.size w w') => hasOne_any s Ag n cg Bg gi Ar nr cr Br rs w' (hp.below hb) hv (hT.below hT.lt hb))
    obtain ⟨o, ho⟩ : ∃ o, o = oneB s n gi rs := ⟨_, rfl⟩
    rw [← ho] at HC
    rw [← ho]
    clear ho hp hT
    go_enter Tryd.func63, Tryd.ntmps63
    go_wp2_with (first
      | (go_at_call 48; refine HV.out.mono ?_; rintro e w4 ⟨rfl, hb4⟩; rw [hv]; have h04 := step hb0 hb4; obtain ⟨y0, y1, y2⟩ := hx0.below hs0 hb4)
      | (go_at_call 99; refine (HC.out _ h04).mono ?_; rintro e w5 ⟨rfl, hb5⟩))
    go_ret
    exact ⟨by cases o <;> rfl, step h04 hb5⟩
def setL (gi cs : List Int) : Nat → List Int
  | 0 => gi
  | k + 1 => (setL gi cs k).set (nth cs k).toNat 0
theorem setL_length (gi cs : List Int) (k : Nat) : (setL gi cs k).length = gi.length := by
  induction k with
  | zero => rfl
  | succ k ih => simp [setL, ih]
theorem pv_setL {s : Int} {gi cs : List Int} {rs : List RuleM} (h : pvB s gi rs = true) (k : Nat) : pvB s (setL gi cs k) rs = true := by
  induction k with
  | zero => exact h
  | succ k ih => exact pv_put ih _
set_option maxHeartbeats 2000000 in
theorem without_any (s : Int) (Ag : Option Addr) (n cg Bg : Nat) (gi : List Int) (Ar : Option Addr) (nr cr : Nat) (Ac : Option Addr) (m cc Bc : Nat) (cs : List Int) (w : World) (hg : Rd w Bg Ag n gi) (hB : Bg ≤ w.heap.size) (hn : 0 < n) (hm : n ≤ 1099511627776) (hc : Rd w Bc Ac m cs) (hBc : Bc ≤ w.heap.size) (hmc : m ≤ 1099511627776) (hin : ∀ i, i < m → 0 ≤ nth cs i ∧ nth cs i < n) :
    Calls Tryd.prog 102 #[.agg #[.int .i64 s, .slice Ag n cg, .slice Ar nr cr], .slice Ac m cc] w fun e w' => ∃ A' c', e = .returned (.agg #[.int .i64 s, .slice A' n c', .slice Ar nr cr]) ∧ Ow w' w.heap.size A' n c' (setL gi cs m) ∧ Below w.heap.size w w' := by
  have hx0 := pbox_new w s Ag n cg Ar nr cr 26
  have hb0 : Below w.heap.size w (w.alloc (.cells #[.int .i64 s, .slice Ag n cg, .slice Ar nr cr] 26)) := (Below.refl _ _).alloc (Nat.le_refl _) _
  have hs0 : w.heap.size < (w.alloc (.cells #[.int .i64 s, .slice Ag n cg, .slice Ar nr cr] 26)).heap.size := by simp
  obtain ⟨V, hV⟩ : ∃ V, V = (w.alloc (.cells #[.int .i64 s, .slice Ag n cg, .slice Ar nr cr] 26)).alloc (.cells #[.int .i64 0, .slice none 0 0, .slice none 0 0] 26) := ⟨_, rfl⟩
  have hbV : Below w.heap.size w V := by rw [hV]; exact hb0.alloc hb0.size _
  have hsV : V.heap.size = w.heap.size + 1 + 1 := by rw [hV]; simp
  have hxV : PBox V w.heap.size s Ag n cg Ar nr cr := by
    rw [hV]
    exact hx0.below hs0 ((Below.refl _ _).alloc (Nat.le_refl _) _)
  have hrow : V.heap[w.heap.size + 1]? = some (.cells #[.int .i64 0, .slice none 0 0, .slice none 0 0] 26) := by rw [hV]; exact heap_alloc2_new w _ _
  have Hone := Lib.hid puz_one
  have Hi := Lib.hid puz_info
  have HCl := Lib.hid (clone_any Ag n cg Bg gi V (hg.below (hbV.mono hB)) (by omega) hn hm)
  have HCs := Lib.hid (fun (w' : World) (hb : Below V.heap.size V w') => (hc.below (hbV.mono hBc)).below (hb.mono (by omega)))
  have HX := Lib.hid (fun (w' : World) (hb : Below V.heap.size V w') => (⟨hxV.below (by omega) hb, (hb.block (w.heap.size + 1) (by omega)).trans hrow⟩ : PBox w' w.heap.size s Ag n cg Ar nr cr ∧ w'.heap[w.heap.size + 1]? = some (.cells #[.int .i64 0, .slice none 0 0, .slice none 0 0] 26)))
  have HV := Lib.hid hV
  obtain ⟨z0, z1, z2⟩ := id hxV
  have Hin := Lib.hid hin
  clear hV hx0 hb0 hs0 hg hc hxV hrow hin
  go_enter Tryd.func102, Tryd.ntmps102
  go_wp2_with fail
  rw [← HV.out]
  refine HCl.out.mono ?_
  rintro e w1 ⟨A1, c1, rfl, ho1, hb1⟩
  obtain ⟨gb, rfl, hlo, _⟩ := ho1.form hn
  clear z0 z1 z2 HCl
  go_wp2
  go_loopw [13] (fun i wr => ∃ k : Nat, k ≤ m ∧ i = .int .i64 k ∧ Ow wr V.heap.size (some ⟨gb, 0, none⟩) n c1 (setL gi cs k) ∧ Below V.heap.size V wr) (fun i _ => m - (intOf i).toNat)
  case atStart => exact ⟨0, Nat.zero_le _, rfl, ho1, hb1⟩
  case round =>
    obtain ⟨k, hk, rfl, ho, hb⟩ := hrel
    by_cases hlt : k < m
    · obtain ⟨b, off, rfl, hbB, hck⟩ := (HCs.out _ hb).at_ hlt
      obtain ⟨q0, q1⟩ := Hin.out k hlt
      obtain ⟨j, hj⟩ := Int.eq_ofNat_of_zero_le q0
      have Hset := Lib.hid (show setL gi cs (k + 1) = (setL gi cs k).set j 0 by rw [setL, hj]; rfl)
      rw [hj] at hck q1
      have hjn : j < n := by omega
      obtain ⟨hold, hfr⟩ := ho.cell hjn
      have Hst := Lib.hid ((World.ownsRow.stored ho j (.int .i64 0)).1)
      have Hbs := Lib.hid (hb.setCell (p := ⟨gb, j, none⟩) (show V.heap.size ≤ gb by omega) (.int .i64 0))
      clear hj ho hb q0
      go_wp2
      go_roundw
      case rel =>
        have h1 := Hst.out
        rw [vals_set] at h1
        exact ⟨k + 1, by omega, by go_num, by rw [Hset.out]; exact h1, Hbs.out⟩
      case measure => simp [intOf]; omega
    · obtain rfl : k = m := by omega
      obtain ⟨⟨y0, y1, y2⟩, hr⟩ := HX.out _ hb
      have Ho := Lib.hid ho
      have Hb := Lib.hid hb
      clear ho hb
      go_wp2_with (refine wpList_store_row rfl 26 _ _ rfl (w.heap.size + 1) #[.int .i64 s, .slice (some ⟨gb, 0, none⟩) n c1, .slice Ar nr cr] rfl rfl 26 #[.int .i64 0, .slice none 0 0, .slice none 0 0] hr (Hi.out _ _ _ _ _ _ _) rfl (Hone.out _ _ _ _ _ _ _) ?_)
      have hBe : Below w.heap.size w (wr.setRow (w.heap.size + 1) #[.int .i64 s, .slice (some ⟨gb, 0, none⟩) n c1, .slice Ar nr cr]) := setRow_below5 (hbV.trans (Hb.out.mono hbV.size)) (by omega)
      exact bodyPost_ret (v := .agg #[.int .i64 s, .slice (some ⟨gb, 0, none⟩) n c1, .slice Ar nr cr]) (results_cell_row (by rfl) _ _ (w.heap.size + 1) 26 _ (0, 0) _ rfl (setRow_heap _ _ _ _ _ _ hr) Tryd.underlying26 rfl (Hi.out _ _ _ _ _ _ _)) rfl ⟨_, _, rfl, (Ho.out.row5 (fun b hb => by have := Ho.out.own_lo b hb; omega)).mono (by omega), hBe⟩
/-- something is given in the cells, and without it there is one solution. -/
def redC (s : Int) (n : Nat) (gi : List Int) (rs : List RuleM) (cs : List Int) (m : Nat) : Bool := anyN (fun x => nth gi x.toNat != 0) cs m && oneB s n (setL gi cs m) rs
set_option maxHeartbeats 1000000 in
theorem redClo (s : Int) (Ag : Option Addr) (n cg Bg : Nat) (gi : List Int) (Ar : Option Addr) (nr cr PB : Nat) (x : Int) (w : World) (hx : PBox w PB s Ag n cg Ar nr cr) (hg : Rd w Bg Ag n gi) (h0 : 0 ≤ x) (h1 : x < n) :
    Calls Tryd.prog 101 #[.int .i64 x, .pointer (some ⟨PB, 0, none⟩)] w fun e w' => e = .returned (.bool (nth gi x.toNat != 0)) ∧ Below w.heap.size w w' := by
  obtain ⟨j, rfl⟩ := Int.eq_ofNat_of_zero_le h0
  have hj : j < n := by omega
  obtain ⟨b, off, rfl, hbB, hck⟩ := hg.at_ hj
  obtain ⟨z0, z1, z2⟩ := hx
  clear hg
  go_enter Tryd.func101, Tryd.ntmps101
  go_wp2
  go_ret
  exact ⟨by first | rfl | simp, Below.refl _ _⟩
set_option maxHeartbeats 2000000 in
theorem redundant_any (s : Int) (Ag : Option Addr) (n cg Bg : Nat) (gi : List Int) (Ar : Option Addr) (nr cr Br : Nat) (rs : List RuleM) (Ac : Option Addr) (m cc Bc : Nat) (cs : List Int) (w : World) (hp : PGc w s Ag n cg Bg gi Ar nr cr Br rs) (hv : pvB s gi rs = true) (hn : 0 < n) (hT : Tz w) (hc : Rd w Bc Ac m cs) (hBc : Bc ≤ w.heap.size) (hmc : m ≤ 1099511627776) (hin : ∀ i, i < m → 0 ≤ nth cs i ∧ nth cs i < n) :
    Calls Tryd.prog 64 #[.agg #[.int .i64 s, .slice Ag n cg, .slice Ar nr cr], .slice Ac m cc] w fun e w' => e = .returned (.bool (redC s n gi rs cs m)) ∧ Below w.heap.size w w' := by
  have hx0 := pbox_new w s Ag n cg Ar nr cr 26
  have hb0 : Below w.heap.size w (w.alloc (.cells #[.int .i64 s, .slice Ag n cg, .slice Ar nr cr] 26)) := (Below.refl _ _).alloc (Nat.le_refl _) _
  have hs0 : w.heap.size < (w.alloc (.cells #[.int .i64 s, .slice Ag n cg, .slice Ar nr cr] 26)).heap.size := by simp
  obtain ⟨V, hV⟩ : ∃ V, V = w.alloc (.cells #[.int .i64 s, .slice Ag n cg, .slice Ar nr cr] 26) := ⟨_, rfl⟩
  rw [← hV] at hx0 hb0 hs0
  have HClo : Hid (CloB 101 #[.pointer (some ⟨w.heap.size, 0, none⟩)] (fun x => nth gi x.toNat != 0) cs m V) := Lib.hid (fun W i hi hbW => redClo s Ag n cg Bg gi Ar nr cr w.heap.size (nth cs i) W (hx0.below hs0 hbW) ((hp.g.below (hb0.mono hp.gB)).below (hbW.mono (Nat.le_trans hp.gB hb0.size))) (hin i hi).1 (hin i hi).2)
  have HCF := Lib.hid (containsFunc_any Ac cc m Bc cs (fun x => nth gi x.toNat != 0) 101 #[.pointer (some ⟨w.heap.size, 0, none⟩)] (enters_of Tryd.func101 (by kernel_rfl) rfl) V (hc.below (hb0.mono hBc)) (Nat.le_trans hBc hb0.size) hmc HClo.out)
  have HW := Lib.hid (fun (w' : World) (hb : Below w.heap.size w w') => without_any s Ag n cg Bg gi Ar nr cr Ac m cc Bc cs w' (hp.below hb).g (hp.below hb).gB hn hp.gm (hc.below (hb.mono hBc)) (Nat.le_trans hBc hb.size) hmc hin)
  have HX := Lib.hid (fun (w' : World) (hb : Below V.heap.size V w') => hx0.below hs0 hb)
  have HO := Lib.hid (fun (w' : World) (hb : Below w.heap.size w w') (A' : Option Addr) (c' B' : Nat) (h : Rd w' B' A' n (setL gi cs m)) (hB' : B' ≤ w'.heap.size) => hasOne_any s A' n c' B' (setL gi cs m) Ar nr cr Br rs w' ⟨h, hB', hp.gm, (hp.below hb).r, (hp.below hb).rB, hp.rm⟩ (pv_setL hv m) (hT.below hT.lt hb))
  have hmf : ∀ (fn : Fn) (first cap : Array Value) (w : World), (Instr.makeFunc fn first cap).run Tryd.prog w = .ok (.func fn first cap) w := fun _ _ _ _ => rfl
  obtain ⟨z0, z1, z2⟩ := id hx0
  have HV := Lib.hid hV
  have Hb0 := Lib.hid hb0
  cases ha : anyN (fun x => nth gi x.toNat != 0) cs m
  · have HL := Lib.hid (show redC s n gi rs cs m = false by unfold redC; rw [ha]; rfl)
    rw [ha] at HCF
    clear hV hx0 hb0 hs0 hp hc hT ha hv hin HClo
    go_enter Tryd.func64, Tryd.ntmps64
    go_wp2_with (go_at_call 100; rw [← HV.out]; refine HCF.out.mono ?_; rintro e w1 ⟨rfl, hb1⟩)
    go_ret
    exact ⟨by rw [HL.out]; rfl, step Hb0.out hb1⟩
  · obtain ⟨o, ho⟩ : ∃ o, o = oneB s n (setL gi cs m) rs := ⟨_, rfl⟩
    have HL := Lib.hid (show redC s n gi rs cs m = o by unfold redC; rw [ha, ← ho]; rfl)
    rw [ha] at HCF
    rw [← ho] at HO
    clear hV hx0 hb0 hs0 hp hc hT ha ho hv hin HClo
    go_enter Tryd.func64, Tryd.ntmps64
    go_wp2_with (first
      | (go_at_call 100; rw [← HV.out]; refine HCF.out.mono ?_; rintro e w1 ⟨rfl, hb1⟩; have h01 := step Hb0.out hb1; obtain ⟨y0, y1, y2⟩ := HX.out _ hb1)
      | (go_at_call 102; refine (HW.out _ h01).mono ?_; rintro e w2 ⟨A2, c2, rfl, ho2, hb2⟩; have h02 := step h01 hb2)
      | (go_at_call 99; refine (HO.out _ h02 _ _ _ ho2.rd (Nat.le_refl _)).mono ?_; rintro e w3 ⟨rfl, hb3⟩; have h03 := step h02 hb3))
    go_ret
    exact ⟨by rw [HL.out]; cases o <;> rfl, h03⟩
set_option maxHeartbeats 2000000 in
theorem reducedBy_any (s : Int) (Ag : Option Addr) (n cg Bg : Nat) (gi : List Int) (Ar : Option Addr) (nr cr Br : Nat) (rs : List RuleM) (Ac : Option Addr) (m cc Bc : Nat) (cs : List Int) (w : World) (hp : PGc w s Ag n cg Bg gi Ar nr cr Br rs) (hv : pvB s gi rs = true) (hn : 0 < n) (hT : Tz w) (hc : Rd w Bc Ac m cs) (hBc : Bc ≤ w.heap.size) (hmc : m ≤ 1099511627776) (hin : ∀ i, i < m → 0 ≤ nth cs i ∧ nth cs i < n) :
    Calls Tryd.prog 68 #[.agg #[.int .i64 s, .slice Ag n cg, .slice Ar nr cr], .slice Ac m cc] w fun e w' => (∃ A' c', e = .returned (.agg #[.int .i64 s, .slice A' n c', .slice Ar nr cr]) ∧ ((redC s n gi rs cs m = false ∧ A' = Ag ∧ c' = cg) ∨ (redC s n gi rs cs m = true ∧ Ow w' w.heap.size A' n c' (setL gi cs m)))) ∧ Below w.heap.size w w' := by
  have hx0 := pbox_new w s Ag n cg Ar nr cr 26
  have hb0 : Below w.heap.size w (w.alloc (.cells #[.int .i64 s, .slice Ag n cg, .slice Ar nr cr] 26)) := (Below.refl _ _).alloc (Nat.le_refl _) _
  have hs0 : w.heap.size < (w.alloc (.cells #[.int .i64 s, .slice Ag n cg, .slice Ar nr cr] 26)).heap.size := by simp
  obtain ⟨V, hV⟩ : ∃ V, V = (w.alloc (.cells #[.int .i64 s, .slice Ag n cg, .slice Ar nr cr] 26)).alloc (.cells #[.int .i64 0, .slice none 0 0, .slice none 0 0] 26) := ⟨_, rfl⟩
  have hbV : Below w.heap.size w V := by rw [hV]; exact hb0.alloc hb0.size _
  have hsV : V.heap.size = w.heap.size + 1 + 1 := by rw [hV]; simp
  have hxV : PBox V w.heap.size s Ag n cg Ar nr cr := by
    rw [hV]
    exact hx0.below hs0 ((Below.refl _ _).alloc (Nat.le_refl _) _)
  have hrow0 : V.heap[w.heap.size]? = some (.cells #[.int .i64 s, .slice Ag n cg, .slice Ar nr cr] 26) := by rw [hV]; exact (Below.heap_alloc _ _ _ (by simp)).trans (heap_alloc_new w _)
  have hrow : V.heap[w.heap.size + 1]? = some (.cells #[.int .i64 0, .slice none 0 0, .slice none 0 0] 26) := by rw [hV]; exact heap_alloc2_new w _ _
  have Hone := Lib.hid puz_one
  have Hi := Lib.hid puz_info
  have HR := Lib.hid (redundant_any s Ag n cg Bg gi Ar nr cr Br rs Ac m cc Bc cs V (hp.below hbV) hv hn (hT.below hT.lt hbV) (hc.below (hbV.mono hBc)) (Nat.le_trans hBc hbV.size) hmc hin)
  have HW := Lib.hid (fun (w' : World) (hb : Below w.heap.size w w') => without_any s Ag n cg Bg gi Ar nr cr Ac m cc Bc cs w' (hp.below hb).g (hp.below hb).gB hn hp.gm (hc.below (hb.mono hBc)) (Nat.le_trans hBc hb.size) hmc hin)
  have HX := Lib.hid (fun (w' : World) (hb : Below V.heap.size V w') => (⟨hxV.below (by omega) hb, (hb.block (w.heap.size + 1) (by omega)).trans hrow⟩ : PBox w' w.heap.size s Ag n cg Ar nr cr ∧ w'.heap[w.heap.size + 1]? = some (.cells #[.int .i64 0, .slice none 0 0, .slice none 0 0] 26)))
  have HX0 := Lib.hid (fun (w' : World) (hb : Below V.heap.size V w') => (hb.block w.heap.size (by omega)).trans hrow0)
  have HV := Lib.hid hV
  have HbV := Lib.hid hbV
  obtain ⟨z0, z1, z2⟩ := id hxV
  cases hr : redC s n gi rs cs m
  · rw [hr] at HR
    clear hV hx0 hb0 hs0 hp hc hT hv hin hxV hrow hr hrow0 hbV
    go_enter Tryd.func68, Tryd.ntmps68
    go_wp2_with (first
      | (go_at_call 64; rw [← HV.out]; refine HR.out.mono ?_; rintro e w1 ⟨rfl, hb1⟩; obtain ⟨⟨y0, y1, y2⟩, hr1⟩ := HX.out _ hb1)
      | (refine wpList_store_row rfl 26 _ _ rfl (w.heap.size + 1) #[.int .i64 s, .slice Ag n cg, .slice Ar nr cr] rfl rfl 26 #[.int .i64 0, .slice none 0 0, .slice none 0 0] hr1 (Hi.out _ _ _ _ _ _ _) rfl (Hone.out _ _ _ _ _ _ _) ?_))
    have hBe : Below w.heap.size w (w1.setRow (w.heap.size + 1) #[.int .i64 s, .slice Ag n cg, .slice Ar nr cr]) := setRow_below5 (HbV.out.trans (hb1.mono HbV.out.size)) (by omega)
    exact bodyPost_ret (v := .agg #[.int .i64 s, .slice Ag n cg, .slice Ar nr cr]) (results_cell_row (by rfl) _ _ (w.heap.size + 1) 26 _ (0, 0) _ rfl (setRow_heap _ _ _ _ _ _ hr1) Tryd.underlying26 rfl (Hi.out _ _ _ _ _ _ _)) rfl ⟨⟨_, _, rfl, .inl ⟨by trivial, rfl, rfl⟩⟩, hBe⟩
  · rw [hr] at HR
    clear hV hx0 hb0 hs0 hp hc hT hv hin hxV hrow hr hrow0 hbV
    go_enter Tryd.func68, Tryd.ntmps68
    go_wp2_with (first
      | (go_at_call 64; rw [← HV.out]; refine HR.out.mono ?_; rintro e w1 ⟨rfl, hb1⟩; have h01 := HbV.out.trans (hb1.mono HbV.out.size); obtain ⟨⟨y0, y1, y2⟩, hr1⟩ := HX.out _ hb1)
      | (go_at_call 102; refine (HW.out _ h01).mono ?_; rintro e w2 ⟨A2, c2, rfl, ho2, hb2⟩; have hr2 := (HX.out _ (step hb1 hb2)).2)
      | (refine wpList_store_row rfl 26 _ _ rfl (w.heap.size + 1) #[.int .i64 s, .slice A2 n c2, .slice Ar nr cr] rfl rfl 26 #[.int .i64 0, .slice none 0 0, .slice none 0 0] hr2 (Hi.out _ _ _ _ _ _ _) rfl (Hone.out _ _ _ _ _ _ _) ?_))
    have h02 := step h01 hb2
    have hBe : Below w.heap.size w (w2.setRow (w.heap.size + 1) #[.int .i64 s, .slice A2 n c2, .slice Ar nr cr]) := setRow_below5 h02 (by omega)
    have hs1 := hb1.size
    exact bodyPost_ret (v := .agg #[.int .i64 s, .slice A2 n c2, .slice Ar nr cr]) (results_cell_row (by rfl) _ _ (w.heap.size + 1) 26 _ (0, 0) _ rfl (setRow_heap _ _ _ _ _ _ hr2) Tryd.underlying26 rfl (Hi.out _ _ _ _ _ _ _)) rfl ⟨⟨_, _, rfl, .inr ⟨by trivial, (ho2.row5 (fun b hb => by have := ho2.own_lo b hb; omega)).mono (by omega)⟩⟩, hBe⟩
theorem redC_one {s : Int} {n : Nat} {gi : List Int} {rs : List RuleM} {k : Nat} {cs : List Int} (hc : nth cs 0 = k) : redC s n gi rs cs 1 = ((nth gi k != 0) && oneB s n (gi.set k 0) rs) := by
  simp only [redC, anyN, setL, hc, Bool.false_or, Int.toNat_natCast]
theorem rd_one {w : World} {x : Int} : Rd (w.alloc (.cells #[.int .i64 x] 3)) (w.heap.size + 1) (some ⟨w.heap.size, 0, none⟩) 1 [x] := by
  refine ⟨rfl, fun _ => ⟨w.heap.size, 0, rfl, Nat.lt_succ_self _, fun k hk => ?_⟩⟩
  obtain rfl : k = 0 := by omega
  rw [cell_of_row _ _ 0 _ _ (0, 0) (heap_alloc_new w (.cells #[.int .i64 x] 3))]
  rfl
set_option maxHeartbeats 2000000 in
theorem implIsRedundant (s : Int) (Ag : Option Addr) (n cg Bg : Nat) (gi : List Int) (Ar : Option Addr) (nr cr Br : Nat) (rs : List RuleM) (i : Int) (w : World) (hp : PGc w s Ag n cg Bg gi Ar nr cr Br rs) (hT : Tz w) :
    Calls Tryd.prog 28 #[.agg #[.int .i64 s, .slice Ag n cg, .slice Ar nr cr], .int .i64 i] w fun e w' => e = .returned (.bool (redB s n gi rs i)) ∧ Below w.heap.size w w' := by
  have hx0 := pbox_new w s Ag n cg Ar nr cr 26
  have hb0 : Below w.heap.size w (w.alloc (.cells #[.int .i64 s, .slice Ag n cg, .slice Ar nr cr] 26)) := (Below.refl _ _).alloc (Nat.le_refl _) _
  have hs0 : w.heap.size < (w.alloc (.cells #[.int .i64 s, .slice Ag n cg, .slice Ar nr cr] 26)).heap.size := by simp
  obtain ⟨z0, z1, z2⟩ := id hx0
  have HM := Lib.hid (makeable_any s Ag n cg Bg gi Ar nr cr Br rs _ (hp.below hb0) (hT.below hT.lt hb0))
  have hgm := hp.gm
  cases hok : (pvB s gi rs && oneB s n gi rs)
  · have HL := Lib.hid (red_false (i := i) hok)
    rw [hok] at HM
    go_enter Tryd.func28, Tryd.ntmps28
    go_wp2_with (go_at_call 63; refine HM.out.mono ?_; rintro e w1 ⟨rfl, hb1⟩)
    go_ret
    exact ⟨by rw [HL.out]; rfl, step hb0 hb1⟩
  · rw [hok] at HM
    by_cases hlo : i < 0
    · have HL := Lib.hid (show redB s n gi rs i = false by
        have : inr i 0 ((n : Int) - 1) = false := by unfold inr; simp; omega
        simp [redB, givenB, this])
      have hge : ¬ 0 ≤ i := by omega
      go_enter Tryd.func28, Tryd.ntmps28
      go_wp2_with (go_at_call 63; refine HM.out.mono ?_; rintro e w1 ⟨rfl, hb1⟩; obtain ⟨y0, y1, y2⟩ := hx0.below hs0 hb1)
      go_ret
      exact ⟨by rw [HL.out]; rfl, step hb0 hb1⟩
    · by_cases hhi : (n : Int) ≤ i
      · have HL := Lib.hid (show redB s n gi rs i = false by
          have : inr i 0 ((n : Int) - 1) = false := by unfold inr; simp; omega
          simp [redB, givenB, this])
        have hge : 0 ≤ i := by omega
        have hlt : ¬ i < (n : Int) := by omega
        go_enter Tryd.func28, Tryd.ntmps28
        go_wp2_with (go_at_call 63; refine HM.out.mono ?_; rintro e w1 ⟨rfl, hb1⟩; obtain ⟨y0, y1, y2⟩ := hx0.below hs0 hb1)
        go_ret
        exact ⟨by rw [HL.out]; rfl, step hb0 hb1⟩
      · obtain ⟨k, rfl⟩ := Int.eq_ofNat_of_zero_le (show 0 ≤ i by omega)
        have hkn : k < n := by omega
        have hk0 : (0 : Int) ≤ (k : Int) := by omega
        have hkI : (k : Int) < (n : Int) := by omega
        rw [Bool.and_eq_true] at hok
        have HL := Lib.hid ((red_iff hp.g.1 hok.1 hok.2 hkn).trans (redC_one (s := s) (n := n) (gi := gi) (rs := rs) (k := k) (cs := [(k : Int)]) rfl).symm)
        have HR := Lib.hid (fun (w' : World) (hb : Below w.heap.size w w') (Ac : Option Addr) (Bc : Nat) (hc : Rd w' Bc Ac 1 [(k : Int)]) (hB : Bc ≤ w'.heap.size) => redundant_any s Ag n cg Bg gi Ar nr cr Br rs Ac 1 1 Bc [(k : Int)] w' (hp.below hb) hok.1 (by omega) (hT.below hT.lt hb) hc hB (by omega) (fun i hi => by
          obtain rfl : i = 0 := by omega
          exact ⟨hk0, hkI⟩))
        have hgl := hp.g.1
        obtain ⟨bb, hbb⟩ : ∃ bb, bb = redC s n gi rs [(k : Int)] 1 := ⟨_, rfl⟩
        rw [← hbb] at HL HR
        clear hok hp hT hbb hlo hhi
        go_enter Tryd.func28, Tryd.ntmps28
        go_wp2_with (first
          | (go_at_call 63; refine HM.out.mono ?_; rintro e w1 ⟨rfl, hb1⟩; have h01 := step hb0 hb1; obtain ⟨y0, y1, y2⟩ := hx0.below hs0 hb1)
          | (go_at_call 64; refine (HR.out _ (h01.alloc h01.size _) _ _ rd_one (by simp)).mono ?_; rintro e w2 ⟨rfl, hb2⟩; have h02 := step (h01.alloc h01.size _) hb2))
        go_ret
        exact ⟨by rw [HL.out]; cases bb <;> rfl, h02⟩
set_option maxHeartbeats 2000000 in
theorem implIsMinimal (s : Int) (Ag : Option Addr) (n cg Bg : Nat) (gi : List Int) (Ar : Option Addr) (nr cr Br : Nat) (rs : List RuleM) (w : World) (hp : PGc w s Ag n cg Bg gi Ar nr cr Br rs) (hT : Tz w) :
    Calls Tryd.prog 31 #[.agg #[.int .i64 s, .slice Ag n cg, .slice Ar nr cr]] w fun e w' => e = .returned (.bool (minB s n gi rs)) ∧ Below w.heap.size w w' := by
  have hx0 := pbox_new w s Ag n cg Ar nr cr 26
  have hb0 : Below w.heap.size w (w.alloc (.cells #[.int .i64 s, .slice Ag n cg, .slice Ar nr cr] 26)) := (Below.refl _ _).alloc (Nat.le_refl _) _
  have hs0 : w.heap.size < (w.alloc (.cells #[.int .i64 s, .slice Ag n cg, .slice Ar nr cr] 26)).heap.size := by simp
  obtain ⟨z0, z1, z2⟩ := id hx0
  have HM := Lib.hid (makeable_any s Ag n cg Bg gi Ar nr cr Br rs _ (hp.below hb0) (hT.below hT.lt hb0))
  have hgm := hp.gm
  cases hok : (pvB s gi rs && oneB s n gi rs)
  · have HL := Lib.hid (show minB s n gi rs = false by unfold minB; rw [hok]; rfl)
    rw [hok] at HM
    go_enter Tryd.func31, Tryd.ntmps31
    go_wp2_with (go_at_call 63; refine HM.out.mono ?_; rintro e w1 ⟨rfl, hb1⟩)
    go_ret
    exact ⟨by rw [HL.out]; rfl, step hb0 hb1⟩
  · rw [hok] at HM
    have HL := Lib.hid (show minB s n gi rs = !redTo s n gi rs n by unfold minB; rw [hok]; rfl)
    rw [Bool.and_eq_true] at hok
    have HRe := Lib.hid (fun (k : Nat) (hk : k < n) => (red_iff hp.g.1 hok.1 hok.2 hk).trans (redC_one (s := s) (n := n) (gi := gi) (rs := rs) (k := k) (cs := [(k : Int)]) rfl).symm)
    have HR := Lib.hid (fun (k : Nat) (hk : k < n) (w' : World) (hb : Below w.heap.size w w') (Ac : Option Addr) (Bc : Nat) (hc : Rd w' Bc Ac 1 [(k : Int)]) (hB : Bc ≤ w'.heap.size) => redundant_any s Ag n cg Bg gi Ar nr cr Br rs Ac 1 1 Bc [(k : Int)] w' (hp.below hb) hok.1 (by omega) (hT.below hT.lt hb) hc hB (by omega) (fun i hi => by
      obtain rfl : i = 0 := by omega
      show 0 ≤ (k : Int) ∧ (k : Int) < n
      omega))
    have HX := Lib.hid (fun (w' : World) (hb : Below (w.alloc (.cells #[.int .i64 s, .slice Ag n cg, .slice Ar nr cr] 26)).heap.size (w.alloc (.cells #[.int .i64 s, .slice Ag n cg, .slice Ar nr cr] 26)) w') => hx0.below hs0 hb)
    clear hok hp hT
    go_enter Tryd.func31, Tryd.ntmps31
    go_wp2_with (go_at_call 63; refine HM.out.mono ?_; rintro e w1 ⟨rfl, hb1⟩; have h01 := step hb0 hb1; obtain ⟨y0, y1, y2⟩ := HX.out _ hb1)
    go_loopw [10] (fun i wr => ∃ k : Nat, k ≤ n ∧ i = .int .i64 k ∧ Below w1.heap.size w1 wr ∧ Hid (redTo s n gi rs k = false)) (fun i _ => n - (intOf i).toNat)
    case atStart => exact ⟨0, Nat.zero_le _, rfl, Below.refl _ _, Lib.hid rfl⟩
    case round =>
      obtain ⟨k, hk, rfl, hR, hno⟩ := hrel
      obtain ⟨p0, p1, p2⟩ := HX.out _ (step hb1 hR)
      by_cases hlt : k < n
      · have h0k := step h01 hR
        have HC := Lib.hid (HR.out k hlt _ (h0k.alloc h0k.size (.cells #[.int .i64 (k : Int)] 3)) _ _ rd_one (by simp))
        have hba : Below w1.heap.size w1 (wr.alloc (.cells #[.int .i64 (k : Int)] 3)) := hR.alloc hR.size _
        cases hr : redC s n gi rs [(k : Int)] 1
        · rw [hr] at HC
          have Hn := Lib.hid (show redTo s n gi rs (k + 1) = false by simp only [redTo, hno.out, HRe.out k hlt, hr]; rfl)
          clear hr h0k
          go_wp2_with (go_at_call 64; refine HC.out.mono ?_; rintro e w2 ⟨rfl, hb2⟩; have hR2 := step hba hb2)
          go_roundw
          case rel => exact ⟨k + 1, by omega, by go_num, hR2, Hn⟩
          case measure => simp [intOf]; omega
        · rw [hr] at HC
          have Hn := Lib.hid (show redTo s n gi rs n = true from redTo_hit hlt (by rw [HRe.out k hlt, hr]))
          clear hr h0k
          go_wp2_with (go_at_call 64; refine HC.out.mono ?_; rintro e w2 ⟨rfl, hb2⟩; have hR2 := step hba hb2)
          go_ret
          exact ⟨by rw [HL.out, Hn.out]; rfl, step h01 hR2⟩
      · obtain rfl : k = n := by omega
        go_wp2
        go_ret
        exact ⟨by rw [HL.out, hno.out]; rfl, step h01 hR⟩
end Go.Proofs.YtkeoflnmbcdmfaaDoor
set_option maxRecDepth 8000
namespace Go.Proofs.YtkeoflnmbcdmfaaDoor
open Go.ChangeShapes Go.WideShapes Go.ChangeAt Go.RowKit
set_option maxHeartbeats 2000000 in
theorem specIsMinimal (s : Int) (Ag : Option Addr) (n cg Bg : Nat) (gi : List Int) (Ar : Option Addr) (nr cr Br : Nat) (rs : List RuleM) (w : World) (hp : PGs w s Ag n cg Bg gi Ar nr cr Br rs) :
    Calls Tryd.prog 32 #[.agg #[.int .i64 s, .slice Ag n cg, .slice Ar nr cr]] w fun e w' => e = .returned (.bool (minB s n gi rs)) ∧ Below w.heap.size w w' := by
  have hx0 := pbox_new w s Ag n cg Ar nr cr 26
  have hb0 : Below w.heap.size w (w.alloc (.cells #[.int .i64 s, .slice Ag n cg, .slice Ar nr cr] 26)) := (Below.refl _ _).alloc (Nat.le_refl _) _
  have hs0 : w.heap.size < (w.alloc (.cells #[.int .i64 s, .slice Ag n cg, .slice Ar nr cr] 26)).heap.size := by simp
  obtain ⟨z0, z1, z2⟩ := id hx0
  have HP := Lib.hid (fun w' (hb : Below w.heap.size w w') => specPuzzleValid s Ag n cg Bg gi Ar nr cr Br rs w' (hp.below hb).g (hp.below hb).gB hp.gm (hp.below hb).r (hp.below hb).rB hp.rm)
  have HO := Lib.hid (fun w' (hb : Below w.heap.size w w') => specOne s Ag n cg Bg gi Ar nr cr Br rs w' (hp.below hb))
  have HR := Lib.hid (fun (k : Nat) w' (hb : Below w.heap.size w w') => specIsRedundant s Ag n cg Bg gi Ar nr cr Br rs (k : Int) w' (hp.below hb))
  have HX := Lib.hid (fun (w' : World) (hb : Below (w.alloc (.cells #[.int .i64 s, .slice Ag n cg, .slice Ar nr cr] 26)).heap.size (w.alloc (.cells #[.int .i64 s, .slice Ag n cg, .slice Ar nr cr] 26)) w') => hx0.below hs0 hb)
  have hgm := hp.gm
  cases hv : pvB s gi rs
  · have HL := Lib.hid (show minB s n gi rs = false by unfold minB; rw [hv]; rfl)
    go_enter Tryd.func32, Tryd.ntmps32
    go_wp2_with (go_at_call 20; refine (HP.out _ hb0).mono ?_; rintro e w1 ⟨rfl, hb1⟩; rw [hv])
    go_ret
    exact ⟨by rw [HL.out]; rfl, step hb0 hb1⟩
  · cases ho : oneB s n gi rs
    · have HL := Lib.hid (show minB s n gi rs = false by unfold minB; rw [ho, Bool.and_false]; rfl)
      go_enter Tryd.func32, Tryd.ntmps32
      go_wp2_with (first
        | (go_at_call 20; refine (HP.out _ hb0).mono ?_; rintro e w1 ⟨rfl, hb1⟩; rw [hv]; have h01 := step hb0 hb1; obtain ⟨y0, y1, y2⟩ := HX.out _ hb1)
        | (go_at_call 65; refine (HO.out _ h01).mono ?_; rintro e w2 ⟨rfl, hb2⟩; rw [ho]))
      go_ret
      exact ⟨by rw [HL.out]; rfl, step h01 hb2⟩
    · have HL := Lib.hid (show minB s n gi rs = !redTo s n gi rs n by unfold minB; rw [hv, ho]; rfl)
      clear hp
      go_enter Tryd.func32, Tryd.ntmps32
      go_wp2_with (first
        | (go_at_call 20; refine (HP.out _ hb0).mono ?_; rintro e w1 ⟨rfl, hb1⟩; rw [hv]; have h01 := step hb0 hb1; obtain ⟨y0, y1, y2⟩ := HX.out _ hb1)
        | (go_at_call 65; refine (HO.out _ h01).mono ?_; rintro e w2 ⟨rfl, hb2⟩; rw [ho]; have h02 := step h01 hb2; have h12 := step hb1 hb2))
      go_loopw [3] (fun i wr => ∃ k : Nat, k ≤ n ∧ i = .int .i64 k ∧ Below w2.heap.size w2 wr ∧ Hid (redTo s n gi rs k = false)) (fun i _ => n - (intOf i).toNat)
      case atStart => exact ⟨0, Nat.zero_le _, rfl, Below.refl _ _, Lib.hid rfl⟩
      case round =>
        obtain ⟨k, hk, rfl, hR, hno⟩ := hrel
        obtain ⟨p0, p1, p2⟩ := HX.out _ (step h12 hR)
        by_cases hlt : k < n
        · have HC := Lib.hid (HR.out k _ (step h02 hR))
          cases hr : redB s n gi rs k
          · rw [hr] at HC
            have Hn := Lib.hid (show redTo s n gi rs (k + 1) = false by simp only [redTo, hno.out, hr]; rfl)
            clear hr
            go_wp2_with (go_at_call 29; refine HC.out.mono ?_; rintro e w3 ⟨rfl, hb3⟩; have hR3 := step hR hb3)
            go_roundw
            case rel => exact ⟨k + 1, by omega, by go_num, hR3, Hn⟩
            case measure => simp [intOf]; omega
          · rw [hr] at HC
            have Hn := Lib.hid (show redTo s n gi rs n = true from redTo_hit hlt hr)
            clear hr
            go_wp2_with (go_at_call 29; refine HC.out.mono ?_; rintro e w3 ⟨rfl, hb3⟩; have hR3 := step hR hb3)
            go_ret
            exact ⟨by rw [HL.out, Hn.out]; rfl, step h02 hR3⟩
        · obtain rfl : k = n := by omega
          go_wp2
          go_ret
          exact ⟨by rw [HL.out, hno.out]; rfl, step h02 hR⟩
end Go.Proofs.YtkeoflnmbcdmfaaDoor
set_option maxRecDepth 8000
namespace Go.Proofs.YtkeoflnmbcdmfaaDoor
open Go.ChangeShapes Go.WideShapes Go.ChangeAt Go.RowKit
set_option maxHeartbeats 2000000 in
theorem exactIsRedundant_walk (s : Int) (Ag : Option Addr) (cg ng : Nat) (gi : List Int) (Ar : Option Addr) (cr nr : Nat) (rs : List RuleM) (most : Int) (w : World) (hgi : Rd w w.heap.size Ag ng gi) (hgm : ng ≤ 9223372036854775807) (hr : RdRx w w.heap.size Ar nr rs) (hrm : nr ≤ 9223372036854775807) (_hmost : -9223372036854775808 ≤ most ∧ most ≤ 9223372036854775807) (hT : Tz w) :
    Calls Tryd.prog 9 #[.agg #[.int .i64 s, .slice Ag ng cg, .slice Ar nr cr], .int .i64 most] w fun e w' => e = .returned (.bool true) ∧ Below w.heap.size w w' := by
  have hx0 := pbox_new w s Ag ng cg Ar nr cr 37
  have hb0 : Below w.heap.size w (w.alloc (.cells #[.int .i64 s, .slice Ag ng cg, .slice Ar nr cr] 37)) := (Below.refl _ _).alloc (Nat.le_refl _) _
  have hs0 : w.heap.size < (w.alloc (.cells #[.int .i64 s, .slice Ag ng cg, .slice Ar nr cr] 37)).heap.size := by simp
  obtain ⟨a0, a1, a2⟩ := id hx0
  have hrl := Lib.hid hr.1
  have HSZ := Lib.hid (fun w' (hb : Below w.heap.size w w') => szPuzzle_any s Ag cg ng Ar cr nr w.heap.size rs 1048576 w' hgm (hr.below hb) hb.size hrm (by omega) (by omega))
  go_enter Tryd.func9, Tryd.ntmps9
  go_wp2_with fail
  refine (HSZ.out _ hb0).mono ?_
  rintro e w1 ⟨r, rfl, hb1, hr1⟩
  have h01 := step hb0 hb1
  have hx1 := hx0.below hs0 hb1
  have hs1 := Nat.lt_of_lt_of_le hs0 hb1.size
  rcases hr1 with rfl | ⟨r0, hl1, hl2, hl3⟩
  · go_wp2
    go_ret
    exact ⟨rfl, h01⟩
  · have hrneg : ¬ r < 0 := by omega
    have hmg : ng ≤ 1099511627776 := by omega
    have hmr : nr ≤ 1099511627776 := by omega
    have hnr : nr ≤ 1048576 := by omega
    have HRS := Lib.hid (fun w' (hb : Below w.heap.size w w') => (hr.below hb).small (fun i hi => by have := hl3 i hi; omega))
    have HGI := Lib.hid (fun w' (hb : Below w.heap.size w w') => hgi.below hb)
    have HTP := Lib.hid (fun w' (hb : Below w.heap.size w w') => toPuzzle_any s Ag cg ng w.heap.size gi Ar cr nr w.heap.size rs w' (HGI.out _ hb) hb.size hmg (HRS.out _ hb) hb.size hnr)
    obtain ⟨c0, c1, c2⟩ := id hx1
    clear hl1 hl2 hl3
    go_wp2_with fail
    refine (HTP.out _ h01).mono ?_
    rintro e w2 ⟨A2, g2, rfl, ho2, hor2, hb2⟩
    have h02 := step h01 hb2
    have hx2 := hx1.below hs1 hb2
    have hs2 := Nat.lt_of_lt_of_le hs1 hb2.size
    have hp2 : PGs w2 s A2 ng ng w2.heap.size gi (some ⟨g2, 0, none⟩) nr nr w2.heap.size rs := ⟨ho2.rd, Nat.le_refl _, hmg, hor2.rd hrl.out, Nat.le_refl _, hmr⟩
    go_wp2_with fail
    refine (specIsRedundant _ _ _ _ _ _ _ _ _ _ _ most _ hp2).mono ?_
    rintro e w3 ⟨rfl, hb3⟩
    have h03 := step h02 hb3
    have hx3 := hx2.below hs2 hb3
    have hs3 := Nat.lt_of_lt_of_le hs2 hb3.size
    obtain ⟨d0, d1, d2⟩ := id hx3
    go_wp2_with fail
    refine (HTP.out _ h03).mono ?_
    rintro e w4 ⟨A4, g4, rfl, ho4, hor4, hb4⟩
    have h04 := step h03 hb4
    have hx4 := hx3.below hs3 hb4
    have hs4 := Nat.lt_of_lt_of_le hs3 hb4.size
    have hy4 := pbox_new w4 s A4 ng ng (some ⟨g4, 0, none⟩) nr nr 26
    have hb5 : Below w4.heap.size w4 (w4.alloc (.cells #[.int .i64 s, .slice A4 ng ng, .slice (some ⟨g4, 0, none⟩) nr nr] 26)) := (Below.refl _ _).alloc (Nat.le_refl _) _
    have ht4 : w4.heap.size < (w4.alloc (.cells #[.int .i64 s, .slice A4 ng ng, .slice (some ⟨g4, 0, none⟩) nr nr] 26)).heap.size := by simp
    have hpc4 : PGc w4 s A4 ng ng w4.heap.size gi (some ⟨g4, 0, none⟩) nr nr w4.heap.size rs := ⟨ho4.rd, Nat.le_refl _, hmg, hor4.rdc hrl.out, Nat.le_refl _, hmr⟩
    have h05 := step h04 hb5
    have hx5 := hx4.below hs4 hb5
    have hs5 := Nat.lt_of_lt_of_le hs4 hb5.size
    have hp5 := hpc4.below hb5
    obtain ⟨e0, e1, e2⟩ := id hy4
    have hy5 := hy4
    have ht5 := ht4
    go_wp2_with fail
    refine (implIsRedundant _ _ _ _ _ _ _ _ _ _ _ most _ hp5 (hT.below hT.lt h05)).mono ?_
    rintro e w6 ⟨rfl, hb7⟩
    have h07 := step h05 hb7
    have hx7 := hx5.below hs5 hb7
    have hs7 := Nat.lt_of_lt_of_le hs5 hb7.size
    have hy7 := hy5.below ht5 hb7
    have ht7 := Nat.lt_of_lt_of_le ht5 hb7.size
    have hp7 := hp5.below hb7
    have hne : (redB s ng gi rs most != redB s ng gi rs most) = false := by simp
    obtain ⟨f0, f1, f2⟩ := id hx7
    obtain ⟨g0, g1, g2'⟩ := id hy7
    have hBA : Below w.heap.size w w6.drew := h07.drew
    have hp7r := hp7.rd
    go_wp2
    go_region_with (first | (go_at_call 25; (with_reducible refine (HTP.out _ ?hd).mono ?_); (case hd => exact hBA); rintro e w7 ⟨A7, g7, rfl, ho8, hor8, hb8d⟩; have hb8 := below_undrew hb8d; clear hb8d; have hy8 := hy7.below ht7 hb8; obtain ⟨q0, q1, q2⟩ := id hy8; have hp8 := hp7r.below hb8; have hgr8 := ho8.rd; have hrr8 := hor8.rd hrl.out; have h08 := step h07 hb8) | (go_at_call 26; (with_reducible refine (eqPuzzle_any s A4 A7 ng ng ng _ _ gi (some ⟨g4, 0, none⟩) (some ⟨g7, 0, none⟩) nr nr nr _ _ rs _ hp8.g hp8.gB hmg hgr8 ?hB hp8.r hrr8 hp8.rB ?hB2 hmr).mono ?_); (case hB => exact Nat.le_refl _); (case hB2 => exact Nat.le_refl _); rintro e w8 ⟨rfl, hb9⟩))
    all_goals
      have h09 := step h08 hb9
      go_wp2
      go_ret
      exact ⟨rfl, h09⟩
set_option maxHeartbeats 2000000 in
theorem exactIsMinimal_walk (s : Int) (Ag : Option Addr) (cg ng : Nat) (gi : List Int) (Ar : Option Addr) (cr nr : Nat) (rs : List RuleM) (w : World) (hgi : Rd w w.heap.size Ag ng gi) (hgm : ng ≤ 9223372036854775807) (hr : RdRx w w.heap.size Ar nr rs) (hrm : nr ≤ 9223372036854775807) (hT : Tz w) :
    Calls Tryd.prog 10 #[.agg #[.int .i64 s, .slice Ag ng cg, .slice Ar nr cr]] w fun e w' => e = .returned (.bool true) ∧ Below w.heap.size w w' := by
  have hx0 := pbox_new w s Ag ng cg Ar nr cr 37
  have hb0 : Below w.heap.size w (w.alloc (.cells #[.int .i64 s, .slice Ag ng cg, .slice Ar nr cr] 37)) := (Below.refl _ _).alloc (Nat.le_refl _) _
  have hs0 : w.heap.size < (w.alloc (.cells #[.int .i64 s, .slice Ag ng cg, .slice Ar nr cr] 37)).heap.size := by simp
  obtain ⟨a0, a1, a2⟩ := id hx0
  have hrl := Lib.hid hr.1
  have HSZ := Lib.hid (fun w' (hb : Below w.heap.size w w') => szPuzzle_any s Ag cg ng Ar cr nr w.heap.size rs 1048576 w' hgm (hr.below hb) hb.size hrm (by omega) (by omega))
  go_enter Tryd.func10, Tryd.ntmps10
  go_wp2_with fail
  refine (HSZ.out _ hb0).mono ?_
  rintro e w1 ⟨r, rfl, hb1, hr1⟩
  have h01 := step hb0 hb1
  have hx1 := hx0.below hs0 hb1
  have hs1 := Nat.lt_of_lt_of_le hs0 hb1.size
  rcases hr1 with rfl | ⟨r0, hl1, hl2, hl3⟩
  · go_wp2
    go_ret
    exact ⟨rfl, h01⟩
  · have hrneg : ¬ r < 0 := by omega
    have hmg : ng ≤ 1099511627776 := by omega
    have hmr : nr ≤ 1099511627776 := by omega
    have hnr : nr ≤ 1048576 := by omega
    have HRS := Lib.hid (fun w' (hb : Below w.heap.size w w') => (hr.below hb).small (fun i hi => by have := hl3 i hi; omega))
    have HGI := Lib.hid (fun w' (hb : Below w.heap.size w w') => hgi.below hb)
    have HTP := Lib.hid (fun w' (hb : Below w.heap.size w w') => toPuzzle_any s Ag cg ng w.heap.size gi Ar cr nr w.heap.size rs w' (HGI.out _ hb) hb.size hmg (HRS.out _ hb) hb.size hnr)
    obtain ⟨c0, c1, c2⟩ := id hx1
    clear hl1 hl2 hl3
    go_wp2_with fail
    refine (HTP.out _ h01).mono ?_
    rintro e w2 ⟨A2, g2, rfl, ho2, hor2, hb2⟩
    have h02 := step h01 hb2
    have hx2 := hx1.below hs1 hb2
    have hs2 := Nat.lt_of_lt_of_le hs1 hb2.size
    have hp2 : PGs w2 s A2 ng ng w2.heap.size gi (some ⟨g2, 0, none⟩) nr nr w2.heap.size rs := ⟨ho2.rd, Nat.le_refl _, hmg, hor2.rd hrl.out, Nat.le_refl _, hmr⟩
    go_wp2_with fail
    refine (specIsMinimal _ _ _ _ _ _ _ _ _ _ _ _ hp2).mono ?_
    rintro e w3 ⟨rfl, hb3⟩
    have h03 := step h02 hb3
    have hx3 := hx2.below hs2 hb3
    have hs3 := Nat.lt_of_lt_of_le hs2 hb3.size
    obtain ⟨d0, d1, d2⟩ := id hx3
    go_wp2_with fail
    refine (HTP.out _ h03).mono ?_
    rintro e w4 ⟨A4, g4, rfl, ho4, hor4, hb4⟩
    have h04 := step h03 hb4
    have hx4 := hx3.below hs3 hb4
    have hs4 := Nat.lt_of_lt_of_le hs3 hb4.size
    have hy4 := pbox_new w4 s A4 ng ng (some ⟨g4, 0, none⟩) nr nr 26
    have hb5 : Below w4.heap.size w4 (w4.alloc (.cells #[.int .i64 s, .slice A4 ng ng, .slice (some ⟨g4, 0, none⟩) nr nr] 26)) := (Below.refl _ _).alloc (Nat.le_refl _) _
    have ht4 : w4.heap.size < (w4.alloc (.cells #[.int .i64 s, .slice A4 ng ng, .slice (some ⟨g4, 0, none⟩) nr nr] 26)).heap.size := by simp
    have hpc4 : PGc w4 s A4 ng ng w4.heap.size gi (some ⟨g4, 0, none⟩) nr nr w4.heap.size rs := ⟨ho4.rd, Nat.le_refl _, hmg, hor4.rdc hrl.out, Nat.le_refl _, hmr⟩
    have h05 := step h04 hb5
    have hx5 := hx4.below hs4 hb5
    have hs5 := Nat.lt_of_lt_of_le hs4 hb5.size
    have hp5 := hpc4.below hb5
    obtain ⟨e0, e1, e2⟩ := id hy4
    have hy5 := hy4
    have ht5 := ht4
    go_wp2_with fail
    refine (implIsMinimal _ _ _ _ _ _ _ _ _ _ _ _ hp5 (hT.below hT.lt h05)).mono ?_
    rintro e w6 ⟨rfl, hb7⟩
    have h07 := step h05 hb7
    have hx7 := hx5.below hs5 hb7
    have hs7 := Nat.lt_of_lt_of_le hs5 hb7.size
    have hy7 := hy5.below ht5 hb7
    have ht7 := Nat.lt_of_lt_of_le ht5 hb7.size
    have hp7 := hp5.below hb7
    have hne : (minB s ng gi rs != minB s ng gi rs) = false := by simp
    obtain ⟨f0, f1, f2⟩ := id hx7
    obtain ⟨g0, g1, g2'⟩ := id hy7
    have hBA : Below w.heap.size w w6.drew := h07.drew
    have hp7r := hp7.rd
    go_wp2
    go_region_with (first | (go_at_call 25; (with_reducible refine (HTP.out _ ?hd).mono ?_); (case hd => exact hBA); rintro e w7 ⟨A7, g7, rfl, ho8, hor8, hb8d⟩; have hb8 := below_undrew hb8d; clear hb8d; have hy8 := hy7.below ht7 hb8; obtain ⟨q0, q1, q2⟩ := id hy8; have hp8 := hp7r.below hb8; have hgr8 := ho8.rd; have hrr8 := hor8.rd hrl.out; have h08 := step h07 hb8) | (go_at_call 26; (with_reducible refine (eqPuzzle_any s A4 A7 ng ng ng _ _ gi (some ⟨g4, 0, none⟩) (some ⟨g7, 0, none⟩) nr nr nr _ _ rs _ hp8.g hp8.gB hmg hgr8 ?hB hp8.r hrr8 hp8.rB ?hB2 hmr).mono ?_); (case hB => exact Nat.le_refl _); (case hB2 => exact Nat.le_refl _); rintro e w8 ⟨rfl, hb9⟩))
    all_goals
      have h09 := step h08 hb9
      go_wp2
      go_ret
      exact ⟨rfl, h09⟩
end Go.Proofs.YtkeoflnmbcdmfaaDoor
