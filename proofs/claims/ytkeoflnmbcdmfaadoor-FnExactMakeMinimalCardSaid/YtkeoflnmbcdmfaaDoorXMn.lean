import Derived.Test.YtkeoflnmbcdmfaaDoorXTenB
import Derived.Test.YtkeoflnmbcdmfaaDoorBase
import Derived.Shelf.Abstract
import Derived.Test.YtkeoflnmbcdmfaaDoorCln
import Derived.Test.YtkeoflnmbcdmfaaDoorXMadeA
import Derived.Laws.Append
import Derived.Test.YtkeoflnmbcdmfaaDoorMade
import Derived.Test.YtkeoflnmbcdmfaaDoorOwnP
import Derived.Deep.RegionHeld3
set_option maxRecDepth 8000
namespace Go.Proofs.YtkeoflnmbcdmfaaDoor
/-! making puzzles: what the lists mean. -/
def Le0 (a b : List Int) : Prop := a.length = b.length ∧ ∀ i, nth a i = nth b i ∨ nth a i = 0
theorem Le0.refl (a : List Int) : Le0 a a := ⟨rfl, fun _ => .inl rfl⟩
theorem Le0.trans {a b c : List Int} (h : Le0 a b) (h' : Le0 b c) : Le0 a c := ⟨h.1.trans h'.1, fun i => by
  rcases h.2 i with e | e
  · rcases h'.2 i with e' | e'
    · exact .inl (e.trans e')
    · exact .inr (e.trans e')
  · exact .inr e⟩
theorem Le0.set (a : List Int) (k : Nat) : Le0 (a.set k 0) a := ⟨by simp, nth_set0 a k⟩
theorem nth_setM {a : List Int} {k i : Nat} {z : Int} (hk : k < a.length) : nth (a.set k z) i = if i = k then z else nth a i := by
  by_cases e : i = k
  · subst e; rw [if_pos rfl]; simp [nth, List.getD_eq_getElem?_getD, hk]
  · rw [if_neg e]; simp [nth, List.getD_eq_getElem?_getD, List.getElem?_set_ne (fun h => e h.symm)]
theorem Le0.set2 {a b : List Int} (h : Le0 a b) (k : Nat) : Le0 (a.set k 0) (b.set k 0) := ⟨by simpa using h.1, fun i => by
  by_cases hk : k < a.length
  · rw [nth_setM hk, nth_setM (by rw [← h.1]; exact hk)]
    by_cases e : i = k
    · rw [if_pos e, if_pos e]; exact .inl rfl
    · rw [if_neg e, if_neg e]; exact h.2 i
  · rw [List.set_eq_of_length_le (by omega), List.set_eq_of_length_le (by rw [← h.1]; omega)]; exact h.2 i⟩
theorem pv_put {s : Int} {gi : List Int} {rs : List RuleM} (h : pvB s gi rs = true) (c : Nat) : pvB s (gi.set c 0) rs = true := by
  simp only [pvB, Bool.and_eq_true] at h ⊢
  exact ⟨⟨h.1.1, gv_put h.1.2 c⟩, h.2⟩
theorem ps_mono {s : Int} {gi gi' g : List Int} {rs : List RuleM} (hv : pvB s gi' rs = true) (hle : Le0 gi' gi) (h : psB s gi rs g = true) : psB s gi' rs g = true := by
  unfold psB at h ⊢
  rw [Bool.and_eq_true] at h ⊢
  obtain ⟨h1, h2⟩ := h
  obtain ⟨_, b, c, d, e⟩ := fp_parts.1 h1
  refine ⟨fp_parts.2 ⟨hv, b, fun i hi => ?_, d, e⟩, h2⟩
  have h3 := c i hi
  unfold giveOk at h3 ⊢
  rcases hle.2 i with e | e
  · rw [e]; exact h3
  · rw [e]; simp
theorem filt_leM {p q : List Int → Bool} (h : ∀ y, p y = true → q y = true) : ∀ L : List (List Int), (L.filter p).length ≤ (L.filter q).length := by
  intro L
  induction L with
  | nil => exact Nat.le_refl _
  | cons a L ih =>
    by_cases e : p a = true
    · rw [List.filter_cons_of_pos e, List.filter_cons_of_pos (h a e)]; simp only [List.length_cons]; omega
    · rw [List.filter_cons_of_neg e]
      by_cases e' : q a = true
      · rw [List.filter_cons_of_pos e']; simp only [List.length_cons]; omega
      · rw [List.filter_cons_of_neg e']; exact ih
theorem cv_sqM {s : Nat} {gi : List Int} {rs : List RuleM} {n : Nat} (hl : gi.length = n) (hv : pvB s gi rs = true) (hn : n = s * s) : cv s gi rs (s * s) [] = (sqL s).filter (psB s gi rs) := by
  rw [← solL_is hv, ← hn, ← hl]; exact cv_is hv
theorem cv_le {s : Nat} {gi gi' : List Int} {rs : List RuleM} {n : Nat} (hl : gi.length = n) (hv : pvB s gi rs = true) (hv' : pvB s gi' rs = true) (hn : n = s * s) (hle : Le0 gi' gi) : (cv s gi rs (s * s) []).length ≤ (cv s gi' rs (s * s) []).length := by
  rw [cv_sqM hl hv hn, cv_sqM (hle.1.trans hl) hv' hn]
  exact filt_leM (fun y h => ps_mono hv' hle h) _
theorem one_iff {s : Nat} {gi : List Int} {rs : List RuleM} {n : Nat} (hl : gi.length = n) (hv : pvB s gi rs = true) (hn : n = s * s) : oneB s n gi rs = true ↔ (cv s gi rs (s * s) []).length = 1 := by
  unfold oneB
  rw [beq_iff_eq, allS_cv hl hv (by omega) hn, List.length_take]
  omega
theorem one_same {s : Nat} {gi gi' : List Int} {rs : List RuleM} {n : Nat} (hl : gi.length = n) (hv : pvB s gi rs = true) (hv' : pvB s gi' rs = true) (hn : n = s * s) (hle : Le0 gi' gi) (h : oneB s n gi rs = true) (h' : oneB s n gi' rs = true) : cv s gi rs (s * s) [] = cv s gi' rs (s * s) [] := by
  have hl' := hle.1.trans hl
  have h1 := (one_iff hl hv hn).1 h
  have h2 := (one_iff hl' hv' hn).1 h'
  obtain ⟨y, hy⟩ := List.length_eq_one_iff.1 h1
  obtain ⟨z, hz⟩ := List.length_eq_one_iff.1 h2
  have e1 : y ∈ (sqL s).filter (psB s gi rs) := by rw [← cv_sqM hl hv hn, hy]; simp
  have e2 : y ∈ (sqL s).filter (psB s gi' rs) := List.mem_filter.2 ⟨(List.mem_filter.1 e1).1, ps_mono hv' hle (List.mem_filter.1 e1).2⟩
  rw [← cv_sqM hl' hv' hn, hz] at e2
  rw [hy, hz]
  simp at e2
  rw [e2]
theorem sf_same {s : Nat} {gi gi' : List Int} {rs : List RuleM} {n : Nat} (hl : gi.length = n) (hv : pvB s gi rs = true) (hv' : pvB s gi' rs = true) (hn : n = s * s) (hle : Le0 gi' gi) (h : oneB s n gi rs = true) (h' : oneB s n gi' rs = true) : sfL s n gi' rs = sfL s n gi rs ∧ sfB s n gi' rs = sfB s n gi rs := by
  have hl' := hle.1.trans hl
  have e := one_same hl hv hv' hn hle h h'
  obtain ⟨y, hy⟩ := List.length_eq_one_iff.1 ((one_iff hl hv hn).1 h)
  have a := sf_cons hl hv hn hy
  have b := sf_cons hl' hv' hn (e ▸ hy)
  exact ⟨b.1.trans a.1.symm, b.2.trans a.2.symm⟩
theorem one_cs {s : Int} {gi : List Int} {rs : List RuleM} {n : Nat} (hv : pvB s gi rs = true) : (csI s n gi rs 2 == 1) = oneB s n gi rs := by
  have h2 : inr (2 : Int) 1 600 = true := by decide
  simp only [csI, hv, h2, Bool.true_and, if_true, oneB]
  rw [show (2 : Int).toNat = 2 from rfl, Bool.eq_iff_iff]
  simp only [beq_iff_eq]
  omega
theorem one_cs' {s : Int} {gi : List Int} {rs : List RuleM} {n : Nat} (hv : pvB s gi rs = true) (h : oneB s n gi rs = true) : csI s n gi rs 2 = 1 := by
  have := one_cs (n := n) hv
  rw [h] at this
  simpa using this
/-- between a puzzle with one solution and one with fewer given and one solution every puzzle has one. -/
theorem one_mid {s : Nat} {a b c : List Int} {rs : List RuleM} {n : Nat} (hl : c.length = n) (ha : pvB s a rs = true) (hb : pvB s b rs = true) (hc : pvB s c rs = true) (hn : n = s * s) (hab : Le0 a b) (hbc : Le0 b c) (h1 : oneB s n a rs = true) (h2 : oneB s n c rs = true) : oneB s n b rs = true := by
  have hlb := hbc.1.trans hl
  have q1 := cv_le hl hc hb hn hbc
  have q2 := cv_le hlb hb ha hn hab
  have q3 := (one_iff (hab.1.trans hlb) ha hn).1 h1
  have q4 := (one_iff hl hc hn).1 h2
  exact (one_iff hlb hb hn).2 (by omega)
def redTo (s : Int) (n : Nat) (gi : List Int) (rs : List RuleM) : Nat → Bool
  | 0 => false
  | k + 1 => redTo s n gi rs k || redB s n gi rs k
theorem redTo_hit {s : Int} {n : Nat} {gi : List Int} {rs : List RuleM} {k m : Nat} (hk : k < m) (e : redB s n gi rs k = true) : redTo s n gi rs m = true := by
  induction m with
  | zero => omega
  | succ m ih =>
    simp only [redTo, Bool.or_eq_true]
    by_cases h : k = m
    · subst h; exact .inr e
    · exact .inl (ih (by omega))
theorem redTo_none {s : Int} {n : Nat} {gi : List Int} {rs : List RuleM} {m : Nat} (h : ∀ k : Nat, k < m → redB s n gi rs k = false) : redTo s n gi rs m = false := by
  induction m with
  | zero => rfl
  | succ m ih => simp only [redTo, ih (fun k hk => h k (by omega)), h m (by omega)]; rfl
def minB (s : Int) (n : Nat) (gi : List Int) (rs : List RuleM) : Bool := pvB s gi rs && oneB s n gi rs && !redTo s n gi rs n
theorem red_iff {s : Int} {n : Nat} {gi : List Int} {rs : List RuleM} {k : Nat} (hl : gi.length = n) (hv : pvB s gi rs = true) (h1 : oneB s n gi rs = true) (hk : k < n) : redB s n gi rs k = ((nth gi k != 0) && oneB s n (gi.set k 0) rs) := by
  have h0 := (gv_nth (pv_gv hv).1 (show k < gi.length by omega)).1
  have e1 : inr (k : Int) 0 ((n : Int) - 1) = true := by unfold inr; simp; omega
  have e2 : decide (0 < nth gi k) = (nth gi k != 0) := by
    rw [Bool.eq_iff_iff, decide_eq_true_iff, bne_iff_ne]; omega
  simp only [redB, givenB, hv, h1, e1, Int.toNat_natCast, e2, Bool.true_and, Bool.and_true]
theorem red_false {s : Int} {n : Nat} {gi : List Int} {rs : List RuleM} {i : Int} (h : (pvB s gi rs && oneB s n gi rs) = false) : redB s n gi rs i = false := by
  unfold redB
  cases h1 : pvB s gi rs <;> cases h2 : oneB s n gi rs <;> simp_all
end Go.Proofs.YtkeoflnmbcdmfaaDoor
set_option maxRecDepth 8000
namespace Go.Proofs.YtkeoflnmbcdmfaaDoor
open Go.ChangeShapes Go.WideShapes Go.ChangeAt Go.RowKit Go.Shelf
/-! slices.ContainsFunc over ints, with a closure that may make blocks. -/
def anyN (f : Int → Bool) (xs : List Int) : Nat → Bool
  | 0 => false
  | k + 1 => anyN f xs k || f (nth xs k)
theorem anyN_hit {f : Int → Bool} {xs : List Int} {k n : Nat} (hk : k < n) (e : f (nth xs k) = true) : anyN f xs n = true := by
  induction n with
  | zero => omega
  | succ n ih =>
    simp only [anyN, Bool.or_eq_true]
    by_cases h : k = n
    · subst h; exact .inr e
    · exact .inl (ih (by omega))
/-- what is asked of the closure: it answers f, and leaves what was there. -/
def CloB (g : Nat) (lb : Array Value) (f : Int → Bool) (xs : List Int) (n : Nat) (w : World) : Prop :=
  ∀ (W : World) (i : Nat), i < n → Below w.heap.size w W → Calls Tryd.prog g (#[.int .i64 (nth xs i)] ++ lb) W fun e w' => e = .returned (.bool (f (nth xs i))) ∧ Below W.heap.size W w'
set_option maxHeartbeats 1000000 in
theorem indexFunc_any (A : Option Addr) (c n B : Nat) (xs : List Int) (f : Int → Bool) (g : Nat) (lb : Array Value) (eg : ∀ args w, (callFunc g args).run Tryd.prog w = .ok (.enter g args) w) (w : World) (h : Rd w B A n xs) (hB : B ≤ w.heap.size) (hm : n ≤ 1099511627776) (hp : CloB g lb f xs n w) :
    Calls Tryd.prog 120 #[.slice A n c, .func (.func g) #[] lb] w fun e w' => ∃ r : Int, e = .returned (.int .i64 r) ∧ decide (0 ≤ r) = anyN f xs n ∧ Below w.heap.size w w' := by
  have HP := Lib.hid hp
  have HH := Lib.hid (fun (W : World) (hb : Below w.heap.size w W) => h.below (hb.mono hB))
  clear hp
  go_enter Tryd.func120, Tryd.ntmps120
  go_wp2
  go_loopw [8] (fun i wr => ∃ k : Nat, k ≤ n ∧ i = .int .i64 k ∧ Below w.heap.size w wr ∧ Hid (anyN f xs k = false)) (fun i _ => n - (intOf i).toNat)
  case atStart => exact ⟨0, Nat.zero_le _, rfl, Below.refl _ _, Lib.hid rfl⟩
  case round =>
    obtain ⟨k, hk, rfl, hR, hno⟩ := hrel
    by_cases hlt : k < n
    · obtain ⟨b, off, rfl, hbB, hck⟩ := (HH.out _ hR).at_ hlt
      have hcall := HP.out wr k hlt hR
      obtain ⟨y, hy⟩ : ∃ y, nth xs k = y := ⟨_, rfl⟩
      rw [hy] at hck hcall
      have Hy := Lib.hid hy
      clear hy
      cases e : f y
      · have Hn := Lib.hid (show anyN f xs (k + 1) = false by simp only [anyN, hno.out, Hy.out, e]; rfl)
        rw [e] at hcall
        go_wp2_with (go_at_fn g; refine hcall.mono ?_; rintro e w1 ⟨rfl, hb1⟩; have hR1 := step hR hb1)
        go_roundw
        case rel => exact ⟨k + 1, by omega, by go_num, hR1, Hn⟩
        case measure => simp [intOf]; omega
      · have Hn := Lib.hid (show anyN f xs n = true from anyN_hit hlt (by rw [Hy.out]; exact e))
        rw [e] at hcall
        go_wp2_with (go_at_fn g; refine hcall.mono ?_; rintro e w1 ⟨rfl, hb1⟩; have hR1 := step hR hb1)
        go_ret
        exact ⟨_, rfl, by rw [Hn.out]; simp, hR1⟩
    · obtain rfl : k = n := by omega
      go_wp2
      go_ret
      exact ⟨_, rfl, by rw [hno.out]; rfl, hR⟩
theorem containsFunc_any (A : Option Addr) (c n B : Nat) (xs : List Int) (f : Int → Bool) (g : Nat) (lb : Array Value) (eg : ∀ args w, (callFunc g args).run Tryd.prog w = .ok (.enter g args) w) (w : World) (h : Rd w B A n xs) (hB : B ≤ w.heap.size) (hm : n ≤ 1099511627776) (hp : CloB g lb f xs n w) :
    Calls Tryd.prog 100 #[.slice A n c, .func (.func g) #[] lb] w fun e w' => e = .returned (.bool (anyN f xs n)) ∧ Below w.heap.size w w' := by
  have HI := Lib.hid (indexFunc_any A c n B xs f g lb eg w h hB hm hp)
  clear hp h eg
  go_enter Tryd.func100, Tryd.ntmps100
  go_wp2_with (go_at_call 120; refine HI.out.mono ?_; rintro e w1 ⟨r, rfl, hr, hb1⟩; have hr' : decide (r ≥ 0) = anyN f xs n := hr)
  go_ret
  exact ⟨by first | (rw [← hr]; rfl) | (rw [← hr]), hb1⟩
end Go.Proofs.YtkeoflnmbcdmfaaDoor
set_option maxRecDepth 8000
namespace Go.Proofs.YtkeoflnmbcdmfaaDoor
open Go.ChangeShapes Go.WideShapes Go.ChangeAt Go.RowKit
set_option maxHeartbeats 1000000 in
theorem makeable_any (s : Int) (Ag : Option Addr) (n cg Bg : Nat) (gi : List Int) (Ar : Option Addr) (nr cr Br : Nat) (rs : List RuleM) (w : World) (hp : PGc w s Ag n cg Bg gi Ar nr cr Br rs) (hT : Tz w) :
    Calls Tryd.prog 63 #[.agg #[.int .i64 s, .slice Ag n cg, .slice Ar nr cr]] w fun e w' => e = .returned (.bool (pvB s gi rs && oneB s n gi rs)) ∧ Below w.heap.size w w' := by
  have hx0 := pbox_new w s Ag n cg Ar nr cr 26
  have hb0 : Below w.heap.size w (w.alloc (.cells #[.int .i64 s, .slice Ag n cg, .slice Ar nr cr] 26)) := (Below.refl _ _).alloc (Nat.le_refl _) _
  have hs0 : w.heap.size < (w.alloc (.cells #[.int .i64 s, .slice Ag n cg, .slice Ar nr cr] 26)).heap.size := by simp
  obtain ⟨z0, z1, z2⟩ := id hx0
  have HV := Lib.hid (valid_any s Ag n cg Bg gi Ar nr cr Br rs _ (hp.below hb0))
  cases hv : pvB s gi rs
  · go_enter Tryd.func63, Tryd.ntmps63
    go_wp2_with (go_at_call 48; refine HV.out.mono ?_; rintro e w4 ⟨rfl, hb4⟩; rw [hv])
    go_ret
    exact ⟨rfl, step hb0 hb4⟩
  · have HC := Lib.hid (fun w' (hb : Below w.heap.size w w') => hasOne_any s Ag n cg Bg gi Ar nr cr Br rs w' (hp.below hb) hv (hT.below hT.lt hb))
    obtain ⟨o, ho⟩ : ∃ o, o = oneB s n gi rs := ⟨_, rfl⟩
    rw [← ho] at HC
    rw [← ho]
    clear ho hp hT
    go_enter Tryd.func63, Tryd.ntmps63
    go_wp2_with (first
      | (go_at_call 48; refine HV.out.mono ?_; rintro e w4 ⟨rfl, hb4⟩; rw [hv]; have h04 := step hb0 hb4; obtain ⟨y0, y1, y2⟩ := hx0.below hs0 hb4)
      | (go_at_call 99; refine (HC.out _ h04).mono ?_; rintro e w5 ⟨rfl, hb5⟩))
    go_ret
    exact ⟨by cases o <;> rfl, step h04 hb5⟩
def setL (gi cs : List Int) : Nat → List Int
  | 0 => gi
  | k + 1 => (setL gi cs k).set (nth cs k).toNat 0
theorem setL_length (gi cs : List Int) (k : Nat) : (setL gi cs k).length = gi.length := by
  induction k with
  | zero => rfl
  | succ k ih => simp [setL, ih]
theorem pv_setL {s : Int} {gi cs : List Int} {rs : List RuleM} (h : pvB s gi rs = true) (k : Nat) : pvB s (setL gi cs k) rs = true := by
  induction k with
  | zero => exact h
  | succ k ih => exact pv_put ih _
set_option maxHeartbeats 2000000 in
theorem without_any (s : Int) (Ag : Option Addr) (n cg Bg : Nat) (gi : List Int) (Ar : Option Addr) (nr cr : Nat) (Ac : Option Addr) (m cc Bc : Nat) (cs : List Int) (w : World) (hg : Rd w Bg Ag n gi) (hB : Bg ≤ w.heap.size) (hn : 0 < n) (hm : n ≤ 1099511627776) (hc : Rd w Bc Ac m cs) (hBc : Bc ≤ w.heap.size) (hmc : m ≤ 1099511627776) (hin : ∀ i, i < m → 0 ≤ nth cs i ∧ nth cs i < n) :
    Calls Tryd.prog 102 #[.agg #[.int .i64 s, .slice Ag n cg, .slice Ar nr cr], .slice Ac m cc] w fun e w' => ∃ A' c', e = .returned (.agg #[.int .i64 s, .slice A' n c', .slice Ar nr cr]) ∧ Ow w' w.heap.size A' n c' (setL gi cs m) ∧ Below w.heap.size w w' := by
  have hx0 := pbox_new w s Ag n cg Ar nr cr 26
  have hb0 : Below w.heap.size w (w.alloc (.cells #[.int .i64 s, .slice Ag n cg, .slice Ar nr cr] 26)) := (Below.refl _ _).alloc (Nat.le_refl _) _
  have hs0 : w.heap.size < (w.alloc (.cells #[.int .i64 s, .slice Ag n cg, .slice Ar nr cr] 26)).heap.size := by simp
  obtain ⟨V, hV⟩ : ∃ V, V = (w.alloc (.cells #[.int .i64 s, .slice Ag n cg, .slice Ar nr cr] 26)).alloc (.cells #[.int .i64 0, .slice none 0 0, .slice none 0 0] 26) := ⟨_, rfl⟩
  have hbV : Below w.heap.size w V := by rw [hV]; exact hb0.alloc hb0.size _
  have hsV : V.heap.size = w.heap.size + 1 + 1 := by rw [hV]; simp
  have hxV : PBox V w.heap.size s Ag n cg Ar nr cr := by
    rw [hV]
    exact hx0.below hs0 ((Below.refl _ _).alloc (Nat.le_refl _) _)
  have hrow : V.heap[w.heap.size + 1]? = some (.cells #[.int .i64 0, .slice none 0 0, .slice none 0 0] 26) := by rw [hV]; exact heap_alloc2_new w _ _
  have Hone := Lib.hid puz_one
  have Hi := Lib.hid puz_info
  have HCl := Lib.hid (clone_any Ag n cg Bg gi V (hg.below (hbV.mono hB)) (by omega) hn hm)
  have HCs := Lib.hid (fun (w' : World) (hb : Below V.heap.size V w') => (hc.below (hbV.mono hBc)).below (hb.mono (by omega)))
  have HX := Lib.hid (fun (w' : World) (hb : Below V.heap.size V w') => (⟨hxV.below (by omega) hb, (hb.block (w.heap.size + 1) (by omega)).trans hrow⟩ : PBox w' w.heap.size s Ag n cg Ar nr cr ∧ w'.heap[w.heap.size + 1]? = some (.cells #[.int .i64 0, .slice none 0 0, .slice none 0 0] 26)))
  have HV := Lib.hid hV
  obtain ⟨z0, z1, z2⟩ := id hxV
  have Hin := Lib.hid hin
  clear hV hx0 hb0 hs0 hg hc hxV hrow hin
  go_enter Tryd.func102, Tryd.ntmps102
  go_wp2_with fail
  rw [← HV.out]
  refine HCl.out.mono ?_
  rintro e w1 ⟨A1, c1, rfl, ho1, hb1⟩
  obtain ⟨gb, rfl, hlo, _⟩ := ho1.form hn
  clear z0 z1 z2 HCl
  go_wp2
  go_loopw [13] (fun i wr => ∃ k : Nat, k ≤ m ∧ i = .int .i64 k ∧ Ow wr V.heap.size (some ⟨gb, 0, none⟩) n c1 (setL gi cs k) ∧ Below V.heap.size V wr) (fun i _ => m - (intOf i).toNat)
  case atStart => exact ⟨0, Nat.zero_le _, rfl, ho1, hb1⟩
  case round =>
    obtain ⟨k, hk, rfl, ho, hb⟩ := hrel
    by_cases hlt : k < m
    · obtain ⟨b, off, rfl, hbB, hck⟩ := (HCs.out _ hb).at_ hlt
      obtain ⟨q0, q1⟩ := Hin.out k hlt
      obtain ⟨j, hj⟩ := Int.eq_ofNat_of_zero_le q0
      have Hset := Lib.hid (show setL gi cs (k + 1) = (setL gi cs k).set j 0 by rw [setL, hj]; rfl)
      rw [hj] at hck q1
      have hjn : j < n := by omega
      obtain ⟨hold, hfr⟩ := ho.cell hjn
      have Hst := Lib.hid ((World.ownsRow.stored ho j (.int .i64 0)).1)
      have Hbs := Lib.hid (hb.setCell (p := ⟨gb, j, none⟩) (show V.heap.size ≤ gb by omega) (.int .i64 0))
      clear hj ho hb q0
      go_wp2
      go_roundw
      case rel =>
        have h1 := Hst.out
        rw [vals_set] at h1
        exact ⟨k + 1, by omega, by go_num, by rw [Hset.out]; exact h1, Hbs.out⟩
      case measure => simp [intOf]; omega
    · obtain rfl : k = m := by omega
      obtain ⟨⟨y0, y1, y2⟩, hr⟩ := HX.out _ hb
      have Ho := Lib.hid ho
      have Hb := Lib.hid hb
      clear ho hb
      go_wp2_with (refine wpList_store_row rfl 26 _ _ rfl (w.heap.size + 1) #[.int .i64 s, .slice (some ⟨gb, 0, none⟩) n c1, .slice Ar nr cr] rfl rfl 26 #[.int .i64 0, .slice none 0 0, .slice none 0 0] hr (Hi.out _ _ _ _ _ _ _) rfl (Hone.out _ _ _ _ _ _ _) ?_)
      have hBe : Below w.heap.size w (wr.setRow (w.heap.size + 1) #[.int .i64 s, .slice (some ⟨gb, 0, none⟩) n c1, .slice Ar nr cr]) := setRow_below5 (hbV.trans (Hb.out.mono hbV.size)) (by omega)
      exact bodyPost_ret (v := .agg #[.int .i64 s, .slice (some ⟨gb, 0, none⟩) n c1, .slice Ar nr cr]) (results_cell_row (by rfl) _ _ (w.heap.size + 1) 26 _ (0, 0) _ rfl (setRow_heap _ _ _ _ _ _ hr) Tryd.underlying26 rfl (Hi.out _ _ _ _ _ _ _)) rfl ⟨_, _, rfl, (Ho.out.row5 (fun b hb => by have := Ho.out.own_lo b hb; omega)).mono (by omega), hBe⟩
/-- something is given in the cells, and without it there is one solution. -/
def redC (s : Int) (n : Nat) (gi : List Int) (rs : List RuleM) (cs : List Int) (m : Nat) : Bool := anyN (fun x => nth gi x.toNat != 0) cs m && oneB s n (setL gi cs m) rs
set_option maxHeartbeats 1000000 in
theorem redClo (s : Int) (Ag : Option Addr) (n cg Bg : Nat) (gi : List Int) (Ar : Option Addr) (nr cr PB : Nat) (x : Int) (w : World) (hx : PBox w PB s Ag n cg Ar nr cr) (hg : Rd w Bg Ag n gi) (h0 : 0 ≤ x) (h1 : x < n) :
    Calls Tryd.prog 101 #[.int .i64 x, .pointer (some ⟨PB, 0, none⟩)] w fun e w' => e = .returned (.bool (nth gi x.toNat != 0)) ∧ Below w.heap.size w w' := by
  obtain ⟨j, rfl⟩ := Int.eq_ofNat_of_zero_le h0
  have hj : j < n := by omega
  obtain ⟨b, off, rfl, hbB, hck⟩ := hg.at_ hj
  obtain ⟨z0, z1, z2⟩ := hx
  clear hg
  go_enter Tryd.func101, Tryd.ntmps101
  go_wp2
  go_ret
  exact ⟨by first | rfl | simp, Below.refl _ _⟩
set_option maxHeartbeats 2000000 in
theorem redundant_any (s : Int) (Ag : Option Addr) (n cg Bg : Nat) (gi : List Int) (Ar : Option Addr) (nr cr Br : Nat) (rs : List RuleM) (Ac : Option Addr) (m cc Bc : Nat) (cs : List Int) (w : World) (hp : PGc w s Ag n cg Bg gi Ar nr cr Br rs) (hv : pvB s gi rs = true) (hn : 0 < n) (hT : Tz w) (hc : Rd w Bc Ac m cs) (hBc : Bc ≤ w.heap.size) (hmc : m ≤ 1099511627776) (hin : ∀ i, i < m → 0 ≤ nth cs i ∧ nth cs i < n) :
    Calls Tryd.prog 64 #[.agg #[.int .i64 s, .slice Ag n cg, .slice Ar nr cr], .slice Ac m cc] w fun e w' => e = .returned (.bool (redC s n gi rs cs m)) ∧ Below w.heap.size w w' := by
  have hx0 := pbox_new w s Ag n cg Ar nr cr 26
  have hb0 : Below w.heap.size w (w.alloc (.cells #[.int .i64 s, .slice Ag n cg, .slice Ar nr cr] 26)) := (Below.refl _ _).alloc (Nat.le_refl _) _
  have hs0 : w.heap.size < (w.alloc (.cells #[.int .i64 s, .slice Ag n cg, .slice Ar nr cr] 26)).heap.size := by simp
  obtain ⟨V, hV⟩ : ∃ V, V = w.alloc (.cells #[.int .i64 s, .slice Ag n cg, .slice Ar nr cr] 26) := ⟨_, rfl⟩
  rw [← hV] at hx0 hb0 hs0
  have HClo : Hid (CloB 101 #[.pointer (some ⟨w.heap.size, 0, none⟩)] (fun x => nth gi x.toNat != 0) cs m V) := Lib.hid (fun W i hi hbW => redClo s Ag n cg Bg gi Ar nr cr w.heap.size (nth cs i) W (hx0.below hs0 hbW) ((hp.g.below (hb0.mono hp.gB)).below (hbW.mono (Nat.le_trans hp.gB hb0.size))) (hin i hi).1 (hin i hi).2)
  have HCF := Lib.hid (containsFunc_any Ac cc m Bc cs (fun x => nth gi x.toNat != 0) 101 #[.pointer (some ⟨w.heap.size, 0, none⟩)] (enters_of Tryd.func101 (by kernel_rfl) rfl) V (hc.below (hb0.mono hBc)) (Nat.le_trans hBc hb0.size) hmc HClo.out)
  have HW := Lib.hid (fun (w' : World) (hb : Below w.heap.size w w') => without_any s Ag n cg Bg gi Ar nr cr Ac m cc Bc cs w' (hp.below hb).g (hp.below hb).gB hn hp.gm (hc.below (hb.mono hBc)) (Nat.le_trans hBc hb.size) hmc hin)
  have HX := Lib.hid (fun (w' : World) (hb : Below V.heap.size V w') => hx0.below hs0 hb)
  have HO := Lib.hid (fun (w' : World) (hb : Below w.heap.size w w') (A' : Option Addr) (c' B' : Nat) (h : Rd w' B' A' n (setL gi cs m)) (hB' : B' ≤ w'.heap.size) => hasOne_any s A' n c' B' (setL gi cs m) Ar nr cr Br rs w' ⟨h, hB', hp.gm, (hp.below hb).r, (hp.below hb).rB, hp.rm⟩ (pv_setL hv m) (hT.below hT.lt hb))
  have hmf : ∀ (fn : Fn) (first cap : Array Value) (w : World), (Instr.makeFunc fn first cap).run Tryd.prog w = .ok (.func fn first cap) w := fun _ _ _ _ => rfl
  obtain ⟨z0, z1, z2⟩ := id hx0
  have HV := Lib.hid hV
  have Hb0 := Lib.hid hb0
  cases ha : anyN (fun x => nth gi x.toNat != 0) cs m
  · have HL := Lib.hid (show redC s n gi rs cs m = false by unfold redC; rw [ha]; rfl)
    rw [ha] at HCF
    clear hV hx0 hb0 hs0 hp hc hT ha hv hin HClo
    go_enter Tryd.func64, Tryd.ntmps64
    go_wp2_with (go_at_call 100; rw [← HV.out]; refine HCF.out.mono ?_; rintro e w1 ⟨rfl, hb1⟩)
    go_ret
    exact ⟨by rw [HL.out]; rfl, step Hb0.out hb1⟩
  · obtain ⟨o, ho⟩ : ∃ o, o = oneB s n (setL gi cs m) rs := ⟨_, rfl⟩
    have HL := Lib.hid (show redC s n gi rs cs m = o by unfold redC; rw [ha, ← ho]; rfl)
    rw [ha] at HCF
    rw [← ho] at HO
    clear hV hx0 hb0 hs0 hp hc hT ha ho hv hin HClo
    go_enter Tryd.func64, Tryd.ntmps64
    go_wp2_with (first
      | (go_at_call 100; rw [← HV.out]; refine HCF.out.mono ?_; rintro e w1 ⟨rfl, hb1⟩; have h01 := step Hb0.out hb1; obtain ⟨y0, y1, y2⟩ := HX.out _ hb1)
      | (go_at_call 102; refine (HW.out _ h01).mono ?_; rintro e w2 ⟨A2, c2, rfl, ho2, hb2⟩; have h02 := step h01 hb2)
      | (go_at_call 99; refine (HO.out _ h02 _ _ _ ho2.rd (Nat.le_refl _)).mono ?_; rintro e w3 ⟨rfl, hb3⟩; have h03 := step h02 hb3))
    go_ret
    exact ⟨by rw [HL.out]; cases o <;> rfl, h03⟩
set_option maxHeartbeats 2000000 in
theorem reducedBy_any (s : Int) (Ag : Option Addr) (n cg Bg : Nat) (gi : List Int) (Ar : Option Addr) (nr cr Br : Nat) (rs : List RuleM) (Ac : Option Addr) (m cc Bc : Nat) (cs : List Int) (w : World) (hp : PGc w s Ag n cg Bg gi Ar nr cr Br rs) (hv : pvB s gi rs = true) (hn : 0 < n) (hT : Tz w) (hc : Rd w Bc Ac m cs) (hBc : Bc ≤ w.heap.size) (hmc : m ≤ 1099511627776) (hin : ∀ i, i < m → 0 ≤ nth cs i ∧ nth cs i < n) :
    Calls Tryd.prog 68 #[.agg #[.int .i64 s, .slice Ag n cg, .slice Ar nr cr], .slice Ac m cc] w fun e w' => (∃ A' c', e = .returned (.agg #[.int .i64 s, .slice A' n c', .slice Ar nr cr]) ∧ ((redC s n gi rs cs m = false ∧ A' = Ag ∧ c' = cg) ∨ (redC s n gi rs cs m = true ∧ Ow w' w.heap.size A' n c' (setL gi cs m)))) ∧ Below w.heap.size w w' := by
  have hx0 := pbox_new w s Ag n cg Ar nr cr 26
  have hb0 : Below w.heap.size w (w.alloc (.cells #[.int .i64 s, .slice Ag n cg, .slice Ar nr cr] 26)) := (Below.refl _ _).alloc (Nat.le_refl _) _
  have hs0 : w.heap.size < (w.alloc (.cells #[.int .i64 s, .slice Ag n cg, .slice Ar nr cr] 26)).heap.size := by simp
  obtain ⟨V, hV⟩ : ∃ V, V = (w.alloc (.cells #[.int .i64 s, .slice Ag n cg, .slice Ar nr cr] 26)).alloc (.cells #[.int .i64 0, .slice none 0 0, .slice none 0 0] 26) := ⟨_, rfl⟩
  have hbV : Below w.heap.size w V := by rw [hV]; exact hb0.alloc hb0.size _
  have hsV : V.heap.size = w.heap.size + 1 + 1 := by rw [hV]; simp
  have hxV : PBox V w.heap.size s Ag n cg Ar nr cr := by
    rw [hV]
    exact hx0.below hs0 ((Below.refl _ _).alloc (Nat.le_refl _) _)
  have hrow0 : V.heap[w.heap.size]? = some (.cells #[.int .i64 s, .slice Ag n cg, .slice Ar nr cr] 26) := by rw [hV]; exact (Below.heap_alloc _ _ _ (by simp)).trans (heap_alloc_new w _)
  have hrow : V.heap[w.heap.size + 1]? = some (.cells #[.int .i64 0, .slice none 0 0, .slice none 0 0] 26) := by rw [hV]; exact heap_alloc2_new w _ _
  have Hone := Lib.hid puz_one
  have Hi := Lib.hid puz_info
  have HR := Lib.hid (redundant_any s Ag n cg Bg gi Ar nr cr Br rs Ac m cc Bc cs V (hp.below hbV) hv hn (hT.below hT.lt hbV) (hc.below (hbV.mono hBc)) (Nat.le_trans hBc hbV.size) hmc hin)
  have HW := Lib.hid (fun (w' : World) (hb : Below w.heap.size w w') => without_any s Ag n cg Bg gi Ar nr cr Ac m cc Bc cs w' (hp.below hb).g (hp.below hb).gB hn hp.gm (hc.below (hb.mono hBc)) (Nat.le_trans hBc hb.size) hmc hin)
  have HX := Lib.hid (fun (w' : World) (hb : Below V.heap.size V w') => (⟨hxV.below (by omega) hb, (hb.block (w.heap.size + 1) (by omega)).trans hrow⟩ : PBox w' w.heap.size s Ag n cg Ar nr cr ∧ w'.heap[w.heap.size + 1]? = some (.cells #[.int .i64 0, .slice none 0 0, .slice none 0 0] 26)))
  have HX0 := Lib.hid (fun (w' : World) (hb : Below V.heap.size V w') => (hb.block w.heap.size (by omega)).trans hrow0)
  have HV := Lib.hid hV
  have HbV := Lib.hid hbV
  obtain ⟨z0, z1, z2⟩ := id hxV
  cases hr : redC s n gi rs cs m
  · rw [hr] at HR
    clear hV hx0 hb0 hs0 hp hc hT hv hin hxV hrow hr hrow0 hbV
    go_enter Tryd.func68, Tryd.ntmps68
    go_wp2_with (first
      | (go_at_call 64; rw [← HV.out]; refine HR.out.mono ?_; rintro e w1 ⟨rfl, hb1⟩; obtain ⟨⟨y0, y1, y2⟩, hr1⟩ := HX.out _ hb1)
      | (refine wpList_store_row rfl 26 _ _ rfl (w.heap.size + 1) #[.int .i64 s, .slice Ag n cg, .slice Ar nr cr] rfl rfl 26 #[.int .i64 0, .slice none 0 0, .slice none 0 0] hr1 (Hi.out _ _ _ _ _ _ _) rfl (Hone.out _ _ _ _ _ _ _) ?_))
    have hBe : Below w.heap.size w (w1.setRow (w.heap.size + 1) #[.int .i64 s, .slice Ag n cg, .slice Ar nr cr]) := setRow_below5 (HbV.out.trans (hb1.mono HbV.out.size)) (by omega)
    exact bodyPost_ret (v := .agg #[.int .i64 s, .slice Ag n cg, .slice Ar nr cr]) (results_cell_row (by rfl) _ _ (w.heap.size + 1) 26 _ (0, 0) _ rfl (setRow_heap _ _ _ _ _ _ hr1) Tryd.underlying26 rfl (Hi.out _ _ _ _ _ _ _)) rfl ⟨⟨_, _, rfl, .inl ⟨by trivial, rfl, rfl⟩⟩, hBe⟩
  · rw [hr] at HR
    clear hV hx0 hb0 hs0 hp hc hT hv hin hxV hrow hr hrow0 hbV
    go_enter Tryd.func68, Tryd.ntmps68
    go_wp2_with (first
      | (go_at_call 64; rw [← HV.out]; refine HR.out.mono ?_; rintro e w1 ⟨rfl, hb1⟩; have h01 := HbV.out.trans (hb1.mono HbV.out.size); obtain ⟨⟨y0, y1, y2⟩, hr1⟩ := HX.out _ hb1)
      | (go_at_call 102; refine (HW.out _ h01).mono ?_; rintro e w2 ⟨A2, c2, rfl, ho2, hb2⟩; have hr2 := (HX.out _ (step hb1 hb2)).2)
      | (refine wpList_store_row rfl 26 _ _ rfl (w.heap.size + 1) #[.int .i64 s, .slice A2 n c2, .slice Ar nr cr] rfl rfl 26 #[.int .i64 0, .slice none 0 0, .slice none 0 0] hr2 (Hi.out _ _ _ _ _ _ _) rfl (Hone.out _ _ _ _ _ _ _) ?_))
    have h02 := step h01 hb2
    have hBe : Below w.heap.size w (w2.setRow (w.heap.size + 1) #[.int .i64 s, .slice A2 n c2, .slice Ar nr cr]) := setRow_below5 h02 (by omega)
    have hs1 := hb1.size
    exact bodyPost_ret (v := .agg #[.int .i64 s, .slice A2 n c2, .slice Ar nr cr]) (results_cell_row (by rfl) _ _ (w.heap.size + 1) 26 _ (0, 0) _ rfl (setRow_heap _ _ _ _ _ _ hr2) Tryd.underlying26 rfl (Hi.out _ _ _ _ _ _ _)) rfl ⟨⟨_, _, rfl, .inr ⟨by trivial, (ho2.row5 (fun b hb => by have := ho2.own_lo b hb; omega)).mono (by omega)⟩⟩, hBe⟩
theorem redC_one {s : Int} {n : Nat} {gi : List Int} {rs : List RuleM} {k : Nat} {cs : List Int} (hc : nth cs 0 = k) : redC s n gi rs cs 1 = ((nth gi k != 0) && oneB s n (gi.set k 0) rs) := by
  simp only [redC, anyN, setL, hc, Bool.false_or, Int.toNat_natCast]
theorem rd_one {w : World} {x : Int} : Rd (w.alloc (.cells #[.int .i64 x] 3)) (w.heap.size + 1) (some ⟨w.heap.size, 0, none⟩) 1 [x] := by
  refine ⟨rfl, fun _ => ⟨w.heap.size, 0, rfl, Nat.lt_succ_self _, fun k hk => ?_⟩⟩
  obtain rfl : k = 0 := by omega
  rw [cell_of_row _ _ 0 _ _ (0, 0) (heap_alloc_new w (.cells #[.int .i64 x] 3))]
  rfl
set_option maxHeartbeats 2000000 in
theorem implIsRedundant (s : Int) (Ag : Option Addr) (n cg Bg : Nat) (gi : List Int) (Ar : Option Addr) (nr cr Br : Nat) (rs : List RuleM) (i : Int) (w : World) (hp : PGc w s Ag n cg Bg gi Ar nr cr Br rs) (hT : Tz w) :
    Calls Tryd.prog 28 #[.agg #[.int .i64 s, .slice Ag n cg, .slice Ar nr cr], .int .i64 i] w fun e w' => e = .returned (.bool (redB s n gi rs i)) ∧ Below w.heap.size w w' := by
  have hx0 := pbox_new w s Ag n cg Ar nr cr 26
  have hb0 : Below w.heap.size w (w.alloc (.cells #[.int .i64 s, .slice Ag n cg, .slice Ar nr cr] 26)) := (Below.refl _ _).alloc (Nat.le_refl _) _
  have hs0 : w.heap.size < (w.alloc (.cells #[.int .i64 s, .slice Ag n cg, .slice Ar nr cr] 26)).heap.size := by simp
  obtain ⟨z0, z1, z2⟩ := id hx0
  have HM := Lib.hid (makeable_any s Ag n cg Bg gi Ar nr cr Br rs _ (hp.below hb0) (hT.below hT.lt hb0))
  have hgm := hp.gm
  cases hok : (pvB s gi rs && oneB s n gi rs)
  · have HL := Lib.hid (red_false (i := i) hok)
    rw [hok] at HM
    go_enter Tryd.func28, Tryd.ntmps28
    go_wp2_with (go_at_call 63; refine HM.out.mono ?_; rintro e w1 ⟨rfl, hb1⟩)
    go_ret
    exact ⟨by rw [HL.out]; rfl, step hb0 hb1⟩
  · rw [hok] at HM
    by_cases hlo : i < 0
    · have HL := Lib.hid (show redB s n gi rs i = false by
        have : inr i 0 ((n : Int) - 1) = false := by unfold inr; simp; omega
        simp [redB, givenB, this])
      have hge : ¬ 0 ≤ i := by omega
      go_enter Tryd.func28, Tryd.ntmps28
      go_wp2_with (go_at_call 63; refine HM.out.mono ?_; rintro e w1 ⟨rfl, hb1⟩; obtain ⟨y0, y1, y2⟩ := hx0.below hs0 hb1)
      go_ret
      exact ⟨by rw [HL.out]; rfl, step hb0 hb1⟩
    · by_cases hhi : (n : Int) ≤ i
      · have HL := Lib.hid (show redB s n gi rs i = false by
          have : inr i 0 ((n : Int) - 1) = false := by unfold inr; simp; omega
          simp [redB, givenB, this])
        have hge : 0 ≤ i := by omega
        have hlt : ¬ i < (n : Int) := by omega
        go_enter Tryd.func28, Tryd.ntmps28
        go_wp2_with (go_at_call 63; refine HM.out.mono ?_; rintro e w1 ⟨rfl, hb1⟩; obtain ⟨y0, y1, y2⟩ := hx0.below hs0 hb1)
        go_ret
        exact ⟨by rw [HL.out]; rfl, step hb0 hb1⟩
      · obtain ⟨k, rfl⟩ := Int.eq_ofNat_of_zero_le (show 0 ≤ i by omega)
        have hkn : k < n := by omega
        have hk0 : (0 : Int) ≤ (k : Int) := by omega
        have hkI : (k : Int) < (n : Int) := by omega
        rw [Bool.and_eq_true] at hok
        have HL := Lib.hid ((red_iff hp.g.1 hok.1 hok.2 hkn).trans (redC_one (s := s) (n := n) (gi := gi) (rs := rs) (k := k) (cs := [(k : Int)]) rfl).symm)
        have HR := Lib.hid (fun (w' : World) (hb : Below w.heap.size w w') (Ac : Option Addr) (Bc : Nat) (hc : Rd w' Bc Ac 1 [(k : Int)]) (hB : Bc ≤ w'.heap.size) => redundant_any s Ag n cg Bg gi Ar nr cr Br rs Ac 1 1 Bc [(k : Int)] w' (hp.below hb) hok.1 (by omega) (hT.below hT.lt hb) hc hB (by omega) (fun i hi => by
          obtain rfl : i = 0 := by omega
          exact ⟨hk0, hkI⟩))
        have hgl := hp.g.1
        obtain ⟨bb, hbb⟩ : ∃ bb, bb = redC s n gi rs [(k : Int)] 1 := ⟨_, rfl⟩
        rw [← hbb] at HL HR
        clear hok hp hT hbb hlo hhi
        go_enter Tryd.func28, Tryd.ntmps28
        go_wp2_with (first
          | (go_at_call 63; refine HM.out.mono ?_; rintro e w1 ⟨rfl, hb1⟩; have h01 := step hb0 hb1; obtain ⟨y0, y1, y2⟩ := hx0.below hs0 hb1)
          | (go_at_call 64; refine (HR.out _ (h01.alloc h01.size _) _ _ rd_one (by simp)).mono ?_; rintro e w2 ⟨rfl, hb2⟩; have h02 := step (h01.alloc h01.size _) hb2))
        go_ret
        exact ⟨by rw [HL.out]; cases bb <;> rfl, h02⟩
set_option maxHeartbeats 2000000 in
theorem implIsMinimal (s : Int) (Ag : Option Addr) (n cg Bg : Nat) (gi : List Int) (Ar : Option Addr) (nr cr Br : Nat) (rs : List RuleM) (w : World) (hp : PGc w s Ag n cg Bg gi Ar nr cr Br rs) (hT : Tz w) :
    Calls Tryd.prog 31 #[.agg #[.int .i64 s, .slice Ag n cg, .slice Ar nr cr]] w fun e w' => e = .returned (.bool (minB s n gi rs)) ∧ Below w.heap.size w w' := by
  have hx0 := pbox_new w s Ag n cg Ar nr cr 26
  have hb0 : Below w.heap.size w (w.alloc (.cells #[.int .i64 s, .slice Ag n cg, .slice Ar nr cr] 26)) := (Below.refl _ _).alloc (Nat.le_refl _) _
  have hs0 : w.heap.size < (w.alloc (.cells #[.int .i64 s, .slice Ag n cg, .slice Ar nr cr] 26)).heap.size := by simp
  obtain ⟨z0, z1, z2⟩ := id hx0
  have HM := Lib.hid (makeable_any s Ag n cg Bg gi Ar nr cr Br rs _ (hp.below hb0) (hT.below hT.lt hb0))
  have hgm := hp.gm
  cases hok : (pvB s gi rs && oneB s n gi rs)
  · have HL := Lib.hid (show minB s n gi rs = false by unfold minB; rw [hok]; rfl)
    rw [hok] at HM
    go_enter Tryd.func31, Tryd.ntmps31
    go_wp2_with (go_at_call 63; refine HM.out.mono ?_; rintro e w1 ⟨rfl, hb1⟩)
    go_ret
    exact ⟨by rw [HL.out]; rfl, step hb0 hb1⟩
  · rw [hok] at HM
    have HL := Lib.hid (show minB s n gi rs = !redTo s n gi rs n by unfold minB; rw [hok]; rfl)
    rw [Bool.and_eq_true] at hok
    have HRe := Lib.hid (fun (k : Nat) (hk : k < n) => (red_iff hp.g.1 hok.1 hok.2 hk).trans (redC_one (s := s) (n := n) (gi := gi) (rs := rs) (k := k) (cs := [(k : Int)]) rfl).symm)
    have HR := Lib.hid (fun (k : Nat) (hk : k < n) (w' : World) (hb : Below w.heap.size w w') (Ac : Option Addr) (Bc : Nat) (hc : Rd w' Bc Ac 1 [(k : Int)]) (hB : Bc ≤ w'.heap.size) => redundant_any s Ag n cg Bg gi Ar nr cr Br rs Ac 1 1 Bc [(k : Int)] w' (hp.below hb) hok.1 (by omega) (hT.below hT.lt hb) hc hB (by omega) (fun i hi => by
      obtain rfl : i = 0 := by omega
      show 0 ≤ (k : Int) ∧ (k : Int) < n
      omega))
    have HX := Lib.hid (fun (w' : World) (hb : Below (w.alloc (.cells #[.int .i64 s, .slice Ag n cg, .slice Ar nr cr] 26)).heap.size (w.alloc (.cells #[.int .i64 s, .slice Ag n cg, .slice Ar nr cr] 26)) w') => hx0.below hs0 hb)
    clear hok hp hT
    go_enter Tryd.func31, Tryd.ntmps31
    go_wp2_with (go_at_call 63; refine HM.out.mono ?_; rintro e w1 ⟨rfl, hb1⟩; have h01 := step hb0 hb1; obtain ⟨y0, y1, y2⟩ := HX.out _ hb1)
    go_loopw [10] (fun i wr => ∃ k : Nat, k ≤ n ∧ i = .int .i64 k ∧ Below w1.heap.size w1 wr ∧ Hid (redTo s n gi rs k = false)) (fun i _ => n - (intOf i).toNat)
    case atStart => exact ⟨0, Nat.zero_le _, rfl, Below.refl _ _, Lib.hid rfl⟩
    case round =>
      obtain ⟨k, hk, rfl, hR, hno⟩ := hrel
      obtain ⟨p0, p1, p2⟩ := HX.out _ (step hb1 hR)
      by_cases hlt : k < n
      · have h0k := step h01 hR
        have HC := Lib.hid (HR.out k hlt _ (h0k.alloc h0k.size (.cells #[.int .i64 (k : Int)] 3)) _ _ rd_one (by simp))
        have hba : Below w1.heap.size w1 (wr.alloc (.cells #[.int .i64 (k : Int)] 3)) := hR.alloc hR.size _
        cases hr : redC s n gi rs [(k : Int)] 1
        · rw [hr] at HC
          have Hn := Lib.hid (show redTo s n gi rs (k + 1) = false by simp only [redTo, hno.out, HRe.out k hlt, hr]; rfl)
          clear hr h0k
          go_wp2_with (go_at_call 64; refine HC.out.mono ?_; rintro e w2 ⟨rfl, hb2⟩; have hR2 := step hba hb2)
          go_roundw
          case rel => exact ⟨k + 1, by omega, by go_num, hR2, Hn⟩
          case measure => simp [intOf]; omega
        · rw [hr] at HC
          have Hn := Lib.hid (show redTo s n gi rs n = true from redTo_hit hlt (by rw [HRe.out k hlt, hr]))
          clear hr h0k
          go_wp2_with (go_at_call 64; refine HC.out.mono ?_; rintro e w2 ⟨rfl, hb2⟩; have hR2 := step hba hb2)
          go_ret
          exact ⟨by rw [HL.out, Hn.out]; rfl, step h01 hR2⟩
      · obtain rfl : k = n := by omega
        go_wp2
        go_ret
        exact ⟨by rw [HL.out, hno.out]; rfl, step h01 hR⟩
end Go.Proofs.YtkeoflnmbcdmfaaDoor
set_option maxRecDepth 8000
namespace Go.Proofs.YtkeoflnmbcdmfaaDoor
open Go.ChangeShapes Go.WideShapes Go.ChangeAt Go.RowKit
/-! 'append([]int{}, t...)', 'append([]impl.Rule{}, t...)': nothing that lay there changes, wherever the empty literal lies. -/
theorem below_none {w w' : World} (h : w.grownBy w' none) : Below w.heap.size w w' := ⟨h.os, h.tape, h.output, h.size, fun k hk => h.block k hk (by simp)⟩
theorem fresh_same {e t : TypeId} (ty : TypeId) {i0 : TypeInfo} {z : Value} (ht : Tryd.prog.underlying t = some (.slice e)) (hi : Tryd.prog.info? e = some i0) (hz : i0.zero = some z) {w : World} (b : Nat) (ad : Addr) (m c2 : Nat) (news : List Value) (hl : news.length = m * i0.size) (hnews : ∀ j u, news[j]? = some u → w.cell? (ad.add j) = some u)
    (hm : 0 < m) (h63 : (m : Int) ≤ 9223372036854775807) (hfit : m * i0.bytes ≤ 281474976710656) :
    (Builtin.append_ #[t, t] ty #[.slice (some ⟨b, 0, none⟩) 0 0, .slice (some ad) m c2]).run Tryd.prog w = (Builtin.append_ #[t, t] ty #[.slice none 0 0, .slice (some ad) m c2]).run Tryd.prog w := by
  rw [run_append_grow w t ty e i0 z ht hi hz ⟨b, 0, none⟩ 0 0 [] (by simp) (by simp) ad m c2 news hl hnews (by omega) (by simpa using h63) (by rw [Nat.zero_add, nextslicecap_zero hm]; exact hfit)]
  rw [run_append_nil w t ty e i0 z ht hi hz ad m c2 news hl hnews (by omega) h63 hfit]
  simp
theorem fresh_ints {w : World} (ty : TypeId) (b : Nat) (A2 : Option Addr) (m c2 B : Nat) (ys : List Int) (hr : Rd w B A2 m ys) (h0 : 0 < m) (hm : m ≤ 1099511627776) :
    ∃ A' c' w', (Builtin.append_ #[23, 23] ty #[.slice (some ⟨b, 0, none⟩) 0 0, .slice A2 m c2]).run Tryd.prog w = .ok (.slice A' m c') w' ∧ Ow w' w.heap.size A' m c' ys ∧ Below w.heap.size w w' := by
  obtain ⟨i0, hi, hz0, hz1, hz2⟩ := info_parts int_info
  obtain ⟨A', c', w', hrun, h1, h2, _⟩ := run_push_all ty w.heap.size none 0 0 [] A2 m c2 B ys (Ow.nil_ _ _) hr (.inr rfl) (by omega) hm (Nat.le_refl _)
  obtain ⟨b2, off, rfl, _, _⟩ := hr.at_ h0
  rw [Nat.zero_add] at hrun h1
  rw [List.nil_append] at h1
  exact ⟨A', c', w', (fresh_same ty Tryd.underlying23 hi hz0 b _ m c2 (vals ys) (by rw [vals_length, hr.1, hz1]; omega) hr.news h0 (by omega) (by rw [hz2]; omega)).trans hrun, h1, below_none h2⟩
theorem fresh_rulesV {w : World} (ty : TypeId) (b : Nat) (A2 : Option Addr) (m c2 lo lo2 : Nat) (rs2 : List RuleM) (vs2 : List Value) (hl2 : rs2.length = m) (hown2 : w.ownsRow lo2 63 3 (.slice A2 m c2) m vs2) (hin2 : InR w lo (.slice none 0 0) rs2 vs2 m)
    (hlit : w.heap[b]? = some (.cells #[] 63)) (hb : lo ≤ b) (hm : m ≤ 1099511627776) (hlo : lo ≤ w.heap.size) :
    ∃ A' c' w', (Builtin.append_ #[24, 24] ty #[.slice (some ⟨b, 0, none⟩) 0 0, .slice A2 m c2]).run Tryd.prog w = .ok (.slice A' m c') w' ∧ (w'.ownsRow lo 63 3 (.slice A' m c') m vs2 ∧ InR w' lo (.slice A' m c') rs2 vs2 m) ∧ Below w.heap.size w w' := by
  obtain ⟨i0, hi, hz0, hz1, hz2⟩ := info_parts rule_parts
  by_cases h0 : 0 < m
  · obtain ⟨A', c', w', hrun, h1, h2, _⟩ := run_push_rulesV ty lo none 0 0 [] [] A2 m c2 rs2 vs2 lo2 rfl (World.ownsRow_nil _ _ _ _) (fun i hi => absurd hi (by omega)) hown2 hin2 (.inl h0) (by omega) hm hlo
    obtain ⟨hvl2, hcase⟩ := id hown2
    rcases hcase with ⟨_, h00⟩ | ⟨g2, cap2, cur, hv, _, hrow, q1, q2, q3, q4⟩
    · omega
    · injection hv with e1 _ e2
      subst e1
      have hcell : ∀ j u, vs2[j]? = some u → w.cell? ((⟨g2, 0, none⟩ : Addr).add j) = some u := fun j u hj => by
        have hadd : (⟨g2, 0, none⟩ : Addr).add j = ⟨g2, j, none⟩ := by unfold Addr.add; split <;> simp_all
        rw [hadd, cell_of_row w g2 j cur _ _ hrow]
        rw [← q4, List.getElem?_take] at hj
        split at hj
        · simpa using hj
        · cases hj
      rw [Nat.zero_add] at hrun h1
      rw [List.nil_append, List.nil_append] at h1
      exact ⟨A', c', w', (fresh_same ty Tryd.underlying24 hi hz0 b _ m c2 vs2 (by rw [hvl2, hz1]) hcell h0 (by omega) (by rw [hz2]; omega)).trans hrun, h1, below_none h2⟩
  · obtain rfl : m = 0 := by omega
    have hsrc : Go.Src Tryd.prog i0.size 24 (.slice A2 0 c2) 0 [] w := by
      cases A2 with
      | none => exact Go.Src.ofNil w Tryd.underlying24 c2
      | some a => exact Go.Src.ofSlice w Tryd.underlying24 a 0 c2 [] (by simp) (fun j u hj => by simp at hj) (fun u hu => by simp at hu)
    refine ⟨some ⟨b, 0, none⟩, 0, w, run_append_nothing w 24 24 ty 63 i0 Tryd.underlying24 hi (some ⟨b, 0, none⟩) 0 0 (Nat.zero_le _) _ hsrc, ⟨by rw [show vs2 = [] from List.eq_nil_of_length_eq_zero (by rw [hown2.1, Nat.zero_mul])]; exact ⟨by simp, .inr ⟨b, 0, #[], rfl, hb, hlit, Nat.le_refl _, by simp [maxLen], by simp, by simp⟩⟩, fun i hi => absurd hi (by omega)⟩, Below.refl _ _⟩
theorem fresh_rules {w : World} (ty : TypeId) (b : Nat) (A2 : Option Addr) (m c2 lo lo2 : Nat) (rs2 : List RuleM) (vs2 : List Value) (hl2 : rs2.length = m) (hown2 : w.ownsRow lo2 63 3 (.slice A2 m c2) m vs2) (hin2 : InR w lo (.slice none 0 0) rs2 vs2 m)
    (hlit : w.heap[b]? = some (.cells #[] 63)) (hb : lo ≤ b) (hm : m ≤ 1099511627776) (hlo : lo ≤ w.heap.size) :
    ∃ A' c' w', (Builtin.append_ #[24, 24] ty #[.slice (some ⟨b, 0, none⟩) 0 0, .slice A2 m c2]).run Tryd.prog w = .ok (.slice A' m c') w' ∧ OwR w' lo (.slice A' m c') rs2 m ∧ Below w.heap.size w w' := by
  obtain ⟨A', c', w', hrun, ⟨k1, k2⟩, k3⟩ := fresh_rulesV ty b A2 m c2 lo lo2 rs2 vs2 hl2 hown2 hin2 hlit hb hm hlo
  exact ⟨A', c', w', hrun, ⟨_, k1, k2⟩, k3⟩
/-- at steps of a region that draws its order. -/
theorem step_fresh_ints {w : World} {ops : Array Oper} {o : Oper} {a : Act} {K : Act → World → Prop} {Q : Exit → Act → World → Prop} {E : Prop} (hgd : o.guard = none) (s x : Operand)
    (ho : o.op = .call { callee := .builtin .append, args := #[s, x], argTypes := #[23, 23] })
    (b : Nat) (A2 : Option Addr) (m c2 B : Nat) (ys : List Int) (hs : a.eval s = .slice (some ⟨b, 0, none⟩) 0 0) (hx : a.eval x = .slice A2 m c2) (hr : Rd w B A2 m ys) (h0 : 0 < m) (hm : m ≤ 1099511627776)
    (h : ∀ A' c' w', Ow w' w.heap.size A' m c' ys → Below w.heap.size w w' → K (a.put o.dst (.slice A' m c')) w') :
    if Region.wanted o (yielded ops a.tmps) = true then Oper.wp Tryd.prog o a w K Q else E := by
  obtain ⟨A', c', w', hrun, h1, h2⟩ := fresh_ints o.type b A2 m c2 B ys hr h0 hm
  have hw : Region.wanted o (yielded ops a.tmps) = true := by simp [Region.wanted, hgd]
  rw [if_pos hw]
  unfold Oper.wp execOp
  simp only [ho, resolve, invoke, builtin, Sem.run_bind, Sem.run_pure, Result.andThen_ok, List.map_toArray, List.map_cons, List.map_nil, hs, hx, hrun]
  exact h A' c' w' h1 h2
theorem step_fresh_rules {w : World} {ops : Array Oper} {o : Oper} {a : Act} {K : Act → World → Prop} {Q : Exit → Act → World → Prop} {E : Prop} (hgd : o.guard = none) (s x : Operand)
    (ho : o.op = .call { callee := .builtin .append, args := #[s, x], argTypes := #[24, 24] })
    (b : Nat) (A2 : Option Addr) (m c2 lo lo2 : Nat) (rs2 : List RuleM) (vs2 : List Value) (hs : a.eval s = .slice (some ⟨b, 0, none⟩) 0 0) (hx : a.eval x = .slice A2 m c2) (hl2 : rs2.length = m) (hown2 : w.ownsRow lo2 63 3 (.slice A2 m c2) m vs2) (hin2 : InR w lo (.slice none 0 0) rs2 vs2 m)
    (hlit : w.heap[b]? = some (.cells #[] 63)) (hb : lo ≤ b) (hm : m ≤ 1099511627776) (hlo : lo ≤ w.heap.size)
    (h : ∀ A' c' w', OwR w' lo (.slice A' m c') rs2 m → Below w.heap.size w w' → K (a.put o.dst (.slice A' m c')) w') :
    if Region.wanted o (yielded ops a.tmps) = true then Oper.wp Tryd.prog o a w K Q else E := by
  obtain ⟨A', c', w', hrun, h1, h2⟩ := fresh_rules o.type b A2 m c2 lo lo2 rs2 vs2 hl2 hown2 hin2 hlit hb hm hlo
  have hw : Region.wanted o (yielded ops a.tmps) = true := by simp [Region.wanted, hgd]
  rw [if_pos hw]
  unfold Oper.wp execOp
  simp only [ho, resolve, invoke, builtin, Sem.run_bind, Sem.run_pure, Result.andThen_ok, List.map_toArray, List.map_cons, List.map_nil, hs, hx, hrun]
  exact h A' c' w' h1 h2
end Go.Proofs.YtkeoflnmbcdmfaaDoor
set_option maxRecDepth 8000
namespace Go.Proofs.YtkeoflnmbcdmfaaDoor
open Go.ChangeShapes Go.WideShapes Go.ChangeAt Go.RowKit
/-- what is given, less what is redundant among the first k cells. -/
def minL (s : Int) (n : Nat) (rs : List RuleM) (gi : List Int) : Nat → List Int
  | 0 => gi
  | k + 1 => if redB s n (minL s n rs gi k) rs k = true then (minL s n rs gi k).set k 0 else minL s n rs gi k
theorem minL_length (s : Int) (n : Nat) (rs : List RuleM) (gi : List Int) (k : Nat) : (minL s n rs gi k).length = gi.length := by
  induction k with
  | zero => rfl
  | succ k ih => unfold minL; split <;> simp [ih]
theorem OwR.past {w0 w w' : World} {lo X k : Nat} {v : Value} {rs : List RuleM} (h : OwR w0 lo v rs k) (hb : Below w0.heap.size w0 w) (hg : w.grownBy w' (some X)) (hX : w0.heap.size ≤ X) : OwR w' lo v rs k := by
  obtain ⟨vs, hown, hin⟩ := id h
  obtain ⟨vs', hown', hin'⟩ := h.below hb
  have hv : ∀ b, v.ownBlock = some b → b ≠ X := fun b hbb e => by have := (World.ownsRow.lt hown b hbb).2; omega
  refine ⟨vs, World.ownsRow.kept (World.ownsRow.kept hown (row := none) ⟨hb.os, hb.tape, hb.output, hb.size, fun k hk _ => hb.block k hk⟩ (by cases e : v.ownBlock <;> simp)) hg (by
    cases e : v.ownBlock
    · exact .inl rfl
    · exact .inr (fun e2 => hv _ e (Option.some.inj e2))), fun i hi => ?_⟩
  obtain ⟨A', c', e0, e1, e2, e3, e4, e5⟩ := hin i hi
  exact ⟨A', c', e0, e1, e2, Ow.far (Ow.below e3 hb) hg (fun b hbb e => by have := (World.ownsRow.lt e3 b hbb).2; have := Option.some.inj e; omega), e4, e5⟩
theorem OwR.keptL {w w' : World} {lo G k : Nat} {v : Value} {rs : List RuleM} (h : OwR w lo v rs k) (hg : w.grownBy w' (some G)) (hG : G < lo) : OwR w' lo v rs k := by
  obtain ⟨vs, hown, hin⟩ := h
  refine ⟨vs, World.ownsRow.kept hown hg (by
    cases e : v.ownBlock
    · exact .inl rfl
    · refine .inr (fun e2 => ?_)
      have h1 := (World.ownsRow.lt hown _ e).1
      have h2 := Option.some.inj e2
      omega), fun i hi => ?_⟩
  obtain ⟨A', c', e0, e1, e2, e3, e4, e5⟩ := hin i hi
  exact ⟨A', c', e0, e1, e2, Ow.far e3 hg (fun g hgg e => by have h1 := e3.own_lo g hgg; have h2 := Option.some.inj e; omega), e4, e5⟩
theorem grown_setRow5 {w : World} {g : Nat} {cs : Array Value} : w.grownBy (w.setRow g cs) (some g) :=
  ⟨rfl, rfl, rfl, by simp, fun k hk hne => by unfold World.setRow; simp only [Array.getElem?_modify]; rw [if_neg (fun e => hne (by rw [e]))]⟩
theorem ownsRow_setX {w : World} {lo sz n X : Nat} {e t : TypeId} {v : Value} {xs : List Value} {cs cs' : Array Value} (h : w.ownsRow lo e sz v n xs) (hX : w.heap[X]? = some (.cells cs t)) (hne : t ≠ e) : (w.setRow X cs').ownsRow lo e sz v n xs := by
  refine World.ownsRow.kept h grown_setRow5 ?_
  rcases h.2 with ⟨rfl, _⟩ | ⟨g, cap, cur, rfl, hb, hg, _⟩
  · exact .inl rfl
  · refine .inr (fun e2 => ?_)
    have e3 : g = X := by simpa [Value.ownBlock] using e2
    subst e3
    rw [hX] at hg
    injection hg with hg
    injection hg with _ h2 _
    exact hne h2
theorem Ow.setX {w : World} {lo n c X : Nat} {A : Option Addr} {xs : List Int} {cs cs' : Array Value} (h : Ow w lo A n c xs) (hX : w.heap[X]? = some (.cells cs 26)) : Ow (w.setRow X cs') lo A n c xs := ownsRow_setX h hX (by decide)
theorem OwR.setX {w : World} {lo k X : Nat} {v : Value} {rs : List RuleM} {cs cs' : Array Value} (h : OwR w lo v rs k) (hX : w.heap[X]? = some (.cells cs 26)) : OwR (w.setRow X cs') lo v rs k := by
  obtain ⟨vs, hown, hin⟩ := h
  refine ⟨vs, ownsRow_setX hown hX (by decide), fun i hi => ?_⟩
  obtain ⟨A', c', e0, e1, e2, e3, e4, e5⟩ := hin i hi
  exact ⟨A', c', e0, e1, e2, e3.setX hX, e4, e5⟩
theorem SpQ.setX {w : World} {lo k X : Nat} {v : Value} {Q : Nat → Prop} {cs cs' : Array Value} (h : SpQ w lo v k Q) (hX : w.heap[X]? = some (.cells cs 26)) : SpQ (w.setRow X cs') lo v k Q := h.map fun _ hown => ownsRow_setX hown hX (by decide)
theorem SpQ.mono {w : World} {lo lo' k : Nat} {v : Value} {Q : Nat → Prop} (h : SpQ w lo v k Q) (hl : lo' ≤ lo) : SpQ w lo' v k Q := by
  obtain ⟨vs, h1, h2⟩ := h
  exact ⟨vs, World.ownsRow.mono h1 hl, h2⟩
theorem results_row_tmp {P : Program} {fn : Func} {p q : Tmp} {ty : TypeId} (h : fn.results = #[.cell p ty, .tmp q]) (tmps : Array Value) (w : World) (g : Nat) (t : TypeId) (cs : Array Value) (fr : Nat × Nat) (d : TypeDesc) (b : Value)
    (hp : tmps.getD p undef = .pointer (some ⟨g, 0, none⟩)) (hq : tmps.getD q undef = b) (hg : w.heap[g]? = some (.cells cs t fr))
    (hu : P.underlying ty = some d) (hd : (match d with | .struct _ | .array _ _ => true | _ => false) = true) (hi : (P.info? ty).map (·.size) = some cs.size) :
    (results fn tmps).run P w = .ok (.tuple #[.agg cs, b]) w := by
  have hp' : tmps[p]?.getD undef = .pointer (some ⟨g, 0, none⟩) := by simpa using hp
  have hq' : tmps[q]?.getD undef = b := by simpa using hq
  simp [results, h, hp', hq', asAddr, run_loadVar_row w g t ty cs fr d hg hu hd hi]
def MinPost (s : Int) (n : Nat) (gi : List Int) (nr : Nat) (rs : List RuleM) (w : World) (e : Ending) (w' : World) : Prop :=
  Below w.heap.size w w' ∧ ((e = .returned (.tuple #[.agg #[.int .i64 0, .slice none 0 0, .slice none 0 0], .bool false]) ∧ (pvB s gi rs && oneB s n gi rs) = false) ∨
    ((pvB s gi rs && oneB s n gi rs) = true ∧ ∃ A1 c1 A2 c2 K, e = .returned (.tuple #[.agg #[.int .i64 s, .slice A1 n c1, .slice A2 nr c2], .bool true]) ∧ Ow w' K A1 n c1 (minL s n rs gi n) ∧ w.heap.size ≤ K ∧ OwR w' w.heap.size (.slice A2 nr c2) rs nr ∧ SpQ w' w.heap.size (.slice A2 nr c2) nr (fun g => g < K)))
/-- what the values of 'impl.Puzzle{Size: .., Given: append([]int{}, ..), Rules: append([]impl.Rule{}, ..)}' are, in the order of the text. -/
def MakeG (P lo K n : Nat) (s : Int) (A1 : Option Addr) (c1 : Nat) (A2 : Option Addr) (nr c2 : Nat) (gi : List Int) (rs : List RuleM) : Nat → Value → World → Prop
  | 0, v, _ => v = .pointer (some ⟨P, 0, none⟩)
  | 1, v, _ => v = .int .i64 s
  | 2, v, _ => ∃ b, v = .slice (some ⟨b, 0, none⟩) 0 0
  | 3, v, _ => v = .pointer (some ⟨P, 1, none⟩)
  | 4, v, _ => v = .slice A1 n c1
  | 5, v, w => ∃ A' c', v = .slice A' n c' ∧ Ow w K A' n c' gi
  | 6, v, w => ∃ b, v = .slice (some ⟨b, 0, none⟩) 0 0 ∧ w.heap[b]? = some (.cells #[] 63) ∧ lo ≤ b
  | 7, v, _ => v = .pointer (some ⟨P, 2, none⟩)
  | 8, v, _ => v = .slice A2 nr c2
  | 9, v, w => ∃ A' c', v = .slice A' nr c' ∧ OwR w lo (.slice A' nr c') rs nr ∧ SpQ w lo (.slice A' nr c') nr (fun g => g < K)
  | 10, v, w => ∃ A' c' A'' c'', v = .agg #[.int .i64 s, .slice A' n c', .slice A'' nr c''] ∧ Ow w K A' n c' gi ∧ OwR w lo (.slice A'' nr c'') rs nr ∧ SpQ w lo (.slice A'' nr c'') nr (fun g => g < K)
  | 11, v, w => ∃ X, v = .pointer (some ⟨X, 0, none⟩) ∧ w.heap[X]? = some (.cells #[.int .i64 0, .slice none 0 0, .slice none 0 0] 26) ∧ lo ≤ X
  | _, _, _ => True
theorem makeG_below {P lo K n : Nat} {s : Int} {A1 : Option Addr} {c1 : Nat} {A2 : Option Addr} {nr c2 : Nat} {gi : List Int} {rs : List RuleM} (j : Nat) (v : Value) (w w' : World) (hb : Below w.heap.size w w') (h : MakeG P lo K n s A1 c1 A2 nr c2 gi rs j v w) : MakeG P lo K n s A1 c1 A2 nr c2 gi rs j v w' := by
  match j, h with
  | 0, h => exact h
  | 1, h => exact h
  | 2, h => exact h
  | 3, h => exact h
  | 4, h => exact h
  | 5, ⟨A', c', e, h⟩ => exact ⟨A', c', e, h.below hb⟩
  | 6, ⟨b, e, h, hl⟩ => exact ⟨b, e, (hb.block b (Array.getElem?_eq_some_iff.1 h).1).trans h, hl⟩
  | 7, h => exact h
  | 8, h => exact h
  | 9, ⟨A', c', e, h, h2⟩ => exact ⟨A', c', e, h.below hb, h2.below hb⟩
  | 10, ⟨A', c', A'', c'', e, h, h', h2⟩ => exact ⟨A', c', A'', c'', e, h.below hb, h'.below hb, h2.below hb⟩
  | 11, ⟨X, e, h, hl⟩ => exact ⟨X, e, (hb.block X (Array.getElem?_eq_some_iff.1 h).1).trans h, hl⟩
  | _ + 12, h => exact h
set_option maxHeartbeats 2000000 in
theorem specMakeMinimal (s : Int) (Ag : Option Addr) (n cg Bg : Nat) (gi : List Int) (Ar : Option Addr) (nr cr Br : Nat) (rs : List RuleM) (w : World) (hp : PGs w s Ag n cg Bg gi Ar nr cr Br rs) (hm2 : nr ≤ 1099511627775) :
    Calls Tryd.prog 35 #[.agg #[.int .i64 s, .slice Ag n cg, .slice Ar nr cr]] w (MinPost s n gi nr rs w) := by
  have Hone := Lib.hid puz_one
  have Hi := Lib.hid puz_info
  have hrl := hp.r.1
  obtain ⟨W0, hW0⟩ : ∃ W0, (w.alloc (.cells #[.int .i64 s, .slice Ag n cg, .slice Ar nr cr] 26)).alloc (.cells #[.int .i64 0, .slice none 0 0, .slice none 0 0] 26) = W0 := ⟨_, rfl⟩
  have hb0 : Below w.heap.size w W0 := by rw [← hW0]; exact ((Below.refl _ _).alloc (Nat.le_refl _) _).alloc (by simp) _
  have hs0 : W0.heap.size = w.heap.size + 1 + 1 := by rw [← hW0]; simp
  have hp0 : W0.heap[w.heap.size]? = some (.cells #[.int .i64 s, .slice Ag n cg, .slice Ar nr cr] 26) := by
    rw [← hW0]; exact (Below.heap_alloc _ _ _ (by simp)).trans (heap_alloc_new w _)
  have hq0 : W0.heap[w.heap.size + 1]? = some (.cells #[.int .i64 0, .slice none 0 0, .slice none 0 0] 26) := by
    rw [← hW0]
    have := heap_alloc_new (w.alloc (.cells #[.int .i64 s, .slice Ag n cg, .slice Ar nr cr] 26)) (.cells #[.int .i64 0, .slice none 0 0, .slice none 0 0] 26)
    rwa [World.size_alloc] at this
  have hP0 := hp.below (hb0.mono (Nat.le_refl _))
  have HOP := Lib.hid (specOwnPuzzle s Ag n cg Bg gi Ar nr cr Br rs W0 hP0.g hP0.gB hp.gm hP0.r hP0.rB hm2)
  obtain ⟨z0, z1, z2⟩ : PBox W0 w.heap.size s Ag n cg Ar nr cr := ⟨cell_of_row _ _ 0 _ _ (0, 0) hp0, cell_of_row _ _ 1 _ _ (0, 0) hp0, cell_of_row _ _ 2 _ _ (0, 0) hp0⟩
  have HW0 := Lib.hid hW0
  clear hW0 hP0
  go_enter Tryd.func35, Tryd.ntmps35
  go_wp2_with fail
  rw [HW0.out]
  refine HOP.out.mono ?_
  rintro e w1 ⟨A1, c1, A2, c2, rfl, ho1, hor1, hb1⟩
  have hp1 := (hb1.block w.heap.size (by omega)).trans hp0
  have hq1 := (hb1.block (w.heap.size + 1) (by omega)).trans hq0
  obtain ⟨W2, hW2⟩ : ∃ W2, w1.setRow w.heap.size #[.int .i64 s, .slice A1 n c1, .slice A2 nr c2] = W2 := ⟨_, rfl⟩
  have hb2 : Below w.heap.size w W2 := by rw [← hW2]; exact setRow_below5 (hb0.trans (hb1.mono hb0.size)) (Nat.le_refl _)
  have hp2 : W2.heap[w.heap.size]? = some (.cells #[.int .i64 s, .slice A1 n c1, .slice A2 nr c2] 26) := by rw [← hW2]; exact setRow_heap _ _ _ _ _ _ hp1
  have hq2 : W2.heap[w.heap.size + 1]? = some (.cells #[.int .i64 0, .slice none 0 0, .slice none 0 0] 26) := by
    rw [← hW2]; refine Eq.trans ?_ hq1; unfold World.setRow; simp only [Array.getElem?_modify]; rw [if_neg (by omega)]
  have ho2 : Ow W2 W0.heap.size A1 n c1 gi := by rw [← hW2]; exact ho1.row5 (fun b hb => by have := ho1.own_lo b hb; omega)
  have hor2 : OwR W2 W0.heap.size (.slice A2 nr c2) rs nr := by rw [← hW2]; exact hor1.keptL grown_setRow5 (by omega)
  have hP2 : PGs W2 s A1 n c1 W2.heap.size gi A2 nr c2 W2.heap.size rs := ⟨ho2.rd, Nat.le_refl _, hp.gm, hor2.rd hrl, Nat.le_refl _, hp.rm⟩
  have hs2 : w.heap.size + 1 < W2.heap.size := (Array.getElem?_eq_some_iff.1 hq2).1
  have HV := Lib.hid (fun w' (hb : Below W2.heap.size W2 w') => specPuzzleValid s A1 n c1 W2.heap.size gi A2 nr c2 W2.heap.size rs w' (hP2.below hb).g (hP2.below hb).gB hp.gm (hP2.below hb).r (hP2.below hb).rB hp.rm)
  have HO := Lib.hid (fun w' (hb : Below W2.heap.size W2 w') => specOne s A1 n c1 W2.heap.size gi A2 nr c2 W2.heap.size rs w' (hP2.below hb))
  obtain ⟨y0, y1, y2⟩ : PBox W2 w.heap.size s A1 n c1 A2 nr c2 := ⟨cell_of_row _ _ 0 _ _ (0, 0) hp2, cell_of_row _ _ 1 _ _ (0, 0) hp2, cell_of_row _ _ 2 _ _ (0, 0) hp2⟩
  have HB2 := Lib.hid hb2
  cases hv : pvB s gi rs
  · have hf : (pvB s gi rs && oneB s n gi rs) = false := by rw [hv]; rfl
    go_wp2_with (first | (refine wpList_store_row rfl 26 _ _ rfl w.heap.size #[.int .i64 s, .slice A1 n c1, .slice A2 nr c2] rfl rfl 26 #[.int .i64 s, .slice Ag n cg, .slice Ar nr cr] hp1 (Hi.out _ _ _ _ _ _ _) rfl (Hone.out _ _ _ _ _ _ _) ?_; rw [hW2]) | (go_at_call 20; refine (HV.out _ (Below.refl _ _)).mono ?_; rintro e w3 ⟨rfl, hb3⟩; rw [hv]; have hq3 := (hb3.block (w.heap.size + 1) hs2).trans hq2) | (refine wpList_store_row rfl 26 _ _ rfl (w.heap.size + 1) #[.int .i64 0, .slice none 0 0, .slice none 0 0] rfl rfl 26 #[.int .i64 0, .slice none 0 0, .slice none 0 0] hq3 (Hi.out _ _ _ _ _ _ _) rfl (Hone.out _ _ _ _ _ _ _) ?_))
    have hBe : Below w.heap.size w (w3.setRow (w.heap.size + 1) #[.int .i64 0, .slice none 0 0, .slice none 0 0]) := setRow_below5 (HB2.out.trans (hb3.mono HB2.out.size)) (by omega)
    exact bodyPost_ret (v := .tuple #[.agg #[.int .i64 0, .slice none 0 0, .slice none 0 0], .bool false]) (results_row_tmp (by rfl) _ _ (w.heap.size + 1) 26 _ (0, 0) _ _ rfl rfl (setRow_heap _ _ _ _ _ _ hq3) Tryd.underlying26 rfl (Hi.out _ _ _ _ _ _ _)) rfl ⟨hBe, .inl ⟨rfl, hf⟩⟩
  · have hx2 : PBox W2 w.heap.size s A1 n c1 A2 nr c2 := ⟨y0, y1, y2⟩
    cases ho : oneB s n gi rs
    · have hf : (pvB s gi rs && oneB s n gi rs) = false := by rw [ho, Bool.and_false]
      go_wp2_with (first | (refine wpList_store_row rfl 26 _ _ rfl w.heap.size #[.int .i64 s, .slice A1 n c1, .slice A2 nr c2] rfl rfl 26 #[.int .i64 s, .slice Ag n cg, .slice Ar nr cr] hp1 (Hi.out _ _ _ _ _ _ _) rfl (Hone.out _ _ _ _ _ _ _) ?_; rw [hW2]) | (go_at_call 20; refine (HV.out _ (Below.refl _ _)).mono ?_; rintro e w3 ⟨rfl, hb3⟩; rw [hv]; obtain ⟨x0, x1, x2⟩ := hx2.below (by omega : w.heap.size < W2.heap.size) hb3) | (go_at_call 65; refine (HO.out _ hb3).mono ?_; rintro e w4 ⟨rfl, hb4'⟩; rw [ho]; have hb4 := step hb3 hb4'; have hq4 := (hb4.block (w.heap.size + 1) hs2).trans hq2) | (refine wpList_store_row rfl 26 _ _ rfl (w.heap.size + 1) #[.int .i64 0, .slice none 0 0, .slice none 0 0] rfl rfl 26 #[.int .i64 0, .slice none 0 0, .slice none 0 0] hq4 (Hi.out _ _ _ _ _ _ _) rfl (Hone.out _ _ _ _ _ _ _) ?_))
      have hBe : Below w.heap.size w (w4.setRow (w.heap.size + 1) #[.int .i64 0, .slice none 0 0, .slice none 0 0]) := setRow_below5 (HB2.out.trans (hb4.mono HB2.out.size)) (by omega)
      exact bodyPost_ret (v := .tuple #[.agg #[.int .i64 0, .slice none 0 0, .slice none 0 0], .bool false]) (results_row_tmp (by rfl) _ _ (w.heap.size + 1) 26 _ (0, 0) _ _ rfl rfl (setRow_heap _ _ _ _ _ _ hq4) Tryd.underlying26 rfl (Hi.out _ _ _ _ _ _ _)) rfl ⟨hBe, .inl ⟨rfl, hf⟩⟩
    · have ht : (pvB s gi rs && oneB s n gi rs) = true := by rw [hv, ho]; rfl
      go_wp2_with (first | (refine wpList_store_row rfl 26 _ _ rfl w.heap.size #[.int .i64 s, .slice A1 n c1, .slice A2 nr c2] rfl rfl 26 #[.int .i64 s, .slice Ag n cg, .slice Ar nr cr] hp1 (Hi.out _ _ _ _ _ _ _) rfl (Hone.out _ _ _ _ _ _ _) ?_; rw [hW2]) | (go_at_call 20; refine (HV.out _ (Below.refl _ _)).mono ?_; rintro e w3 ⟨rfl, hb3⟩; rw [hv]; obtain ⟨x0, x1, x2⟩ := hx2.below (by omega : w.heap.size < W2.heap.size) hb3) | (go_at_call 65; refine (HO.out _ hb3).mono ?_; rintro e w4 ⟨rfl, hb4'⟩; rw [ho]; have hb4 := step hb3 hb4'; obtain ⟨x0', x1', x2'⟩ := hx2.below (by omega : w.heap.size < W2.heap.size) hb4))
      obtain ⟨hgi, _, _⟩ := pv_gv hv
      have hn4 : 0 < n := by
        obtain ⟨q2, q4⟩ := gv_size hgi
        have := gv_len hgi
        rw [hp.g.1] at this
        have := (sq_bd q2 q4).1
        omega
      obtain ⟨vs2, hown2, hin2⟩ := id hor2
      have HX := Lib.hid (fun w' (hb : Below w4.heap.size w4 w') => (hx2.below (by omega : w.heap.size < W2.heap.size) (hb4.trans (hb.mono hb4.size))))
      have HR1 := Lib.hid (fun w' (hb : Below w4.heap.size w4 w') => (ho2.rd.below (hb4.trans (hb.mono hb4.size))))
      have HOW := Lib.hid (fun w' (hb : Below w4.heap.size w4 w') => (show w'.ownsRow W0.heap.size 63 3 (.slice A2 nr c2) nr vs2 ∧ InR w' W0.heap.size (.slice none 0 0) rs vs2 nr from by
        have hbb := hb4.trans (hb.mono hb4.size)
        refine ⟨World.ownsRow.kept hown2 (row := none) ⟨hbb.os, hbb.tape, hbb.output, hbb.size, fun k hk _ => hbb.block k hk⟩ (by cases e : (Value.slice A2 nr c2).ownBlock <;> simp), fun i hi => ?_⟩
        obtain ⟨A', c', e0, e1, e2, e3, e4, e5⟩ := hin2 i hi
        exact ⟨A', c', e0, e1, e2, Ow.below e3 hbb, e4, fun g hg e => by simp [Value.ownBlock] at e⟩))
      have hlo4 : W0.heap.size ≤ w4.heap.size := by
        have q1 := hb1.size
        have q2 := hb4.size
        have q3 : W2.heap.size = w1.heap.size := by rw [← hW2]; simp
        omega
      have hlo2 : W0.heap.size ≤ W2.heap.size := by
        have q1 := hb1.size
        have q3 : W2.heap.size = w1.heap.size := by rw [← hW2]; simp
        omega
      have hm1 := hp.gm
      have hK4 : W2.heap.size ≤ w4.heap.size := hb4.size
      have hcb : CbV vs2 nr (fun g => g < W2.heap.size) := fun i A' n' c' hi he g hg => by
        obtain ⟨A2', c2', _, e1, _, ho', _⟩ := hin2 i hi
        rw [he] at e1
        injection e1 with e1
        rw [e1] at hg
        exact ho'.own_hi g hg
      refine wp_region_ds [17, 18, 19, 20, 21, 22, 23, 24, 25, 26, 27, 4] (MakeG w.heap.size W0.heap.size W2.heap.size n s A1 c1 A2 nr c2 gi rs) (by kernel_rfl) (by kernel_rfl) (by simp) makeG_below ?step ?last
      case step =>
        intro i o a w' hi hoo hb hfr hpre
        have e1 : a.eval (.tmp 1) = .pointer (some ⟨w.heap.size, 0, none⟩) := hfr 1 (by simp)
        obtain ⟨x0, x1, x2⟩ := HX.out w' hb
        have hi12 : i < 12 := hi
        have : i = 0 ∨ i = 1 ∨ i = 2 ∨ i = 3 ∨ i = 4 ∨ i = 5 ∨ i = 6 ∨ i = 7 ∨ i = 8 ∨ i = 9 ∨ i = 10 ∨ i = 11 := by omega
        rcases this with rfl | rfl | rfl | rfl | rfl | rfl | rfl | rfl | rfl | rfl | rfl | rfl
        all_goals
          simp only [List.getElem?_toArray, List.getElem?_cons_zero, List.getElem?_cons_succ, Option.some.injEq] at hoo
          subst hoo
        · refine ⟨_, w', ?_, Below.refl _ _, rfl⟩
          unfold execOp
          simp only [e1]
          go_simp
        · have p0 := hpre ⟨0, .data⟩ (by simp) rfl
          have p0' : a.eval (.tmp 17) = .pointer (some ⟨w.heap.size, 0, none⟩) := p0
          refine ⟨_, w', ?_, Below.refl _ _, rfl⟩
          unfold execOp
          simp only [p0']
          go_simp
        · refine ⟨_, _, ?_, (Below.refl _ _).alloc (Nat.le_refl _) (.cells #[] 3), ⟨w'.heap.size, rfl⟩⟩
          unfold execOp
          go_simp
        · refine ⟨_, w', ?_, Below.refl _ _, rfl⟩
          unfold execOp
          simp only [e1]
          go_simp
        · have p0' : a.eval (.tmp 20) = .pointer (some ⟨w.heap.size, 1, none⟩) := hpre ⟨3, .data⟩ (by simp) rfl
          refine ⟨_, w', ?_, Below.refl _ _, rfl⟩
          unfold execOp
          simp only [p0']
          go_simp
        · obtain ⟨b, hb19⟩ : ∃ b, a.eval (.tmp 19) = .slice (some ⟨b, 0, none⟩) 0 0 := hpre ⟨2, .data⟩ (by simp) rfl
          have p21 : a.eval (.tmp 21) = .slice A1 n c1 := hpre ⟨4, .data⟩ (by simp) rfl
          obtain ⟨A', c', w2, hrun, q1, q2⟩ := fresh_ints 23 b A1 n c1 _ gi (HR1.out w' hb) hn4 hm1
          refine ⟨.slice A' n c', w2, ?_, q2, A', c', rfl, q1.mono (Nat.le_trans hK4 hb.size)⟩
          unfold execOp
          simp only [resolve, invoke, builtin, Sem.run_bind, Sem.run_pure, Result.andThen_ok, List.map_toArray, List.map_cons, List.map_nil, hb19, p21, hrun]
        · refine ⟨_, _, ?_, (Below.refl _ _).alloc (Nat.le_refl _) (.cells #[] 63), ⟨w'.heap.size, rfl, heap_alloc_new _ _, Nat.le_trans hlo4 hb.size⟩⟩
          unfold execOp
          go_simp
        · refine ⟨_, w', ?_, Below.refl _ _, rfl⟩
          unfold execOp
          simp only [e1]
          go_simp
        · have p0' : a.eval (.tmp 24) = .pointer (some ⟨w.heap.size, 2, none⟩) := hpre ⟨7, .data⟩ (by simp) rfl
          refine ⟨_, w', ?_, Below.refl _ _, rfl⟩
          unfold execOp
          simp only [p0']
          go_simp
        · obtain ⟨b, hb23, hlit, hbl⟩ : ∃ b, a.eval (.tmp 23) = .slice (some ⟨b, 0, none⟩) 0 0 ∧ w'.heap[b]? = some (.cells #[] 63) ∧ W0.heap.size ≤ b := hpre ⟨6, .data⟩ (by simp) rfl
          have p25 : a.eval (.tmp 25) = .slice A2 nr c2 := hpre ⟨8, .data⟩ (by simp) rfl
          obtain ⟨hw1, hw2⟩ := HOW.out w' hb
          obtain ⟨A', c', w2, hrun, ⟨q1, q1'⟩, q2⟩ := fresh_rulesV 24 b A2 nr c2 W0.heap.size W0.heap.size rs vs2 hrl hw1 hw2 hlit hbl hp.rm (Nat.le_trans hlo4 hb.size)
          refine ⟨.slice A' nr c', w2, ?_, q2, A', c', rfl, ⟨vs2, q1, q1'⟩, ⟨vs2, q1, hcb⟩⟩
          unfold execOp
          simp only [resolve, invoke, builtin, Sem.run_bind, Sem.run_pure, Result.andThen_ok, List.map_toArray, List.map_cons, List.map_nil, hb23, p25, hrun]
        · have p18 : a.eval (.tmp 18) = .int .i64 s := hpre ⟨1, .data⟩ (by simp) rfl
          obtain ⟨A', c', p22, q22⟩ : ∃ A' c', a.eval (.tmp 22) = .slice A' n c' ∧ Ow w' W2.heap.size A' n c' gi := hpre ⟨5, .data⟩ (by simp) rfl
          obtain ⟨A'', c'', p26, q26, q26'⟩ : ∃ A' c', a.eval (.tmp 26) = .slice A' nr c' ∧ OwR w' W0.heap.size (.slice A' nr c') rs nr ∧ SpQ w' W0.heap.size (.slice A' nr c') nr (fun g => g < W2.heap.size) := hpre ⟨9, .data⟩ (by simp) rfl
          refine ⟨.agg #[.int .i64 s, .slice A' n c', .slice A'' nr c''], w', ?_, Below.refl _ _, A', c', A'', c'', rfl, q22, q26, q26'⟩
          unfold execOp
          simp only [List.map_toArray, List.map_cons, List.map_nil, p18, p22, p26]
          go_simp
        · refine ⟨_, _, ?_, (Below.refl _ _).alloc (Nat.le_refl _) (.cells #[.int .i64 0, .slice none 0 0, .slice none 0 0] 26), ⟨w'.heap.size, rfl, heap_alloc_new _ _, Nat.le_trans hlo4 hb.size⟩⟩
          unfold execOp
          go_simp
      case last =>
        intro o a w5 hoo hb5 hdef htm hfr hpre
        simp only [List.length_cons, List.length_nil, Nat.reduceAdd, List.getElem?_toArray, List.getElem?_cons_zero, List.getElem?_cons_succ, Option.some.injEq] at hoo
        subst hoo
        have g17 : a.tmps.getD 17 undef = .pointer (some ⟨w.heap.size, 0, none⟩) := hpre 0 (by simp)
        have g18 : a.tmps.getD 18 undef = .int .i64 s := hpre 1 (by simp)
        obtain ⟨b19, g19⟩ : ∃ b, a.tmps.getD 19 undef = .slice (some ⟨b, 0, none⟩) 0 0 := hpre 2 (by simp)
        have g20 : a.tmps.getD 20 undef = .pointer (some ⟨w.heap.size, 1, none⟩) := hpre 3 (by simp)
        have g21 : a.tmps.getD 21 undef = .slice A1 n c1 := hpre 4 (by simp)
        obtain ⟨A22, c22, g22, _⟩ : ∃ A' c', a.tmps.getD 22 undef = .slice A' n c' ∧ _ := hpre 5 (by simp)
        obtain ⟨b23, g23, _⟩ : ∃ b, a.tmps.getD 23 undef = .slice (some ⟨b, 0, none⟩) 0 0 ∧ _ := hpre 6 (by simp)
        have g24 : a.tmps.getD 24 undef = .pointer (some ⟨w.heap.size, 2, none⟩) := hpre 7 (by simp)
        have g25 : a.tmps.getD 25 undef = .slice A2 nr c2 := hpre 8 (by simp)
        obtain ⟨A26, c26, g26, _⟩ : ∃ A' c', a.tmps.getD 26 undef = .slice A' nr c' ∧ _ := hpre 9 (by simp)
        obtain ⟨A3, c3, A4, c4, g27, ho5, hor5, hsp5⟩ : ∃ A' c' A'' c'', a.tmps.getD 27 undef = .agg #[.int .i64 s, .slice A' n c', .slice A'' nr c''] ∧ Ow w5 W2.heap.size A' n c' gi ∧ OwR w5 W0.heap.size (.slice A'' nr c'') rs nr ∧ SpQ w5 W0.heap.size (.slice A'' nr c'') nr (fun g => g < W2.heap.size) := hpre 10 (by simp)
        obtain ⟨X, g4, hrX, hloX⟩ : ∃ X, a.tmps.getD 4 undef = .pointer (some ⟨X, 0, none⟩) ∧ w5.heap[X]? = some (.cells #[.int .i64 0, .slice none 0 0, .slice none 0 0] 26) ∧ W0.heap.size ≤ X := hpre 11 (by simp)
        have h4 : a.eval (.tmp 4) = .pointer (some ⟨X, 0, none⟩) := g4
        have h27 : a.eval (.tmp 27) = .agg #[.int .i64 s, .slice A3 n c3, .slice A4 nr c4] := g27
        refine ⟨w5.setRow X #[.int .i64 s, .slice A3 n c3, .slice A4 nr c4], ?_, ?_⟩
        · have hst := run_storeVar_row (P := Tryd.prog) w5 X 26 26 _ #[.int .i64 s, .slice A3 n c3, .slice A4 nr c4] hrX (Hi.out _ _ _ _ _ _ _) rfl (Hone.out _ _ _ _ _ _ _)
          unfold execOp
          simp only [h4, h27, Instr.storeAt, Instr.sureAddr, Sem.run_bind, Sem.run_pure, Result.andThen_ok, hst]
        · have key := htm
          simp only [List.foldl_cons, List.foldl_nil, g17, g18, g19, g20, g21, g22, g23, g24, g25, g26, g27, g4, List.setIfInBounds_toArray, List.set_cons_succ, List.set_cons_zero] at key
          clear htm hfr hpre g17 g18 g19 g20 g21 g22 g23 g24 g25 g26 g27 g4 h4 h27
          obtain ⟨tm, df⟩ := a
          dsimp only at key hdef
          subst key hdef
          have hr5 := setRow_heap (w := w5) X _ #[.int .i64 s, .slice A3 n c3, .slice A4 nr c4] 26 _ hrX
          have ho6 := ho5.setX (cs' := #[.int .i64 s, .slice A3 n c3, .slice A4 nr c4]) hrX
          have hor6 := hor5.setX (cs' := #[.int .i64 s, .slice A3 n c3, .slice A4 nr c4]) hrX
          have hsp6 := hsp5.setX (cs' := #[.int .i64 s, .slice A3 n c3, .slice A4 nr c4]) hrX
          have hB6 : Below W0.heap.size W2 (w5.setRow X #[.int .i64 s, .slice A3 n c3, .slice A4 nr c4]) := setRow_below5 ((hb4.mono hlo2).trans (hb5.mono hlo4)) hloX
          obtain ⟨w6, hw6⟩ : ∃ w6, w5.setRow X #[.int .i64 s, .slice A3 n c3, .slice A4 nr c4] = w6 := ⟨_, rfl⟩
          rw [hw6] at hr5 ho6 hor6 hsp6 hB6 ⊢
          clear hw6 ho5 hor5 hsp5 hrX
          have HB6 := Lib.hid hB6
          go_wp2
          go_loopw [5] (fun i wr => ∃ (k : Nat) (A7 A8 : Option Addr) (c7 c8 : Nat), k ≤ n ∧ i = .int .i64 k ∧ wr.heap[X]? = some (.cells #[.int .i64 s, .slice A7 n c7, .slice A8 nr c8] 26) ∧ Ow wr W2.heap.size A7 n c7 (minL s n rs gi k) ∧ (OwR wr W0.heap.size (.slice A8 nr c8) rs nr ∧ SpQ wr W0.heap.size (.slice A8 nr c8) nr (fun g => g < W2.heap.size)) ∧ Below W0.heap.size W2 wr) (fun i _ => n - (intOf i).toNat)
          case atStart => exact ⟨0, A3, A4, c3, c4, Nat.zero_le _, rfl, hr5, ho6, ⟨hor6, hsp6⟩, hB6⟩
          case round =>
            obtain ⟨k, A7, A8, c7, c8, hk, rfl, hr7, ho7, ⟨hor7, hsp7⟩, hb7⟩ := hrel
            obtain ⟨x0, x1, x2⟩ : PBox wr X s A7 n c7 A8 nr c8 := ⟨cell_of_row _ _ 0 _ _ (0, 0) hr7, cell_of_row _ _ 1 _ _ (0, 0) hr7, cell_of_row _ _ 2 _ _ (0, 0) hr7⟩
            by_cases hlt : k < n
            · have hltI : (k : Int) < (n : Int) := by omega
              have hPk : PGs wr s A7 n c7 wr.heap.size (minL s n rs gi k) A8 nr c8 wr.heap.size rs := ⟨ho7.rd, Nat.le_refl _, hm1, hor7.rd hrl, Nat.le_refl _, hp.rm⟩
              have hsX := (Array.getElem?_eq_some_iff.1 hr7).1
              have hsW : W0.heap.size ≤ wr.heap.size := by
                have q1 := hb7.size
                omega
              have HRd := Lib.hid (specIsRedundant s A7 n c7 wr.heap.size (minL s n rs gi k) A8 nr c8 wr.heap.size rs (k : Int) wr hPk)
              have HWo := Lib.hid (fun w' (hb : Below wr.heap.size wr w') => specWithout (Bg := wr.heap.size) s A7 n c7 (minL s n rs gi k) A8 nr c8 k w' (hPk.below hb).g (hPk.below hb).gB hm1 hlt)
              have hb7' := hb7
              cases hred : redB s n (minL s n rs gi k) rs k
              · have hml : minL s n rs gi (k + 1) = minL s n rs gi k := by rw [minL, hred]; rfl
                have Hml := Lib.hid hml
                clear hml
                go_wp2_with (go_at_call 29; refine HRd.out.mono ?_; rintro e w8 ⟨rfl, hb8⟩; rw [hred]; have hr8 := (hb8.block X hsX).trans hr7; have ho8 := ho7.below hb8; have hor8 := hor7.below hb8; have hsp8 := hsp7.below hb8; have hB8 := hb7'.trans (hb8.mono hsW))
                refine ⟨⟨k + 1, A7, A8, c7, c8, hlt, by simp, hr8, by rw [Hml.out]; exact ho8, ⟨hor8, hsp8⟩, hB8⟩, by simp [intOf]; omega⟩
              · have hml : minL s n rs gi (k + 1) = (minL s n rs gi k).set k 0 := by rw [minL, hred]; rfl
                have Hml := Lib.hid hml
                clear hml
                go_wp2_with (first | (go_at_call 29; refine HRd.out.mono ?_; rintro e w8 ⟨rfl, hb8⟩; rw [hred]; have hr8 := (hb8.block X hsX).trans hr7; have ho8 := ho7.below hb8; have hor8 := hor7.below hb8; have hsp8 := hsp7.below hb8; have hB8 := hb7'.trans (hb8.mono hsW); obtain ⟨y0, y1, y2⟩ : PBox w8 X s A7 n c7 A8 nr c8 := ⟨cell_of_row _ _ 0 _ _ (0, 0) hr8, cell_of_row _ _ 1 _ _ (0, 0) hr8, cell_of_row _ _ 2 _ _ (0, 0) hr8⟩) | (go_at_call 66; refine (HWo.out _ hb8).mono ?_; rintro e w9 ⟨A9, c9, rfl, ho9, hb9⟩; have hr9 := (hb9.block X (Nat.lt_of_lt_of_le hsX hb8.size)).trans hr8) | (refine wpList_store_row rfl 26 _ _ rfl X #[.int .i64 s, .slice A9 n c9, .slice A8 nr c8] rfl rfl 26 #[.int .i64 s, .slice A7 n c7, .slice A8 nr c8] hr9 (Hi.out _ _ _ _ _ _ _) rfl (Hone.out _ _ _ _ _ _ _) ?_))
                have ho10 : Ow (w9.setRow X #[.int .i64 s, .slice A9 n c9, .slice A8 nr c8]) W2.heap.size A9 n c9 ((minL s n rs gi k).set k 0) := (ho9.mono (Nat.le_trans hb7.size hb8.size)).setX hr9
                refine ⟨⟨k + 1, A9, A8, c9, c8, hlt, by simp, setRow_heap _ _ _ _ _ _ hr9, by rw [Hml.out]; exact ho10, ⟨(hor8.below hb9).setX hr9, (hsp8.below hb9).setX hr9⟩, setRow_below5 (hB8.trans (hb9.mono (Nat.le_trans hsW hb8.size))) hloX⟩, by simp [intOf]; omega⟩
            · obtain rfl : k = n := by omega
              have hq7 := (hb7.block (w.heap.size + 1) (by omega)).trans hq2
              go_wp2_with (refine wpList_store_row rfl 26 _ _ rfl (w.heap.size + 1) #[.int .i64 s, .slice A7 k c7, .slice A8 nr c8] rfl rfl 26 #[.int .i64 0, .slice none 0 0, .slice none 0 0] hq7 (Hi.out _ _ _ _ _ _ _) rfl (Hone.out _ _ _ _ _ _ _) ?_)
              have hBe : Below w.heap.size w (wr.setRow (w.heap.size + 1) #[.int .i64 s, .slice A7 k c7, .slice A8 nr c8]) := setRow_below5 (HB2.out.trans (hb7.mono (by omega))) (by omega)
              exact bodyPost_ret (v := .tuple #[.agg #[.int .i64 s, .slice A7 k c7, .slice A8 nr c8], .bool true]) (results_row_tmp (by rfl) _ _ (w.heap.size + 1) 26 _ (0, 0) _ _ rfl rfl (setRow_heap _ _ _ _ _ _ hq7) Tryd.underlying26 rfl (Hi.out _ _ _ _ _ _ _)) rfl ⟨hBe, .inr ⟨ht, A7, c7, A8, c8, W2.heap.size, rfl, ho7.setX hq7, by omega, (hor7.setX hq7).mono (by omega), (hsp7.setX hq7).mono (by omega)⟩⟩
end Go.Proofs.YtkeoflnmbcdmfaaDoor
set_option maxRecDepth 8000
namespace Go.Proofs.YtkeoflnmbcdmfaaDoor
/-! what is given, less what is redundant. -/
/-- a puzzle with exactly one solution, of which gi is told. -/
structure Mk1 (s n : Nat) (rs : List RuleM) (g gi : List Int) : Prop where
  v : pvB s g rs = true
  o : oneB s n g rs = true
  l : Le0 g gi
theorem minL_inv {s n : Nat} {gi : List Int} {rs : List RuleM} (hv : pvB s gi rs = true) (ho : oneB s n gi rs = true) (k : Nat) : Mk1 s n rs (minL s n rs gi k) gi := by
  induction k with
  | zero => exact ⟨hv, ho, Le0.refl _⟩
  | succ k ih =>
    unfold minL
    split
    · next h =>
      refine ⟨pv_put ih.v k, ?_, (Le0.set _ k).trans ih.l⟩
      simp only [redB, Bool.and_eq_true, Int.toNat_natCast] at h
      exact h.2
    · exact ih
theorem minL_step {s n : Nat} {gi : List Int} {rs : List RuleM} (k : Nat) : Le0 (minL s n rs gi (k + 1)) (minL s n rs gi k) := by
  rw [minL]
  split
  · exact Le0.set _ k
  · exact Le0.refl _
theorem minL_le {s n : Nat} {gi : List Int} {rs : List RuleM} {i : Nat} : ∀ {j : Nat}, i ≤ j → Le0 (minL s n rs gi j) (minL s n rs gi i) := by
  intro j
  induction j with
  | zero => intro h; obtain rfl : i = 0 := by omega
            exact Le0.refl _
  | succ j ih =>
    intro h
    by_cases e : i = j + 1
    · subst e; exact Le0.refl _
    · exact (minL_step j).trans (ih (by omega))
theorem minL_none {s n : Nat} {gi : List Int} {rs : List RuleM} (hl : gi.length = n) (hn : n = s * s) (hv : pvB s gi rs = true) (ho : oneB s n gi rs = true) {k : Nat} (hk : k < n) : redB s n (minL s n rs gi n) rs k = false := by
  have hx := minL_inv hv ho n
  have hg := minL_inv hv ho k
  have hxl := hx.l.1.trans hl
  have hgl := hg.l.1.trans hl
  have hxg := minL_le (s := s) (n := n) (gi := gi) (rs := rs) (show k ≤ n by omega)
  rw [red_iff hxl hx.v hx.o hk]
  by_cases h0 : nth (minL s n rs gi n) k = 0
  · rw [h0]; rfl
  · cases h1 : oneB s n ((minL s n rs gi n).set k 0) rs
    · rw [Bool.and_false]
    · exfalso
      have e1 : nth (minL s n rs gi n) k = nth (minL s n rs gi k) k := by
        rcases hxg.2 k with e | e
        · exact e
        · exact absurd e h0
      have h2 := one_mid (rs := rs) hgl (pv_put hx.v k) (pv_put hg.v k) hg.v hn (hxg.set2 k) (Le0.set _ k) h1 hg.o
      have h3 : redB s n (minL s n rs gi k) rs k = true := by
        rw [red_iff hgl hg.v hg.o hk, h2, ← e1, Bool.and_true, bne_iff_ne]; exact h0
      have h4 : minL s n rs gi (k + 1) = (minL s n rs gi k).set k 0 := by rw [minL, if_pos h3]
      have h5 := (minL_le (s := s) (n := n) (gi := gi) (rs := rs) (show k + 1 ≤ n by omega)).2 k
      rw [h4, nth_setM (by omega), if_pos rfl] at h5
      rcases h5 with e | e <;> exact h0 e
theorem minL_minB {s n : Nat} {gi : List Int} {rs : List RuleM} (hl : gi.length = n) (hn : n = s * s) (hv : pvB s gi rs = true) (ho : oneB s n gi rs = true) : minB s n (minL s n rs gi n) rs = true := by
  have hx := minL_inv hv ho n
  unfold minB
  rw [hx.v, hx.o, redTo_none (fun k hk => minL_none hl hn hv ho hk)]; rfl
theorem minL_self {s n : Nat} {gi : List Int} {rs : List RuleM} (h : ∀ k : Nat, k < n → redB s n gi rs k = false) : ∀ {j : Nat}, j ≤ n → minL s n rs gi j = gi := by
  intro j
  induction j with
  | zero => intro _; rfl
  | succ j ih => intro hj; rw [minL, ih (by omega), h j (by omega)]; simp
theorem minL_again {s n : Nat} {gi : List Int} {rs : List RuleM} (hl : gi.length = n) (hn : n = s * s) (hv : pvB s gi rs = true) (ho : oneB s n gi rs = true) : minL s n rs (minL s n rs gi n) n = minL s n rs gi n :=
  minL_self (fun _ hk => minL_none hl hn hv ho hk) (Nat.le_refl _)
end Go.Proofs.YtkeoflnmbcdmfaaDoor
