import Derived.Test.YtkeoflnmbcdmfaaDoorMTenB
import Derived.Test.YtkeoflnmbcdmfaaDoorBase
import Derived.Shelf.Abstract
import Derived.Test.YtkeoflnmbcdmfaaDoorMHo
import Derived.Test.YtkeoflnmbcdmfaaDoorQ4S
import Derived.Test.YtkeoflnmbcdmfaaDoorOwn
import Derived.Test.YtkeoflnmbcdmfaaDoorMW1F
import Derived.Test.YtkeoflnmbcdmfaaDoorQ4R
import Derived.Deep.RegionHeld3
import Derived.Deep.RegionWith
import Derived.Test.YtkeoflnmbcdmfaaDoorPushAll
import Derived.Deep.MidRow
set_option maxRecDepth 8000
namespace Go.Proofs.YtkeoflnmbcdmfaaDoor
/-! making puzzles: what the lists mean. -/
def Le0 (a b : List Int) : Prop := a.length = b.length ∧ ∀ i, nth a i = nth b i ∨ nth a i = 0
theorem Le0.refl (a : List Int) : Le0 a a := ⟨rfl, fun _ => .inl rfl⟩
theorem Le0.trans {a b c : List Int} (h : Le0 a b) (h' : Le0 b c) : Le0 a c := ⟨h.1.trans h'.1, fun i => by
  rcases h.2 i with e | e
  · rcases h'.2 i with e' | e'
    · exact .inl (e.trans e')
    · exact .inr (e.trans e')
  · exact .inr e⟩
theorem Le0.set (a : List Int) (k : Nat) : Le0 (a.set k 0) a := ⟨by simp, nth_set0 a k⟩
theorem nth_setM {a : List Int} {k i : Nat} {z : Int} (hk : k < a.length) : nth (a.set k z) i = if i = k then z else nth a i := by
  by_cases e : i = k
  · subst e; rw [if_pos rfl]; simp [nth, List.getD_eq_getElem?_getD, hk]
  · rw [if_neg e]; simp [nth, List.getD_eq_getElem?_getD, List.getElem?_set_ne (fun h => e h.symm)]
theorem Le0.set2 {a b : List Int} (h : Le0 a b) (k : Nat) : Le0 (a.set k 0) (b.set k 0) := ⟨by simpa using h.1, fun i => by
  by_cases hk : k < a.length
  · rw [nth_setM hk, nth_setM (by rw [← h.1]; exact hk)]
    by_cases e : i = k
    · rw [if_pos e, if_pos e]; exact .inl rfl
    · rw [if_neg e, if_neg e]; exact h.2 i
  · rw [List.set_eq_of_length_le (by omega), List.set_eq_of_length_le (by rw [← h.1]; omega)]; exact h.2 i⟩
theorem pv_put {s : Int} {gi : List Int} {rs : List RuleM} (h : pvB s gi rs = true) (c : Nat) : pvB s (gi.set c 0) rs = true := by
  simp only [pvB, Bool.and_eq_true] at h ⊢
  exact ⟨⟨h.1.1, gv_put h.1.2 c⟩, h.2⟩
theorem ps_mono {s : Int} {gi gi' g : List Int} {rs : List RuleM} (hv : pvB s gi' rs = true) (hle : Le0 gi' gi) (h : psB s gi rs g = true) : psB s gi' rs g = true := by
  unfold psB at h ⊢
  rw [Bool.and_eq_true] at h ⊢
  obtain ⟨h1, h2⟩ := h
  obtain ⟨_, b, c, d, e⟩ := fp_parts.1 h1
  refine ⟨fp_parts.2 ⟨hv, b, fun i hi => ?_, d, e⟩, h2⟩
  have h3 := c i hi
  unfold giveOk at h3 ⊢
  rcases hle.2 i with e | e
  · rw [e]; exact h3
  · rw [e]; simp
theorem filt_leM {p q : List Int → Bool} (h : ∀ y, p y = true → q y = true) : ∀ L : List (List Int), (L.filter p).length ≤ (L.filter q).length := by
  intro L
  induction L with
  | nil => exact Nat.le_refl _
  | cons a L ih =>
    by_cases e : p a = true
    · rw [List.filter_cons_of_pos e, List.filter_cons_of_pos (h a e)]; simp only [List.length_cons]; omega
    · rw [List.filter_cons_of_neg e]
      by_cases e' : q a = true
      · rw [List.filter_cons_of_pos e']; simp only [List.length_cons]; omega
      · rw [List.filter_cons_of_neg e']; exact ih
theorem cv_sqM {s : Nat} {gi : List Int} {rs : List RuleM} {n : Nat} (hl : gi.length = n) (hv : pvB s gi rs = true) (hn : n = s * s) : cv s gi rs (s * s) [] = (sqL s).filter (psB s gi rs) := by
  rw [← solL_is hv, ← hn, ← hl]; exact cv_is hv
theorem cv_le {s : Nat} {gi gi' : List Int} {rs : List RuleM} {n : Nat} (hl : gi.length = n) (hv : pvB s gi rs = true) (hv' : pvB s gi' rs = true) (hn : n = s * s) (hle : Le0 gi' gi) : (cv s gi rs (s * s) []).length ≤ (cv s gi' rs (s * s) []).length := by
  rw [cv_sqM hl hv hn, cv_sqM (hle.1.trans hl) hv' hn]
  exact filt_leM (fun y h => ps_mono hv' hle h) _
theorem one_iff {s : Nat} {gi : List Int} {rs : List RuleM} {n : Nat} (hl : gi.length = n) (hv : pvB s gi rs = true) (hn : n = s * s) : oneB s n gi rs = true ↔ (cv s gi rs (s * s) []).length = 1 := by
  unfold oneB
  rw [beq_iff_eq, allS_cv hl hv (by omega) hn, List.length_take]
  omega
theorem one_same {s : Nat} {gi gi' : List Int} {rs : List RuleM} {n : Nat} (hl : gi.length = n) (hv : pvB s gi rs = true) (hv' : pvB s gi' rs = true) (hn : n = s * s) (hle : Le0 gi' gi) (h : oneB s n gi rs = true) (h' : oneB s n gi' rs = true) : cv s gi rs (s * s) [] = cv s gi' rs (s * s) [] := by
  have hl' := hle.1.trans hl
  have h1 := (one_iff hl hv hn).1 h
  have h2 := (one_iff hl' hv' hn).1 h'
  obtain ⟨y, hy⟩ := List.length_eq_one_iff.1 h1
  obtain ⟨z, hz⟩ := List.length_eq_one_iff.1 h2
  have e1 : y ∈ (sqL s).filter (psB s gi rs) := by rw [← cv_sqM hl hv hn, hy]; simp
  have e2 : y ∈ (sqL s).filter (psB s gi' rs) := List.mem_filter.2 ⟨(List.mem_filter.1 e1).1, ps_mono hv' hle (List.mem_filter.1 e1).2⟩
  rw [← cv_sqM hl' hv' hn, hz] at e2
  rw [hy, hz]
  simp at e2
  rw [e2]
theorem sf_same {s : Nat} {gi gi' : List Int} {rs : List RuleM} {n : Nat} (hl : gi.length = n) (hv : pvB s gi rs = true) (hv' : pvB s gi' rs = true) (hn : n = s * s) (hle : Le0 gi' gi) (h : oneB s n gi rs = true) (h' : oneB s n gi' rs = true) : sfL s n gi' rs = sfL s n gi rs ∧ sfB s n gi' rs = sfB s n gi rs := by
  have hl' := hle.1.trans hl
  have e := one_same hl hv hv' hn hle h h'
  obtain ⟨y, hy⟩ := List.length_eq_one_iff.1 ((one_iff hl hv hn).1 h)
  have a := sf_cons hl hv hn hy
  have b := sf_cons hl' hv' hn (e ▸ hy)
  exact ⟨b.1.trans a.1.symm, b.2.trans a.2.symm⟩
theorem one_cs {s : Int} {gi : List Int} {rs : List RuleM} {n : Nat} (hv : pvB s gi rs = true) : (csI s n gi rs 2 == 1) = oneB s n gi rs := by
  have h2 : inr (2 : Int) 1 600 = true := by decide
  simp only [csI, hv, h2, Bool.true_and, if_true, oneB]
  rw [show (2 : Int).toNat = 2 from rfl, Bool.eq_iff_iff]
  simp only [beq_iff_eq]
  omega
theorem one_cs' {s : Int} {gi : List Int} {rs : List RuleM} {n : Nat} (hv : pvB s gi rs = true) (h : oneB s n gi rs = true) : csI s n gi rs 2 = 1 := by
  have := one_cs (n := n) hv
  rw [h] at this
  simpa using this
/-- between a puzzle with one solution and one with fewer given and one solution every puzzle has one. -/
theorem one_mid {s : Nat} {a b c : List Int} {rs : List RuleM} {n : Nat} (hl : c.length = n) (ha : pvB s a rs = true) (hb : pvB s b rs = true) (hc : pvB s c rs = true) (hn : n = s * s) (hab : Le0 a b) (hbc : Le0 b c) (h1 : oneB s n a rs = true) (h2 : oneB s n c rs = true) : oneB s n b rs = true := by
  have hlb := hbc.1.trans hl
  have q1 := cv_le hl hc hb hn hbc
  have q2 := cv_le hlb hb ha hn hab
  have q3 := (one_iff (hab.1.trans hlb) ha hn).1 h1
  have q4 := (one_iff hl hc hn).1 h2
  exact (one_iff hlb hb hn).2 (by omega)
def redTo (s : Int) (n : Nat) (gi : List Int) (rs : List RuleM) : Nat → Bool
  | 0 => false
  | k + 1 => redTo s n gi rs k || redB s n gi rs k
theorem redTo_hit {s : Int} {n : Nat} {gi : List Int} {rs : List RuleM} {k m : Nat} (hk : k < m) (e : redB s n gi rs k = true) : redTo s n gi rs m = true := by
  induction m with
  | zero => omega
  | succ m ih =>
    simp only [redTo, Bool.or_eq_true]
    by_cases h : k = m
    · subst h; exact .inr e
    · exact .inl (ih (by omega))
theorem redTo_none {s : Int} {n : Nat} {gi : List Int} {rs : List RuleM} {m : Nat} (h : ∀ k : Nat, k < m → redB s n gi rs k = false) : redTo s n gi rs m = false := by
  induction m with
  | zero => rfl
  | succ m ih => simp only [redTo, ih (fun k hk => h k (by omega)), h m (by omega)]; rfl
def minB (s : Int) (n : Nat) (gi : List Int) (rs : List RuleM) : Bool := pvB s gi rs && oneB s n gi rs && !redTo s n gi rs n
theorem red_iff {s : Int} {n : Nat} {gi : List Int} {rs : List RuleM} {k : Nat} (hl : gi.length = n) (hv : pvB s gi rs = true) (h1 : oneB s n gi rs = true) (hk : k < n) : redB s n gi rs k = ((nth gi k != 0) && oneB s n (gi.set k 0) rs) := by
  have h0 := (gv_nth (pv_gv hv).1 (show k < gi.length by omega)).1
  have e1 : inr (k : Int) 0 ((n : Int) - 1) = true := by unfold inr; simp; omega
  have e2 : decide (0 < nth gi k) = (nth gi k != 0) := by
    rw [Bool.eq_iff_iff, decide_eq_true_iff, bne_iff_ne]; omega
  simp only [redB, givenB, hv, h1, e1, Int.toNat_natCast, e2, Bool.true_and, Bool.and_true]
theorem red_false {s : Int} {n : Nat} {gi : List Int} {rs : List RuleM} {i : Int} (h : (pvB s gi rs && oneB s n gi rs) = false) : redB s n gi rs i = false := by
  unfold redB
  cases h1 : pvB s gi rs <;> cases h2 : oneB s n gi rs <;> simp_all
end Go.Proofs.YtkeoflnmbcdmfaaDoor
set_option maxRecDepth 8000
namespace Go.Proofs.YtkeoflnmbcdmfaaDoor
open Go.ChangeShapes Go.WideShapes Go.ChangeAt Go.RowKit Go.Shelf
/-! slices.ContainsFunc over ints, with a closure that may make blocks. -/
def anyN (f : Int → Bool) (xs : List Int) : Nat → Bool
  | 0 => false
  | k + 1 => anyN f xs k || f (nth xs k)
theorem anyN_hit {f : Int → Bool} {xs : List Int} {k n : Nat} (hk : k < n) (e : f (nth xs k) = true) : anyN f xs n = true := by
  induction n with
  | zero => omega
  | succ n ih =>
    simp only [anyN, Bool.or_eq_true]
    by_cases h : k = n
    · subst h; exact .inr e
    · exact .inl (ih (by omega))
/-- what is asked of the closure: it answers f, and leaves what was there. -/
def CloB (g : Nat) (lb : Array Value) (f : Int → Bool) (xs : List Int) (n : Nat) (w : World) : Prop :=
  ∀ (W : World) (i : Nat), i < n → Below w.heap.size w W → Calls Tryd.prog g (#[.int .i64 (nth xs i)] ++ lb) W fun e w' => e = .returned (.bool (f (nth xs i))) ∧ Below W.heap.size W w'
set_option maxHeartbeats 1000000 in
theorem indexFunc_any (A : Option Addr) (c n B : Nat) (xs : List Int) (f : Int → Bool) (g : Nat) (lb : Array Value) (eg : ∀ args w, (callFunc g args).run Tryd.prog w = .ok (.enter g args) w) (w : World) (h : Rd w B A n xs) (hB : B ≤ w.heap.size) (hm : n ≤ 1099511627776) (hp : CloB g lb f xs n w) :
    Calls Tryd.prog 120 #[.slice A n c, .func (.func g) #[] lb] w fun e w' => ∃ r : Int, e = .returned (.int .i64 r) ∧ decide (0 ≤ r) = anyN f xs n ∧ Below w.heap.size w w' := by
  have HP := Lib.hid hp
  have HH := Lib.hid (fun (W : World) (hb : Below w.heap.size w W) => h.below (hb.mono hB))
  clear hp
  go_enter Tryd.func120, Tryd.ntmps120
  go_wp2
  go_loopw [8] (fun i wr => ∃ k : Nat, k ≤ n ∧ i = .int .i64 k ∧ Below w.heap.size w wr ∧ Hid (anyN f xs k = false)) (fun i _ => n - (intOf i).toNat)
  case atStart => exact ⟨0, Nat.zero_le _, rfl, Below.refl _ _, Lib.hid rfl⟩
  case round =>
    obtain ⟨k, hk, rfl, hR, hno⟩ := hrel
    by_cases hlt : k < n
    · obtain ⟨b, off, rfl, hbB, hck⟩ := (HH.out _ hR).at_ hlt
      have hcall := HP.out wr k hlt hR
      obtain ⟨y, hy⟩ : ∃ y, nth xs k = y := ⟨_, rfl⟩
      rw [hy] at hck hcall
      have Hy := Lib.hid hy
      clear hy
      cases e : f y
      · have Hn := Lib.hid (show anyN f xs (k + 1) = false by simp only [anyN, hno.out, Hy.out, e]; rfl)
        rw [e] at hcall
        go_wp2_with (go_at_fn g; refine hcall.mono ?_; rintro e w1 ⟨rfl, hb1⟩; have hR1 := step hR hb1)
        go_roundw
        case rel => exact ⟨k + 1, by omega, by go_num, hR1, Hn⟩
        case measure => simp [intOf]; omega
      · have Hn := Lib.hid (show anyN f xs n = true from anyN_hit hlt (by rw [Hy.out]; exact e))
        rw [e] at hcall
        go_wp2_with (go_at_fn g; refine hcall.mono ?_; rintro e w1 ⟨rfl, hb1⟩; have hR1 := step hR hb1)
        go_ret
        exact ⟨_, rfl, by rw [Hn.out]; simp, hR1⟩
    · obtain rfl : k = n := by omega
      go_wp2
      go_ret
      exact ⟨_, rfl, by rw [hno.out]; rfl, hR⟩
theorem containsFunc_any (A : Option Addr) (c n B : Nat) (xs : List Int) (f : Int → Bool) (g : Nat) (lb : Array Value) (eg : ∀ args w, (callFunc g args).run Tryd.prog w = .ok (.enter g args) w) (w : World) (h : Rd w B A n xs) (hB : B ≤ w.heap.size) (hm : n ≤ 1099511627776) (hp : CloB g lb f xs n w) :
    Calls Tryd.prog 100 #[.slice A n c, .func (.func g) #[] lb] w fun e w' => e = .returned (.bool (anyN f xs n)) ∧ Below w.heap.size w w' := by
  have HI := Lib.hid (indexFunc_any A c n B xs f g lb eg w h hB hm hp)
  clear hp h eg
  go_enter Tryd.func100, Tryd.ntmps100
  go_wp2_with (go_at_call 120; refine HI.out.mono ?_; rintro e w1 ⟨r, rfl, hr, hb1⟩; have hr' : decide (r ≥ 0) = anyN f xs n := hr)
  go_ret
  exact ⟨by first | (rw [← hr]; rfl) | (rw [← hr]), hb1⟩
end Go.Proofs.YtkeoflnmbcdmfaaDoor
set_option maxRecDepth 8000
namespace Go.Proofs.YtkeoflnmbcdmfaaDoor
open Go.ChangeShapes Go.WideShapes Go.ChangeAt Go.RowKit
set_option maxHeartbeats 1000000 in
theorem makeable_any (s : Int) (Ag : Option Addr) (n cg Bg : Nat) (gi : List Int) (Ar : Option Addr) (nr cr Br : Nat) (rs : List RuleM) (w : World) (hp : PGc w s Ag n cg Bg gi Ar nr cr Br rs) (hT : Tz w) :
    Calls Tryd.prog 63 #[.agg #[.int .i64 s, .slice Ag n cg, .slice Ar nr cr]] w fun e w' => e = .returned (.bool (pvB s gi rs && oneB s n gi rs)) ∧ Below w.heap.size w w' := by
  have hx0 := pbox_new w s Ag n cg Ar nr cr 26
  have hb0 : Below w.heap.size w (w.alloc (.cells #[.int .i64 s, .slice Ag n cg, .slice Ar nr cr] 26)) := (Below.refl _ _).alloc (Nat.le_refl _) _
  have hs0 : w.heap.size < (w.alloc (.cells #[.int .i64 s, .slice Ag n cg, .slice Ar nr cr] 26)).heap.size := by simp
  obtain ⟨z0, z1, z2⟩ := id hx0
  have HV := Lib.hid (valid_any s Ag n cg Bg gi Ar nr cr Br rs _ (hp.below hb0))
  cases hv : pvB s gi rs
  · go_enter Tryd.func63, Tryd.ntmps63
    go_wp2_with (go_at_call 48; refine HV.out.mono ?_; rintro e w4 ⟨rfl, hb4⟩; rw [hv])
    go_ret
    exact ⟨rfl, step hb0 hb4⟩
  · have HC := Lib.hid (fun w' (hb : Below w.heap.size w w') => hasOne_any s Ag n cg Bg gi Ar nr cr Br rs w' (hp.below hb) hv (hT.below hT.lt hb))
    obtain ⟨o, ho⟩ : ∃ o, o = oneB s n gi rs := ⟨_, rfl⟩
    rw [← ho] at HC
    rw [← ho]
    clear ho hp hT
    go_enter Tryd.func63, Tryd.ntmps63
    go_wp2_with (first
      | (go_at_call 48; refine HV.out.mono ?_; rintro e w4 ⟨rfl, hb4⟩; rw [hv]; have h04 := step hb0 hb4; obtain ⟨y0, y1, y2⟩ := hx0.below hs0 hb4)
      | (go_at_call 99; refine (HC.out _ h04).mono ?_; rintro e w5 ⟨rfl, hb5⟩))
    go_ret
    exact ⟨by cases o <;> rfl, step h04 hb5⟩
def setL (gi cs : List Int) : Nat → List Int
  | 0 => gi
  | k + 1 => (setL gi cs k).set (nth cs k).toNat 0
theorem setL_length (gi cs : List Int) (k : Nat) : (setL gi cs k).length = gi.length := by
  induction k with
  | zero => rfl
  | succ k ih => simp [setL, ih]
theorem pv_setL {s : Int} {gi cs : List Int} {rs : List RuleM} (h : pvB s gi rs = true) (k : Nat) : pvB s (setL gi cs k) rs = true := by
  induction k with
  | zero => exact h
  | succ k ih => exact pv_put ih _
set_option maxHeartbeats 2000000 in
theorem without_any (s : Int) (Ag : Option Addr) (n cg Bg : Nat) (gi : List Int) (Ar : Option Addr) (nr cr : Nat) (Ac : Option Addr) (m cc Bc : Nat) (cs : List Int) (w : World) (hg : Rd w Bg Ag n gi) (hB : Bg ≤ w.heap.size) (hn : 0 < n) (hm : n ≤ 1099511627776) (hc : Rd w Bc Ac m cs) (hBc : Bc ≤ w.heap.size) (hmc : m ≤ 1099511627776) (hin : ∀ i, i < m → 0 ≤ nth cs i ∧ nth cs i < n) :
    Calls Tryd.prog 102 #[.agg #[.int .i64 s, .slice Ag n cg, .slice Ar nr cr], .slice Ac m cc] w fun e w' => ∃ A' c', e = .returned (.agg #[.int .i64 s, .slice A' n c', .slice Ar nr cr]) ∧ Ow w' w.heap.size A' n c' (setL gi cs m) ∧ Below w.heap.size w w' := by
  have hx0 := pbox_new w s Ag n cg Ar nr cr 26
  have hb0 : Below w.heap.size w (w.alloc (.cells #[.int .i64 s, .slice Ag n cg, .slice Ar nr cr] 26)) := (Below.refl _ _).alloc (Nat.le_refl _) _
  have hs0 : w.heap.size < (w.alloc (.cells #[.int .i64 s, .slice Ag n cg, .slice Ar nr cr] 26)).heap.size := by simp
  obtain ⟨V, hV⟩ : ∃ V, V = (w.alloc (.cells #[.int .i64 s, .slice Ag n cg, .slice Ar nr cr] 26)).alloc (.cells #[.int .i64 0, .slice none 0 0, .slice none 0 0] 26) := ⟨_, rfl⟩
  have hbV : Below w.heap.size w V := by rw [hV]; exact hb0.alloc hb0.size _
  have hsV : V.heap.size = w.heap.size + 1 + 1 := by rw [hV]; simp
  have hxV : PBox V w.heap.size s Ag n cg Ar nr cr := by
    rw [hV]
    exact hx0.below hs0 ((Below.refl _ _).alloc (Nat.le_refl _) _)
  have hrow : V.heap[w.heap.size + 1]? = some (.cells #[.int .i64 0, .slice none 0 0, .slice none 0 0] 26) := by rw [hV]; exact heap_alloc2_new w _ _
  have Hone := Lib.hid puz_one
  have Hi := Lib.hid puz_info
  have HCl := Lib.hid (clone_any Ag n cg Bg gi V (hg.below (hbV.mono hB)) (by omega) hn hm)
  have HCs := Lib.hid (fun (w' : World) (hb : Below V.heap.size V w') => (hc.below (hbV.mono hBc)).below (hb.mono (by omega)))
  have HX := Lib.hid (fun (w' : World) (hb : Below V.heap.size V w') => (⟨hxV.below (by omega) hb, (hb.block (w.heap.size + 1) (by omega)).trans hrow⟩ : PBox w' w.heap.size s Ag n cg Ar nr cr ∧ w'.heap[w.heap.size + 1]? = some (.cells #[.int .i64 0, .slice none 0 0, .slice none 0 0] 26)))
  have HV := Lib.hid hV
  obtain ⟨z0, z1, z2⟩ := id hxV
  have Hin := Lib.hid hin
  clear hV hx0 hb0 hs0 hg hc hxV hrow hin
  go_enter Tryd.func102, Tryd.ntmps102
  go_wp2_with fail
  rw [← HV.out]
  refine HCl.out.mono ?_
  rintro e w1 ⟨A1, c1, rfl, ho1, hb1⟩
  obtain ⟨gb, rfl, hlo, _⟩ := ho1.form hn
  clear z0 z1 z2 HCl
  go_wp2
  go_loopw [13] (fun i wr => ∃ k : Nat, k ≤ m ∧ i = .int .i64 k ∧ Ow wr V.heap.size (some ⟨gb, 0, none⟩) n c1 (setL gi cs k) ∧ Below V.heap.size V wr) (fun i _ => m - (intOf i).toNat)
  case atStart => exact ⟨0, Nat.zero_le _, rfl, ho1, hb1⟩
  case round =>
    obtain ⟨k, hk, rfl, ho, hb⟩ := hrel
    by_cases hlt : k < m
    · obtain ⟨b, off, rfl, hbB, hck⟩ := (HCs.out _ hb).at_ hlt
      obtain ⟨q0, q1⟩ := Hin.out k hlt
      obtain ⟨j, hj⟩ := Int.eq_ofNat_of_zero_le q0
      have Hset := Lib.hid (show setL gi cs (k + 1) = (setL gi cs k).set j 0 by rw [setL, hj]; rfl)
      rw [hj] at hck q1
      have hjn : j < n := by omega
      obtain ⟨hold, hfr⟩ := ho.cell hjn
      have Hst := Lib.hid ((World.ownsRow.stored ho j (.int .i64 0)).1)
      have Hbs := Lib.hid (hb.setCell (p := ⟨gb, j, none⟩) (show V.heap.size ≤ gb by omega) (.int .i64 0))
      clear hj ho hb q0
      go_wp2
      go_roundw
      case rel =>
        have h1 := Hst.out
        rw [vals_set] at h1
        exact ⟨k + 1, by omega, by go_num, by rw [Hset.out]; exact h1, Hbs.out⟩
      case measure => simp [intOf]; omega
    · obtain rfl : k = m := by omega
      obtain ⟨⟨y0, y1, y2⟩, hr⟩ := HX.out _ hb
      have Ho := Lib.hid ho
      have Hb := Lib.hid hb
      clear ho hb
      go_wp2_with (refine wpList_store_row rfl 26 _ _ rfl (w.heap.size + 1) #[.int .i64 s, .slice (some ⟨gb, 0, none⟩) n c1, .slice Ar nr cr] rfl rfl 26 #[.int .i64 0, .slice none 0 0, .slice none 0 0] hr (Hi.out _ _ _ _ _ _ _) rfl (Hone.out _ _ _ _ _ _ _) ?_)
      have hBe : Below w.heap.size w (wr.setRow (w.heap.size + 1) #[.int .i64 s, .slice (some ⟨gb, 0, none⟩) n c1, .slice Ar nr cr]) := setRow_below5 (hbV.trans (Hb.out.mono hbV.size)) (by omega)
      exact bodyPost_ret (v := .agg #[.int .i64 s, .slice (some ⟨gb, 0, none⟩) n c1, .slice Ar nr cr]) (results_cell_row (by rfl) _ _ (w.heap.size + 1) 26 _ (0, 0) _ rfl (setRow_heap _ _ _ _ _ _ hr) Tryd.underlying26 rfl (Hi.out _ _ _ _ _ _ _)) rfl ⟨_, _, rfl, (Ho.out.row5 (fun b hb => by have := Ho.out.own_lo b hb; omega)).mono (by omega), hBe⟩
/-- something is given in the cells, and without it there is one solution. -/
def redC (s : Int) (n : Nat) (gi : List Int) (rs : List RuleM) (cs : List Int) (m : Nat) : Bool := anyN (fun x => nth gi x.toNat != 0) cs m && oneB s n (setL gi cs m) rs
set_option maxHeartbeats 1000000 in
theorem redClo (s : Int) (Ag : Option Addr) (n cg Bg : Nat) (gi : List Int) (Ar : Option Addr) (nr cr PB : Nat) (x : Int) (w : World) (hx : PBox w PB s Ag n cg Ar nr cr) (hg : Rd w Bg Ag n gi) (h0 : 0 ≤ x) (h1 : x < n) :
    Calls Tryd.prog 101 #[.int .i64 x, .pointer (some ⟨PB, 0, none⟩)] w fun e w' => e = .returned (.bool (nth gi x.toNat != 0)) ∧ Below w.heap.size w w' := by
  obtain ⟨j, rfl⟩ := Int.eq_ofNat_of_zero_le h0
  have hj : j < n := by omega
  obtain ⟨b, off, rfl, hbB, hck⟩ := hg.at_ hj
  obtain ⟨z0, z1, z2⟩ := hx
  clear hg
  go_enter Tryd.func101, Tryd.ntmps101
  go_wp2
  go_ret
  exact ⟨by first | rfl | simp, Below.refl _ _⟩
set_option maxHeartbeats 2000000 in
theorem redundant_any (s : Int) (Ag : Option Addr) (n cg Bg : Nat) (gi : List Int) (Ar : Option Addr) (nr cr Br : Nat) (rs : List RuleM) (Ac : Option Addr) (m cc Bc : Nat) (cs : List Int) (w : World) (hp : PGc w s Ag n cg Bg gi Ar nr cr Br rs) (hv : pvB s gi rs = true) (hn : 0 < n) (hT : Tz w) (hc : Rd w Bc Ac m cs) (hBc : Bc ≤ w.heap.size) (hmc : m ≤ 1099511627776) (hin : ∀ i, i < m → 0 ≤ nth cs i ∧ nth cs i < n) :
    Calls Tryd.prog 64 #[.agg #[.int .i64 s, .slice Ag n cg, .slice Ar nr cr], .slice Ac m cc] w fun e w' => e = .returned (.bool (redC s n gi rs cs m)) ∧ Below w.heap.size w w' := by
  have hx0 := pbox_new w s Ag n cg Ar nr cr 26
  have hb0 : Below w.heap.size w (w.alloc (.cells #[.int .i64 s, .slice Ag n cg, .slice Ar nr cr] 26)) := (Below.refl _ _).alloc (Nat.le_refl _) _
  have hs0 : w.heap.size < (w.alloc (.cells #[.int .i64 s, .slice Ag n cg, .slice Ar nr cr] 26)).heap.size := by simp
  obtain ⟨V, hV⟩ : ∃ V, V = w.alloc (.cells #[.int .i64 s, .slice Ag n cg, .slice Ar nr cr] 26) := ⟨_, rfl⟩
  rw [← hV] at hx0 hb0 hs0
  have HClo : Hid (CloB 101 #[.pointer (some ⟨w.heap.size, 0, none⟩)] (fun x => nth gi x.toNat != 0) cs m V) := Lib.hid (fun W i hi hbW => redClo s Ag n cg Bg gi Ar nr cr w.heap.size (nth cs i) W (hx0.below hs0 hbW) ((hp.g.below (hb0.mono hp.gB)).below (hbW.mono (Nat.le_trans hp.gB hb0.size))) (hin i hi).1 (hin i hi).2)
  have HCF := Lib.hid (containsFunc_any Ac cc m Bc cs (fun x => nth gi x.toNat != 0) 101 #[.pointer (some ⟨w.heap.size, 0, none⟩)] (enters_of Tryd.func101 (by kernel_rfl) rfl) V (hc.below (hb0.mono hBc)) (Nat.le_trans hBc hb0.size) hmc HClo.out)
  have HW := Lib.hid (fun (w' : World) (hb : Below w.heap.size w w') => without_any s Ag n cg Bg gi Ar nr cr Ac m cc Bc cs w' (hp.below hb).g (hp.below hb).gB hn hp.gm (hc.below (hb.mono hBc)) (Nat.le_trans hBc hb.size) hmc hin)
  have HX := Lib.hid (fun (w' : World) (hb : Below V.heap.size V w') => hx0.below hs0 hb)
  have HO := Lib.hid (fun (w' : World) (hb : Below w.heap.size w w') (A' : Option Addr) (c' B' : Nat) (h : Rd w' B' A' n (setL gi cs m)) (hB' : B' ≤ w'.heap.size) => hasOne_any s A' n c' B' (setL gi cs m) Ar nr cr Br rs w' ⟨h, hB', hp.gm, (hp.below hb).r, (hp.below hb).rB, hp.rm⟩ (pv_setL hv m) (hT.below hT.lt hb))
  have hmf : ∀ (fn : Fn) (first cap : Array Value) (w : World), (Instr.makeFunc fn first cap).run Tryd.prog w = .ok (.func fn first cap) w := fun _ _ _ _ => rfl
  obtain ⟨z0, z1, z2⟩ := id hx0
  have HV := Lib.hid hV
  have Hb0 := Lib.hid hb0
  cases ha : anyN (fun x => nth gi x.toNat != 0) cs m
  · have HL := Lib.hid (show redC s n gi rs cs m = false by unfold redC; rw [ha]; rfl)
    rw [ha] at HCF
    clear hV hx0 hb0 hs0 hp hc hT ha hv hin HClo
    go_enter Tryd.func64, Tryd.ntmps64
    go_wp2_with (go_at_call 100; rw [← HV.out]; refine HCF.out.mono ?_; rintro e w1 ⟨rfl, hb1⟩)
    go_ret
    exact ⟨by rw [HL.out]; rfl, step Hb0.out hb1⟩
  · obtain ⟨o, ho⟩ : ∃ o, o = oneB s n (setL gi cs m) rs := ⟨_, rfl⟩
    have HL := Lib.hid (show redC s n gi rs cs m = o by unfold redC; rw [ha, ← ho]; rfl)
    rw [ha] at HCF
    rw [← ho] at HO
    clear hV hx0 hb0 hs0 hp hc hT ha ho hv hin HClo
    go_enter Tryd.func64, Tryd.ntmps64
    go_wp2_with (first
      | (go_at_call 100; rw [← HV.out]; refine HCF.out.mono ?_; rintro e w1 ⟨rfl, hb1⟩; have h01 := step Hb0.out hb1; obtain ⟨y0, y1, y2⟩ := HX.out _ hb1)
      | (go_at_call 102; refine (HW.out _ h01).mono ?_; rintro e w2 ⟨A2, c2, rfl, ho2, hb2⟩; have h02 := step h01 hb2)
      | (go_at_call 99; refine (HO.out _ h02 _ _ _ ho2.rd (Nat.le_refl _)).mono ?_; rintro e w3 ⟨rfl, hb3⟩; have h03 := step h02 hb3))
    go_ret
    exact ⟨by rw [HL.out]; cases o <;> rfl, h03⟩
set_option maxHeartbeats 2000000 in
theorem reducedBy_any (s : Int) (Ag : Option Addr) (n cg Bg : Nat) (gi : List Int) (Ar : Option Addr) (nr cr Br : Nat) (rs : List RuleM) (Ac : Option Addr) (m cc Bc : Nat) (cs : List Int) (w : World) (hp : PGc w s Ag n cg Bg gi Ar nr cr Br rs) (hv : pvB s gi rs = true) (hn : 0 < n) (hT : Tz w) (hc : Rd w Bc Ac m cs) (hBc : Bc ≤ w.heap.size) (hmc : m ≤ 1099511627776) (hin : ∀ i, i < m → 0 ≤ nth cs i ∧ nth cs i < n) :
    Calls Tryd.prog 68 #[.agg #[.int .i64 s, .slice Ag n cg, .slice Ar nr cr], .slice Ac m cc] w fun e w' => (∃ A' c', e = .returned (.agg #[.int .i64 s, .slice A' n c', .slice Ar nr cr]) ∧ ((redC s n gi rs cs m = false ∧ A' = Ag ∧ c' = cg) ∨ (redC s n gi rs cs m = true ∧ Ow w' w.heap.size A' n c' (setL gi cs m)))) ∧ Below w.heap.size w w' := by
  have hx0 := pbox_new w s Ag n cg Ar nr cr 26
  have hb0 : Below w.heap.size w (w.alloc (.cells #[.int .i64 s, .slice Ag n cg, .slice Ar nr cr] 26)) := (Below.refl _ _).alloc (Nat.le_refl _) _
  have hs0 : w.heap.size < (w.alloc (.cells #[.int .i64 s, .slice Ag n cg, .slice Ar nr cr] 26)).heap.size := by simp
  obtain ⟨V, hV⟩ : ∃ V, V = (w.alloc (.cells #[.int .i64 s, .slice Ag n cg, .slice Ar nr cr] 26)).alloc (.cells #[.int .i64 0, .slice none 0 0, .slice none 0 0] 26) := ⟨_, rfl⟩
  have hbV : Below w.heap.size w V := by rw [hV]; exact hb0.alloc hb0.size _
  have hsV : V.heap.size = w.heap.size + 1 + 1 := by rw [hV]; simp
  have hxV : PBox V w.heap.size s Ag n cg Ar nr cr := by
    rw [hV]
    exact hx0.below hs0 ((Below.refl _ _).alloc (Nat.le_refl _) _)
  have hrow0 : V.heap[w.heap.size]? = some (.cells #[.int .i64 s, .slice Ag n cg, .slice Ar nr cr] 26) := by rw [hV]; exact (Below.heap_alloc _ _ _ (by simp)).trans (heap_alloc_new w _)
  have hrow : V.heap[w.heap.size + 1]? = some (.cells #[.int .i64 0, .slice none 0 0, .slice none 0 0] 26) := by rw [hV]; exact heap_alloc2_new w _ _
  have Hone := Lib.hid puz_one
  have Hi := Lib.hid puz_info
  have HR := Lib.hid (redundant_any s Ag n cg Bg gi Ar nr cr Br rs Ac m cc Bc cs V (hp.below hbV) hv hn (hT.below hT.lt hbV) (hc.below (hbV.mono hBc)) (Nat.le_trans hBc hbV.size) hmc hin)
  have HW := Lib.hid (fun (w' : World) (hb : Below w.heap.size w w') => without_any s Ag n cg Bg gi Ar nr cr Ac m cc Bc cs w' (hp.below hb).g (hp.below hb).gB hn hp.gm (hc.below (hb.mono hBc)) (Nat.le_trans hBc hb.size) hmc hin)
  have HX := Lib.hid (fun (w' : World) (hb : Below V.heap.size V w') => (⟨hxV.below (by omega) hb, (hb.block (w.heap.size + 1) (by omega)).trans hrow⟩ : PBox w' w.heap.size s Ag n cg Ar nr cr ∧ w'.heap[w.heap.size + 1]? = some (.cells #[.int .i64 0, .slice none 0 0, .slice none 0 0] 26)))
  have HX0 := Lib.hid (fun (w' : World) (hb : Below V.heap.size V w') => (hb.block w.heap.size (by omega)).trans hrow0)
  have HV := Lib.hid hV
  have HbV := Lib.hid hbV
  obtain ⟨z0, z1, z2⟩ := id hxV
  cases hr : redC s n gi rs cs m
  · rw [hr] at HR
    clear hV hx0 hb0 hs0 hp hc hT hv hin hxV hrow hr hrow0 hbV
    go_enter Tryd.func68, Tryd.ntmps68
    go_wp2_with (first
      | (go_at_call 64; rw [← HV.out]; refine HR.out.mono ?_; rintro e w1 ⟨rfl, hb1⟩; obtain ⟨⟨y0, y1, y2⟩, hr1⟩ := HX.out _ hb1)
      | (refine wpList_store_row rfl 26 _ _ rfl (w.heap.size + 1) #[.int .i64 s, .slice Ag n cg, .slice Ar nr cr] rfl rfl 26 #[.int .i64 0, .slice none 0 0, .slice none 0 0] hr1 (Hi.out _ _ _ _ _ _ _) rfl (Hone.out _ _ _ _ _ _ _) ?_))
    have hBe : Below w.heap.size w (w1.setRow (w.heap.size + 1) #[.int .i64 s, .slice Ag n cg, .slice Ar nr cr]) := setRow_below5 (HbV.out.trans (hb1.mono HbV.out.size)) (by omega)
    exact bodyPost_ret (v := .agg #[.int .i64 s, .slice Ag n cg, .slice Ar nr cr]) (results_cell_row (by rfl) _ _ (w.heap.size + 1) 26 _ (0, 0) _ rfl (setRow_heap _ _ _ _ _ _ hr1) Tryd.underlying26 rfl (Hi.out _ _ _ _ _ _ _)) rfl ⟨⟨_, _, rfl, .inl ⟨by trivial, rfl, rfl⟩⟩, hBe⟩
  · rw [hr] at HR
    clear hV hx0 hb0 hs0 hp hc hT hv hin hxV hrow hr hrow0 hbV
    go_enter Tryd.func68, Tryd.ntmps68
    go_wp2_with (first
      | (go_at_call 64; rw [← HV.out]; refine HR.out.mono ?_; rintro e w1 ⟨rfl, hb1⟩; have h01 := HbV.out.trans (hb1.mono HbV.out.size); obtain ⟨⟨y0, y1, y2⟩, hr1⟩ := HX.out _ hb1)
      | (go_at_call 102; refine (HW.out _ h01).mono ?_; rintro e w2 ⟨A2, c2, rfl, ho2, hb2⟩; have hr2 := (HX.out _ (step hb1 hb2)).2)
      | (refine wpList_store_row rfl 26 _ _ rfl (w.heap.size + 1) #[.int .i64 s, .slice A2 n c2, .slice Ar nr cr] rfl rfl 26 #[.int .i64 0, .slice none 0 0, .slice none 0 0] hr2 (Hi.out _ _ _ _ _ _ _) rfl (Hone.out _ _ _ _ _ _ _) ?_))
    have h02 := step h01 hb2
    have hBe : Below w.heap.size w (w2.setRow (w.heap.size + 1) #[.int .i64 s, .slice A2 n c2, .slice Ar nr cr]) := setRow_below5 h02 (by omega)
    have hs1 := hb1.size
    exact bodyPost_ret (v := .agg #[.int .i64 s, .slice A2 n c2, .slice Ar nr cr]) (results_cell_row (by rfl) _ _ (w.heap.size + 1) 26 _ (0, 0) _ rfl (setRow_heap _ _ _ _ _ _ hr2) Tryd.underlying26 rfl (Hi.out _ _ _ _ _ _ _)) rfl ⟨⟨_, _, rfl, .inr ⟨by trivial, (ho2.row5 (fun b hb => by have := ho2.own_lo b hb; omega)).mono (by omega)⟩⟩, hBe⟩
theorem redC_one {s : Int} {n : Nat} {gi : List Int} {rs : List RuleM} {k : Nat} {cs : List Int} (hc : nth cs 0 = k) : redC s n gi rs cs 1 = ((nth gi k != 0) && oneB s n (gi.set k 0) rs) := by
  simp only [redC, anyN, setL, hc, Bool.false_or, Int.toNat_natCast]
theorem rd_one {w : World} {x : Int} : Rd (w.alloc (.cells #[.int .i64 x] 3)) (w.heap.size + 1) (some ⟨w.heap.size, 0, none⟩) 1 [x] := by
  refine ⟨rfl, fun _ => ⟨w.heap.size, 0, rfl, Nat.lt_succ_self _, fun k hk => ?_⟩⟩
  obtain rfl : k = 0 := by omega
  rw [cell_of_row _ _ 0 _ _ (0, 0) (heap_alloc_new w (.cells #[.int .i64 x] 3))]
  rfl
set_option maxHeartbeats 2000000 in
theorem implIsRedundant (s : Int) (Ag : Option Addr) (n cg Bg : Nat) (gi : List Int) (Ar : Option Addr) (nr cr Br : Nat) (rs : List RuleM) (i : Int) (w : World) (hp : PGc w s Ag n cg Bg gi Ar nr cr Br rs) (hT : Tz w) :
    Calls Tryd.prog 28 #[.agg #[.int .i64 s, .slice Ag n cg, .slice Ar nr cr], .int .i64 i] w fun e w' => e = .returned (.bool (redB s n gi rs i)) ∧ Below w.heap.size w w' := by
  have hx0 := pbox_new w s Ag n cg Ar nr cr 26
  have hb0 : Below w.heap.size w (w.alloc (.cells #[.int .i64 s, .slice Ag n cg, .slice Ar nr cr] 26)) := (Below.refl _ _).alloc (Nat.le_refl _) _
  have hs0 : w.heap.size < (w.alloc (.cells #[.int .i64 s, .slice Ag n cg, .slice Ar nr cr] 26)).heap.size := by simp
  obtain ⟨z0, z1, z2⟩ := id hx0
  have HM := Lib.hid (makeable_any s Ag n cg Bg gi Ar nr cr Br rs _ (hp.below hb0) (hT.below hT.lt hb0))
  have hgm := hp.gm
  cases hok : (pvB s gi rs && oneB s n gi rs)
  · have HL := Lib.hid (red_false (i := i) hok)
    rw [hok] at HM
    go_enter Tryd.func28, Tryd.ntmps28
    go_wp2_with (go_at_call 63; refine HM.out.mono ?_; rintro e w1 ⟨rfl, hb1⟩)
    go_ret
    exact ⟨by rw [HL.out]; rfl, step hb0 hb1⟩
  · rw [hok] at HM
    by_cases hlo : i < 0
    · have HL := Lib.hid (show redB s n gi rs i = false by
        have : inr i 0 ((n : Int) - 1) = false := by unfold inr; simp; omega
        simp [redB, givenB, this])
      have hge : ¬ 0 ≤ i := by omega
      go_enter Tryd.func28, Tryd.ntmps28
      go_wp2_with (go_at_call 63; refine HM.out.mono ?_; rintro e w1 ⟨rfl, hb1⟩; obtain ⟨y0, y1, y2⟩ := hx0.below hs0 hb1)
      go_ret
      exact ⟨by rw [HL.out]; rfl, step hb0 hb1⟩
    · by_cases hhi : (n : Int) ≤ i
      · have HL := Lib.hid (show redB s n gi rs i = false by
          have : inr i 0 ((n : Int) - 1) = false := by unfold inr; simp; omega
          simp [redB, givenB, this])
        have hge : 0 ≤ i := by omega
        have hlt : ¬ i < (n : Int) := by omega
        go_enter Tryd.func28, Tryd.ntmps28
        go_wp2_with (go_at_call 63; refine HM.out.mono ?_; rintro e w1 ⟨rfl, hb1⟩; obtain ⟨y0, y1, y2⟩ := hx0.below hs0 hb1)
        go_ret
        exact ⟨by rw [HL.out]; rfl, step hb0 hb1⟩
      · obtain ⟨k, rfl⟩ := Int.eq_ofNat_of_zero_le (show 0 ≤ i by omega)
        have hkn : k < n := by omega
        have hk0 : (0 : Int) ≤ (k : Int) := by omega
        have hkI : (k : Int) < (n : Int) := by omega
        rw [Bool.and_eq_true] at hok
        have HL := Lib.hid ((red_iff hp.g.1 hok.1 hok.2 hkn).trans (redC_one (s := s) (n := n) (gi := gi) (rs := rs) (k := k) (cs := [(k : Int)]) rfl).symm)
        have HR := Lib.hid (fun (w' : World) (hb : Below w.heap.size w w') (Ac : Option Addr) (Bc : Nat) (hc : Rd w' Bc Ac 1 [(k : Int)]) (hB : Bc ≤ w'.heap.size) => redundant_any s Ag n cg Bg gi Ar nr cr Br rs Ac 1 1 Bc [(k : Int)] w' (hp.below hb) hok.1 (by omega) (hT.below hT.lt hb) hc hB (by omega) (fun i hi => by
          obtain rfl : i = 0 := by omega
          exact ⟨hk0, hkI⟩))
        have hgl := hp.g.1
        obtain ⟨bb, hbb⟩ : ∃ bb, bb = redC s n gi rs [(k : Int)] 1 := ⟨_, rfl⟩
        rw [← hbb] at HL HR
        clear hok hp hT hbb hlo hhi
        go_enter Tryd.func28, Tryd.ntmps28
        go_wp2_with (first
          | (go_at_call 63; refine HM.out.mono ?_; rintro e w1 ⟨rfl, hb1⟩; have h01 := step hb0 hb1; obtain ⟨y0, y1, y2⟩ := hx0.below hs0 hb1)
          | (go_at_call 64; refine (HR.out _ (h01.alloc h01.size _) _ _ rd_one (by simp)).mono ?_; rintro e w2 ⟨rfl, hb2⟩; have h02 := step (h01.alloc h01.size _) hb2))
        go_ret
        exact ⟨by rw [HL.out]; cases bb <;> rfl, h02⟩
set_option maxHeartbeats 2000000 in
theorem implIsMinimal (s : Int) (Ag : Option Addr) (n cg Bg : Nat) (gi : List Int) (Ar : Option Addr) (nr cr Br : Nat) (rs : List RuleM) (w : World) (hp : PGc w s Ag n cg Bg gi Ar nr cr Br rs) (hT : Tz w) :
    Calls Tryd.prog 31 #[.agg #[.int .i64 s, .slice Ag n cg, .slice Ar nr cr]] w fun e w' => e = .returned (.bool (minB s n gi rs)) ∧ Below w.heap.size w w' := by
  have hx0 := pbox_new w s Ag n cg Ar nr cr 26
  have hb0 : Below w.heap.size w (w.alloc (.cells #[.int .i64 s, .slice Ag n cg, .slice Ar nr cr] 26)) := (Below.refl _ _).alloc (Nat.le_refl _) _
  have hs0 : w.heap.size < (w.alloc (.cells #[.int .i64 s, .slice Ag n cg, .slice Ar nr cr] 26)).heap.size := by simp
  obtain ⟨z0, z1, z2⟩ := id hx0
  have HM := Lib.hid (makeable_any s Ag n cg Bg gi Ar nr cr Br rs _ (hp.below hb0) (hT.below hT.lt hb0))
  have hgm := hp.gm
  cases hok : (pvB s gi rs && oneB s n gi rs)
  · have HL := Lib.hid (show minB s n gi rs = false by unfold minB; rw [hok]; rfl)
    rw [hok] at HM
    go_enter Tryd.func31, Tryd.ntmps31
    go_wp2_with (go_at_call 63; refine HM.out.mono ?_; rintro e w1 ⟨rfl, hb1⟩)
    go_ret
    exact ⟨by rw [HL.out]; rfl, step hb0 hb1⟩
  · rw [hok] at HM
    have HL := Lib.hid (show minB s n gi rs = !redTo s n gi rs n by unfold minB; rw [hok]; rfl)
    rw [Bool.and_eq_true] at hok
    have HRe := Lib.hid (fun (k : Nat) (hk : k < n) => (red_iff hp.g.1 hok.1 hok.2 hk).trans (redC_one (s := s) (n := n) (gi := gi) (rs := rs) (k := k) (cs := [(k : Int)]) rfl).symm)
    have HR := Lib.hid (fun (k : Nat) (hk : k < n) (w' : World) (hb : Below w.heap.size w w') (Ac : Option Addr) (Bc : Nat) (hc : Rd w' Bc Ac 1 [(k : Int)]) (hB : Bc ≤ w'.heap.size) => redundant_any s Ag n cg Bg gi Ar nr cr Br rs Ac 1 1 Bc [(k : Int)] w' (hp.below hb) hok.1 (by omega) (hT.below hT.lt hb) hc hB (by omega) (fun i hi => by
      obtain rfl : i = 0 := by omega
      show 0 ≤ (k : Int) ∧ (k : Int) < n
      omega))
    have HX := Lib.hid (fun (w' : World) (hb : Below (w.alloc (.cells #[.int .i64 s, .slice Ag n cg, .slice Ar nr cr] 26)).heap.size (w.alloc (.cells #[.int .i64 s, .slice Ag n cg, .slice Ar nr cr] 26)) w') => hx0.below hs0 hb)
    clear hok hp hT
    go_enter Tryd.func31, Tryd.ntmps31
    go_wp2_with (go_at_call 63; refine HM.out.mono ?_; rintro e w1 ⟨rfl, hb1⟩; have h01 := step hb0 hb1; obtain ⟨y0, y1, y2⟩ := HX.out _ hb1)
    go_loopw [10] (fun i wr => ∃ k : Nat, k ≤ n ∧ i = .int .i64 k ∧ Below w1.heap.size w1 wr ∧ Hid (redTo s n gi rs k = false)) (fun i _ => n - (intOf i).toNat)
    case atStart => exact ⟨0, Nat.zero_le _, rfl, Below.refl _ _, Lib.hid rfl⟩
    case round =>
      obtain ⟨k, hk, rfl, hR, hno⟩ := hrel
      obtain ⟨p0, p1, p2⟩ := HX.out _ (step hb1 hR)
      by_cases hlt : k < n
      · have h0k := step h01 hR
        have HC := Lib.hid (HR.out k hlt _ (h0k.alloc h0k.size (.cells #[.int .i64 (k : Int)] 3)) _ _ rd_one (by simp))
        have hba : Below w1.heap.size w1 (wr.alloc (.cells #[.int .i64 (k : Int)] 3)) := hR.alloc hR.size _
        cases hr : redC s n gi rs [(k : Int)] 1
        · rw [hr] at HC
          have Hn := Lib.hid (show redTo s n gi rs (k + 1) = false by simp only [redTo, hno.out, HRe.out k hlt, hr]; rfl)
          clear hr h0k
          go_wp2_with (go_at_call 64; refine HC.out.mono ?_; rintro e w2 ⟨rfl, hb2⟩; have hR2 := step hba hb2)
          go_roundw
          case rel => exact ⟨k + 1, by omega, by go_num, hR2, Hn⟩
          case measure => simp [intOf]; omega
        · rw [hr] at HC
          have Hn := Lib.hid (show redTo s n gi rs n = true from redTo_hit hlt (by rw [HRe.out k hlt, hr]))
          clear hr h0k
          go_wp2_with (go_at_call 64; refine HC.out.mono ?_; rintro e w2 ⟨rfl, hb2⟩; have hR2 := step hba hb2)
          go_ret
          exact ⟨by rw [HL.out, Hn.out]; rfl, step h01 hR2⟩
      · obtain rfl : k = n := by omega
        go_wp2
        go_ret
        exact ⟨by rw [HL.out, hno.out]; rfl, step h01 hR⟩
end Go.Proofs.YtkeoflnmbcdmfaaDoor
set_option maxRecDepth 8000
namespace Go.Proofs.YtkeoflnmbcdmfaaDoor
open Go.ChangeShapes Go.WideShapes Go.ChangeAt Go.RowKit
set_option maxHeartbeats 2000000 in
theorem specIsMinimal (s : Int) (Ag : Option Addr) (n cg Bg : Nat) (gi : List Int) (Ar : Option Addr) (nr cr Br : Nat) (rs : List RuleM) (w : World) (hp : PGs w s Ag n cg Bg gi Ar nr cr Br rs) :
    Calls Tryd.prog 32 #[.agg #[.int .i64 s, .slice Ag n cg, .slice Ar nr cr]] w fun e w' => e = .returned (.bool (minB s n gi rs)) ∧ Below w.heap.size w w' := by
  have hx0 := pbox_new w s Ag n cg Ar nr cr 26
  have hb0 : Below w.heap.size w (w.alloc (.cells #[.int .i64 s, .slice Ag n cg, .slice Ar nr cr] 26)) := (Below.refl _ _).alloc (Nat.le_refl _) _
  have hs0 : w.heap.size < (w.alloc (.cells #[.int .i64 s, .slice Ag n cg, .slice Ar nr cr] 26)).heap.size := by simp
  obtain ⟨z0, z1, z2⟩ := id hx0
  have HP := Lib.hid (fun w' (hb : Below w.heap.size w w') => specPuzzleValid s Ag n cg Bg gi Ar nr cr Br rs w' (hp.below hb).g (hp.below hb).gB hp.gm (hp.below hb).r (hp.below hb).rB hp.rm)
  have HO := Lib.hid (fun w' (hb : Below w.heap.size w w') => specOne s Ag n cg Bg gi Ar nr cr Br rs w' (hp.below hb))
  have HR := Lib.hid (fun (k : Nat) w' (hb : Below w.heap.size w w') => specIsRedundant s Ag n cg Bg gi Ar nr cr Br rs (k : Int) w' (hp.below hb))
  have HX := Lib.hid (fun (w' : World) (hb : Below (w.alloc (.cells #[.int .i64 s, .slice Ag n cg, .slice Ar nr cr] 26)).heap.size (w.alloc (.cells #[.int .i64 s, .slice Ag n cg, .slice Ar nr cr] 26)) w') => hx0.below hs0 hb)
  have hgm := hp.gm
  cases hv : pvB s gi rs
  · have HL := Lib.hid (show minB s n gi rs = false by unfold minB; rw [hv]; rfl)
    go_enter Tryd.func32, Tryd.ntmps32
    go_wp2_with (go_at_call 20; refine (HP.out _ hb0).mono ?_; rintro e w1 ⟨rfl, hb1⟩; rw [hv])
    go_ret
    exact ⟨by rw [HL.out]; rfl, step hb0 hb1⟩
  · cases ho : oneB s n gi rs
    · have HL := Lib.hid (show minB s n gi rs = false by unfold minB; rw [ho, Bool.and_false]; rfl)
      go_enter Tryd.func32, Tryd.ntmps32
      go_wp2_with (first
        | (go_at_call 20; refine (HP.out _ hb0).mono ?_; rintro e w1 ⟨rfl, hb1⟩; rw [hv]; have h01 := step hb0 hb1; obtain ⟨y0, y1, y2⟩ := HX.out _ hb1)
        | (go_at_call 65; refine (HO.out _ h01).mono ?_; rintro e w2 ⟨rfl, hb2⟩; rw [ho]))
      go_ret
      exact ⟨by rw [HL.out]; rfl, step h01 hb2⟩
    · have HL := Lib.hid (show minB s n gi rs = !redTo s n gi rs n by unfold minB; rw [hv, ho]; rfl)
      clear hp
      go_enter Tryd.func32, Tryd.ntmps32
      go_wp2_with (first
        | (go_at_call 20; refine (HP.out _ hb0).mono ?_; rintro e w1 ⟨rfl, hb1⟩; rw [hv]; have h01 := step hb0 hb1; obtain ⟨y0, y1, y2⟩ := HX.out _ hb1)
        | (go_at_call 65; refine (HO.out _ h01).mono ?_; rintro e w2 ⟨rfl, hb2⟩; rw [ho]; have h02 := step h01 hb2; have h12 := step hb1 hb2))
      go_loopw [3] (fun i wr => ∃ k : Nat, k ≤ n ∧ i = .int .i64 k ∧ Below w2.heap.size w2 wr ∧ Hid (redTo s n gi rs k = false)) (fun i _ => n - (intOf i).toNat)
      case atStart => exact ⟨0, Nat.zero_le _, rfl, Below.refl _ _, Lib.hid rfl⟩
      case round =>
        obtain ⟨k, hk, rfl, hR, hno⟩ := hrel
        obtain ⟨p0, p1, p2⟩ := HX.out _ (step h12 hR)
        by_cases hlt : k < n
        · have HC := Lib.hid (HR.out k _ (step h02 hR))
          cases hr : redB s n gi rs k
          · rw [hr] at HC
            have Hn := Lib.hid (show redTo s n gi rs (k + 1) = false by simp only [redTo, hno.out, hr]; rfl)
            clear hr
            go_wp2_with (go_at_call 29; refine HC.out.mono ?_; rintro e w3 ⟨rfl, hb3⟩; have hR3 := step hR hb3)
            go_roundw
            case rel => exact ⟨k + 1, by omega, by go_num, hR3, Hn⟩
            case measure => simp [intOf]; omega
          · rw [hr] at HC
            have Hn := Lib.hid (show redTo s n gi rs n = true from redTo_hit hlt hr)
            clear hr
            go_wp2_with (go_at_call 29; refine HC.out.mono ?_; rintro e w3 ⟨rfl, hb3⟩; have hR3 := step hR hb3)
            go_ret
            exact ⟨by rw [HL.out, Hn.out]; rfl, step h02 hR3⟩
        · obtain rfl : k = n := by omega
          go_wp2
          go_ret
          exact ⟨by rw [HL.out, hno.out]; rfl, step h02 hR⟩
end Go.Proofs.YtkeoflnmbcdmfaaDoor
set_option maxRecDepth 8000
namespace Go.Proofs.YtkeoflnmbcdmfaaDoor
open Go.ChangeShapes Go.WideShapes Go.ChangeAt Go.RowKit

end Go.Proofs.YtkeoflnmbcdmfaaDoor
set_option maxRecDepth 8000
namespace Go.Proofs.YtkeoflnmbcdmfaaDoor
open Go.ChangeShapes Go.WideShapes Go.ChangeAt Go.RowKit

set_option maxHeartbeats 1000000 in
theorem toRule_any (k : Int) (A : Option Addr) (n c B : Nat) (xs : List Int) (v : Int) (w : World) (h : Rd w B A n xs) (hB : B ≤ w.heap.size) (hm : n ≤ 1099511627776) :
    Calls Tryd.prog 97 #[.agg #[.int .i64 k, .slice A n c, .int .i64 v]] w fun e w' => ∃ A', e = .returned (.agg #[.int .i64 k, .slice A' n n, .int .i64 v]) ∧ Ow w' w.heap.size A' n n xs ∧ Below w.heap.size w w' := by
  have Hone := Lib.hid rule_one
  have Hi := Lib.hid rule_info
  have hx0 := rbox_new w k A n c v 105
  have hb0 : Below w.heap.size w (w.alloc (.cells #[.int .i64 k, .slice A n c, .int .i64 v] 105)) := (Below.refl _ _).alloc (Nat.le_refl _) _
  have hs0 : w.heap.size < (w.alloc (.cells #[.int .i64 k, .slice A n c, .int .i64 v] 105)).heap.size := by simp
  obtain ⟨V, hV⟩ : ∃ V, V = ((w.alloc (.cells #[.int .i64 k, .slice A n c, .int .i64 v] 105)).alloc (.cells #[.int .i64 0, .slice none 0 0, .int .i64 0] 63)).alloc (.cells #[.int .i64 k, .slice none 0 0, .int .i64 0] 63) := ⟨_, rfl⟩
  have hb1 : Below w.heap.size w ((w.alloc (.cells #[.int .i64 k, .slice A n c, .int .i64 v] 105)).alloc (.cells #[.int .i64 0, .slice none 0 0, .int .i64 0] 63)) := hb0.alloc hb0.size _
  have hbV : Below w.heap.size w V := by rw [hV]; exact hb1.alloc hb1.size _
  have hsV : V.heap.size = w.heap.size + 1 + 1 + 1 := by rw [hV]; simp
  have hv2 : V.heap[w.heap.size + 1 + 1]? = some (.cells #[.int .i64 k, .slice none 0 0, .int .i64 0] 63) := by
    have := heap_alloc2_new (w.alloc (.cells #[.int .i64 k, .slice A n c, .int .i64 v] 105)) (.cells #[.int .i64 0, .slice none 0 0, .int .i64 0] 63) (.cells #[.int .i64 k, .slice none 0 0, .int .i64 0] 63)
    rw [World.size_alloc] at this
    rw [hV]
    exact this
  have hv1 : V.heap[w.heap.size + 1]? = some (.cells #[.int .i64 0, .slice none 0 0, .int .i64 0] 63) := by
    have := heap_alloc2_old (w.alloc (.cells #[.int .i64 k, .slice A n c, .int .i64 v] 105)) (.cells #[.int .i64 0, .slice none 0 0, .int .i64 0] 63) (.cells #[.int .i64 k, .slice none 0 0, .int .i64 0] 63)
    rw [World.size_alloc] at this
    rw [hV]
    exact this
  have hx1 : RBox V w.heap.size k A n c v := by
    rw [hV]
    refine hx0.below hs0 ?_
    have e : (w.alloc (.cells #[.int .i64 k, .slice A n c, .int .i64 v] 105)).heap.size = w.heap.size + 1 := by simp
    rw [e]
    have b1 : Below (w.heap.size + 1) (w.alloc (.cells #[.int .i64 k, .slice A n c, .int .i64 v] 105)) ((w.alloc (.cells #[.int .i64 k, .slice A n c, .int .i64 v] 105)).alloc (.cells #[.int .i64 0, .slice none 0 0, .int .i64 0] 63)) := (Below.refl _ _).alloc (Nat.le_of_eq e.symm) _
    exact b1.alloc (by simp) _
  obtain ⟨k0, k1, k2⟩ := id hx1
  have hR := h.below (hbV.mono hB)
  have hBV : B ≤ V.heap.size := by omega
  have hwV : w.heap.size ≤ V.heap.size := by omega
  have hwV0 : w.heap.size < V.heap.size := by omega
  have hwV1 : w.heap.size + 1 < V.heap.size := by omega
  have hwV2 : w.heap.size + 1 + 1 < V.heap.size := by omega
  have hne02 : w.heap.size + 1 + 1 ≠ w.heap.size := by omega
  have hne12 : w.heap.size + 1 ≠ w.heap.size + 1 + 1 := by omega
  have HV := Lib.hid hV
  have HsV := Lib.hid hsV
  clear hV hsV
  go_enter Tryd.func97, Tryd.ntmps97
  go_wp2_with (first
    | (go_at_call 58; (rw [← HV.out]); refine (toIntS_any _ _ _ _ _ _ hR hBV hm).mono ?_; rintro e w1 ⟨rfl, ho1, hbw1⟩; have f1 := (hbw1.block (w.heap.size + 1) hwV1).trans hv1; have f2 := (hbw1.block (w.heap.size + 1 + 1) hwV2).trans hv2; obtain ⟨j0, j1, j2⟩ := hx1.below hwV0 hbw1; have g1 := (heap_setCell_other w1 ⟨w.heap.size + 1 + 1, 1, none⟩ (w.heap.size + 1) (.slice (some ⟨V.heap.size, 0, none⟩) n n) hne12).trans f1; have g2 := heap_setCell_same w1 (w.heap.size + 1 + 1) 1 _ _ (.slice (some ⟨V.heap.size, 0, none⟩) n n) f2; have fz := frozen_of_row w1 (w.heap.size + 1 + 1) 1 _ _ f2; have m0 : w1.cell? ⟨w.heap.size + 1 + 1, 0, none⟩ = some (.int .i64 k) := cell_of_row _ _ 0 _ _ (0, 0) f2; have m1 : w1.cell? ⟨w.heap.size + 1 + 1, 1, none⟩ = some (.slice none 0 0) := cell_of_row _ _ 1 _ _ (0, 0) f2; have m2 : w1.cell? ⟨w.heap.size + 1 + 1, 2, none⟩ = some (.int .i64 0) := cell_of_row _ _ 2 _ _ (0, 0) f2; have n2 : (w1.setCell ⟨w.heap.size + 1 + 1, 1, none⟩ (.slice (some ⟨V.heap.size, 0, none⟩) n n)).cell? ⟨w.heap.size + 1 + 1, 2, none⟩ = some (.int .i64 0) := cell_of_row _ _ 2 _ _ (0, 0) g2; have fz2 := frozen_of_row (w1.setCell ⟨w.heap.size + 1 + 1, 1, none⟩ (.slice (some ⟨V.heap.size, 0, none⟩) n n)) (w.heap.size + 1 + 1) 2 _ _ g2; have l0 : (w1.setCell ⟨w.heap.size + 1 + 1, 1, none⟩ (.slice (some ⟨V.heap.size, 0, none⟩) n n)).cell? ⟨w.heap.size, 2, none⟩ = some (.int .i64 v) := (World.cell?_setCell_far w1 ⟨w.heap.size + 1 + 1, 1, none⟩ ⟨w.heap.size, 2, none⟩ _ hne02).trans j2; have r1 := (heap_setCell_other (w1.setCell ⟨w.heap.size + 1 + 1, 1, none⟩ (.slice (some ⟨V.heap.size, 0, none⟩) n n)) ⟨w.heap.size + 1 + 1, 2, none⟩ (w.heap.size + 1) (.int .i64 v) hne12).trans g1; have r2 := heap_setCell_same (w1.setCell ⟨w.heap.size + 1 + 1, 1, none⟩ (.slice (some ⟨V.heap.size, 0, none⟩) n n)) (w.heap.size + 1 + 1) 2 _ _ (.int .i64 v) g2)
    | ((refine wpList_load_row rfl 63 _ rfl (w.heap.size + 1 + 1) rfl 63 #[.int .i64 k, .slice (some ⟨V.heap.size, 0, none⟩) n n, .int .i64 v] (0, 0) _ r2 Tryd.underlying63 rfl (Hi.out _ _ _ _ _) ?_))
    | ((refine wpList_store_row rfl 63 _ _ rfl (w.heap.size + 1) #[.int .i64 k, .slice (some ⟨V.heap.size, 0, none⟩) n n, .int .i64 v] rfl rfl 63 #[.int .i64 0, .slice none 0 0, .int .i64 0] r1 (Hi.out _ _ _ _ _) rfl (Hone.out _ _ _ _ _) ?_)))
  have hbw2 : Below w.heap.size w w1 := hbV.trans (hbw1.mono hwV)
  have hB2 : Below w.heap.size w (((w1.setCell ⟨w.heap.size + 1 + 1, 1, none⟩ (.slice (some ⟨V.heap.size, 0, none⟩) n n)).setCell ⟨w.heap.size + 1 + 1, 2, none⟩ (.int .i64 v)).setRow (w.heap.size + 1) #[.int .i64 k, .slice (some ⟨V.heap.size, 0, none⟩) n n, .int .i64 v]) := setRow_below5 ((hbw2.setCell (show w.heap.size ≤ w.heap.size + 1 + 1 by omega) _).setCell (show w.heap.size ≤ w.heap.size + 1 + 1 by omega) _) (by omega)
  have hlo1 := ho1.own_lo
  have HsV' := HsV.out
  have ho2 : Ow (w1.setCell ⟨w.heap.size + 1 + 1, 1, none⟩ (.slice (some ⟨V.heap.size, 0, none⟩) n n)) V.heap.size (some ⟨V.heap.size, 0, none⟩) n n xs := ho1.far (row := some (w.heap.size + 1 + 1)) grown_set (fun b hb e => by have := hlo1 b hb; injection e with e; omega)
  have ho3 : Ow ((w1.setCell ⟨w.heap.size + 1 + 1, 1, none⟩ (.slice (some ⟨V.heap.size, 0, none⟩) n n)).setCell ⟨w.heap.size + 1 + 1, 2, none⟩ (.int .i64 v)) V.heap.size (some ⟨V.heap.size, 0, none⟩) n n xs := ho2.far (row := some (w.heap.size + 1 + 1)) grown_set (fun b hb e => by have := hlo1 b hb; injection e with e; omega)
  refine bodyPost_ret (v := .agg #[.int .i64 k, .slice (some ⟨V.heap.size, 0, none⟩) n n, .int .i64 v]) (results_cell_row (by rfl) _ _ (w.heap.size + 1) 63 _ (0, 0) _ rfl (setRow_heap _ _ _ _ _ _ r1) Tryd.underlying63 rfl (Hi.out _ _ _ _ _)) rfl ⟨_, rfl, (ho3.row5 (fun b hb => ?_)).mono (by omega), hB2⟩
  have := hlo1 b hb
  omega
theorem eqRule_any (A A' : Option Addr) (c c' n n' B B' : Nat) (xs ys : List Int) (k v k' v' : Int) (w : World) (h : Rd w B A n xs) (h' : Rd w B' A' n' ys) (hB : B ≤ w.heap.size) (hB' : B' ≤ w.heap.size) (hm : n ≤ 1099511627776) (hk : k = k') (hv : v = v') (he : xs = ys) :
    Calls Tryd.prog 98 #[.agg #[.int .i64 k, .slice A n c, .int .i64 v], .agg #[.int .i64 k', .slice A' n' c', .int .i64 v']] w fun e w' => e = .returned (.bool true) ∧ Below w.heap.size w w' := by
  subst hk hv he
  have hx := rbox_new w k A n c v 63
  have hb0 : Below w.heap.size w (w.alloc (.cells #[.int .i64 k, .slice A n c, .int .i64 v] 63)) := (Below.refl _ _).alloc (Nat.le_refl _) _
  have hs0 : w.heap.size < (w.alloc (.cells #[.int .i64 k, .slice A n c, .int .i64 v] 63)).heap.size := by simp
  have hx2 := rbox_new (w.alloc (.cells #[.int .i64 k, .slice A n c, .int .i64 v] 63)) k A' n' c' v 63
  have hb1 : Below w.heap.size w ((w.alloc (.cells #[.int .i64 k, .slice A n c, .int .i64 v] 63)).alloc (.cells #[.int .i64 k, .slice A' n' c', .int .i64 v] 63)) := hb0.alloc hb0.size _
  have hx1 := hx.below hs0 ((Below.refl _ _).alloc (Nat.le_refl _) (.cells #[.int .i64 k, .slice A' n' c', .int .i64 v] 63))
  rw [World.size_alloc] at hx2
  have hs1 : w.heap.size < ((w.alloc (.cells #[.int .i64 k, .slice A n c, .int .i64 v] 63)).alloc (.cells #[.int .i64 k, .slice A' n' c', .int .i64 v] 63)).heap.size := by simp; omega
  have hs2 : w.heap.size + 1 < ((w.alloc (.cells #[.int .i64 k, .slice A n c, .int .i64 v] 63)).alloc (.cells #[.int .i64 k, .slice A' n' c', .int .i64 v] 63)).heap.size := by simp
  obtain ⟨a0, a1, a2⟩ := id hx1
  obtain ⟨b0, b1, b2⟩ := id hx2
  have hkk : (k != k) = false := by simp
  have hvv : (v != v) = false := by simp
  have hC : Hid (Calls Tryd.prog 60 #[.slice A n c, .slice A' n' c'] ((w.alloc (.cells #[.int .i64 k, .slice A n c, .int .i64 v] 63)).alloc (.cells #[.int .i64 k, .slice A' n' c', .int .i64 v] 63)) fun e w' => e = .returned (.bool (same xs xs)) ∧ Below ((w.alloc (.cells #[.int .i64 k, .slice A n c, .int .i64 v] 63)).alloc (.cells #[.int .i64 k, .slice A' n' c', .int .i64 v] 63)).heap.size ((w.alloc (.cells #[.int .i64 k, .slice A n c, .int .i64 v] 63)).alloc (.cells #[.int .i64 k, .slice A' n' c', .int .i64 v] 63)) w') :=
    Lib.hid (eqIntS_any _ _ _ _ _ _ _ _ _ _ _ (h.below (hb1.mono hB)) (h'.below (hb1.mono hB')) hm)
  have hsame := same_refl xs
  go_enter Tryd.func98, Tryd.ntmps98
  go_wp2_with (go_at_call 60; refine hC.out.mono ?_; rintro e w2 ⟨rfl, hb2⟩; rw [hsame]; obtain ⟨d0, d1, d2⟩ := hx1.below hs1 hb2; obtain ⟨e0, e1, e2⟩ := hx2.below hs2 hb2)
  go_ret
  exact ⟨rfl, step hb1 hb2⟩
theorem szIntS_any (A : Option Addr) (c n : Nat) (l : Int) (w : World) (hm : n ≤ 9223372036854775807) (h0 : 0 ≤ l) (h1 : l ≤ 1099511627776) :
    Calls Tryd.prog 55 #[.slice A n c, .int .i64 l] w fun e w' => e = .returned (.int .i64 (if (n : Int) ≤ l then l - n else -1)) ∧ w = w' := by
  have e1 : wrap64 (l - n) = l - n := IntWalk.wrap64_in _ ⟨by omega, by omega⟩
  by_cases hn : (n : Int) ≤ l
  · go_enter Tryd.func55, Tryd.ntmps55
    go_wp2
    go_ret
    exact ⟨rfl, rfl⟩
  · go_enter Tryd.func55, Tryd.ntmps55
    go_wp2
    go_ret
    exact ⟨rfl, rfl⟩
theorem szRule_any (A : Option Addr) (c n : Nat) (k v l : Int) (w : World) (hm : n ≤ 9223372036854775807) (h0 : 0 ≤ l) (h1 : l ≤ 1099511627776) :
    Calls Tryd.prog 96 #[.agg #[.int .i64 k, .slice A n c, .int .i64 v], .int .i64 l] w fun e w' => e = .returned (.int .i64 (if (n : Int) ≤ l then l - n else -1)) ∧ Below w.heap.size w w' := by
  have hx := rbox_new w k A n c v 105
  have hb0 : Below w.heap.size w (w.alloc (.cells #[.int .i64 k, .slice A n c, .int .i64 v] 105)) := (Below.refl _ _).alloc (Nat.le_refl _) _
  obtain ⟨a0, a1, a2⟩ := id hx
  obtain ⟨r, hr⟩ : ∃ r, r = (if (n : Int) ≤ l then l - (n : Int) else -1) := ⟨_, rfl⟩
  have HC := Lib.hid (fun w => szIntS_any A c n l w hm h0 h1)
  rw [← hr] at HC ⊢
  by_cases hr0 : r < 0
  · have hr1 : r = -1 := by rw [hr] at hr0 ⊢; split at hr0 <;> omega
    have HR := Lib.hid hr1
    clear hr hr1
    go_enter Tryd.func96, Tryd.ntmps96
    go_wp2_with (go_at_call 55; refine (HC.out _).mono ?_; rintro e w2 ⟨rfl, rfl⟩)
    go_ret
    exact ⟨by rw [HR.out]; rfl, hb0⟩
  · clear hr
    go_enter Tryd.func96, Tryd.ntmps96
    go_wp2_with (go_at_call 55; refine (HC.out _).mono ?_; rintro e w2 ⟨rfl, rfl⟩)
    go_ret
    exact ⟨rfl, hb0⟩
end Go.Proofs.YtkeoflnmbcdmfaaDoor
set_option maxRecDepth 8000
namespace Go.Proofs.YtkeoflnmbcdmfaaDoor
open Go.ChangeShapes Go.WideShapes Go.ChangeAt Go.RowKit

theorem row_max {k : IntKind} {w : World} {a : Option Addr} {len cap : Nat} {zs : List Int} (h : IsRow k w a len cap zs) : len ≤ 9223372036854775807 := by
  rcases h with ⟨rfl, rfl, rfl, rfl⟩ | ⟨x, rfl, hl, hm, _⟩
  · omega
  · simp only [maxLen] at hm; omega
theorem below_undrew {w w2 : World} (h : Below w.drew.heap.size w.drew w2) : Below w.heap.size w w2 := ⟨h.os, h.tape, h.output, h.size, h.block⟩
theorem szRule_big (A : Option Addr) (c n : Nat) (k v : Int) (w : World) (hn : ¬ n ≤ 1048576) (hm : n ≤ 9223372036854775807) :
    Calls Tryd.prog 96 #[.agg #[.int .i64 k, .slice A n c, .int .i64 v], .int .i64 1048576] w fun e w' => e = .returned (.int .i64 (-1)) ∧ Below w.heap.size w w' := by
  refine (szRule_any A c n k v 1048576 w hm (by omega) (by omega)).mono ?_
  rintro e w' ⟨rfl, hb⟩
  exact ⟨by rw [if_neg (by omega)], hb⟩
end Go.Proofs.YtkeoflnmbcdmfaaDoor
set_option maxRecDepth 8000
namespace Go.Proofs.YtkeoflnmbcdmfaaDoor
open Go.ChangeShapes Go.WideShapes Go.ChangeAt Go.RowKit

def DrawnRule (w : World) (e : Ending) (w' : World) : Prop :=
  ∃ (k : Int) (A : Option Addr) (n c : Nat) (v : Int) (xs : List Int) (s : Int), e = .returned (.tuple #[.agg #[.int .i64 k, .slice A n c, .int .i64 v], .int .i64 s]) ∧ Ow w' w.heap.size A n c xs ∧ n ≤ 5 ∧ -1 ≤ s ∧ s ≤ 5 ∧ Below w.heap.size w w'
end Go.Proofs.YtkeoflnmbcdmfaaDoor
set_option maxRecDepth 8000
namespace Go.Proofs.YtkeoflnmbcdmfaaDoor
open Go.ChangeShapes Go.WideShapes Go.ChangeAt Go.RowKit
theorem all_f {o r q : Bool} (h : false = (o && !r)) : false = (o && !(r || q)) := by cases o <;> cases r <;> cases q <;> first | rfl | cases h
theorem all_t {o r q : Bool} (h : true = (o && !r)) : (!q) = (o && !(r || q)) := by cases o <;> cases r <;> cases q <;> first | rfl | cases h
set_option maxHeartbeats 4000000 in
theorem isMinimal_walk (A : Option Addr) (c n : Nat) (bs : List Int) (w : World) (h : Code_ w A n c bs) (hT : Tz w) :
    Calls Tryd.prog 6 #[.slice A n c] w fun e w' => e = .returned (.bool true) ∧ Below w.heap.size w w' := by
  by_cases hn : n ≤ 1048576
  · go_enter Tryd.func6, Tryd.ntmps6
    go_wp2_with fail
    refine (draw_DrawIsMinimal _ _ _ _ _ h).mono ?_
    rintro e w1 ⟨s, A1, n1, c1, gi, A2, nr, c2, rs, rfl, s2, s4, hrd, hn16, hR, hl, hnr, hb1⟩
    have hx0 := pbox_new w1 s A1 n1 c1 A2 nr c2 26
    have hbA : Below w1.heap.size w1 (w1.alloc (.cells #[.int .i64 s, .slice A1 n1 c1, .slice A2 nr c2] 26)) := (Below.refl _ _).alloc (Nat.le_refl _) _
    have hpc0 : PGc w1 s A1 n1 c1 w1.heap.size gi A2 nr c2 w1.heap.size rs := ⟨hrd, Nat.le_refl _, by omega, hR.rdc hl, Nat.le_refl _, by omega⟩
    have hpcA := hpc0.below hbA
    have hsA : w1.heap.size < (w1.alloc (.cells #[.int .i64 s, .slice A1 n1 c1, .slice A2 nr c2] 26)).heap.size := by simp
    obtain ⟨W, hW⟩ : ∃ W, w1.alloc (.cells #[.int .i64 s, .slice A1 n1 c1, .slice A2 nr c2] 26) = W := ⟨_, rfl⟩
    rw [hW] at hx0 hbA hpcA hsA
    have hb0W : Below w.heap.size w W := step hb1 hbA
    have HX := Lib.hid (fun w' (hb : Below W.heap.size W w') => hx0.below (by omega : w1.heap.size < W.heap.size) hb)
    have HTz := Lib.hid (fun w' (hb : Below W.heap.size W w') => hT.below hT.lt (step hb0W hb))
    have HB := Lib.hid (fun w' (hb : Below W.heap.size W w') => step hb0W hb)
    have hgl := hrd.1
    have HI := Lib.hid (implIsMinimal _ _ _ _ _ _ _ _ _ _ _ _ hpcA (HTz.out _ (Below.refl _ _)))
    have HS := Lib.hid (fun w' (hb : Below W.heap.size W w') => specIsMinimal _ _ _ _ _ _ _ _ _ _ _ _ (hpcA.below hb).rd)
    have HPV := Lib.hid (fun w' (hb : Below W.heap.size W w') => specPuzzleValid s A1 n1 c1 w1.heap.size gi A2 nr c2 w1.heap.size rs w' (hpcA.below hb).rd.g (hpcA.below hb).rd.gB (hpcA.below hb).rd.gm (hpcA.below hb).rd.r (hpcA.below hb).rd.rB (hpcA.below hb).rd.rm)
    have HC := Lib.hid (fun w' (hb : Below W.heap.size W w') => implCountSolutions s A1 n1 c1 w1.heap.size gi A2 nr c2 w1.heap.size rs 2 w' (hpcA.below hb) (HTz.out _ hb))
    have HR := Lib.hid (fun (k : Nat) w' (hb : Below W.heap.size W w') => implIsRedundant s A1 n1 c1 w1.heap.size gi A2 nr c2 w1.heap.size rs (k : Int) w' (hpcA.below hb) (HTz.out _ hb))
    have HW := Lib.hid hW
    obtain ⟨z0, z1, z2⟩ := id hx0
    clear hW hpc0 hpcA hbA hx0 hR hrd h hT
    obtain ⟨mb, hmb⟩ : ∃ b, b = minB s n1 gi rs := ⟨_, rfl⟩
    rw [← hmb] at HI HS
    have hne : (mb != mb) = false := by simp
    cases hv : pvB s gi rs
    · obtain rfl : mb = false := by rw [hmb]; unfold minB; rw [hv]; rfl
      clear hmb
      go_wp2_with (first
        | (go_at_call 31; rw [HW.out]; refine HI.out.mono ?_; rintro e w2 ⟨rfl, hb2⟩; obtain ⟨y0, y1, y2⟩ := HX.out _ hb2)
        | (go_at_call 32; refine (HS.out _ hb2).mono ?_; rintro e w3 ⟨rfl, hb3⟩; have h23 := step hb2 hb3; obtain ⟨v0, v1, v2⟩ := HX.out _ h23)
        | (go_at_call 20; refine (HPV.out _ h23).mono ?_; rintro e w5 ⟨rfl, hb5⟩; rw [hv]; have h25 := step h23 hb5)
        | (go_at_call 21; (with_reducible refine (alive_any _).mono ?_); rintro e w6 ⟨rfl, hb6⟩))
      go_ret
      exact ⟨rfl, HB.out _ (step h25 hb6)⟩
    · have hc1 := one_cs (n := n1) hv
      obtain ⟨q, hq⟩ : ∃ q, q = csI s n1 gi rs 2 := ⟨_, rfl⟩
      obtain ⟨o, ho⟩ : ∃ o, o = oneB s n1 gi rs := ⟨_, rfl⟩
      rw [← hq] at HC hc1
      rw [← ho] at hc1
      have HM := Lib.hid (show mb = (o && !redTo s n1 gi rs n1) by rw [hmb, ho]; unfold minB; rw [hv]; rfl)
      clear hmb hq ho
      go_wp2_with (first
        | (go_at_call 31; rw [HW.out]; refine HI.out.mono ?_; rintro e w2 ⟨rfl, hb2⟩; obtain ⟨y0, y1, y2⟩ := HX.out _ hb2)
        | (go_at_call 32; refine (HS.out _ hb2).mono ?_; rintro e w3 ⟨rfl, hb3⟩; have h23 := step hb2 hb3; obtain ⟨v0, v1, v2⟩ := HX.out _ h23)
        | (go_at_call 20; refine (HPV.out _ h23).mono ?_; rintro e w5 ⟨rfl, hb5⟩; rw [hv]; have h25 := step h23 hb5; obtain ⟨u0, u1, u2⟩ := HX.out _ h25)
        | (go_at_call 22; refine (HC.out _ h25).mono ?_; rintro e w6 ⟨rfl, hb6⟩; have h26 := step h25 hb6))
      go_loopw [5, 6] (fun a i wr => ∃ k : Nat, k ≤ n1 ∧ i = .int .i64 k ∧ (∃ ab, a = .bool ab ∧ Hid (ab = (o && !redTo s n1 gi rs k))) ∧ Below W.heap.size W wr) (fun _ i _ => n1 - (intOf i).toNat)
      case atStart => exact ⟨0, Nat.zero_le _, rfl, ⟨_, rfl, Lib.hid (by first | (rw [hc1]; cases o <;> rfl) | (cases o <;> rfl))⟩, h26⟩
      case round =>
        obtain ⟨k, hk, rfl, ⟨ab, rfl, hab⟩, hR⟩ := hrel
        obtain ⟨p0, p1, p2⟩ := HX.out _ hR
        by_cases hlt : k < n1
        · have HRk := Lib.hid (HR.out k _ hR)
          obtain ⟨r, hr⟩ : ∃ r, r = redB s n1 gi rs k := ⟨_, rfl⟩
          rw [← hr] at HRk
          cases ab
          · have Hn := Lib.hid (show false = (o && !redTo s n1 gi rs (k + 1)) from all_f hab.out)
            clear hr
            go_wp2
            go_roundw
            case rel => exact ⟨k + 1, by omega, by go_num, ⟨_, rfl, Hn⟩, hR⟩
            case measure => simp [intOf]; omega
          · have Hn := Lib.hid (show (!r) = (o && !redTo s n1 gi rs (k + 1)) by rw [hr]; exact all_t hab.out)
            clear hr
            go_wp2_with (go_at_call 28; refine HRk.out.mono ?_; rintro e w7 ⟨rfl, hb7⟩; have hR7 := step hR hb7)
            go_roundw
            case rel => exact ⟨k + 1, by omega, by go_num, ⟨_, rfl, Hn⟩, hR7⟩
            case measure => simp [intOf]; omega
        · obtain rfl : k = n1 := by omega
          have he : (mb == ab) = true := by rw [HM.out, hab.out]; simp
          go_wp2
          go_ret
          exact ⟨by trivial, HB.out _ hR⟩
  · go_enter Tryd.func6, Tryd.ntmps6
    go_wp2
    go_ret
    exact ⟨rfl, Below.refl _ _⟩
end Go.Proofs.YtkeoflnmbcdmfaaDoor
set_option maxRecDepth 8000
namespace Go.Proofs.YtkeoflnmbcdmfaaDoor
open Go.ChangeShapes Go.WideShapes Go.ChangeAt Go.RowKit
theorem hgr_belowR {N : Nat} {X Y : World} (h : X.grownBy Y (some N)) (_hN : N ≤ X.heap.size) : Below N X Y := ⟨h.os, h.tape, h.output, h.size, fun j hj => h.block j (by omega) (fun e => by have := Option.some.inj e; omega)⟩
/-- what a draw of a puzzle and a cell hands back. -/
def DrawnR (w : World) (e : Ending) (w' : World) : Prop := ∃ s A1 n c1 gi A2 nr c2 rs m, e = .returned (.tuple #[.agg #[.int .i64 s, .slice A1 n c1, .slice A2 nr c2], .int .i64 m]) ∧ 2 ≤ s ∧ s ≤ 4 ∧ Rd w' w'.heap.size A1 n gi ∧ n ≤ 16 ∧ OwR w' w.heap.size (.slice A2 nr c2) rs nr ∧ rs.length = nr ∧ nr ≤ 100 ∧ -1 ≤ m ∧ m ≤ 601 ∧ Below w.heap.size w w'
set_option maxHeartbeats 4000000 in
theorem draw_DrawIsRedundant (A : Option Addr) (n c : Nat) (bs : List Int) (w : World) (h : Code_ w A n c bs) : Calls Tryd.prog 27 #[.slice A n c] w (DrawnR w) := by
  have Hi := Lib.hid puz_info
  have h1 := h.1.alloc_ (.cells #[.int .i64 0, .slice none 0 0, .slice none 0 0] 26)
  obtain ⟨w0, hW⟩ : ∃ w0, w0 = w.alloc (.cells #[.int .i64 0, .slice none 0 0, .slice none 0 0] 26) := ⟨_, rfl⟩
  rw [← hW] at h1
  have hRw : w.heap.size < w0.heap.size := by rw [hW]; simp
  have hb00 : Below w.heap.size w w0 := by rw [hW]; exact (Below.refl _ _).alloc (Nat.le_refl _) _
  have hR0 : w0.heap[w.heap.size]? = some (.cells #[.int .i64 0, .slice none 0 0, .slice none 0 0] 26) := by rw [hW]; exact heap_alloc_new w _
  have HW := Lib.hid hW
  clear hW
  go_enter Tryd.func27, Tryd.ntmps27
  go_wp2_with fail
  rw [← HW.out]
  refine (specOpen A c n bs w0 h1 h.2.1 h.2.2).mono ?_
  rintro e w1 ⟨rfl, hr, hb⟩
  have hR1 := (hb.block w.heap.size hRw).trans hR0
  have hG1 := hr.lt
  go_wp2_with fail
  refine (l20Puzzle_any w0.heap.size w0.heap.size 0 12 w1 hr (Nat.le_refl _) (by omega) (by omega)).mono ?_
  rintro e w2 ⟨s, A1, n1, c1', gi, A2, nr, c2', rs, rfl, s2, s4, hrd, hn16, hlo, hR, hl, hnr, hr2, hg, _⟩
  have h12 := hg.size
  have hG2 := hr2.lt
  have hx0 := pbox_new w2 s A1 n1 c1' A2 nr c2' 26
  have hbA : Below w2.heap.size w2 (w2.alloc (.cells #[.int .i64 s, .slice A1 n1 c1', .slice A2 nr c2'] 26)) := (Below.refl _ _).alloc (Nat.le_refl _) _
  have hsA : (w2.alloc (.cells #[.int .i64 s, .slice A1 n1 c1', .slice A2 nr c2'] 26)).heap.size = w2.heap.size + 1 := by simp
  have hrA := hr2.alloc (show w0.heap.size ≤ w2.heap.size by omega) (.cells #[.int .i64 s, .slice A1 n1 c1', .slice A2 nr c2'] 26)
  have hgA : w1.grownBy (w2.alloc (.cells #[.int .i64 s, .slice A1 n1 c1', .slice A2 nr c2'] 26)) (some w0.heap.size) := only_alloc hg _
  have hrdA := hrd.below hbA
  have hRA := hR.below hbA
  obtain ⟨W, hW2⟩ : ∃ W, w2.alloc (.cells #[.int .i64 s, .slice A1 n1 c1', .slice A2 nr c2'] 26) = W := ⟨_, rfl⟩
  rw [hW2] at hx0 hsA hrA hgA hrdA hRA
  have HW2 := Lib.hid hW2
  have hG0 : w0.heap.size < w1.heap.size := hG1
  -- what holds at every world that differs from W in the reader's block alone
  have HK := Lib.hid (fun wr (hg : W.grownBy wr (some w0.heap.size)) => (⟨(hg.cell_far ⟨w2.heap.size, 0, none⟩ (by show w2.heap.size < _; omega) (fun e2 => by have e3 : w2.heap.size = w0.heap.size := Option.some.inj e2; omega)).trans hx0.1, (hg.cell_far ⟨w2.heap.size, 1, none⟩ (by show w2.heap.size < _; omega) (fun e2 => by have e3 : w2.heap.size = w0.heap.size := Option.some.inj e2; omega)).trans hx0.2.1, (hg.cell_far ⟨w2.heap.size, 2, none⟩ (by show w2.heap.size < _; omega) (fun e2 => by have e3 : w2.heap.size = w0.heap.size := Option.some.inj e2; omega)).trans hx0.2.2⟩ : PBox wr w2.heap.size s A1 n1 c1' A2 nr c2'))
  have HR := Lib.hid (fun wr (hg : W.grownBy wr (some w0.heap.size)) => show wr.heap[w.heap.size]? = some (.cells #[.int .i64 0, .slice none 0 0, .slice none 0 0] 26) from ((hgA.trans hg).block w.heap.size (by have := hb.size; omega) (fun e => by have := Option.some.inj e; omega)).trans hR1)
  have HF := Lib.hid (fun wr Y (m : Int) (m0 : -1 ≤ m) (m6 : m ≤ 601) (hg : W.grownBy wr (some w0.heap.size)) (hgr : wr.grownBy Y (some w.heap.size)) => show DrawnR w (.returned (.tuple #[.agg #[.int .i64 s, .slice A1 n1 c1', .slice A2 nr c2'], .int .i64 m])) Y from by
    have hsz := hgr.size
    have hgs := hg.size
    have hb17 : Below w.heap.size w wr := (hb00.trans (hb.mono hb00.size)).trans ⟨(hgA.trans hg).os, (hgA.trans hg).tape, (hgA.trans hg).output, (hgA.trans hg).size, fun j hj => (hgA.trans hg).block j (Nat.lt_of_lt_of_le hj (Nat.le_trans hb00.size hb.size)) (fun e => by injection e with e; omega)⟩
    have hrd1 : Rd wr w2.heap.size A1 n1 gi := rd_keepV hrdA (by omega) hg (fun b off e => by have := hlo b off e; omega)
    exact ⟨s, A1, n1, c1', gi, A2, nr, c2', rs, m, rfl, s2, s4, (rd_keepV hrd1 (by omega) hgr (fun b off e => by have := hlo b off e; have := hb.size; omega)).more (by omega), hn16, ((hRA.keptL hg (show w0.heap.size < w1.heap.size from hG0)).keptL hgr (by have := hb.size; omega)).mono (by have := hb.size; omega), hl, hnr, m0, m6, hb17.trans (hgr_belowR hgr hb17.size)⟩)
  have hr0 := hrA
  have Hone := Lib.hid puz_one
  obtain ⟨z0, z1, z2⟩ := id hx0
  clear hrd hR hlo hr hr2 hg hW2 hrA hgA hrdA hRA hx0 hbA
  have hrD : Rdr W.drew w0.heap.size w0.heap.size (0 + 800) := hr0.below ((Below.refl _ _).drew) (by omega)
  have HgD := Lib.hid (show W.grownBy W.drew (some w0.heap.size) from grown_drew (World.grownBy.refl W _))
  clear hr0
  go_wp2
  rw [HW2.out]
  obtain ⟨z0, z1, z2⟩ : PBox W w2.heap.size s A1 n1 c1' A2 nr c2' := HK.out W (World.grownBy.refl W _)
  go_region_with (go_at_call 62; refine (pick_any w0.heap.size w0.heap.size _ 18 _ hrD (Nat.le_refl _) (by omega)).mono ?_; rintro e w6 ⟨v, rfl, ⟨m0, m6', _⟩, hr6, hg6⟩; have m6 := m6' (by omega); have hwr : IntKind.i64.wrap (v - 1) = v - 1 := IntWalk.i64_in _ (by omega); have hgW := HgD.out.trans hg6; obtain ⟨p0, p1, p2⟩ := HK.out _ hgW; have hrow := HR.out _ hgW; have c0 := cell_of_row _ _ 0 _ _ (0, 0) hrow; have c1 := cell_of_row _ _ 1 _ _ (0, 0) hrow; have c2 := cell_of_row _ _ 2 _ _ (0, 0) hrow; have f0 := frozen_of_row _ _ 0 _ _ hrow; have f1 := frozen_of_row _ _ 1 _ _ hrow; have f2 := frozen_of_row _ _ 2 _ _ hrow)
  all_goals
    go_wp2
    have e0 := heap_setCell_same w6 w.heap.size 0 _ _ (.int .i64 s) hrow
    have e1 := heap_setCell_same _ w.heap.size 1 _ _ (.slice A1 n1 c1') e0
    have e2 := heap_setCell_same _ w.heap.size 2 _ _ (.slice A2 nr c2') e1
    have hgY : w6.grownBy (((w6.setCell ⟨w.heap.size, 0, none⟩ (.int .i64 s)).setCell ⟨w.heap.size, 1, none⟩ (.slice A1 n1 c1')).setCell ⟨w.heap.size, 2, none⟩ (.slice A2 nr c2')) (some w.heap.size) := (grown_set.trans grown_set).trans grown_set
    exact bodyPost_ret (v := .tuple #[.agg #[.int .i64 s, .slice A1 n1 c1', .slice A2 nr c2'], .int .i64 (v - 1)]) (results_ct (by rfl) _ _ w.heap.size 26 _ (0, 0) _ _ rfl rfl e2 Tryd.underlying26 rfl (Hi.out _ _ _ _ _ _ _)) rfl (HF.out w6 _ (v - 1) (by omega) (by omega) hgW hgY)
end Go.Proofs.YtkeoflnmbcdmfaaDoor
set_option maxRecDepth 8000
namespace Go.Proofs.YtkeoflnmbcdmfaaDoor
open Go.ChangeShapes Go.WideShapes Go.ChangeAt Go.RowKit
theorem sf_noneR {s : Int} {n : Nat} {gi : List Int} {rs : List RuleM} (h : sfB s n gi rs = false) : sfL s n gi rs = [] := by
  unfold sfB at h
  unfold sfL
  cases hL : allS s 1 n gi rs with
  | nil => rfl
  | cons y L => rw [hL] at h; simp at h
set_option maxHeartbeats 1000000 in
theorem isRedundant_walk (A : Option Addr) (c n : Nat) (bs : List Int) (w : World) (h : Code_ w A n c bs) (hT : Tz w) :
    Calls Tryd.prog 5 #[.slice A n c] w fun e w' => e = .returned (.bool true) ∧ Below w.heap.size w w' := by
  by_cases hn : n ≤ 1048576
  · go_enter Tryd.func5, Tryd.ntmps5
    go_wp2_with fail
    refine (draw_DrawIsRedundant _ _ _ _ _ h).mono ?_
    rintro e w1 ⟨s, A1, n1, c1, gi, A2, nr, c2, rs, i, rfl, s2, s4, hrd, hn16, hR, hl, hnr, i0, i6, hb1⟩
    have hx0 := pbox_new w1 s A1 n1 c1 A2 nr c2 26
    have hbA : Below w1.heap.size w1 (w1.alloc (.cells #[.int .i64 s, .slice A1 n1 c1, .slice A2 nr c2] 26)) := (Below.refl _ _).alloc (Nat.le_refl _) _
    have hpc0 : PGc w1 s A1 n1 c1 w1.heap.size gi A2 nr c2 w1.heap.size rs := ⟨hrd, Nat.le_refl _, by omega, hR.rdc hl, Nat.le_refl _, by omega⟩
    have hpcA := hpc0.below hbA
    have hsA : w1.heap.size < (w1.alloc (.cells #[.int .i64 s, .slice A1 n1 c1, .slice A2 nr c2] 26)).heap.size := by simp
    obtain ⟨W, hW⟩ : ∃ W, w1.alloc (.cells #[.int .i64 s, .slice A1 n1 c1, .slice A2 nr c2] 26) = W := ⟨_, rfl⟩
    rw [hW] at hx0 hbA hpcA hsA
    have hb0W : Below w.heap.size w W := step hb1 hbA
    have HX := Lib.hid (fun w' (hb : Below W.heap.size W w') => hx0.below (by omega : w1.heap.size < W.heap.size) hb)
    have HPc := Lib.hid (fun w' (hb : Below W.heap.size W w') => hpcA.below hb)
    have HTz := Lib.hid (fun w' (hb : Below W.heap.size W w') => hT.below hT.lt (step hb0W hb))
    have HB := Lib.hid (fun w' (hb : Below W.heap.size W w') => step hb0W hb)
    have hgl := hrd.1
    have HI := Lib.hid (implIsRedundant _ _ _ _ _ _ _ _ _ _ _ i _ hpcA (HTz.out _ (Below.refl _ _)))
    have HS := Lib.hid (fun w' (hb : Below W.heap.size W w') => specIsRedundant _ _ _ _ _ _ _ _ _ _ _ i _ (hpcA.below hb).rd)
    have HW := Lib.hid hW
    obtain ⟨z0, z1, z2⟩ := id hx0
    have hii : i < 1000000 := by omega
    clear hW hpc0 hpcA hbA hx0 hR hrd h hT
    cases hred : redB s n1 gi rs i
    · rw [hred] at HI HS
      go_wp2_with (first
        | (go_at_call 28; rw [HW.out]; refine HI.out.mono ?_; rintro e w2 ⟨rfl, hb2⟩; obtain ⟨y0, y1, y2⟩ := HX.out _ hb2)
        | (go_at_call 29; refine (HS.out _ hb2).mono ?_; rintro e w3 ⟨rfl, hb3⟩; have h23 := step hb2 hb3)
        | (go_at_call 21; (with_reducible refine (alive_any _).mono ?_); rintro e w6 ⟨rfl, hb6⟩))
      go_ret
      exact ⟨rfl, HB.out _ (step h23 hb6)⟩
    · rw [hred] at HI HS
      have hv : pvB s gi rs = true := by simp only [redB, Bool.and_eq_true] at hred; exact hred.1.1.1
      have ho : oneB s n1 gi rs = true := by simp only [redB, Bool.and_eq_true] at hred; exact hred.1.2
      have hin : 0 ≤ i ∧ i < n1 := by
        simp only [redB, givenB, Bool.and_eq_true] at hred
        have := inr_t hred.1.1.2.1
        omega
      obtain ⟨k, rfl⟩ := Int.eq_ofNat_of_zero_le hin.1
      have hk : k < n1 := by omega
      rw [red_iff hgl hv ho hk, Bool.and_eq_true, bne_iff_ne] at hred
      obtain ⟨hkz, ho2⟩ := hred
      obtain ⟨t, rfl, hs, hnn, _, hok⟩ := pv_grid hv hgl
      have hnn2 : n1 = t * t := by simp at hs; rcases hs with rfl | rfl | rfl <;> omega
      have hn0 : 0 < n1 := by omega
      obtain ⟨hsl, hsb⟩ := sf_same hgl hv (pv_put hv k) hnn2 (Le0.set gi k) ho ho2
      have hcs := one_cs' (pv_put hv k) ho2
      have hv2 := pv_put hv k
      have HI1 := Lib.hid (fun w' (hb : Below W.heap.size W w') => implSolveFirst _ _ _ _ _ _ _ _ _ _ _ w' (HPc.out _ hb) (HTz.out _ hb))
      have HI2 := Lib.hid (fun w' (hb : Below W.heap.size W w') A' c' B' (hr : Rd w' B' A' n1 (gi.set k 0)) (hB : B' ≤ w'.heap.size) => implSolveFirst (t : Int) A' n1 c' B' (gi.set k 0) A2 nr c2 w1.heap.size rs w' ⟨hr, hB, (HPc.out _ hb).gm, (HPc.out _ hb).r, (HPc.out _ hb).rB, (HPc.out _ hb).rm⟩ (HTz.out _ hb))
      have HC2 := Lib.hid (fun w' (hb : Below W.heap.size W w') A' c' B' (hr : Rd w' B' A' n1 (gi.set k 0)) (hB : B' ≤ w'.heap.size) => implCountSolutions (t : Int) A' n1 c' B' (gi.set k 0) A2 nr c2 w1.heap.size rs 2 w' ⟨hr, hB, (HPc.out _ hb).gm, (HPc.out _ hb).r, (HPc.out _ hb).rB, (HPc.out _ hb).rm⟩ (HTz.out _ hb))
      have hFl : (sfB t n1 gi rs = true → (sfL t n1 gi rs).length = n1) → (sfL t n1 gi rs).length ≤ 16 := fun h => by
        cases hb : sfB t n1 gi rs
        · rw [sf_noneR hb]; simp
        · rw [h hb]; exact hn16
      obtain ⟨FL, hFL⟩ : ∃ FL, FL = sfL t n1 gi rs := ⟨_, rfl⟩
      rw [hsl, hsb, ← hFL] at HI2
      rw [← hFL] at HI1 hFl
      rw [hcs] at HC2
      have hsame : same FL FL = true := by simp [same]
      have Hkz := Lib.hid hkz
      have HPg := Lib.hid (fun w' (hb : Below W.heap.size W w') => (HPc.out _ hb).g)
      have hgm : n1 ≤ 1099511627776 := by omega
      have hW1 : w1.heap.size ≤ W.heap.size := Nat.le_of_lt hsA
      have hne0 : (nth gi k == 0) = false := by rw [beq_eq_false_iff_ne]; exact hkz
      have HFl := Lib.hid hFl
      have hk0 : (0 : Int) ≤ (k : Int) := by omega
      have hkI : (k : Int) < (n1 : Int) := by omega
      have hd1 : decide ((k : Int) < 0) = false := by rw [decide_eq_false_iff_not]; omega
      have hd2 : decide (n1 ≤ k) = false := by rw [decide_eq_false_iff_not]; omega
      have hd3 : ¬ n1 ≤ k := by omega
      have hd4 : ¬ ((k : Int) < 0) := by omega
      clear hok hnn hnn2 hs hFL hsl hsb hcs hv hv2 ho ho2 hkz hFl hgl hin i0 i6 hii hW1 s2 s4 hl
      go_wp2_with fail
      rw [HW.out]
      refine HI.out.mono ?_
      rintro e w2 ⟨rfl, hb2⟩
      obtain ⟨y0, y1, y2⟩ := HX.out _ hb2
      clear z0 z1 z2
      go_wp2_with fail
      refine (HS.out _ hb2).mono ?_
      rintro e w3 ⟨rfl, hb3⟩
      have h23 := step hb2 hb3
      obtain ⟨v0, v1, v2⟩ := HX.out _ h23
      obtain ⟨b, off, rfl, hbB, hck⟩ := (HPg.out _ h23).at_ hk
      have hbl : Below w3.heap.size w3 (w3.alloc (.cells #[] 3)) := (Below.refl _ _).alloc (Nat.le_refl _) _
      have HO := Lib.hid (Ow.made0 w3 w3.heap.size (Nat.le_refl _))
      have HR := Lib.hid (HPg.out _ (step h23 hbl))
      obtain ⟨t0, t1, t2⟩ := HX.out _ (step h23 hbl)
      have HI2' := HI2
      clear y0 y1 y2
      go_wp2_with (first
        | (at_builtin; (refine push_some rfl (.tmp 48) (.tmp 50) rfl w3.heap.size (some ⟨w3.heap.size, 0, none⟩) 0 0 [] b off n1 c1 w1.heap.size gi rfl rfl HO.out HR.out (by omega) hgm (by simp) ?_); intro A4 c4 w4 ho4 hg4; simp only [Nat.zero_add, List.nil_append] at ho4; (obtain ⟨gb, rfl, hlog, hgw4⟩ := ho4.form hn0); (obtain ⟨hcq, hfq⟩ := ho4.cell hk); have hbw4 : Below w3.heap.size w3 w4 := (hbl.grown hg4 hbl.size (fun k hk => HO.out.own_lo k hk)); have ho5 : Ow (w4.setCell ⟨gb, k, none⟩ (.int .i64 0)) w3.heap.size (some ⟨gb, 0, none⟩) n1 c4 (gi.set k 0) := (by have := (World.ownsRow.stored ho4 k (.int .i64 0)).1; rw [vals_set] at this; exact this); have hb5 : Below w3.heap.size w3 (w4.setCell ⟨gb, k, none⟩ (.int .i64 0)) := hbw4.setCell (p := ⟨gb, k, none⟩) hlog _; have h25 := step h23 hb5; obtain ⟨u0, u1, u2⟩ := HX.out _ h25; have hlx := pbox_new (w4.setCell ⟨gb, k, none⟩ (.int .i64 0)) (t : Int) (some ⟨gb, 0, none⟩) n1 c4 A2 nr c2 26; have hsz : (w4.setCell ⟨gb, k, none⟩ (.int .i64 0)).heap.size = w4.heap.size := (by simp [World.setCell]); rw [hsz] at hlx; have hb6 : Below w3.heap.size w3 ((w4.setCell ⟨gb, k, none⟩ (.int .i64 0)).alloc (.cells #[.int .i64 (t : Int), .slice (some ⟨gb, 0, none⟩) n1 c4, .slice A2 nr c2] 26)) := hb5.alloc hb5.size _; have h26 := step h23 hb6; obtain ⟨r0, r1, r2⟩ := HX.out _ h26)
        | (go_at_call 17; (with_reducible refine (HI1.out _ h26).mono ?_); rintro e w7 ⟨Ax, mx, cx, rfl, hmx, hox, hb7⟩; (obtain rfl : mx = FL.length := hox.len.symm); have h27 := step h26 hb7; have hs7 : (w4.setCell ⟨gb, k, none⟩ (.int .i64 0)).heap.size < ((w4.setCell ⟨gb, k, none⟩ (.int .i64 0)).alloc (.cells #[.int .i64 (t : Int), .slice (some ⟨gb, 0, none⟩) n1 c4, .slice A2 nr c2] 26)).heap.size := (by simp); have hs7' := hs7; rw [hsz] at hs7'; obtain ⟨l0, l1, l2⟩ := hlx.below hs7' hb7)
        | (go_at_call 17; (have hrl7 := ((ho5.rd.below ((Below.refl _ _).alloc (Nat.le_refl _) _)).below (hb7.mono (Nat.le_of_lt hs7)))); (have hBl7 := Nat.le_trans (Nat.le_of_lt hs7) hb7.size); (with_reducible refine (HI2.out _ h27 _ _ _ hrl7 hBl7).mono ?_); rintro e w8 ⟨Ay, my, cy, rfl, hmy, hoy, hb8⟩; (obtain rfl : my = FL.length := hoy.len.symm); have h28 := step h27 hb8; have hlen := HFl.out hmx; have hox8 := hox.rd.below hb8; have hs8 := hb8.size; obtain ⟨l3, l4, l5⟩ := hlx.below hs7' (step hb7 hb8))
        | (go_at_call 19; refine (sameInts_any _ _ _ _ _ _ _ _ FL FL _ hox8 hoy.rd (by omega)).mono ?_; rintro e w9 ⟨rfl, hb9⟩; rw [hsame]; have h29 := step h28 hb9; obtain ⟨l6, l7, l8⟩ := hlx.below hs7' (step (step hb7 hb8) hb9))
        | (go_at_call 22; (have hrl9 := ((ho5.rd.below ((Below.refl _ _).alloc (Nat.le_refl _) _)).below ((step (step hb7 hb8) hb9).mono (Nat.le_of_lt hs7)))); (have hBl9 := Nat.le_trans (Nat.le_of_lt hs7) (step (step hb7 hb8) hb9).size); (with_reducible refine (HC2.out _ h29 _ _ _ hrl9 hBl9).mono ?_); rintro e wa ⟨rfl, hba⟩))
      go_ret
      exact ⟨by trivial, HB.out _ (step h29 hba)⟩
  · go_enter Tryd.func5, Tryd.ntmps5
    go_wp2
    go_ret
    exact ⟨rfl, Below.refl _ _⟩
end Go.Proofs.YtkeoflnmbcdmfaaDoor
set_option maxRecDepth 8000
namespace Go.Proofs.YtkeoflnmbcdmfaaDoor
open Go.ChangeShapes Go.WideShapes Go.ChangeAt Go.RowKit

theorem grown_tr {a b c : World} {r : Option Nat} (h : a.grownBy b r) (k : b.grownBy c r) : a.grownBy c r := h.trans k
theorem setCells3 (w : World) (g o : Nat) (x y z : Value) : w.setCells g o [x, y, z] = ((w.setCell ⟨g, o, none⟩ x).setCell ⟨g, o + 1, none⟩ y).setCell ⟨g, o + 2, none⟩ z := rfl
theorem row_setCells3 {w : World} {g o : Nat} {cur : Array Value} {t : TypeId} (x y z : Value) (h : w.heap[g]? = some (.cells cur t (0, 0))) :
    (w.setCells g o [x, y, z]).heap[g]? = some (.cells (((cur.setIfInBounds o x).setIfInBounds (o + 1) y).setIfInBounds (o + 2) z) t (0, 0)) := by
  rw [setCells3]
  exact heap_setCell_same _ g (o + 2) _ _ z (heap_setCell_same _ g (o + 1) _ _ y (heap_setCell_same w g o _ _ x h))
theorem grown_setCells3 {w : World} {g o : Nat} {x y z : Value} : w.grownBy (w.setCells g o [x, y, z]) (some g) := by
  rw [setCells3]
  exact grown_tr (grown_tr grown_set grown_set) grown_set
theorem below_setCells3 {N : Nat} {w0 w : World} {g o : Nat} {x y z : Value} (h : Below N w0 w) (hg : N ≤ g) : Below N w0 (w.setCells g o [x, y, z]) := by
  rw [setCells3]
  exact ((h.setCell (p := ⟨g, o, none⟩) hg _).setCell (p := ⟨g, o + 1, none⟩) hg _).setCell (p := ⟨g, o + 2, none⟩) hg _
/-- n rules' cells in a slice of the call's own, the first u of them filled. -/
def OwRp (w : World) (lo : Nat) (g n : Nat) (rs : List RuleM) (u : Nat) : Prop :=
  ∃ vs, w.ownsRow lo 63 3 (.slice (some ⟨g, 0, none⟩) n n) n vs ∧ ∀ i, i < u → ∃ A' c', vs[i * 3]? = some (.int .i64 (rat rs i).k) ∧ vs[i * 3 + 1]? = some (.slice A' (rat rs i).xs.length c') ∧ vs[i * 3 + 2]? = some (.int .i64 (rat rs i).v) ∧ Ow w lo A' (rat rs i).xs.length c' (rat rs i).xs ∧ (rat rs i).xs.length ≤ 1099511627776 ∧ ∀ b, (Value.slice A' (rat rs i).xs.length c').ownBlock = some b → (Value.slice (some ⟨g, 0, none⟩) n n).ownBlock ≠ some b
theorem OwRp.below {w w' : World} {lo g n : Nat} {rs : List RuleM} {k : Nat} (h : OwRp w lo g n rs k) (hb : Below w.heap.size w w') : OwRp w' lo g n rs k := by
  obtain ⟨vs, hown, hin⟩ := h
  refine ⟨vs, World.ownsRow.kept hown (row := none) ⟨hb.os, hb.tape, hb.output, hb.size, fun k hk _ => hb.block k hk⟩ (by
    cases e : (Value.slice (some ⟨g, 0, none⟩) n n).ownBlock
    · exact .inl rfl
    · exact .inr (by simp)), fun i hi => ?_⟩
  obtain ⟨A', c', e0, e1, e2, e3, e4, e5⟩ := hin i hi
  exact ⟨A', c', e0, e1, e2, e3.below hb, e4, e5⟩
theorem OwRp.full {w : World} {lo g n : Nat} {rs : List RuleM} (h : OwRp w lo g n rs n) : OwR w lo (.slice (some ⟨g, 0, none⟩) n n) rs n := h
theorem OwRp.there {w : World} {lo g n : Nat} {rs : List RuleM} {k u : Nat} (h : OwRp w lo g n rs k) (hu : u < n) : w.there g (u * 3) 3 := by
  obtain ⟨vs, ⟨hvl, hcase⟩, _⟩ := h
  rcases hcase with ⟨h1, _⟩ | ⟨g', cap, cur, hv, h2, h3, h4, h5, h6, h7⟩
  · cases h1
  · injection hv with e1 _ e2
    injection e1 with e1
    injection e1 with e1 _ _
    subst e1
    intro j hj
    have hlt : u * 3 + j < cur.size := by rw [h6]; have := Nat.mul_le_mul_right 3 (show u + 1 ≤ cap by omega); omega
    refine ⟨?_, frozen_of_row w g (u * 3 + j) cur _ h3⟩
    rw [cell_of_row w g (u * 3 + j) cur _ (0, 0) h3]
    simp [hlt]
theorem OwRp.put {w w3 : World} {lo g n u c3 : Nat} {rs : List RuleM} {A3 : Option Addr} (h : OwRp w lo g n rs u) (hlo : lo ≤ w.heap.size) (hu : u < n) (hb : Below w.heap.size w w3)
    (ho3 : Ow w3 w.heap.size A3 (rat rs u).xs.length c3 (rat rs u).xs) (hm : (rat rs u).xs.length ≤ 1099511627776) :
    OwRp (w3.setCells g (u * 3) [.int .i64 (rat rs u).k, .slice A3 (rat rs u).xs.length c3, .int .i64 (rat rs u).v]) lo g n rs (u + 1) := by
  have hgw : g < w.heap.size := by
    obtain ⟨vs, hown, _⟩ := h
    exact (World.ownsRow.lt hown g (by simp [Value.ownBlock])).2
  obtain ⟨vs, ⟨hvl, hcase⟩, hin⟩ := h.below hb
  rcases hcase with ⟨h1, _⟩ | ⟨g', cap, cur, hv, h2, h3, h4, h5, h6, h7⟩
  · cases h1
  · injection hv with e1 _ e2
    injection e1 with e1
    injection e1 with e1 _ _
    subst e1 e2
    have hvl3 : u * 3 + 2 < vs.length := by rw [hvl]; omega
    refine ⟨((vs.set (u * 3) (.int .i64 (rat rs u).k)).set (u * 3 + 1) (.slice A3 (rat rs u).xs.length c3)).set (u * 3 + 2) (.int .i64 (rat rs u).v), ⟨by simp [hvl], .inr ⟨g, n, _, rfl, h2, row_setCells3 _ _ _ h3, h4, h5, by simp [h6], ?_⟩⟩, fun i hi => ?_⟩
    · simp only [Array.toList_setIfInBounds, List.take_set, h7]
    · by_cases e : i = u
      · subst e
        refine ⟨A3, c3, ?_, ?_, ?_, ?_, hm, fun b hbb e => ?_⟩
        · rw [List.getElem?_set_ne (by omega), List.getElem?_set_ne (by omega), List.getElem?_set_self (by omega)]
        · rw [List.getElem?_set_ne (by omega), List.getElem?_set_self (by simp; omega)]
        · rw [List.getElem?_set_self (by simp; omega)]
        · exact (Ow.far ho3 (row := some g) grown_setCells3 (fun b hbb e => by have := ho3.own_lo b hbb; injection e with e; omega)).mono hlo
        · have h8 := ho3.own_lo b hbb
          simp [Value.ownBlock] at e
          omega
      · obtain ⟨A', c', e0, e1, e2, e3, e4, e5⟩ := hin i (by omega)
        refine ⟨A', c', ?_, ?_, ?_, ?_, e4, e5⟩
        · rw [List.getElem?_set_ne (by omega), List.getElem?_set_ne (by omega), List.getElem?_set_ne (by omega)]; exact e0
        · rw [List.getElem?_set_ne (by omega), List.getElem?_set_ne (by omega), List.getElem?_set_ne (by omega)]; exact e1
        · rw [List.getElem?_set_ne (by omega), List.getElem?_set_ne (by omega), List.getElem?_set_ne (by omega)]; exact e2
        · exact Ow.far e3 (row := some g) grown_setCells3 (fun b hbb e => e5 b hbb (by have := Option.some.inj e; simp [Value.ownBlock, this]))

/-- a slice of rules, their cells as many as a slice can have. -/
def RdRx (w : World) (B : Nat) (A : Option Addr) (n : Nat) (rs : List RuleM) : Prop :=
  rs.length = n ∧ (0 < n → ∃ b off, A = some ⟨b, off, none⟩ ∧ b < B ∧ ∀ i, i < n → ∃ A' c', w.cell? ⟨b, off + i * 3, none⟩ = some (.int .i64 (rat rs i).k) ∧ w.cell? ⟨b, off + i * 3 + 1, none⟩ = some (.slice A' (rat rs i).xs.length c') ∧ w.cell? ⟨b, off + i * 3 + 2, none⟩ = some (.int .i64 (rat rs i).v) ∧ Rd w B A' (rat rs i).xs.length (rat rs i).xs ∧ (rat rs i).xs.length ≤ 9223372036854775807)
theorem RdRx.below {w w' : World} {B : Nat} {A : Option Addr} {n : Nat} {rs : List RuleM} (h : RdRx w B A n rs) (hb : Below B w w') : RdRx w' B A n rs :=
  ⟨h.1, fun hn => by
    obtain ⟨b, off, e, hlt, hc⟩ := h.2 hn
    refine ⟨b, off, e, hlt, fun i hi => ?_⟩
    obtain ⟨A', c', h0, h1, h2, h3, h4⟩ := hc i hi
    exact ⟨A', c', (hb.cell (p := ⟨b, off + i * 3, none⟩) hlt).trans h0, (hb.cell (p := ⟨b, off + i * 3 + 1, none⟩) hlt).trans h1, (hb.cell (p := ⟨b, off + i * 3 + 2, none⟩) hlt).trans h2, h3.below hb, h4⟩⟩
theorem RdRx.small {w : World} {B : Nat} {A : Option Addr} {n : Nat} {rs : List RuleM} (h : RdRx w B A n rs) (hs : ∀ i, i < n → (rat rs i).xs.length ≤ 1099511627776) : RdRs w B A n rs :=
  ⟨h.1, fun hn => by
    obtain ⟨b, off, e, hlt, hc⟩ := h.2 hn
    refine ⟨b, off, e, hlt, fun i hi => ?_⟩
    obtain ⟨A', c', h0, h1, h2, h3, _⟩ := hc i hi
    exact ⟨A', c', h0, h1, h2, h3, hs i hi⟩⟩
end Go.Proofs.YtkeoflnmbcdmfaaDoor
set_option maxRecDepth 8000
namespace Go.Proofs.YtkeoflnmbcdmfaaDoor
open Go.ChangeShapes Go.WideShapes Go.ChangeAt Go.RowKit
/-! Puzzles that come in, and their copies. -/
theorem OwRp.zero_ {w : World} {lo g n : Nat} {rs : List RuleM} {vs : List Value} (h : w.ownsRow lo 63 3 (.slice (some ⟨g, 0, none⟩) n n) n vs) : OwRp w lo g n rs 0 := ⟨vs, h, fun i hi => absurd hi (by omega)⟩
set_option maxHeartbeats 1000000 in
theorem toRuleS_any (A : Option Addr) (c n B : Nat) (rs : List RuleM) (w : World) (h : RdRs w B A n rs) (hB : B ≤ w.heap.size) (hm : n ≤ 1048576) :
    Calls Tryd.prog 59 #[.slice A n c] w fun e w' => ∃ g, e = .returned (.slice (some ⟨g, 0, none⟩) n n) ∧ OwR w' w.heap.size (.slice (some ⟨g, 0, none⟩) n n) rs n ∧ Below w.heap.size w w' := by
  obtain ⟨i0, hi, hz0, hz1, hz2⟩ := info_parts rule_parts
  have HR := Lib.hid (fun (w' : World) (hb : Below w.heap.size w w') => h.below (hb.mono hB))
  have Hi : Hid (∀ k A m c v, (Tryd.prog.info? 63).map (·.size) = some (#[Value.int .i64 k, .slice A m c, .int .i64 v] : Array Value).size) := Lib.hid (fun _ _ _ _ _ => by rw [hi]; simpa using hz1)
  have Hone : Hid (∀ k A m c v, ((#[Value.int .i64 k, .slice A m c, .int .i64 v] : Array Value).all (·.oneCell')) = true) := Lib.hid (fun _ _ _ _ _ => by simp [Value.oneCell'])
  go_enter Tryd.func59, Tryd.ntmps59
  go_wp2_with (refine wpList_make_full _ rfl (.tmp 6) (.tmp 6) 24 rfl w.heap.size 63 i0 (.agg #[.int .i64 0, .slice none 0 0, .int .i64 0]) 3 Tryd.underlying24 hi hz0 hz1 .i64 .i64 n n n rfl rfl rfl rfl (by rw [hz2]; omega) (by simp only [maxLen]; omega) (Nat.le_refl _) ?_; intro w3 hown hgr; have hb3 := made_below hgr (Nat.le_refl _); have ho3 := OwRp.zero_ (rs := rs) hown)
  go_loopw [4] (fun i wr => ∃ u : Nat, u ≤ n ∧ i = .int .i64 u ∧ OwRp wr w.heap.size w.heap.size n rs u ∧ Below w.heap.size w wr) (fun i _ => n - (intOf i).toNat)
  case atStart => exact ⟨0, Nat.zero_le _, rfl, ho3, hb3⟩
  case round =>
    obtain ⟨u, hu, rfl, ho, hb⟩ := hrel
    by_cases hlt : u < n
    · obtain ⟨b, off, rfl, hbB, hcc⟩ := (HR.out _ hb).2 (by omega)
      obtain ⟨A', c', r0, r1, r2, r3, r4⟩ := hcc u hlt
      have hth := ho.there hlt
      have Hput := Lib.hid (fun (w3 : World) (A3 : Option Addr) (c3 : Nat) (hb' : Below wr.heap.size wr w3) (ho3 : Ow w3 wr.heap.size A3 (rat rs u).xs.length c3 (rat rs u).xs) => ho.put (Nat.le_trans (Nat.le_refl _) hb.size) hlt hb' ho3 r4)
      have Hth := Lib.hid (fun (w3 : World) (hb' : Below wr.heap.size wr w3) => (ho.below hb').there hlt)
      obtain ⟨rk, hrk⟩ : ∃ x, x = (rat rs u).k := ⟨_, rfl⟩
      obtain ⟨rx, hrx⟩ : ∃ x, x = (rat rs u).xs := ⟨_, rfl⟩
      obtain ⟨rvv, hrv⟩ : ∃ x, x = (rat rs u).v := ⟨_, rfl⟩
      rw [← hrk] at r0 Hput
      rw [← hrx] at r1 r3 r4 Hput
      rw [← hrv] at r2 Hput
      have HC := Lib.hid (toRule_any rk A' rx.length c' B rx rvv wr r3 (Nat.le_trans hB hb.size) r4)
      clear hrk hrx hrv hcc
      have hin : (u : Int) < (n : Int) := by omega
      go_wp2_with (first | (go_at_call 97; refine HC.out.mono ?_; rintro e w4 ⟨A4, rfl, ho4, hb4⟩) | (refine wpList_store_mid rfl 63 _ _ rfl w.heap.size (u * 3) #[.int .i64 rk, .slice A4 rx.length rx.length, .int .i64 rvv] rfl rfl (Hth.out _ hb4) (Hi.out _ _ _ _ _) (Hone.out _ _ _ _ _) ?_))
      go_roundw
      case rel => exact ⟨u + 1, by omega, by go_num, Hput.out _ _ _ hb4 ho4, below_setCells3 (step hb hb4) (Nat.le_refl _)⟩
      case measure => simp [intOf]; omega
    · obtain rfl : u = n := by omega
      go_wp2
      go_ret
      exact ⟨_, rfl, ho.full, hb⟩
end Go.Proofs.YtkeoflnmbcdmfaaDoor
