import Derived.Test.YtigkcgfhiakikaaDm2
import Derived.Test.YtigkcgfhiakikaaWl
import Derived.Deep.CutRange
import Derived.Deep.CutBlock
set_option maxRecDepth 8000
namespace Go.Proofs.Ytigkcgfhiakikaa
open Go.ChangeShapes Go.WideShapes Go.ChangeAt Go.RowKit
theorem clue_bd (L : List Bool) : ∀ v ∈ clueL L, 1 ≤ v ∧ v ≤ 8 := by
  unfold clueL
  split
  · intro v hv
    have := cl_pos L v hv
    omega
  · intro v hv
    cases hv
theorem b64_mem {xs : List Int} (h : ∀ v ∈ xs, -9223372036854775808 ≤ v ∧ v ≤ 9223372036854775807) : B64 xs := fun k => by
  by_cases hk : k < xs.length
  · have e : nth xs k = xs[k] := by simp [nth, List.getD_eq_getElem?_getD, hk]
    rw [e]
    exact h _ (List.getElem_mem hk)
  · have : nth xs k = 0 := by simp [nth, List.getD_eq_getElem?_getD, List.getElem?_eq_none (by omega : xs.length ≤ k)]
    rw [this]; omega
theorem b64_clue (L : List Bool) : B64 (clueL L) := b64_mem fun v hv => by have := clue_bd L v hv; omega
theorem b64_snoc {xs : List Int} {v : Int} (h : B64 xs) (hv : -9223372036854775808 ≤ v ∧ v ≤ 9223372036854775807) : B64 (xs ++ [v]) := fun k => by
  by_cases h1 : k < xs.length
  · have : nth (xs ++ [v]) k = nth xs k := by simp [nth, List.getD_eq_getElem?_getD, List.getElem?_append_left h1]
    rw [this]; exact h k
  · by_cases h2 : k = xs.length
    · have : nth (xs ++ [v]) k = v := by rw [h2]; simp [nth, List.getD_eq_getElem?_getD]
      rw [this]; exact hv
    · have : nth (xs ++ [v]) k = 0 := by simp [nth, List.getD_eq_getElem?_getD, List.getElem?_eq_none (by simp; omega : (xs ++ [v]).length ≤ k)]
      rw [this]; omega
theorem grown_of_belowG {w w' : World} {G : Nat} (h : Below w.heap.size w w') : w.grownBy w' (some G) := ⟨h.os, h.tape, h.output, h.size, fun i hi _ => h.block i hi⟩
def DrawnKn (w : World) (e : Ending) (w' : World) : Prop := ∃ A n c xs, e = .returned (.slice A n c) ∧ Rd w' w'.heap.size A n xs ∧ n ≤ 8 ∧ (n ≤ c ∧ c ≤ 9223372036854775807) ∧ Below w.heap.size w w'
theorem drawKnownValid (A : Option Addr) (n c : Nat) (bs : List Int) (w : World) (h : Code_ w A n c bs) :
    Calls Try.prog 24 #[.slice A n c] w (DrawnKn w) := by
  go_enter Try.func24, Try.ntmps24
  go_wp2_with fail
  refine (specOpen A c n bs w h.1 h.2.1 h.2.2).mono ?_
  rintro e w1 ⟨rfl, hr, hb⟩
  have hG := hr.lt
  go_wp2_with fail
  refine (l20Line_any _ _ _ w1 hr (Nat.le_refl _) (by omega)).mono ?_
  rintro e w2 ⟨A1, n1, c1, L, rfl, ho, h1, h8, hr2, hg2⟩
  have hb2 := wBelow hb hg2 (Nat.le_refl _)
  go_wp2_with fail
  refine (l20Known_any _ _ _ 2 A1 n1 c1 w1.heap.size L w2 hr2 (Nat.le_refl _) (by omega) (by omega) ho hG h1 h8).mono ?_
  rintro e w3 ⟨A3, n3, c3, xs, rfl, ho3, hn3, hr3, hg3⟩
  have hb3 := wBelow hb2 hg3 (Nat.le_refl _)
  go_wp2
  go_ret
  exact ⟨A3, n3, c3, xs, rfl, ho3.rd, hn3, ho3.caps, hb3⟩
def DrawnCK (w : World) (e : Ending) (w' : World) : Prop := ∃ A m c cs A' n c' ks, e = .returned (.tuple #[.slice A m c, .slice A' n c']) ∧ Rd w' w'.heap.size A m cs ∧ m ≤ 10 ∧ B64 cs ∧ Rd w' w'.heap.size A' n ks ∧ n ≤ 8 ∧ (n ≤ c' ∧ c' ≤ 9223372036854775807) ∧ Below w.heap.size w w'
theorem drawLineWays (A : Option Addr) (n c : Nat) (bs : List Int) (w : World) (h : Code_ w A n c bs) :
    Calls Try.prog 27 #[.slice A n c] w (DrawnCK w) := by
  go_enter Try.func27, Try.ntmps27
  go_wp2_with fail
  refine (specOpen A c n bs w h.1 h.2.1 h.2.2).mono ?_
  rintro e w1 ⟨rfl, hr, hb⟩
  have hG := hr.lt
  go_wp2_with fail
  refine (l20Line_any _ _ _ w1 hr (Nat.le_refl _) (by omega)).mono ?_
  rintro e w2 ⟨A1, n1, c1, L, rfl, ho, h1, h8, hr2, hg2⟩
  have hb2 := wBelow hb hg2 (Nat.le_refl _)
  go_wp2_with fail
  refine (l20Known_any _ _ _ 6 A1 n1 c1 w1.heap.size L w2 hr2 (Nat.le_refl _) (by omega) (by omega) ho hG h1 h8).mono ?_
  rintro e w3 ⟨A3, n3, c3, ks, rfl, ho3, hn3, hr3, hg3⟩
  have hb3 := wBelow hb2 hg3 (Nat.le_refl _)
  have hL3 := ho.keptG hg3 hG
  go_wp2_with fail
  refine (specClueOf A1 n1 c1 w3.heap.size L w3 hL3.rd (Nat.le_refl _) (by omega)).mono ?_
  rintro e w4 ⟨A4, c4, rfl, ho4, hb4⟩
  have hcl := clueL_len L
  have hb64 := b64_clue L
  generalize clueL L = cs at *
  generalize hm : cs.length = m at *
  have hr4 := hr3.below hb4 (by have := hr3.lt; omega)
  have hs4 := hb4.size
  have hK3 := ho3.own_hi
  have hb04 := hb3.trans (hb4.mono hb3.size)
  have ho34 := ho3.below hb4
  have hG2 : w.heap.size < w2.heap.size := by have := hg2.size; omega
  have hG3 : w.heap.size < w3.heap.size := by have := hg3.size; omega
  clear hL3 ho hr2 hr3 hb3 hg3 hb4 ho3
  go_wp2_with fail
  refine (odd_any _ _ _ 14 _ hr4 (Nat.le_refl _) (by omega) (by omega)).mono ?_
  rintro e w5 ⟨bo, rfl, _, hr5, hg5⟩
  have ho5 := ho4.keptG hg5 hG3
  have hk5 := ho34.keptG hg5 hG2
  have hb5 := wBelow hb04 hg5 (Nat.le_refl _)
  have hs5 := hg5.size
  have hs34 : w3.heap.size ≤ w5.heap.size := by omega
  cases bo
  · go_wp2
    go_ret2
    exact ⟨A4, m, c4, cs, A3, n3, c3, ks, rfl, ho5.rd, by omega, hb64, hk5.rd, hn3, hk5.caps, hb5⟩
  · go_wp2_with (at_builtin; refine push_int rfl (.tmp 19) (.tmp 20) rfl w3.heap.size A4 _ c4 cs _ rfl rfl ho5 (by omega) hs34 ?_; intro A6 c6 w6 ho6 hg6)
    go_ret2
    exact ⟨A6, m + 1, c6, _, A3, n3, c3, ks, rfl, ho6.rd, by omega, b64_snoc hb64 (by omega), ((hk5.below ((Below.refl _ _).alloc (Nat.le_refl _) _)).keptR hg6 (fun g e e2 => by have h1 := hK3 g e; have h2 := ho5.own_lo g e2; omega)).rd, hn3, hk5.caps, push_below hb5 ho5 (by omega) hb5.size hg6⟩
theorem drawLineForced (A : Option Addr) (n c : Nat) (bs : List Int) (w : World) (h : Code_ w A n c bs) :
    Calls Try.prog 29 #[.slice A n c] w (DrawnCK w) := by
  go_enter Try.func29, Try.ntmps29
  go_wp2_with fail
  refine (drawLineWays A n c bs w h).mono ?_
  rintro e w1 ⟨A1, m, c1, cs, A2, n2, c2, ks, rfl, h1, h2, h3, h4, h5, h6, hb⟩
  go_wp2
  go_ret2
  exact ⟨A1, m, c1, cs, A2, n2, c2, ks, rfl, h1, h2, h3, h4, h5, h6, hb⟩
def DrawnCv (w : World) (e : Ending) (w' : World) : Prop := ∃ A m c cs, ∃ x : Int, e = .returned (.tuple #[.slice A m c, .int .i64 x]) ∧ Rd w' w'.heap.size A m cs ∧ m ≤ 10 ∧ B64 cs ∧ 0 ≤ x ∧ x ≤ 9 ∧ Below w.heap.size w w'
def CSt (W : World) (G lo : Nat) (wx : World) (A : Option Addr) (k c : Nat) (xs : List Int) : Prop := Ow wx lo A k c xs ∧ k ≤ 10 ∧ B64 xs ∧ Rdr wx G G 50 ∧ Below G W wx ∧ lo ≤ wx.heap.size
structure CvJ (W w0 : World) (G lo : Nat) (A : Option Addr) (k c : Nat) (xs : List Int) (A1 : Option Addr) (n1 k1 : Nat) (D : Nat → Bool) (e : Nat → Value) (w : World) : Prop where
  gr : w0.grownBy w (some G)
  ow : Ow w lo A k c xs
  cl : D 10 = true → D 6 = true
  f0 : D 0 = true → e 23 = .slice A k c
  f1 : D 1 = true → e 24 = .slice A1 n1 k1
  f2 : D 2 = true → e 25 = .int .i64 n1
  f3 : D 3 = true → e 26 = .slice A1 n1 k1
  f4 : D 4 = true → e 27 = .int .i64 n1
  f5 : D 5 = true → e 28 = .pointer (some ⟨G, 0, none⟩)
  f6 : D 6 = true → ∃ u : Int, e 29 = .int .i64 u ∧ 0 ≤ u ∧ u < 8
  f7 : D 7 = true → ∃ x : Int, e 30 = .int .i64 x ∧ 1 ≤ x ∧ x ≤ 8
  f8 : D 8 = true → ∃ (g : Nat) (x : Int), e 31 = .slice (some ⟨g, 0, none⟩) 5 5 ∧ w0.heap.size ≤ g ∧ g < w.heap.size ∧ w.heap[g]? = some (.cells #[.int .i64 n1, .int .i64 n1, .int .i64 0, .int .i64 9, .int .i64 x] 3 (0, 0)) ∧ 1 ≤ x ∧ x ≤ 8
  f9 : D 9 = true → e 32 = .pointer (some ⟨G, 0, none⟩)
  f10 : D 10 = true → ∃ u : Nat, e 33 = .int .i64 u ∧ u < 5
  f11 : D 11 = true → ∃ (g u : Nat) (x : Int), e 34 = .pointer (some ⟨g, u, none⟩) ∧ u < 5 ∧ w0.heap.size ≤ g ∧ g < w.heap.size ∧ w.heap[g]? = some (.cells #[.int .i64 n1, .int .i64 n1, .int .i64 0, .int .i64 9, .int .i64 x] 3 (0, 0)) ∧ 1 ≤ x ∧ x ≤ 8
  f12 : D 12 = true → ∃ x : Int, e 35 = .int .i64 x ∧ 0 ≤ x ∧ x ≤ 9
  f13 : D 13 = true → e 2 = .slice A k c
  f14 : D 14 = true → ∃ x : Int, e 3 = .int .i64 x ∧ 0 ≤ x ∧ x ≤ 9
theorem CvJ.mono {W w0 : World} {G lo : Nat} {A : Option Addr} {k c : Nat} {xs : List Int} {A1 : Option Addr} {n1 k1 : Nat} {D : Nat → Bool} {e : Nat → Value} {w w' : World} (h : CvJ W w0 G lo A k c xs A1 n1 k1 D e w) (hg : w.grownBy w' (some G)) (hG : G < lo) (h0 : G < w0.heap.size) : CvJ W w0 G lo A k c xs A1 n1 k1 D e w' := by
  have hsz := hg.size
  refine ⟨h.gr.trans hg, h.ow.keptG hg hG, h.cl, h.f0, h.f1, h.f2, h.f3, h.f4, h.f5, h.f6, h.f7, fun d => ?_, h.f9, h.f10, fun d => ?_, h.f12, h.f13, h.f14⟩
  · obtain ⟨g, x, q1, q2, q3, q4, q5⟩ := h.f8 d
    exact ⟨g, x, q1, q2, by omega, (hg.block g q3 (fun e => by have := Option.some.inj e; omega)).trans q4, q5⟩
  · obtain ⟨g, u, x, q1, q0, q2, q3, q4, q5⟩ := h.f11 d
    exact ⟨g, u, x, q1, q0, q2, by omega, (hg.block g q3 (fun e => by have := Option.some.inj e; omega)).trans q4, q5⟩
set_option maxHeartbeats 4000000 in
theorem drawClueValid (A : Option Addr) (n c : Nat) (bs : List Int) (w : World) (h : Code_ w A n c bs) :
    Calls Try.prog 21 #[.slice A n c] w (DrawnCv w) := by
  go_enter Try.func21, Try.ntmps21
  go_wp2_with fail
  refine (specOpen A c n bs w h.1 h.2.1 h.2.2).mono ?_
  rintro e w1 ⟨rfl, hr, hb⟩
  have hG := hr.lt
  go_wp2_with fail
  refine (l20Line_any _ _ _ w1 hr (Nat.le_refl _) (by omega)).mono ?_
  rintro e w2 ⟨A1, n1, c1, L, rfl, ho, h1, h8, hr2, hg2⟩
  have hb2 := wBelow hb hg2 (Nat.le_refl _)
  have hGw2 : w.heap.size < w2.heap.size := by have := hg2.size; omega
  go_wp2_with fail
  refine (specClueOf A1 n1 c1 w2.heap.size L w2 ho.rd (Nat.le_refl _) (by omega)).mono ?_
  rintro e w4 ⟨A4, c4, rfl, ho4, hb4⟩
  have hcl := clueL_len L
  have hb64 := b64_clue L
  generalize clueL L = cs at *
  generalize hm : cs.length = m at *
  have hr4 := hr2.below hb4 (by omega)
  have hb04 := hb2.trans (hb4.mono hb2.size)
  have hs4 := hb4.size
  generalize hGG : w.heap.size = G at *
  generalize w2.heap.size = lo at *
  have hm9 : m ≤ 9 := by omega
  have hrG := hr4.more (show 0 + 20 ≤ 29 by omega)
  clear hcl ho hr2 hg2 hb2 hb4 hr hb hr4
  go_wp2_with fail
  refine (odd_any _ _ _ 3 _ hrG (Nat.le_refl _) (by omega) (by omega)).mono ?_
  rintro e w5 ⟨bo, rfl, _, hr5, hg5⟩
  have ho5 := ho4.keptG hg5 hGw2
  have hb5 : Below G w w5 := hb04.grown hg5 (by omega) (fun k hk => by have := Option.some.inj hk; omega)
  have hs5 : lo ≤ w5.heap.size := by have := hg5.size; omega
  clear ho4 hrG hg5 hb04
  go_upto_if 14 with fail
  go_cut [6] from 7 (fun cv wx => ∃ (A : Option Addr) (k c : Nat) (xs : List Int), cv = .slice A k c ∧ CSt w G lo wx A k c xs)
  case first =>
    cases bo
    · go_wp2
      go_meet
      case rel => exact ⟨A4, m, c4, cs, rfl, ho5, by omega, hb64, hr5.more (by omega), hb5, hs5⟩
    · have HP := Lib.hid (fun (w6 : World) (o : Obj) (hg6 : (w5.alloc o).grownBy w6 (some G)) (hr6 : Rdr w6 G G (30 + 1)) => show Ow w6 lo A4 m c4 cs ∧ Below G w w6 ∧ lo ≤ w6.heap.size ∧ Rdr w6 G G 50 from
        ⟨(ho5.below ((Below.refl _ _).alloc (Nat.le_refl w5.heap.size) o)).keptG hg6 hGw2, (hb5.alloc (by omega) o).grown hg6 (by simp; omega) (fun k hk => by have := Option.some.inj hk; omega), by have := hg6.size; simp at this; omega, hr6.more (by omega)⟩)
      have HQ := Lib.hid (fun (w6 w7 : World) (v : Int) (A7 : Option Addr) (c7 : Nat) (o6 : Ow w6 lo A4 m c4 cs) (b6 : Below G w w6) (s6 : lo ≤ w6.heap.size) (r6 : Rdr w6 G G 50) (hv : -1 ≤ v ∧ v ≤ 9) (o7 : Ow w7 lo A7 (m + 1) c7 (cs ++ [v])) (hg7 : (w6.alloc (.cells #[.int .i64 v] 3)).grownBy w7 (Value.slice A4 m c4).ownBlock) => show CSt w G lo w7 A7 (m + 1) c7 (cs ++ [v]) from
        ⟨o7, by omega, b64_snoc hb64 (by omega), (r6.alloc (by omega) _).grown hg7 (by simp; omega) (fun g e => by have := o6.own_lo g e; omega), push_below b6 o6 (by omega) (by omega) hg7, by have := hg7.size; simp at this; omega⟩)
      go_wp2_with fail
      refine (pick_any _ _ _ 4 _ (hr5.alloc (by omega) _) (Nat.le_refl _) (by omega)).mono ?_
      rintro e w6 ⟨u, rfl, ⟨u0, u1, _⟩, hr6, hg6⟩
      have u2 := u1 (by omega)
      clear u1
      have hc := fun i => lit_cell hg6 (show G < w5.heap.size by omega) i
      have Hc := Lib.hid hc; clear hc
      obtain ⟨o6, b6, s6, r6⟩ := HP.out w6 _ hg6 (hr6.more (by omega))
      have hm40 : m ≤ 1099511627776 := by omega
      clear hg6 hr6 hr5 ho5 hb5 hs5
      have hu : u = 0 ∨ u = 1 ∨ u = 2 ∨ u = 3 := by omega
      clear u0 u2
      rcases hu with rfl | rfl | rfl | rfl
      · have hc := Hc.out 0
        simp at hc
        go_wp2_with (at_builtin; refine push_int rfl (.tmp 15) (.tmp 21) rfl lo A4 _ c4 cs _ rfl rfl o6 hm40 s6 ?_; intro A7 c7 w7 ho7 hg7)
        go_meet
        case rel => exact ⟨A7, m + 1, c7, _, rfl, HQ.out w6 w7 _ A7 c7 o6 b6 s6 r6 (by omega) ho7 hg7⟩
      · have hc := Hc.out 1
        simp at hc
        go_wp2_with (at_builtin; refine push_int rfl (.tmp 15) (.tmp 21) rfl lo A4 _ c4 cs _ rfl rfl o6 hm40 s6 ?_; intro A7 c7 w7 ho7 hg7)
        go_meet
        case rel => exact ⟨A7, m + 1, c7, _, rfl, HQ.out w6 w7 _ A7 c7 o6 b6 s6 r6 (by omega) ho7 hg7⟩
      · have hc := Hc.out 2
        simp at hc
        go_wp2_with (at_builtin; refine push_int rfl (.tmp 15) (.tmp 21) rfl lo A4 _ c4 cs _ rfl rfl o6 hm40 s6 ?_; intro A7 c7 w7 ho7 hg7)
        go_meet
        case rel => exact ⟨A7, m + 1, c7, _, rfl, HQ.out w6 w7 _ A7 c7 o6 b6 s6 r6 (by omega) ho7 hg7⟩
      · have hc := Hc.out 3
        simp at hc
        go_wp2_with (at_builtin; refine push_int rfl (.tmp 15) (.tmp 21) rfl lo A4 _ c4 cs _ rfl rfl o6 hm40 s6 ?_; intro A7 c7 w7 ho7 hg7)
        go_meet
        case rel => exact ⟨A7, m + 1, c7, _, rfl, HQ.out w6 w7 _ A7 c7 o6 b6 s6 r6 (by omega) ho7 hg7⟩
  case rest =>
  obtain ⟨A6, k, c6, xs, rfl, ho6, hk10, hx64, hr6, hb6, hs6⟩ := hcut
  clear ho5 hr5 hb5 hs5 hb64 hm9
  go_wp2
  have hGk : G < wc.heap.size := by omega
  refine wp_region_E [23, 24, 25, 26, 27, 28, 29, 30, 31, 32, 33, 34, 35, 2, 3] (fun D e w1 => CvJ w wc G lo A6 k c6 xs A1 n1 c1 D e w1 ∧ (D 6 = false → Rdr w1 G G 50) ∧ (D 6 = true → D 10 = false → Rdr w1 G G 51)) (by rfl) (by kernel_rfl) (by kernel_rfl) (by simp) ?init ?step ?fin
  case init => exact ⟨⟨⟨rfl, rfl, rfl, Nat.le_refl _, fun _ _ _ => rfl⟩, ho6.below (Below.refl _ _).drew, nofun, nofun, nofun, nofun, nofun, nofun, nofun, nofun, nofun, nofun, nofun, nofun, nofun, nofun, nofun, nofun⟩, fun _ => hr6.below (Below.refl _ _).drew (by omega), nofun⟩
  case step =>
    intro i o D a w1 K hi hoo hDi hdep hoff hJJ hK hKn
    obtain ⟨hJ, hR1, hR2⟩ := hJJ
    have hsz := hJ.gr.size
    have e4 : a.eval (.tmp 4) = .pointer (some ⟨G, 0, none⟩) := hoff 4 (by decide)
    have e5 : a.eval (.tmp 5) = .slice A1 n1 c1 := hoff 5 (by decide)
    have e6 : a.eval (.tmp 6) = .slice A6 k c6 := hoff 6 (by decide)
    have hGw : G ≤ w1.heap.size := by omega
    have hiN : i < 15 := hi
    have : i = 0 ∨ i = 1 ∨ i = 2 ∨ i = 3 ∨ i = 4 ∨ i = 5 ∨ i = 6 ∨ i = 7 ∨ i = 8 ∨ i = 9 ∨ i = 10 ∨ i = 11 ∨ i = 12 ∨ i = 13 ∨ i = 14 := by omega
    rcases this with rfl | rfl | rfl | rfl | rfl | rfl | rfl | rfl | rfl | rfl | rfl | rfl | rfl | rfl | rfl
    all_goals
      simp only [List.getElem?_toArray, List.getElem?_cons_zero, List.getElem?_cons_succ, Option.some.injEq] at hoo
      subst hoo
    · refine oper_valJ (v := .slice A6 k c6) (w' := w1) ?_ (hK _ _ _ rfl ⟨⟨hJ.gr, hJ.ow, hJ.cl, fun _ => rfl, hJ.f1, hJ.f2, hJ.f3, hJ.f4, hJ.f5, hJ.f6, hJ.f7, hJ.f8, hJ.f9, hJ.f10, hJ.f11, hJ.f12, hJ.f13, hJ.f14⟩, hR1, hR2⟩)
      unfold execOp
      simp only [e6]
      go_simp
    · refine oper_valJ (v := .slice A1 n1 c1) (w' := w1) ?_ (hK _ _ _ rfl ⟨⟨hJ.gr, hJ.ow, hJ.cl, hJ.f0, fun _ => rfl, hJ.f2, hJ.f3, hJ.f4, hJ.f5, hJ.f6, hJ.f7, hJ.f8, hJ.f9, hJ.f10, hJ.f11, hJ.f12, hJ.f13, hJ.f14⟩, hR1, hR2⟩)
      unfold execOp
      simp only [e5]
      go_simp
    · have p := hJ.f1 (hdep ⟨1, .data⟩ (by simp) rfl)
      refine oper_valJ (v := .int .i64 n1) (w' := w1) ?_ (hK _ _ _ rfl ⟨⟨hJ.gr, hJ.ow, hJ.cl, hJ.f0, hJ.f1, fun _ => rfl, hJ.f3, hJ.f4, hJ.f5, hJ.f6, hJ.f7, hJ.f8, hJ.f9, hJ.f10, hJ.f11, hJ.f12, hJ.f13, hJ.f14⟩, hR1, hR2⟩)
      unfold execOp
      have p' : a.tmps[24]?.getD undef = .slice A1 n1 c1 := by rw [← Array.getD_eq_getD_getElem?]; exact p
      go_simp
    · refine oper_valJ (v := .slice A1 n1 c1) (w' := w1) ?_ (hK _ _ _ rfl ⟨⟨hJ.gr, hJ.ow, hJ.cl, hJ.f0, hJ.f1, hJ.f2, fun _ => rfl, hJ.f4, hJ.f5, hJ.f6, hJ.f7, hJ.f8, hJ.f9, hJ.f10, hJ.f11, hJ.f12, hJ.f13, hJ.f14⟩, hR1, hR2⟩)
      unfold execOp
      simp only [e5]
      go_simp
    · have p := hJ.f3 (hdep ⟨3, .data⟩ (by simp) rfl)
      refine oper_valJ (v := .int .i64 n1) (w' := w1) ?_ (hK _ _ _ rfl ⟨⟨hJ.gr, hJ.ow, hJ.cl, hJ.f0, hJ.f1, hJ.f2, hJ.f3, fun _ => rfl, hJ.f5, hJ.f6, hJ.f7, hJ.f8, hJ.f9, hJ.f10, hJ.f11, hJ.f12, hJ.f13, hJ.f14⟩, hR1, hR2⟩)
      unfold execOp
      have p' : a.tmps[26]?.getD undef = .slice A1 n1 c1 := by rw [← Array.getD_eq_getD_getElem?]; exact p
      go_simp
    · refine oper_valJ (v := .pointer (some ⟨G, 0, none⟩)) (w' := w1) ?_ (hK _ _ _ rfl ⟨⟨hJ.gr, hJ.ow, hJ.cl, hJ.f0, hJ.f1, hJ.f2, hJ.f3, hJ.f4, fun _ => rfl, hJ.f6, hJ.f7, hJ.f8, hJ.f9, hJ.f10, hJ.f11, hJ.f12, hJ.f13, hJ.f14⟩, hR1, hR2⟩)
      unfold execOp
      simp only [e4]
      go_simp
    · have p := hJ.f5 (hdep ⟨5, .data⟩ (by simp) rfl)
      have d10 : D 10 = false := by cases e : D 10; rfl; rw [hJ.cl e] at hDi; cases hDi
      refine oper_callJ (f := 41) (args := #[.pointer (some ⟨G, 0, none⟩), .int .i64 8]) ?_ (pick_any G G 50 8 w1 (hR1 hDi) (Nat.le_refl _) (by omega)) ?_
      · unfold execOp
        go_simp
        exact by simpa [Act.eval] using p
      · rintro e w2 ⟨v, rfl, ⟨v0, v1, _⟩, hr2, hg2⟩
        have v2 := v1 (by omega)
        have hJ' := hJ.mono hg2 hGw2 hGk
        exact ⟨_, rfl, hK _ _ _ rfl ⟨⟨hJ'.gr, hJ'.ow, fun _ => rfl, hJ'.f0, hJ'.f1, hJ'.f2, hJ'.f3, hJ'.f4, hJ'.f5, fun _ => ⟨v, rfl, v0, v2⟩, hJ'.f7, hJ'.f8, hJ'.f9, hJ'.f10, hJ'.f11, hJ'.f12, hJ'.f13, hJ'.f14⟩, nofun, fun _ _ => hr2⟩⟩
    · obtain ⟨u, p, u0, u1⟩ := hJ.f6 (hdep ⟨6, .data⟩ (by simp) rfl)
      have hwr : IntKind.i64.wrap (1 + u) = 1 + u := IntWalk.i64_in _ (by omega)
      refine oper_valJ (v := .int .i64 (1 + u)) (w' := w1) ?_ (hK _ _ _ rfl ⟨⟨hJ.gr, hJ.ow, hJ.cl, hJ.f0, hJ.f1, hJ.f2, hJ.f3, hJ.f4, hJ.f5, hJ.f6, (fun _ => ⟨1 + u, rfl, by omega, by omega⟩), hJ.f8, hJ.f9, hJ.f10, hJ.f11, hJ.f12, hJ.f13, hJ.f14⟩, hR1, hR2⟩)
      unfold execOp
      simp only [p]
      go_simp
    · have p1 := hJ.f2 (hdep ⟨2, .data⟩ (by simp) rfl)
      have p2 := hJ.f4 (hdep ⟨4, .data⟩ (by simp) rfl)
      obtain ⟨x, p3, x1, x8⟩ := hJ.f7 (hdep ⟨7, .data⟩ (by simp) rfl)
      have hJ' := hJ.mono (only_alloc (World.grownBy.refl w1 _) (.cells #[.int .i64 n1, .int .i64 n1, .int .i64 0, .int .i64 9, .int .i64 x] 3)) hGw2 hGk
      refine oper_valJ (v := .slice (some ⟨w1.heap.size, 0, none⟩) 5 5) (w' := w1.alloc (.cells #[.int .i64 n1, .int .i64 n1, .int .i64 0, .int .i64 9, .int .i64 x] 3)) ?_ (hK _ _ _ rfl ⟨⟨hJ'.gr, hJ'.ow, hJ'.cl, hJ'.f0, hJ'.f1, hJ'.f2, hJ'.f3, hJ'.f4, hJ'.f5, hJ'.f6, hJ'.f7, fun _ => ⟨w1.heap.size, x, rfl, hsz, by simp, heap_alloc_new _ _, x1, x8⟩, hJ'.f9, hJ'.f10, hJ'.f11, hJ'.f12, hJ'.f13, hJ'.f14⟩, fun d => (hR1 d).alloc hGw _, fun d d' => (hR2 d d').alloc hGw _⟩)
      have p1' : a.tmps[25]?.getD undef = .int .i64 n1 := by rw [← Array.getD_eq_getD_getElem?]; exact p1
      have p2' : a.tmps[27]?.getD undef = .int .i64 n1 := by rw [← Array.getD_eq_getD_getElem?]; exact p2
      have p3' : a.tmps[30]?.getD undef = .int .i64 x := by rw [← Array.getD_eq_getD_getElem?]; exact p3
      unfold execOp
      go_simp
    · refine oper_valJ (v := .pointer (some ⟨G, 0, none⟩)) (w' := w1) ?_ (hK _ _ _ rfl ⟨⟨hJ.gr, hJ.ow, hJ.cl, hJ.f0, hJ.f1, hJ.f2, hJ.f3, hJ.f4, hJ.f5, hJ.f6, hJ.f7, hJ.f8, fun _ => rfl, hJ.f10, hJ.f11, hJ.f12, hJ.f13, hJ.f14⟩, hR1, hR2⟩)
      unfold execOp
      simp only [e4]
      go_simp
    · have p := hJ.f9 (hdep ⟨9, .data⟩ (by simp) rfl)
      have d6 := hdep ⟨6, .chain⟩ (by simp) rfl
      refine oper_callJ (f := 41) (args := #[.pointer (some ⟨G, 0, none⟩), .int .i64 5]) ?_ (pick_any G G 51 5 w1 (hR2 d6 hDi) (Nat.le_refl _) (by omega)) ?_
      · unfold execOp
        go_simp
        exact by simpa [Act.eval] using p
      · rintro e w2 ⟨v, rfl, ⟨v0, v1, _⟩, hr2, hg2⟩
        have v2 := v1 (by omega)
        obtain ⟨u, rfl⟩ := Int.eq_ofNat_of_zero_le v0
        have hJ' := hJ.mono hg2 hGw2 hGk
        exact ⟨_, rfl, hK _ _ _ rfl ⟨⟨hJ'.gr, hJ'.ow, fun _ => d6, hJ'.f0, hJ'.f1, hJ'.f2, hJ'.f3, hJ'.f4, hJ'.f5, hJ'.f6, hJ'.f7, hJ'.f8, hJ'.f9, fun _ => ⟨u, rfl, by omega⟩, hJ'.f11, hJ'.f12, hJ'.f13, hJ'.f14⟩, fun d => (by rw [show D 6 = false from d] at d6; cases d6), fun _ => nofun⟩⟩
    · obtain ⟨g, x, q1, q2, q3, q4, q5, q6⟩ := hJ.f8 (hdep ⟨8, .data⟩ (by simp) rfl)
      obtain ⟨u, r1, r2⟩ := hJ.f10 (hdep ⟨10, .data⟩ (by simp) rfl)
      have uI : (u : Int) < 5 := by omega
      refine oper_valJ (v := .pointer (some ⟨g, u, none⟩)) (w' := w1) ?_ (hK _ _ _ rfl ⟨⟨hJ.gr, hJ.ow, hJ.cl, hJ.f0, hJ.f1, hJ.f2, hJ.f3, hJ.f4, hJ.f5, hJ.f6, hJ.f7, hJ.f8, hJ.f9, hJ.f10, fun _ => ⟨g, u, x, rfl, r2, q2, q3, q4, q5, q6⟩, hJ.f12, hJ.f13, hJ.f14⟩, hR1, hR2⟩)
      unfold execOp
      simp only [q1, r1]
      go_simp
    · obtain ⟨g, u, x, q1, q0, q2, q3, q4, q5, q6⟩ := hJ.f11 (hdep ⟨11, .data⟩ (by simp) rfl)
      have hcell : ∃ v : Int, w1.cell? ⟨g, u, none⟩ = some (.int .i64 v) ∧ 0 ≤ v ∧ v ≤ 9 := by
        have : u = 0 ∨ u = 1 ∨ u = 2 ∨ u = 3 ∨ u = 4 := by omega
        rcases this with rfl | rfl | rfl | rfl | rfl
        · exact ⟨n1, (cell_of_row _ _ 0 _ _ (0, 0) q4).trans rfl, by omega, by omega⟩
        · exact ⟨n1, (cell_of_row _ _ 1 _ _ (0, 0) q4).trans rfl, by omega, by omega⟩
        · exact ⟨0, (cell_of_row _ _ 2 _ _ (0, 0) q4).trans rfl, by omega, by omega⟩
        · exact ⟨9, (cell_of_row _ _ 3 _ _ (0, 0) q4).trans rfl, by omega, by omega⟩
        · exact ⟨x, (cell_of_row _ _ 4 _ _ (0, 0) q4).trans rfl, by omega, by omega⟩
      obtain ⟨v, hc, hv0, hv9⟩ := hcell
      refine oper_valJ (v := .int .i64 v) (w' := w1) ?_ (hK _ _ _ rfl ⟨⟨hJ.gr, hJ.ow, hJ.cl, hJ.f0, hJ.f1, hJ.f2, hJ.f3, hJ.f4, hJ.f5, hJ.f6, hJ.f7, hJ.f8, hJ.f9, hJ.f10, hJ.f11, fun _ => ⟨v, rfl, hv0, hv9⟩, hJ.f13, hJ.f14⟩, hR1, hR2⟩)
      unfold execOp
      simp only [q1]
      go_simp
    · have p := hJ.f0 (hdep ⟨0, .data⟩ (by simp) rfl)
      refine oper_valJ (v := .slice A6 k c6) (w' := w1) ?_ (hK _ _ _ rfl ⟨⟨hJ.gr, hJ.ow, hJ.cl, hJ.f0, hJ.f1, hJ.f2, hJ.f3, hJ.f4, hJ.f5, hJ.f6, hJ.f7, hJ.f8, hJ.f9, hJ.f10, hJ.f11, hJ.f12, fun _ => rfl, hJ.f14⟩, hR1, hR2⟩)
      unfold execOp
      simp only [p]
      go_simp
    · obtain ⟨x, p, x0, x9⟩ := hJ.f12 (hdep ⟨12, .data⟩ (by simp) rfl)
      refine oper_valJ (v := .int .i64 x) (w' := w1) ?_ (hK _ _ _ rfl ⟨⟨hJ.gr, hJ.ow, hJ.cl, hJ.f0, hJ.f1, hJ.f2, hJ.f3, hJ.f4, hJ.f5, hJ.f6, hJ.f7, hJ.f8, hJ.f9, hJ.f10, hJ.f11, hJ.f12, hJ.f13, fun _ => ⟨x, rfl, x0, x9⟩⟩, hR1, hR2⟩)
      unfold execOp
      simp only [p]
      go_simp
  case fin =>
    intro D a w2 hall hdf htm hJJ
    obtain ⟨hJ, _, _⟩ := hJJ
    have q2 := hJ.f13 (hall 13 (by decide))
    obtain ⟨x, q3, x0, x9⟩ := hJ.f14 (hall 14 (by decide))
    have hgr := hJ.gr
    have how := hJ.ow
    have r2 : a.tmps.getD 2 undef = .slice A6 k c6 := q2
    have r3 : a.tmps.getD 3 undef = .int .i64 x := q3
    obtain ⟨v23, r23⟩ : ∃ v, a.tmps.getD 23 undef = v := ⟨_, rfl⟩
    obtain ⟨v24, r24⟩ : ∃ v, a.tmps.getD 24 undef = v := ⟨_, rfl⟩
    obtain ⟨v25, r25⟩ : ∃ v, a.tmps.getD 25 undef = v := ⟨_, rfl⟩
    obtain ⟨v26, r26⟩ : ∃ v, a.tmps.getD 26 undef = v := ⟨_, rfl⟩
    obtain ⟨v27, r27⟩ : ∃ v, a.tmps.getD 27 undef = v := ⟨_, rfl⟩
    obtain ⟨v28, r28⟩ : ∃ v, a.tmps.getD 28 undef = v := ⟨_, rfl⟩
    obtain ⟨v29, r29⟩ : ∃ v, a.tmps.getD 29 undef = v := ⟨_, rfl⟩
    obtain ⟨v30, r30⟩ : ∃ v, a.tmps.getD 30 undef = v := ⟨_, rfl⟩
    obtain ⟨v31, r31⟩ : ∃ v, a.tmps.getD 31 undef = v := ⟨_, rfl⟩
    obtain ⟨v32, r32⟩ : ∃ v, a.tmps.getD 32 undef = v := ⟨_, rfl⟩
    obtain ⟨v33, r33⟩ : ∃ v, a.tmps.getD 33 undef = v := ⟨_, rfl⟩
    obtain ⟨v34, r34⟩ : ∃ v, a.tmps.getD 34 undef = v := ⟨_, rfl⟩
    obtain ⟨v35, r35⟩ : ∃ v, a.tmps.getD 35 undef = v := ⟨_, rfl⟩
    simp only [List.foldl_cons, List.foldl_nil, r2, r3, r23, r24, r25, r26, r27, r28, r29, r30, r31, r32, r33, r34, r35, List.setIfInBounds_toArray, List.set_cons_succ, List.set_cons_zero] at htm
    clear hJ hall r2 r3 r23 r24 r25 r26 r27 r28 r29 r30 r31 r32 r33 r34 r35 q2 q3
    obtain ⟨tm, df⟩ := a
    dsimp only at htm hdf
    subst htm hdf
    go_wp2
    go_ret2
    exact ⟨A6, k, c6, xs, x, rfl, how.rd, hk10, hx64, x0, x9, by rw [hGG]; exact hb6.grown hgr (by omega) (fun k hk => by have := Option.some.inj hk; omega)⟩
end Go.Proofs.Ytigkcgfhiakikaa
