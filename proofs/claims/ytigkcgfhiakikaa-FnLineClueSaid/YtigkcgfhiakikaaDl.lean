import Derived.Test.YtigkcgfhiakikaaDrawL
import Derived.Test.YtigkcgfhiakikaaLt
import Derived.Test.YtigkcgfhiakikaaFl2
set_option maxRecDepth 8000
namespace Go.Proofs.Ytigkcgfhiakikaa
open Go.ChangeShapes Go.WideShapes Go.ChangeAt Go.RowKit
/-! the draws of lines. -/
theorem Rdr.grown {w w' : World} {B G P : Nat} {r : Option Nat} (h : Rdr w B G P) (hg : w.grownBy w' r) (hB : B ≤ w.heap.size) (hne : ∀ g, r = some g → G < g ∧ B ≤ g) : Rdr w' B G P := by
  have hlt := h.lt
  obtain ⟨A, n, c, p, bs, h1, h2, h3, h4, h5⟩ := h
  refine ⟨A, n, c, p, bs, (hg.block G hlt (fun e => ?_)).trans h1, h2, h3, h4, h5.below ((Below.refl B w).grown hg hB (fun k hk => (hne k hk).2))⟩
  have := (hne G e.symm).1
  omega
theorem only_push {a w w' : World} {G : Nat} {o : Obj} {r : Option Nat} (h : a.grownBy w (some G)) (hg : (w.alloc o).grownBy w' r) (hr : ∀ g, r = some g → a.heap.size ≤ g) : a.grownBy w' (some G) := by
  have h1 := only_alloc h o
  exact ⟨hg.os.trans h1.os, hg.tape.trans h1.tape, hg.output.trans h1.output, Nat.le_trans h1.size hg.size, fun i hi hne => (hg.block i (Nat.lt_of_lt_of_le hi h1.size) (fun e => by have := hr i e.symm; omega)).trans (h1.block i hi hne)⟩
theorem OwF.keptR {w w' : World} {lo n c : Nat} {A : Option Addr} {L : List Bool} {r : Option Nat} (h : OwF w lo A n c L) (hg : w.grownBy w' r) (hne : ∀ g, (Value.slice A n c).ownBlock = some g → r ≠ some g) : OwF w' lo A n c L := by
  refine World.ownsRow.kept h hg ?_
  cases e : (Value.slice A n c).ownBlock with
  | none => exact .inl rfl
  | some g => exact .inr (fun e2 => hne g e e2.symm)
theorem Ow.keptR {w w' : World} {lo n c : Nat} {A : Option Addr} {L : List Int} {r : Option Nat} (h : Ow w lo A n c L) (hg : w.grownBy w' r) (hne : ∀ g, (Value.slice A n c).ownBlock = some g → r ≠ some g) : Ow w' lo A n c L := by
  refine World.ownsRow.kept h hg ?_
  cases e : (Value.slice A n c).ownBlock with
  | none => exact .inl rfl
  | some g => exact .inr (fun e2 => hne g e e2.symm)
theorem OwF.keptG {w w' : World} {lo G n c : Nat} {A : Option Addr} {L : List Bool} (h : OwF w lo A n c L) (hg : w.grownBy w' (some G)) (hG : G < lo) : OwF w' lo A n c L :=
  h.keptR hg (fun g e e2 => by have := h.own_lo g e; have := Option.some.inj e2; omega)
def DrewFl (w : World) (B G P : Nat) (e : Ending) (w' : World) : Prop :=
  ∃ A n c L, e = .returned (.slice A n c) ∧ OwF w' w.heap.size A n c L ∧ 1 ≤ n ∧ n ≤ 8 ∧ Rdr w' B G P ∧ w.grownBy w' (some G)
set_option maxHeartbeats 1000000 in
theorem l20Line_any (B G P : Nat) (w : World) (h : Rdr w B G P) (hBG : B ≤ G) (hP : P ≤ 1000) :
    Calls Try.prog 42 #[.pointer (some ⟨G, 0, none⟩), .int .i64 8] w (DrewFl w B G (P + 20)) := by
  have hG0 := h.lt
  have hBw : B ≤ w.heap.size := by omega
  have hb0 : Below w.heap.size w (w.alloc (.cells #[] 4)) := (Below.refl _ _).alloc (Nat.le_refl _) _
  have hO := OwF.made0 w w.heap.size (Nat.le_refl _)
  have hrA := h.alloc hBw (.cells #[] 4)
  have hgA : w.grownBy (w.alloc (.cells #[] 4)) (some G) := only_alloc (World.grownBy.refl w _) _
  go_enter Try.func42, Try.ntmps42
  go_wp2_with fail
  refine (pick_any B G P _ _ hrA hBG (by omega)).mono ?_
  rintro e w1 ⟨v, rfl, ⟨v0, v1, _⟩, hr1, hg1⟩
  have v2 := v1 (by omega)
  clear v1
  obtain ⟨n0, rfl⟩ := Int.eq_ofNat_of_zero_le v0
  have hO1 := hO.keptG hg1 hG0
  have hg01 := hgA.trans hg1
  clear hO hrA hgA hg1 hb0
  go_wp2
  go_loopw [5, 6] (fun s i wr => ∃ (t q : Nat) (A : Option Addr) (c : Nat) (L : List Bool), t + q = n0 + 1 ∧ i = .int .i64 t ∧ s = .slice A q c ∧ OwF wr w.heap.size A q c L ∧ Rdr wr B G (P + 1 + q) ∧ w.grownBy wr (some G)) (fun _ i _ => (intOf i).toNat)
  case atStart => exact ⟨n0 + 1, 0, _, _, [], by omega, by congr 1; omega, rfl, hO1, hr1, hg01⟩
  case round =>
    obtain ⟨t, q, A, c, L, htq, rfl, rfl, ho, hr, hg⟩ := hrel
    by_cases ht : 0 < t
    · have htI : (0 : Int) < (t : Int) := by omega
      go_wp2_with fail
      refine (pick_any B G _ _ _ hr hBG (by omega)).mono ?_
      rintro e w4 ⟨u, rfl, ⟨u0, u1, _⟩, hr4, hg4⟩
      have u2 := u1 (by omega)
      clear u1
      have ho4 := ho.keptG hg4 hG0
      have hg14 := hg.trans hg4
      have hq40 : q ≤ 1099511627776 := by omega
      have hs4 := hg14.size
      have hr4' := Lib.hid hr4
      clear ho hg hr hg4
      go_wp2_with (at_builtin; refine push_flag rfl (.tmp 16) (.tmp 20) rfl w.heap.size A _ c L _ rfl rfl ho4 hq40 hs4 ?_; intro A' c' w5 ho5 hg5)
      go_roundw
      case rel => exact ⟨t - 1, q + 1, A', c', _, by omega, by congr 1; omega, rfl, ho5, ((hr4'.out.alloc (by omega) _).grown hg5 (by simp; omega) (fun g e => by have := ho4.own_lo g e; omega)).more (by omega), only_push hg14 hg5 (fun g e => ho4.own_lo g e)⟩
      case measure => simp [intOf]; omega
    · have htI : ¬ ((0 : Int) < (t : Int)) := by omega
      have hq1 : 1 ≤ q ∧ q ≤ 8 := by omega
      clear htq
      go_wp2
      go_ret
      exact ⟨A, q, c, L, rfl, ho, hq1.1, hq1.2, hr.more (by omega), hg⟩
def DrewKn (w : World) (B G P : Nat) (e : Ending) (w' : World) : Prop :=
  ∃ A n c xs, e = .returned (.slice A n c) ∧ Ow w' w.heap.size A n c xs ∧ n ≤ 8 ∧ Rdr w' B G P ∧ w.grownBy w' (some G)
set_option maxHeartbeats 2000000 in
theorem l20Known_any (B G P : Nat) (m : Int) (Al : Option Addr) (nl cl lo : Nat) (L : List Bool) (w : World) (h : Rdr w B G P) (hBG : B ≤ G) (hP : P ≤ 1000) (hm : m ≤ 1000000) (hL : OwF w lo Al nl cl L) (hGl : G < lo) (h1 : 1 ≤ nl) (h8 : nl ≤ 8) :
    Calls Try.prog 48 #[.pointer (some ⟨G, 0, none⟩), .slice Al nl cl, .int .i64 m] w (DrewKn w B G (P + 20)) := by
  have hG0 := h.lt
  have hBw : B ≤ w.heap.size := by omega
  have hLb : ∀ g, (Value.slice Al nl cl).ownBlock = some g → G < g ∧ g < w.heap.size := fun g e => ⟨by have := hL.own_lo g e; omega, hL.own_hi g e⟩
  have HLb := Lib.hid hLb
  have hb0 : Below w.heap.size w (w.alloc (.cells #[] 3)) := (Below.refl _ _).alloc (Nat.le_refl _) _
  have hO := Ow.made0 w w.heap.size (Nat.le_refl _)
  have hrA := h.alloc hBw (.cells #[] 3)
  have hgA : w.grownBy (w.alloc (.cells #[] 3)) (some G) := only_alloc (World.grownBy.refl w _) _
  have hLA := hL.below hb0
  clear hLb hb0
  go_enter Try.func48, Try.ntmps48
  go_wp2
  go_loopw [7, 8] (fun s i wr => ∃ (k : Nat) (A : Option Addr) (c : Nat) (xs : List Int), k ≤ nl ∧ i = .int .i64 k ∧ s = .slice A k c ∧ Ow wr w.heap.size A k c xs ∧ OwF wr lo Al nl cl L ∧ Rdr wr B G (P + k) ∧ w.grownBy wr (some G)) (fun _ i _ => nl - (intOf i).toNat)
  case atStart => exact ⟨0, _, _, [], by omega, rfl, rfl, hO, hLA, hrA, hgA⟩
  case round =>
    obtain ⟨k, A, c, xs, hk, rfl, rfl, ho, hL', hr, hg⟩ := hrel
    by_cases hlt : k < nl
    · have hkI : (k : Int) < (nl : Int) := by omega
      go_wp2_with fail
      refine (pick_any B G _ _ _ hr hBG (by omega)).mono ?_
      rintro e w4 ⟨u, rfl, ⟨u0, u1, _⟩, hr4, hg4⟩
      have u2 := u1 (by omega)
      clear u1
      have ho4 := ho.keptG hg4 hG0
      have hL4 := hL'.keptG hg4 hGl
      have hg14 := hg.trans hg4
      have hk40 : k ≤ 1099511627776 := by omega
      have hs4 := hg14.size
      have Hr4 := Lib.hid hr4
      have HE := Lib.hid (fun (v : Int) (A' : Option Addr) (c' : Nat) (w5 : World) (ho5 : Ow w5 w.heap.size A' (k + 1) c' (xs ++ [v])) (hg5 : (w4.alloc (.cells #[.int .i64 v] 3)).grownBy w5 (Value.slice A k c).ownBlock) => show Ow w5 w.heap.size A' (k + 1) c' (xs ++ [v]) ∧ OwF w5 lo Al nl cl L ∧ Rdr w5 B G (P + (k + 1)) ∧ w.grownBy w5 (some G) from
        ⟨ho5, (hL4.below ((Below.refl _ _).alloc (Nat.le_refl _) _)).keptR hg5 (fun g e e2 => by have h1 := (HLb.out g e).2; have h2 := ho4.own_lo g e2; omega), (((Hr4.out.alloc (by omega) _).grown hg5 (by simp; omega) (fun g e => by have := ho4.own_lo g e; omega)).more (by omega)), only_push hg14 hg5 (fun g e => ho4.own_lo g e)⟩)
      obtain ⟨b, off, rfl, hbB, hck⟩ := hL4.rd.at_ hlt
      clear ho hg hr hg4 hL' hr4
      by_cases hu : u = 0
      · have huI : (u == 0) = true := by simp [hu]
        clear hu
        cases hbit : nb L k
        all_goals
          rw [hbit] at hck
          clear hbit
          go_wp2_with (at_builtin; refine push_int rfl (.tmp 24) (.tmp 26) rfl w.heap.size A _ c xs _ rfl rfl ho4 hk40 hs4 ?_; intro A' c' w5 ho5 hg5)
          go_roundw
          case rel => exact ⟨k + 1, A', c', _, by omega, by go_num, rfl, HE.out _ A' c' w5 ho5 hg5⟩
          case measure => simp [intOf]; omega
      · have huI : (u == 0) = false := by simpa using hu
        clear hu
        go_wp2_with (at_builtin; refine push_int rfl (.tmp 24) (.tmp 26) rfl w.heap.size A _ c xs _ rfl rfl ho4 hk40 hs4 ?_; intro A' c' w5 ho5 hg5)
        go_roundw
        case rel => exact ⟨k + 1, A', c', _, by omega, by go_num, rfl, HE.out _ A' c' w5 ho5 hg5⟩
        case measure => simp [intOf]; omega
    · have hkn : k = nl := by omega
      have hk1 : 1 ≤ k ∧ k ≤ 8 := by omega
      have hkI : ¬ ((k : Int) < (nl : Int)) := by omega
      have hk0 : (0 : Int) < (k : Int) := by omega
      have hPk : P + k ≤ P + 8 := by omega
      have hr0 := hr.more hPk
      clear hkn hlt hk hL' hr
      go_wp2_with fail
      refine (odd_any B G (P + 8) _ _ hr0 hBG (by omega) hm).mono ?_
      rintro e w5 ⟨bo, rfl, _, hr5, hg5⟩
      have ho5 := ho.keptG hg5 hG0
      have hg15 := hg.trans hg5
      clear ho hg hg5 hr0
      cases bo
      · go_wp2
        go_ret
        exact ⟨A, k, c, xs, rfl, ho5, hk1.2, hr5.more (by omega), hg15⟩
      · go_wp2_with fail
        refine (pick_any B G (P + 8 + 1) _ _ hr5 hBG (by omega)).mono ?_
        rintro e w6 ⟨u, rfl, ⟨u0, u1, _⟩, hr6, hg6⟩
        have u2 := u1 (by omega)
        clear u1
        have ho6 := ho5.keptG hg6 hG0
        have hg16 := hg15.trans hg6
        have hs6 := hg16.size
        clear ho5 hg15 hg6 hr5
        have hu : u = 0 ∨ u = 1 ∨ u = 2 := by omega
        clear u0 u2
        rcases hu with rfl | rfl | rfl
        · go_wp2_with fail
          refine (pick_any B G _ _ _ hr6 hBG (by omega)).mono ?_
          rintro e w7 ⟨p, rfl, ⟨p0, p1, _⟩, hr7, hg7⟩
          have p2 := p1 (by omega)
          clear p1
          have ho7 := ho6.keptG hg7 hG0
          have hg17 := hg16.trans hg7
          have hs7 := hg17.size
          clear ho6 hg16 hg7 hr6
          obtain ⟨q, rfl⟩ := Int.eq_ofNat_of_zero_le p0
          have hqk : q < k := by omega
          go_wp2_with fail
          refine (pick_any B G _ _ _ (hr7.alloc (by omega) _) hBG (by omega)).mono ?_
          rintro e w8 ⟨u, rfl, ⟨u0, u1, _⟩, hr8, hg8⟩
          have u2 := u1 (by omega)
          clear u1
          have hc := fun i => lit_cell hg8 (show G < w7.heap.size by omega) i
          have Hc := Lib.hid hc; clear hc
          have ho8 := (ho7.below ((Below.refl _ _).alloc (Nat.le_refl w7.heap.size) _)).keptG hg8 hG0
          have hg18 := hg17.trans (grown_of_alloc hg8)
          have hs8 := hg18.size
          clear ho7 hg17 hg8 hr7
          obtain ⟨g, rfl, hlog, hgw⟩ := ho8.form (by omega)
          obtain ⟨hcl, hfr⟩ := ho8.cell hqk
          have hqI : (q : Int) < (k : Int) := by omega
          have HE := Lib.hid (fun (v : Int) => show Ow (w8.setCell ⟨g, q, none⟩ (.int .i64 v)) w.heap.size (some ⟨g, 0, none⟩) k c (xs.set q v) ∧ Rdr (w8.setCell ⟨g, q, none⟩ (.int .i64 v)) B G (P + 20) ∧ w.grownBy (w8.setCell ⟨g, q, none⟩ (.int .i64 v)) (some G) from
            ⟨ho8.put q v, (hr8.set_ (q := ⟨g, q, none⟩) (by show B ≤ g; omega) (by show g ≠ G; omega) _).more (by omega), only_set hg18 hlog _⟩)
          have hu : u = 0 ∨ u = 1 := by omega
          clear u0 u2
          rcases hu with rfl | rfl
          · have hc := Hc.out 0
            simp at hc
            go_wp2
            go_ret
            exact ⟨_, k, c, _, rfl, (HE.out _).1, hk1.2, (HE.out _).2.1, (HE.out _).2.2⟩
          · have hc := Hc.out 1
            simp at hc
            go_wp2
            go_ret
            exact ⟨_, k, c, _, rfl, (HE.out _).1, hk1.2, (HE.out _).2.1, (HE.out _).2.2⟩
        · have hO2 := Ow.made0 w6 w.heap.size hs6
          have hr7 := hr6.alloc (show B ≤ w6.heap.size by omega) (.cells #[] 3)
          have hg7 := only_alloc hg16 (.cells #[] 3)
          go_wp2
          go_ret
          exact ⟨_, 0, _, _, rfl, hO2, by omega, hr7.more (by omega), hg7⟩
        · go_wp2_with fail
          refine (pick_any B G _ _ _ hr6 hBG (by omega)).mono ?_
          rintro e w7 ⟨p, rfl, ⟨p0, p1, _⟩, hr7, hg7⟩
          have p2 := p1 (by omega)
          clear p1
          have ho7 := ho6.keptG hg7 hG0
          have hg17 := hg16.trans hg7
          have hs7 := hg17.size
          clear ho6 hg16 hg7 hr6
          obtain ⟨q, rfl⟩ := Int.eq_ofNat_of_zero_le p0
          have hqk : q < k := by omega
          go_wp2_with fail
          refine (pick_any B G _ _ _ hr7 hBG (by omega)).mono ?_
          rintro e w8 ⟨u, rfl, ⟨u0, u1, _⟩, hr8, hg8⟩
          have ho8 := ho7.keptG hg8 hG0
          have hg18 := hg17.trans hg8
          have hs8 := hg18.size
          clear ho7 hg17 hg8 hr7 u1
          obtain ⟨g, rfl, hlog, hgw⟩ := ho8.form (by omega)
          obtain ⟨hcl, hfr⟩ := ho8.cell hqk
          have hqI : (q : Int) < (k : Int) := by omega
          have HE := Lib.hid (fun (v : Int) => show Ow (w8.setCell ⟨g, q, none⟩ (.int .i64 v)) w.heap.size (some ⟨g, 0, none⟩) k c (xs.set q v) ∧ Rdr (w8.setCell ⟨g, q, none⟩ (.int .i64 v)) B G (P + 20) ∧ w.grownBy (w8.setCell ⟨g, q, none⟩ (.int .i64 v)) (some G) from
            ⟨ho8.put q v, (hr8.set_ (q := ⟨g, q, none⟩) (by show B ≤ g; omega) (by show g ≠ G; omega) _).more (by omega), only_set hg18 hlog _⟩)
          go_wp2
          go_ret
          exact ⟨_, k, c, _, rfl, (HE.out _).1, hk1.2, (HE.out _).2.1, (HE.out _).2.2⟩
end Go.Proofs.Ytigkcgfhiakikaa
