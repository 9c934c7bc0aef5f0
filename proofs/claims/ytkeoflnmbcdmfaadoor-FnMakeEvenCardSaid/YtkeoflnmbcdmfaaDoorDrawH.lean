import Derived.Test.YtkeoflnmbcdmfaaDoorDrawG
set_option maxRecDepth 8000
namespace Go.Proofs.YtkeoflnmbcdmfaaDoor
open Go.ChangeShapes Go.WideShapes Go.ChangeAt Go.RowKit

theorem okAll_set' {xs : List Int} {size v : Int} {n p : Nat} (h : okAll xs size n) (v0 : 0 ≤ v) (v1 : v ≤ size) : okAll (xs.set p v) size n := by
  intro k hk
  by_cases hp : p < xs.length
  · rw [nth_set hp]
    split
    · exact ⟨v0, v1⟩
    · exact h k hk
  · rw [List.set_eq_of_length_le (by omega)]
    exact h k hk
theorem sols_ok {size : Int} (hs : 0 ≤ size) (n : Nat) : ∀ (f : Nat) (xs : List Int) (p : Nat), okAll xs size n → ∀ y, y ∈ sols size f xs p → okAll y size n := by
  intro f
  induction f with
  | zero => intro xs p h y hy; simp [sols] at hy; subst hy; exact h
  | succ f ih =>
    intro xs p h y hy
    refine solsFrom_all (P := fun y => okAll y size n) _ _ (fun u y h1 h2 hy => ?_) y hy
    exact ih _ _ (okAll_set' h (by omega) (by omega)) y hy
theorem okAll_gv {xs : List Int} {size : Int} {n : Nat} (hl : xs.length = n) (hn : (n : Int) = size * size) (h2 : 2 ≤ size) (h4 : size ≤ 4) (h : okAll xs size n) : gv xs size = true := by
  have h1 : inr size 2 4 = true := by simp [inr, h2, h4]
  have h3 : xs.all (fun x => inr x 0 size) = true := okTo_all (n := n) (fun j hj => by have := h j hj; simp [inr, this]) hl
  simp [gv, h1, h3, hl, hn]

theorem Ow.put {w : World} {lo g n c : Nat} {xs : List Int} (h : Ow w lo (some ⟨g, 0, none⟩) n c xs) (k : Nat) (v : Int) : Ow (w.setCell ⟨g, k, none⟩ (.int .i64 v)) lo (some ⟨g, 0, none⟩) n c (xs.set k v) := by
  have := (World.ownsRow.stored h k (.int .i64 v)).1
  rw [vals_set] at this
  exact this

def DrewGrid (w : World) (B G P : Nat) (m : Int) (e : Ending) (w' : World) : Prop :=
  ∃ A n c xs s, e = .returned (.tuple #[.slice A n c, .int .i64 s]) ∧ Rd w' w'.heap.size A n xs ∧ (n ≤ 16 ∧ n ≤ c ∧ c ≤ 9223372036854775807) ∧ -1 ≤ s ∧ s ≤ 5 ∧ (m ≤ 0 → gv xs s = true) ∧ Rdr w' B G P ∧ w.grownBy w' (some G) ∧ Hid (∀ a, A = some a → w.heap.size ≤ a.block)

theorem Ow.cap {w : World} {lo : Nat} {A : Option Addr} {n c : Nat} {xs : List Int} (h : Ow w lo A n c xs) (hn : 0 < n) : n ≤ c ∧ c ≤ maxLen := by
  rcases h.2 with ⟨h', h0⟩ | ⟨g, cap, cur, hv, _, _, hnc, hcm, _⟩
  · omega
  · injection hv with _ _ hc
    subst hc
    exact ⟨hnc, hcm⟩
theorem rd_drop {w : World} {B g n : Nat} {xs : List Int} (h : Rd w B (some ⟨g, 0, none⟩) n xs) (hn : 1 ≤ n) : Rd w B (some ⟨g, 1, none⟩) (n - 1) (xs.drop 1) := by
  refine ⟨by rw [List.length_drop, h.1], fun h0 => ?_⟩
  obtain ⟨b, off, he, hb, hc⟩ := h.2 (by omega)
  cases he
  refine ⟨_, _, rfl, hb, fun k hk => ?_⟩
  have := hc (k + 1) (by omega)
  rw [Nat.zero_add] at this
  rw [Nat.add_comm 1 k, this]
  simp [nth, List.getD_eq_getElem?_getD]
set_option maxHeartbeats 1600000 in
theorem l20Grid_any (B G P : Nat) (m : Int) (w : World) (h : Rdr w B G P) (hBG : B ≤ G) (hP : P ≤ 1000) (hm : m ≤ 1000000) :
    Calls Tryd.prog 76 #[.pointer (some ⟨G, 0, none⟩), .int .i64 m] w (DrewGrid w B G (P + 100) m) := by
  have hG0 := h.lt
  go_enter Tryd.func76, Tryd.ntmps76
  go_wp2_with fail
  refine (l20Size_any B G P _ _ h hBG (by omega) (by omega)).mono ?_
  rintro e w1 ⟨size, rfl, ⟨_, _, hsz⟩, hr1, hg1⟩
  obtain ⟨h2, h4⟩ := hsz (Int.le_refl _)
  clear hsz
  go_wp2_with fail
  refine (l20Solved_any B G (P + 2) _ _ hr1 hBG (by omega) h2 h4).mono ?_
  rintro e w2 ⟨A, n, c, xs0, rfl, ho2, hn, hmem, hr2, hg2⟩
  obtain ⟨q4, q16⟩ := sq_bd h2 h4
  have hn4 : 4 ≤ n := by omega
  have hn16 : n ≤ 16 := by omega
  have Hn := Lib.hid hn
  clear q4 q16 hn
  have hok0 := sols_ok (by omega : 0 ≤ size) n _ _ _ (okAll_zeros (by omega) n) _ hmem
  obtain ⟨g, rfl, hlo2, hgw2⟩ := ho2.form (by omega)
  have hlo := hg1.size
  have hGg : G < g := by omega
  have hg12 := hg1.trans hg2
  have ho := ho2.mono hlo
  clear ho2 hmem hlo2 hgw2 hg1 hr1 hg2
  go_wp2_with fail
  refine (pick_any B G (P + 4) _ _ hr2 hBG (by omega)).mono ?_
  rintro e w3 ⟨hol, rfl, _, hr3, hg3⟩
  have ho3 := ho.keptG hg3 hG0
  have hg13 := hg12.trans hg3
  clear ho hg12 hg3 hr2
  go_wp2
  go_loopw [9] (fun i wr => ∃ (k : Nat) (xs : List Int), k ≤ n ∧ i = .int .i64 k ∧ Ow wr w.heap.size (some ⟨g, 0, none⟩) n c xs ∧ Hid (okAll xs size n) ∧ Rdr wr B G (P + 10 + k) ∧ w.grownBy wr (some G)) (fun i _ => n - (intOf i).toNat)
  case atStart => exact ⟨0, xs0, by omega, rfl, ho3, Lib.hid hok0, hr3.more (by omega), hg13⟩
  case round =>
    clear ho3 hok0 hr3 hg13
    obtain ⟨k, xs, hk, rfl, ho, hok, hr, hg⟩ := hrel
    by_cases hlt : k < n
    · go_wp2_with fail
      refine (pick_any B G (P + 10 + k) _ _ hr hBG (by omega)).mono ?_
      rintro e w4 ⟨v, rfl, _, hr4, hg4⟩
      have ho4 := ho.keptG hg4 hG0
      have hg14 := hg.trans hg4
      by_cases hv : v < hol
      · obtain ⟨hc, hf⟩ := ho4.cell hlt
        have ho5 := Lib.hid (ho4.put k 0)
        go_wp2
        go_roundw
        case rel => exact ⟨k + 1, xs.set k 0, by omega, by go_num, ho5.out, Lib.hid (okAll_set' hok.out (by omega) (by omega)), (hr4.set_ (q := ⟨g, k, none⟩) (by simp; omega) (by simp; omega) _).more (by omega), only_set hg14 (by simp; have := ho4.own_lo g rfl; omega) _⟩
        case measure => simp [intOf]; omega
      · go_wp2
        go_roundw
        case rel => exact ⟨k + 1, xs, by omega, by go_num, ho4, hok, hr4.more (by omega), hg14⟩
        case measure => simp [intOf]; omega
    · obtain rfl : k = n := by omega
      go_wp2_with fail
      refine (pick_any B G (P + 10 + k) _ _ hr hBG (by omega)).mono ?_
      rintro e w4 ⟨v, rfl, ⟨v0, v1, _⟩, hr4, hg4⟩
      have v2 := v1 (by omega)
      have ho4 := ho.keptG hg4 hG0
      have hg14 := hg.trans hg4
      clear v1 ho hg hr hg4
      go_wp2
      go_loopw [10] (fun i wr => ∃ (j : Int) (xs : List Int), j ≤ 2 ∧ i = .int .i64 j ∧ Ow wr w.heap.size (some ⟨g, 0, none⟩) k c xs ∧ Hid (okAll xs size k) ∧ Rdr wr B G (P + 50 - (4 * j).toNat) ∧ w.grownBy wr (some G)) (fun i _ => (intOf i + 5).toNat)
      case atStart => exact ⟨v, xs, by omega, rfl, ho4, hok, hr4.more (by omega), hg14⟩
      case round =>
        obtain ⟨j, xs, hj2, rfl, ho, hok, hr, hg⟩ := hrel
        by_cases hj : 1 < j
        · go_wp2_with fail
          refine (pick_any B G _ _ _ hr hBG (by omega)).mono ?_
          rintro e w5 ⟨q, rfl, ⟨q0, q1, _⟩, hr5, hg5⟩
          have q2 := q1 (by omega)
          clear q1
          have ho5 := ho.keptG hg5 hG0
          go_wp2_with fail
          refine (pick_any B G _ _ _ hr5 hBG (by omega)).mono ?_
          rintro e w6 ⟨u, rfl, ⟨u0, u1, _⟩, hr6, hg6⟩
          have u2 := u1 (by omega)
          clear u1
          have ho6 := ho5.keptG hg6 hG0
          have hg16 := (hg.trans hg5).trans hg6
          obtain ⟨i, rfl⟩ := Int.eq_ofNat_of_zero_le q0
          have hik : i < k := by omega
          obtain ⟨hc, hf⟩ := ho6.cell hik
          have ho7 := Lib.hid (ho6.put i u)
          go_wp2
          go_roundw
          case rel => exact ⟨j - 1, xs.set i u, by omega, by go_num, ho7.out, Lib.hid (okAll_set' hok.out (by omega) (by omega)), (hr6.set_ (q := ⟨g, i, none⟩) (by simp; omega) (by simp; omega) _).more (by omega), only_set hg16 (by simp; have := ho6.own_lo g rfl; omega) _⟩
          case measure => simp [intOf]; omega
        · have hgv := okAll_gv ho.len Hn.out h2 h4 hok.out
          have hcap := ho.cap (by omega)
          unfold maxLen at hcap
          obtain ⟨hcap1, hcap2⟩ := hcap
          go_wp2_with fail
          refine (odd_any B G (P + 55) _ _ (hr.more (by omega)) hBG (by omega) hm).mono ?_
          rintro e w5 ⟨b, rfl, hb, hr5, hg5⟩
          have ho5 := ho.keptG hg5 hG0
          have hg15 := hg.trans hg5
          clear ho hr hg hg5 hok
          have hfin : ∀ (A : Option Addr) (n' c' : Nat) (ys : List Int) (s : Int) (W : World), Rd W W.heap.size A n' ys → (n' ≤ 16 ∧ n' ≤ c' ∧ c' ≤ 9223372036854775807) → -1 ≤ s → s ≤ 5 → (m ≤ 0 → gv ys s = true) → Rdr W B G (P + 100) → w.grownBy W (some G) → Hid (∀ a, A = some a → w.heap.size ≤ a.block) →
              DrewGrid w B G (P + 100) m (.returned (.tuple #[.slice A n' c', .int .i64 s])) W := fun A n' c' ys s W a1 a2 a3 a4 a5 a6 a7 a8 => ⟨A, n', c', ys, s, rfl, a1, a2, a3, a4, a5, a6, a7, a8⟩
          have Hfin := Lib.hid hfin; clear hfin
          have Hgv := Lib.hid hgv; clear hgv
          have hwg := ho5.own_lo g rfl
          have hf0 : Hid (∀ a, (some ⟨g, 0, none⟩ : Option Addr) = some a → w.heap.size ≤ a.block) := Lib.hid (fun a ha => by cases ha; exact hwg)
          have hf1 : Hid (∀ a, (some ⟨g, 1, none⟩ : Option Addr) = some a → w.heap.size ≤ a.block) := Lib.hid (fun a ha => by cases ha; exact hwg)
          cases b
          · go_wp2
            go_ret2
            exact Hfin.out _ _ _ _ _ _ ho5.rd (by omega) (by omega) (by omega) (fun _ => Hgv.out) (hr5.more (by omega)) hg15 hf0
          · have hm0 : ¬ m ≤ 0 := fun hh => by simpa using hb hh
            clear hb
            go_wp2_with fail
            refine (pick_any B G _ _ _ hr5 hBG (by omega)).mono ?_
            rintro e w6 ⟨q, rfl, ⟨q0, q1, _⟩, hr6, hg6⟩
            have ho6 := ho5.keptG hg6 hG0
            have hg16 := hg15.trans hg6
            clear ho5 hr5 hg15 hg6
            have hq : q = 0 ∨ q = 1 ∨ q = 2 := by have := q1 (by omega); omega
            clear q0 q1
            rcases hq with rfl | rfl | rfl
            · go_wp2_with fail
              refine (pick_any B G _ _ _ hr6 hBG (by omega)).mono ?_
              rintro e w7 ⟨q, rfl, ⟨q0, q1, _⟩, hr7, hg7⟩
              have q2 := q1 (by omega)
              clear q1
              have ho7 := ho6.keptG hg7 hG0
              have hg17 := hg16.trans hg7
              have hB7 : B ≤ w7.heap.size := by have := hr7.lt; omega
              have hl7 := hr7.lt
              go_wp2_with fail
              refine (pick_any B G _ _ _ (hr7.alloc hB7 _) hBG (by omega)).mono ?_
              rintro e w8 ⟨u, rfl, ⟨u0, u1, _⟩, hr8, hg8⟩
              have hc0 := lit_cell hg8 hl7 0
              have hc1 := lit_cell hg8 hl7 1
              simp at hc0 hc1
              have ho8 := ho7.keptG (grown_of_alloc hg8) hG0
              have hg18 := hg17.trans (grown_of_alloc hg8)
              have hu : u = 0 ∨ u = 1 := by have := u1 (by omega); omega
              clear u0 u1
              obtain ⟨i, rfl⟩ := Int.eq_ofNat_of_zero_le q0
              have hik : i < k := by omega
              obtain ⟨hc, hf⟩ := ho8.cell hik
              have hlog := ho8.own_lo g rfl
              rcases hu with rfl | rfl
              · have ho9 := Lib.hid (ho8.put i (-1))
                go_wp2
                go_ret2
                exact Hfin.out _ _ _ _ _ _ ho9.out.rd (by omega) (by omega) (by omega) (fun hh => absurd hh (by omega)) ((hr8.set_ (q := ⟨g, i, none⟩) (by simp; omega) (by simp; omega) _).more (by omega)) (only_set hg18 (by simp; omega) _) hf0
              · have ho9 := Lib.hid (ho8.put i (size + 1))
                go_wp2
                go_ret2
                exact Hfin.out _ _ _ _ _ _ ho9.out.rd (by omega) (by omega) (by omega) (fun hh => absurd hh (by omega)) ((hr8.set_ (q := ⟨g, i, none⟩) (by simp; omega) (by simp; omega) _).more (by omega)) (only_set hg18 (by simp; omega) _) hf0
            · have hrd := Lib.hid (rd_drop ho6.rd (by omega))
              go_wp2
              go_ret2
              exact Hfin.out _ _ _ _ _ _ hrd.out (by omega) (by omega) (by omega) (fun hh => absurd hh (by omega)) (hr6.more (by omega)) hg16 hf1
            · go_wp2_with fail
              refine (l20Size_any B G _ _ _ hr6 hBG (by omega) (by omega)).mono ?_
              rintro e w7 ⟨s, rfl, ⟨s0, s1, _⟩, hr7, hg7⟩
              have ho7 := ho6.keptG hg7 hG0
              go_wp2
              go_ret2
              exact Hfin.out _ _ _ _ _ _ ho7.rd (by omega) (by omega) (by omega) (fun hh => absurd hh (by omega)) (hr7.more (by omega)) (hg16.trans hg7) hf0
end Go.Proofs.YtkeoflnmbcdmfaaDoor
