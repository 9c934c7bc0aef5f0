import Derived.Test.YtmnacejmkjhpnaaC3
namespace Go.Proofs.Ytmnacejmkjhpnaa
open Go.ChangeShapes Go.WideShapes Go.ChangeAt Go.RowKit

/-- the cells of the row and of the column of a cell. -/
def rIx (s : Int) (k j : Nat) : Int := (k : Int) / s * s + j
def cIx (s : Int) (k j : Nat) : Int := (j : Int) * s + (k : Int) % s
def ok3 (xs : List Int) (s : Int) (k : Nat) (v : Int) (j : Nat) : Bool := (rIx s k j == (k : Int) || nth xs (rIx s k j).toNat != v) && (cIx s k j == (k : Int) || nth xs (cIx s k j).toNat != v)
def okTo3 (xs : List Int) (s : Int) (k : Nat) (v : Int) : Nat → Bool
  | 0 => true
  | j + 1 => okTo3 xs s k v j && ok3 xs s k v j
def candTo (xs : List Int) (s : Int) (k : Nat) : Nat → Nat
  | 0 => 0
  | v + 1 => if okTo3 xs s k ((v : Int) + 1) s.toNat = true then candTo xs s k v ||| 2 ^ (v + 1) else candTo xs s k v
def candN (xs : List Int) (s : Int) (k : Nat) : Nat := if 0 < nth xs k then 2 ^ (nth xs k).toNat else candTo xs s k s.toNat
def candG (xs : List Int) (s : Int) (k : Nat) : Int := (candN xs s k : Int)
def candL (xs : List Int) (s : Int) : List Int := if gv xs s = true then mapTo (candG xs s) xs.length else []
theorem candTo_lt (xs : List Int) (s : Int) (k v : Nat) (hv : v ≤ 4) : candTo xs s k v < 32 := by
  induction v with
  | zero => simp [candTo]
  | succ v ih =>
    simp only [candTo]
    split
    · exact Nat.or_lt_two_pow (n := 5) (ih (by omega)) (Nat.pow_lt_pow_right (by omega) (by omega))
    · exact ih (by omega)
theorem or_int (a v : Nat) (ha : a < 32) (hv : v ≤ 4) : bits .or .i64 (a : Int) (wrap64 (2 ^ v)) = ((a ||| 2 ^ v : Nat) : Int) := by
  have hlt : 2 ^ v < 2 ^ 5 := Nat.pow_lt_pow_right (by omega) (by omega)
  have c : ((2 : Int) ^ v) = ((2 ^ v : Nat) : Int) := by simp
  rw [c]
  generalize 2 ^ v = p at *
  rw [IntWalk.wrap64_in _ ⟨by omega, by omega⟩, i64_or_nat _ _ (by omega) (by omega)]
theorem two_pow_nat (v : Nat) (hv : v ≤ 4) : wrap64 (2 ^ v) = ((2 ^ v : Nat) : Int) := by
  have hlt : 2 ^ v < 2 ^ 5 := Nat.pow_lt_pow_right (by omega) (by omega)
  have c : ((2 : Int) ^ v) = ((2 ^ v : Nat) : Int) := by simp
  rw [c]
  generalize 2 ^ v = p at *
  exact IntWalk.wrap64_in _ ⟨by omega, by omega⟩
theorem ix_facts {s : Int} {n k j : Nat} (h2 : 2 ≤ s) (h4 : s ≤ 4) (hn : (n : Int) = s * s) (hk : k < n) (hj : (j : Int) < s) :
    (0 ≤ rIx s k j ∧ rIx s k j < n) ∧ (0 ≤ cIx s k j ∧ cIx s k j < n) ∧ (0 ≤ (k : Int) / s ∧ (k : Int) / s < s) ∧ (0 ≤ (k : Int) % s ∧ (k : Int) % s < s) := by
  unfold rIx cIx
  have : s = 2 ∨ s = 3 ∨ s = 4 := by omega
  rcases this with rfl | rfl | rfl <;> omega

set_option maxHeartbeats 1000000 in
theorem specMask (A : Option Addr) (c n B : Nat) (xs : List Int) (s : Int) (k : Nat) (w : World) (h : Rd w B A n xs) (h2 : 2 ≤ s) (h4 : s ≤ 4) (hn : Hid ((n : Int) = s * s)) (hok : Hid (okAll xs s n)) (hk : k < n) :
    Calls Try.prog 81 #[.slice A n c, .int .i64 s, .int .i64 k] w fun e w' => e = .returned (.int .i64 (candG xs s k)) ∧ w = w' := by
  obtain ⟨b, off, rfl, hb, hck⟩ := h.at_ hk
  obtain ⟨v0, v4⟩ := hok.out k hk
  by_cases hp : 0 < nth xs k
  · have HL := Lib.hid (show candG xs s k = ((2 ^ (nth xs k).toNat : Nat) : Int) by simp only [candG, candN]; rw [if_pos hp])
    have hpw := two_pow_nat (nth xs k).toNat (by omega)
    have Hpw := Lib.hid hpw; clear hpw
    go_enter Try.func81, Try.ntmps81
    go_wp2
    go_ret
    exact ⟨by rw [HL.out, ← Hpw.out]; rfl, rfl⟩
  · have HL := Lib.hid (show candG xs s k = ((candTo xs s k s.toNat : Nat) : Int) by simp only [candG, candN]; rw [if_neg hp])
    go_enter Try.func81, Try.ntmps81
    go_wp2
    go_loop [7, 8] (fun m i => ∃ v : Nat, (v : Int) ≤ s ∧ i = .int .i64 ((v : Int) + 1) ∧ m = .int .i64 (candTo xs s k v : Int)) (fun _ i => (s + 1 - intOf i).toNat)
    case atStart => exact ⟨0, by omega, rfl, rfl⟩
    case round =>
      obtain ⟨v, hv, rfl, rfl⟩ := hrel
      have hlt32 := candTo_lt xs s k v (by omega)
      by_cases hlt : (v : Int) < s
      · go_wp2
        go_loop [9, 10] (fun o i => ∃ j : Nat, (j : Int) ≤ s ∧ i = .int .i64 j ∧ o = .bool (okTo3 xs s k ((v : Int) + 1) j)) (fun _ i => (s - intOf i).toNat)
        case atStart => exact ⟨0, by omega, rfl, rfl⟩
        case round =>
          obtain ⟨j, hj, rfl, rfl⟩ := hrel
          by_cases hjl : (j : Int) < s
          · obtain ⟨⟨a0, a1⟩, ⟨b0, b1⟩, ⟨q0, q1⟩, ⟨r0, r1⟩⟩ := ix_facts h2 h4 hn.out hk hjl
            obtain ⟨bA, oA, eA, _, hcA⟩ := h.at_ (k := (rIx s k j).toNat) (by omega)
            obtain ⟨bB, oB, eB, _, hcB⟩ := h.at_ (k := (cIx s k j).toNat) (by omega)
            cases eA
            cases eB
            have hstep := Lib.hid (show okTo3 xs s k ((v : Int) + 1) (j + 1) = (okTo3 xs s k ((v : Int) + 1) j && ok3 xs s k ((v : Int) + 1) j) from rfl)
            have hmA := small_mul q0 (by omega : (k : Int) / s ≤ 4) (by omega : 0 ≤ s) h4
            have hwA := small_wrap q0 (by omega : (k : Int) / s ≤ 4) (by omega : 0 ≤ s) h4
            have hmB := small_mul (Int.natCast_nonneg j) (by omega : (j : Int) ≤ 4) (by omega : 0 ≤ s) h4
            have hwB := small_wrap (Int.natCast_nonneg j) (by omega : (j : Int) ≤ 4) (by omega : 0 ≤ s) h4
            have hzs : (s == 0) = false := by simp; omega
            unfold rIx at a0 a1 hcA
            unfold cIx at b0 b1 hcB
            cases ho : okTo3 xs s k ((v : Int) + 1) j
            · have hs2 := Lib.hid (show okTo3 xs s k ((v : Int) + 1) (j + 1) = false by rw [hstep.out, ho]; rfl)
              go_wp2
              go_round
              case rel => exact ⟨j + 1, by omega, by go_num, by rw [hs2.out]⟩
              case measure => simp [intOf]; omega
            · obtain ⟨p1, hp1⟩ : ∃ p, ((k : Int) / s * s + (j : Int) == (k : Int)) = p := ⟨_, rfl⟩
              obtain ⟨p2, hp2⟩ : ∃ p, (nth xs ((k : Int) / s * s + (j : Int)).toNat != (v : Int) + 1) = p := ⟨_, rfl⟩
              obtain ⟨p3, hp3⟩ : ∃ p, ((j : Int) * s + (k : Int) % s == (k : Int)) = p := ⟨_, rfl⟩
              obtain ⟨p4, hp4⟩ : ∃ p, (nth xs ((j : Int) * s + (k : Int) % s).toNat != (v : Int) + 1) = p := ⟨_, rfl⟩
              have hs2 := Lib.hid (show okTo3 xs s k ((v : Int) + 1) (j + 1) = ((p1 || p2) && (p3 || p4)) by rw [hstep.out, ho, Bool.true_and, ← hp1, ← hp2, ← hp3, ← hp4]; rfl)
              have Ho := Lib.hid ho
              cases p1 <;> cases p2 <;> cases p3 <;> cases p4
              all_goals
                go_wp2
                go_round
                case rel => exact ⟨j + 1, by omega, by go_num, by rw [hs2.out]; rfl⟩
                case measure => simp [intOf]; omega
          · have hj' : s.toNat = j := by omega
            have hstep : candTo xs s k (v + 1) = if okTo3 xs s k ((v : Int) + 1) j = true then candTo xs s k v ||| 2 ^ (v + 1) else candTo xs s k v := by rw [← hj']; rfl
            clear hj'
            cases ho : okTo3 xs s k ((v : Int) + 1) j
            · have hs2 := Lib.hid (show candTo xs s k (v + 1) = candTo xs s k v by rw [hstep, ho]; rfl)
              clear hstep
              go_wp2
              go_round
              case rel => exact ⟨v + 1, by omega, by go_num, by rw [hs2.out]⟩
              case measure => simp [intOf]; omega
            · have hs2 := Lib.hid (show candTo xs s k (v + 1) = candTo xs s k v ||| 2 ^ (v + 1) by rw [hstep, ho]; rfl)
              have hor := or_int (candTo xs s k v) (v + 1) hlt32 (by omega)
              have htn : ((v : Int) + 1).toNat = v + 1 := by omega
              clear hstep
              go_wp2
              go_round
              case rel => exact ⟨v + 1, by omega, by go_num, by rw [hs2.out]⟩
              case measure => simp [intOf]; omega
      · have e := Lib.hid (show s.toNat = v by omega)
        go_wp2
        go_ret
        exact ⟨by rw [HL.out, e.out]; rfl, rfl⟩
theorem specCandidatesOf (A : Option Addr) (c n B : Nat) (xs : List Int) (size : Int) (w : World) (h : Rd w B A n xs) (hB : B ≤ w.heap.size) (hm : n ≤ 1099511627776) :
    Calls Try.prog 51 #[.slice A n c, .int .i64 size] w (RetSl w (candL xs size)) := by
  have hlen := Lib.hid h.1
  cases hg : gv xs size
  · have hL : candL xs size = [] := by simp [candL, hg]
    have HL := Lib.hid hL; clear hL
    have h1 := h.alloc hB (.cells #[] 3)
    by_cases h0 : 0 < n
    all_goals
      go_enter Try.func51, Try.ntmps51
      go_wp2
      go_loopw [5, 6] (fun v i wr => i = .int .i64 0 ∧ v = .slice (some ⟨w.heap.size, 0, none⟩) 0 0 ∧ wr = w.alloc (.cells #[] 3)) (fun _ _ _ => 0)
      case atStart => exact ⟨rfl, rfl, rfl⟩
      case round =>
        obtain ⟨rfl, rfl, rfl⟩ := hrel
        go_wp2_with (go_at_call 23; refine (specGridValid _ _ _ _ _ _ _ h1 hm).mono ?_; rintro e w' ⟨rfl, rfl⟩)
        go_ret
        rw [HL.out]
        exact ⟨_, _, rfl, Ow.made0 _ _ (Nat.le_refl _), (Below.refl _ _).alloc (Nat.le_refl _) _⟩
  · obtain ⟨h2, h4⟩ := gv_size hg
    have hL : candL xs size = mapTo (candG xs size) n := by simp [candL, hg, hlen.out]
    have HL := Lib.hid hL; clear hL
    have hn := gv_len hg
    rw [hlen.out] at hn
    have hok : Hid (okAll xs size n) := Lib.hid (fun k hk => gv_nth hg (by rw [hlen.out]; exact hk))
    have Hn := Lib.hid hn; clear hn
    go_enter Try.func51, Try.ntmps51
    go_wp2
    go_loopw [5, 6] (fun v i wr => ∃ k : Nat, k ≤ n ∧ i = .int .i64 k ∧ OwV wr w.heap.size v (mapTo (candG xs size) k) ∧ Below w.heap.size w wr) (fun _ i _ => n - (intOf i).toNat)
    case atStart => exact ⟨0, by omega, rfl, ⟨_, _, rfl, Ow.made0 _ _ (Nat.le_refl _)⟩, (Below.refl _ _).alloc (Nat.le_refl _) _⟩
    case round =>
      obtain ⟨k, hk, rfl, ⟨A', c', rfl, ho⟩, hb⟩ := hrel
      have hr := h.below (hb.mono hB)
      have hkb : (mapTo (candG xs size) k).length ≤ 1099511627776 := by rw [mapTo_length]; omega
      by_cases hlt : k < n
      · go_wp2_with (first
          | (go_at_call 23; refine (specGridValid _ _ _ _ _ _ _ hr hm).mono ?_; rintro e w' ⟨rfl, rfl⟩; rw [hg])
          | (go_at_call 81; refine (specMask _ _ _ _ _ _ _ _ hr h2 h4 Hn hok hlt).mono ?_; rintro e w' ⟨rfl, rfl⟩)
          | (at_builtin; refine push_int rfl (.tmp 19) (.tmp 24) rfl w.heap.size A' _ c' (mapTo (candG xs size) k) _ rfl rfl ho hkb hb.size ?_; intro A'' c'' w1 ho1 hg1))
        have ho2 : OwV w1 w.heap.size (.slice A'' ((mapTo (candG xs size) k).length + 1) c'') (mapTo (candG xs size) (k + 1)) := by
          refine ⟨A'', c'', by rw [mapTo_succ, List.length_append]; rfl, ?_⟩
          rw [mapTo_succ, List.length_append]
          exact ho1
        have hb2 := push_below hb ho (Nat.le_refl _) hb.size hg1
        clear ho1 hg1
        go_roundw
        case rel => exact ⟨k + 1, by omega, by go_num, ho2, hb2⟩
        case measure => simp [intOf]; omega
      · obtain rfl : k = n := by omega
        go_wp2_with (go_at_call 23; refine (specGridValid _ _ _ _ _ _ _ hr hm).mono ?_; rintro e w' ⟨rfl, rfl⟩)
        go_ret
        rw [HL.out]
        exact ⟨_, _, rfl, ho, hb⟩
end Go.Proofs.Ytmnacejmkjhpnaa
