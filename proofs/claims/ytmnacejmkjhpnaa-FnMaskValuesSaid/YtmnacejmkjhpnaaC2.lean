import Derived.Test.YtmnacejmkjhpnaaSol
import Derived.Deep.RegionHeld3
import Derived.Test.YtmnacejmkjhpnaaPushAt
namespace Go.Proofs.Ytmnacejmkjhpnaa
open Go.ChangeShapes Go.WideShapes Go.ChangeAt Go.RowKit

theorem gv_okAll {xs : List Int} {size : Int} {n : Nat} (hg : gv xs size = true) (hl : xs.length = n) : okAll xs size n := fun k hk => gv_nth hg (by rw [hl]; exact hk)

theorem specSquareFits (A : Option Addr) (c n B : Nat) (xs : List Int) (size : Int) (w : World) (h : Rd w B A n xs) (hB : B ≤ w.heap.size) (hm : n ≤ 1099511627776) :
    Calls Try.prog 22 #[.slice A n c, .int .i64 size] w fun e w' => e = .returned (.bool (sqFits xs size)) ∧ Below w.heap.size w w' := by
  have hl := Lib.hid h.1
  cases hg : gv xs size
  · go_enter Try.func22, Try.ntmps22
    go_wp2_with (go_at_call 23; refine (specGridValid _ _ _ _ _ _ _ h hm).mono ?_; rintro e w' ⟨rfl, rfl⟩)
    go_ret
    exact ⟨by simp [sqFits, hg], Below.refl _ _⟩
  · obtain ⟨h2, h4⟩ := gv_size hg
    have hn := Lib.hid (gv_n hg hl.out).2.2
    have hok := Lib.hid (gv_okAll hg hl.out)
    go_enter Try.func22, Try.ntmps22
    go_wp2_with (first | (go_at_call 23; refine (specGridValid _ _ _ _ _ _ _ h hm).mono ?_; rintro e w' ⟨rfl, rfl⟩) | (go_at_call 61; refine (specClash _ _ _ _ _ _ _ h hB h2 h4 hn hok).mono ?_; rintro e w2 ⟨rfl, hb⟩))
    go_ret
    exact ⟨by simp [sqFits, hg], hb⟩
theorem specSquareSolved (A : Option Addr) (c n B : Nat) (xs : List Int) (size : Int) (w : World) (h : Rd w B A n xs) (hB : B ≤ w.heap.size) (hm : n ≤ 1099511627776) :
    Calls Try.prog 29 #[.slice A n c, .int .i64 size] w fun e w' => e = .returned (.bool (sqSolved xs size)) ∧ Below w.heap.size w w' := by
  cases hf : sqFits xs size
  · go_enter Try.func29, Try.ntmps29
    go_wp2_with (go_at_call 22; refine (specSquareFits _ _ _ _ _ _ _ h hB hm).mono ?_; rintro e w2 ⟨rfl, hb⟩)
    go_ret
    exact ⟨by simp [sqSolved, hf], hb⟩
  · have hg : gv xs size = true := by
      simp only [sqFits, Bool.and_eq_true] at hf
      exact hf.1
    obtain ⟨h2, h4⟩ := gv_size hg
    have hw := sq_wrap h2 h4
    go_enter Try.func29, Try.ntmps29
    go_wp2_with fail
    refine (specSquareFits _ _ _ _ _ _ _ h hB hm).mono ?_
    rintro e w2 ⟨rfl, hb⟩
    go_wp2_with (go_at_call 69; refine (specGridFilled _ _ _ _ _ _ _ (h.below (hb.mono hB)) hm).mono ?_; rintro e w' ⟨rfl, rfl⟩)
    go_ret
    exact ⟨by simp [sqSolved, hf], hb⟩
def sqOfG (size : Int) (k : Nat) : Int := ((k : Int) / size + (k : Int)) % size + 1
def sqOfL (size : Int) : List Int := if inr size 2 4 = true then mapTo (sqOfG size) (size * size).toNat else []
theorem specSquareOf (size : Int) (w : World) (_hs : -9223372036854775808 ≤ size ∧ size ≤ 9223372036854775807) :
    Calls Try.prog 35 #[.int .i64 size] w (RetSl w (sqOfL size)) := by
  cases hs : inr size 2 4
  · have HL := Lib.hid (show sqOfL size = [] by simp [sqOfL, hs])
    by_cases h0 : 0 < wrap64 (size * size)
    all_goals
      go_enter Try.func35, Try.ntmps35
      go_wp2
      go_loopw [3, 4] (fun v i wr => i = .int .i64 0 ∧ v = .slice (some ⟨w.heap.size, 0, none⟩) 0 0 ∧ wr = w.alloc (.cells #[] 3)) (fun _ _ _ => 0)
      case atStart => exact ⟨rfl, rfl, rfl⟩
      case round =>
        obtain ⟨rfl, rfl, rfl⟩ := hrel
        go_wp2_with (go_at_call 62; refine (l1In_any _ _ _ _).mono ?_; rintro e w' ⟨rfl, rfl⟩)
        go_ret
        rw [HL.out]
        exact ⟨_, _, rfl, Ow.made0 _ _ (Nat.le_refl _), (Below.refl _ _).alloc (Nat.le_refl _) _⟩
  · obtain ⟨h2, h4⟩ := inr_t hs
    obtain ⟨q4, q16⟩ := sq_bd h2 h4
    obtain ⟨n, hnn⟩ : ∃ n : Nat, (n : Int) = size * size := ⟨(size * size).toNat, Int.toNat_of_nonneg (by omega)⟩
    have hn16 : n ≤ 16 := by omega
    have hw : wrap64 (size * size) = (n : Int) := by rw [sq_wrap h2 h4, hnn]
    have HL := Lib.hid (show sqOfL size = mapTo (sqOfG size) n by simp [sqOfL, hs, ← hnn])
    have Hnn := Lib.hid hnn
    clear hnn q4 q16
    go_enter Try.func35, Try.ntmps35
    go_wp2
    go_loopw [3, 4] (fun v i wr => ∃ k : Nat, k ≤ n ∧ i = .int .i64 k ∧ OwV wr w.heap.size v (mapTo (sqOfG size) k) ∧ Below w.heap.size w wr) (fun _ i _ => n - (intOf i).toNat)
    case atStart => exact ⟨0, by omega, rfl, ⟨_, _, rfl, Ow.made0 _ _ (Nat.le_refl _)⟩, (Below.refl _ _).alloc (Nat.le_refl _) _⟩
    case round =>
      obtain ⟨k, hk, rfl, ⟨A', c', rfl, ho⟩, hb⟩ := hrel
      have hkb : (mapTo (sqOfG size) k).length ≤ 1099511627776 := by rw [mapTo_length]; omega
      by_cases hlt : k < n
      · obtain ⟨⟨hr0, hr1⟩, ⟨hd0, hd1⟩, _, _⟩ := turn_facts h2 h4 Hnn.out hlt
        have hz : (size == 0) = false := by simp; omega
        have hz' : size ≠ 0 := by omega
        have hm0 : 0 ≤ ((k : Int) / size + (k : Int)) % size := Int.emod_nonneg _ (by omega)
        have hm1 : ((k : Int) / size + (k : Int)) % size < size := Int.emod_lt_of_pos _ (by omega)
        have e1 : (k : Int).tmod size = (k : Int) % size := Int.tmod_eq_emod_of_nonneg (by omega)
        have e2 : (k : Int).tdiv size = (k : Int) / size := Int.tdiv_eq_ediv_of_nonneg (by omega)
        have e3 : IntKind.i64.wrap ((k : Int) / size) = (k : Int) / size := IntWalk.i64_in _ (by omega)
        have e4 : IntKind.i64.wrap ((k : Int) / size + (k : Int) % size) = (k : Int) / size + (k : Int) % size := IntWalk.i64_in _ (by omega)
        have e5 : ((k : Int) / size + (k : Int) % size).tmod size = ((k : Int) / size + (k : Int) % size) % size := Int.tmod_eq_emod_of_nonneg (by omega)
        have e6 : IntKind.i64.wrap (((k : Int) / size + (k : Int)) % size + 1) = sqOfG size k := IntWalk.i64_in _ (by omega)
        go_wp2_with (go_at_call 62; refine (l1In_any _ _ _ _).mono ?_; rintro e w' ⟨rfl, rfl⟩)
        go_region_held3 (fun w' => True) (first | trivial | go_keep)
          ((refine step_push_int (by rfl) _ _ (by rfl) w.heap.size A' _ c' (mapTo (sqOfG size) k) _ (by rfl) (by rfl) ho hkb hb.size ?_; intro A'' c'' w1 ho1 hg1))
        have ho2 : OwV w1 w.heap.size (.slice A'' ((mapTo (sqOfG size) k).length + 1) c'') (mapTo (sqOfG size) (k + 1)) := by
          refine ⟨A'', c'', by rw [mapTo_succ, List.length_append]; rfl, ?_⟩
          rw [mapTo_succ, List.length_append]
          exact ho1
        have hb2 := push_below hb ho (Nat.le_refl _) hb.size hg1
        clear ho1 hg1 e1 e2 e3 e4 e5 e6
        go_wp2
        go_roundw
        case rel => exact ⟨k + 1, by omega, by go_num, ho2, hb2⟩
        case measure => simp [intOf]; omega
      · obtain rfl : k = n := by omega
        go_wp2_with (go_at_call 62; refine (l1In_any _ _ _ _).mono ?_; rintro e w' ⟨rfl, rfl⟩)
        go_ret
        rw [HL.out]
        exact ⟨_, _, rfl, ho, hb⟩

def missTo (has : Int → Bool) : Nat → List Int
  | 0 => []
  | v + 1 => missTo has v ++ (if has ((v : Int) + 1) = true then [] else [(v : Int) + 1])
def missL (xs : List Int) (size line : Int) : List Int := if (gv xs size && lineOk size line) = true then missTo (hasTo (lineV xs size line) size.toNat) size.toNat else []
theorem missTo_length (has : Int → Bool) (v : Nat) : (missTo has v).length ≤ v := by
  induction v with
  | zero => simp [missTo]
  | succ v ih => simp only [missTo, List.length_append]; split <;> simp <;> omega
theorem missL_length (xs : List Int) (size line : Int) : (missL xs size line).length ≤ 4 := by
  unfold missL
  split
  · next h =>
    simp only [Bool.and_eq_true] at h
    have := gv_size h.1
    have := missTo_length (hasTo (lineV xs size line) size.toNat) size.toNat
    omega
  · simp
set_option maxHeartbeats 400000 in
theorem specMissingIn (A : Option Addr) (c n B : Nat) (xs : List Int) (size line : Int) (w : World) (h : Rd w B A n xs) (hB : B ≤ w.heap.size) (hm : n ≤ 1099511627776) (hli : -9223372036854775808 ≤ line ∧ line ≤ 9223372036854775807) :
    Calls Try.prog 40 #[.slice A n c, .int .i64 size, .int .i64 line] w (RetSl w (missL xs size line)) := by
  have hl := Lib.hid h.1
  have h1 := h.alloc hB (.cells #[] 3)
  cases hg : gv xs size
  · have HL := Lib.hid (show missL xs size line = [] by simp [missL, hg])
    go_enter Try.func40, Try.ntmps40
    go_wp2_with (go_at_call 23; refine (specGridValid _ _ _ _ _ _ _ h1 hm).mono ?_; rintro e w' ⟨rfl, rfl⟩)
    go_ret
    rw [HL.out]
    exact ⟨_, _, rfl, Ow.made0 _ _ (Nat.le_refl _), (Below.refl _ _).alloc (Nat.le_refl _) _⟩
  · obtain ⟨h2, h4⟩ := gv_size hg
    have hn := Lib.hid (gv_n hg hl.out).2.2
    have hok := Lib.hid (gv_okAll hg hl.out)
    go_enter Try.func40, Try.ntmps40
    go_wp2_with (first | (go_at_call 23; refine (specGridValid _ _ _ _ _ _ _ h1 hm).mono ?_; rintro e w' ⟨rfl, rfl⟩) | (go_at_call 77; refine (specLineCells _ _ _ hli).mono ?_; rintro e w2 ⟨A2, c2, rfl, ho2, hb2⟩))
    have hr2 := ho2.rd
    have hbb := box_below hb2
    have ho0 := (Ow.made0 w w.heap.size (Nat.le_refl _)).below hb2
    cases hlo : lineOk size line
    · have HL := Lib.hid (show missL xs size line = [] by simp [missL, hlo])
      have hz : (lineL size line).length = 0 := by simp [lineL, hlo]
      go_loopw [7, 9] (fun v i wr => i = .int .i64 1 ∧ v = .slice (some ⟨w.heap.size, 0, none⟩) 0 0 ∧ wr = w2) (fun _ _ _ => 0)
      case atStart => exact ⟨rfl, rfl, rfl⟩
      case round =>
        obtain ⟨rfl, rfl, rfl⟩ := hrel
        go_wp2
        go_ret
        rw [HL.out]
        exact ⟨_, _, rfl, ho0, hbb⟩
    · have HL := Lib.hid (show missL xs size line = missTo (hasTo (lineV xs size line) size.toNat) size.toNat by simp [missL, hg, hlo])
      have hL : lineL size line = lineTo size line size.toNat := by simp [lineL, hlo]
      have hlenL : (lineL size line).length = size.toNat := by rw [hL, lineTo_length]
      have hpos : (0 : Int) < ((lineL size line).length : Int) := by rw [hlenL]; omega
      have HlenL := Lib.hid hlenL; clear hlenL
      have HLL := Lib.hid hL; clear hL
      have hle4 := lineL_length size line
      have ho2' : Ow w2 (w.heap.size + 1) A2 (lineL size line).length c2 (lineL size line) := by simpa using ho2
      have hA2 := Lib.hid (fun g (hg : (Value.slice A2 (lineL size line).length c2).ownBlock = some g) => And.intro (ho2'.own_lo g hg) (ho2'.own_hi g hg))
      simp only [lineOk, Bool.and_eq_true] at hlo
      obtain ⟨l0, l1⟩ := inr_t hlo.2
      clear hlo hg
      go_loopw [7, 9] (fun v i wr => ∃ u : Nat, (u : Int) ≤ size ∧ i = .int .i64 ((u : Int) + 1) ∧ OwV wr w.heap.size v (missTo (hasTo (lineV xs size line) size.toNat) u) ∧ Hid (∀ g, v.ownBlock = some g → g = w.heap.size ∨ w2.heap.size ≤ g) ∧ Ow wr (w.heap.size + 1) A2 (lineL size line).length c2 (lineL size line) ∧ w2.heap.size ≤ wr.heap.size ∧ Below w.heap.size w wr) (fun _ i _ => (size + 1 - intOf i).toNat)
      case atStart => exact ⟨0, by omega, rfl, ⟨_, _, rfl, ho0⟩, Lib.hid (fun g hg => .inl (by simp [Value.ownBlock] at hg; omega)), ho2', Nat.le_refl _, hbb⟩
      case round =>
        obtain ⟨u, hu, rfl, ⟨A', c', rfl, ho⟩, hAt, hoL, hsz, hb⟩ := hrel
        have hmb := missTo_length (hasTo (lineV xs size line) size.toNat) u
        have hkb : (missTo (hasTo (lineV xs size line) size.toNat) u).length ≤ 1099511627776 := by omega
        by_cases hlt : (u : Int) < size
        · go_wp2
          obtain ⟨wo, rfl⟩ : ∃ wo : World, wo = wr := ⟨_, rfl⟩
          go_loop [10, 11] (fun q i => ∃ k : Nat, k ≤ (lineL size line).length ∧ i = .int .i64 k ∧ q = .bool (hasTo (lineV xs size line) k ((u : Int) + 1))) (fun _ i => (lineL size line).length - (intOf i).toNat)
          case atStart => exact ⟨0, by omega, rfl, rfl⟩
          case round =>
            obtain ⟨k, hk, rfl, rfl⟩ := hrel
            by_cases hkl : k < (lineL size line).length
            · have hsucc := Lib.hid (hasTo_succ (lineV xs size line) k ((u : Int) + 1))
              cases hh : hasTo (lineV xs size line) k ((u : Int) + 1)
              · have hks : (k : Int) < size := by have := HlenL.out; omega
                obtain ⟨g1, o1, rfl, hg1, hk1⟩ := hoL.rd.at_ hkl
                have hval : nth (lineL size line) k = lineAt size line k := by rw [HLL.out, lineTo_nth (by omega)]
                rw [hval] at hk1
                obtain ⟨x0, x1⟩ := line_ix h2 h4 hn.out l0 (by omega) hks
                obtain ⟨q, hq⟩ := Int.eq_ofNat_of_zero_le x0
                have hqn : q < n := by omega
                obtain ⟨g0, o0, rfl, hg0, hk0⟩ := (h.below (hb.mono hB)).at_ hqn
                have hv : lineV xs size line k = nth xs q := by unfold lineV; rw [hq]; rfl
                rw [hq] at hk1
                have hs2 := Lib.hid (show hasTo (lineV xs size line) (k + 1) ((u : Int) + 1) = (nth xs q == (u : Int) + 1) by rw [hsucc.out, hh, hv]; rfl)
                clear hq hval hv
                go_wp2
                go_round
                case rel => exact ⟨k + 1, by omega, by go_num, by rw [hs2.out]⟩
                case measure => simp [intOf]; omega
              · have hs2 := Lib.hid (show hasTo (lineV xs size line) (k + 1) ((u : Int) + 1) = true by rw [hsucc.out, hh]; rfl)
                go_wp2
                go_round
                case rel => exact ⟨k + 1, by omega, by go_num, by rw [hs2.out]⟩
                case measure => simp [intOf]; omega
            · have hke : hasTo (lineV xs size line) k ((u : Int) + 1) = hasTo (lineV xs size line) size.toNat ((u : Int) + 1) := by
                have := HlenL.out
                congr 1; omega
              have hstep : missTo (hasTo (lineV xs size line) size.toNat) (u + 1) = missTo (hasTo (lineV xs size line) size.toNat) u ++ (if hasTo (lineV xs size line) size.toNat ((u : Int) + 1) = true then [] else [(u : Int) + 1]) := rfl
              cases hh : hasTo (lineV xs size line) size.toNat ((u : Int) + 1)
              · rw [hh] at hke hstep
                have Hst := Lib.hid (show missTo (hasTo (lineV xs size line) size.toNat) (u + 1) = missTo (hasTo (lineV xs size line) size.toNat) u ++ [(u : Int) + 1] from hstep)
                clear hh hstep
                have hlo2 : w.heap.size ≤ wo.heap.size := hb.size
                go_wp2_with (at_builtin; refine push_int_at rfl (.tmp 51) (.tmp 53) rfl w.heap.size A' _ c' (missTo (hasTo (lineV xs size line) size.toNat) u) _ rfl rfl ho hkb hlo2 ?_; intro A'' c'' w5 ho5 hg5 hat5)
                have ho6 : OwV w5 w.heap.size (.slice A'' ((missTo (hasTo (lineV xs size line) size.toNat) u).length + 1) c'') (missTo (hasTo (lineV xs size line) size.toNat) (u + 1)) := by
                  refine ⟨A'', c'', by rw [Hst.out, List.length_append]; rfl, ?_⟩
                  rw [Hst.out, List.length_append]
                  exact ho5
                have hb5 := push_below hb ho (Nat.le_refl _) hlo2 hg5
                have hsz5 : w2.heap.size ≤ w5.heap.size := by have := hg5.size; simp at this; omega
                have hAt5 : Hid (∀ g, (Value.slice A'' ((missTo (hasTo (lineV xs size line) size.toNat) u).length + 1) c'').ownBlock = some g → g = w.heap.size ∨ w2.heap.size ≤ g) := Lib.hid (fun g hg => by
                  rcases hat5 g hg with h | h
                  · exact hAt.out g h
                  · right; omega)
                have hoL5 : Ow w5 (w.heap.size + 1) A2 (lineL size line).length c2 (lineL size line) := (Ow.below hoL ((Below.refl _ _).alloc (Nat.le_refl _) _)).kept_ne hg5 (fun g hg he => by
                  have h1 := hA2.out g hg
                  have h2 := hAt.out g he
                  omega)
                clear ho5 hg5 hat5
                go_roundw
                case rel => exact ⟨u + 1, by omega, by go_num, ho6, hAt5, hoL5, hsz5, hb5⟩
                case measure => simp [intOf]; omega
              · rw [hh] at hke hstep
                have Hst := Lib.hid (show missTo (hasTo (lineV xs size line) size.toNat) (u + 1) = missTo (hasTo (lineV xs size line) size.toNat) u by rw [hstep]; simp)
                clear hh hstep
                go_wp2
                go_roundw
                case rel => exact ⟨u + 1, by omega, by go_num, ⟨A', c', by rw [Hst.out], by rw [Hst.out]; exact ho⟩, hAt, hoL, hsz, hb⟩
                case measure => simp [intOf]; omega
        · have he := Lib.hid (show size.toNat = u by omega)
          go_wp2
          go_ret
          rw [HL.out]
          rw [show missTo (hasTo (lineV xs size line) size.toNat) size.toNat = missTo (hasTo (lineV xs size line) size.toNat) u from congrArg (missTo (hasTo (lineV xs size line) size.toNat)) he.out]
          exact retSl_mk ho hb
end Go.Proofs.Ytmnacejmkjhpnaa
