import Derived.Test.YtoejpodchlepiaaYClash
import Derived.Laws.AppendOwnNone
set_option maxRecDepth 8000
namespace Go.Proofs.Ytoejpodchlepiaa
open Go.ChangeShapes Go.WideShapes Go.ChangeAt Go.RowKit

theorem pow_int (v : Nat) : ((2 : Int) ^ v) = ((2 ^ v : Nat) : Int) := by simp
theorem and_pow (a v : Nat) (ha : a < 32) (hv : v ≤ 4) : (bits .and .i64 (a : Int) (wrap64 (2 ^ v)) != 0) = a.testBit v := by
  have hlt : 2 ^ v < 2 ^ 5 := Nat.pow_lt_pow_right (by omega) (by omega)
  have hb : (a &&& 2 ^ v) = (a.testBit v).toNat * 2 ^ v := by
    have : v = 0 ∨ v = 1 ∨ v = 2 ∨ v = 3 ∨ v = 4 := by omega
    have key : ∀ a, a < 32 → ∀ v, v < 5 → (a &&& 2 ^ v) = (a.testBit v).toNat * 2 ^ v := by decide
    exact key a ha v (by omega)
  have hp0 : 0 < 2 ^ v := Nat.two_pow_pos v
  rw [pow_int]
  generalize 2 ^ v = p at *
  rw [IntWalk.wrap64_in _ ⟨by omega, by omega⟩]
  have h : bits .and .i64 (a : Int) (p : Int) = ((a &&& p : Nat) : Int) := by
    have hx : a &&& p ≤ a := Nat.and_le_left
    show IntKind.i64.wrap ((BitVec.ofInt 64 (a : Int) &&& BitVec.ofInt 64 (p : Int)).toNat : Int) = _
    rw [BitVec.toNat_and, ofInt_i64 a (by omega), ofInt_i64 p (by omega), IntKind.wrap_i64]
    omega
  rw [h, hb]
  cases a.testBit v
  · simp
  · simp; omega
theorem and_pow0 (a v : Nat) (ha : a < 32) (hv : v ≤ 4) : (bits .and .i64 (a : Int) (wrap64 (2 ^ v)) == 0) = !a.testBit v := by
  have h := and_pow a v ha hv
  rw [← h]
  simp [bne]
end Go.Proofs.Ytoejpodchlepiaa
namespace Go.Proofs.Ytoejpodchlepiaa
open Go.ChangeShapes Go.WideShapes Go.ChangeAt Go.RowKit

theorem pickL_bd {L : List (List Int)} {l : Int} (h0 : 0 ≤ l) : 0 ≤ (pickL L l).2 ∧ (pickL L l).2 ≤ l := by
  by_cases h : l < L.length
  · obtain ⟨y, _, _, e⟩ := pickL_lt h0 h
    rw [e]; exact ⟨Int.le_refl _, h0⟩
  · rw [pickL_ge (by omega)]
    simp; omega
theorem srch_bd {size : Int} {f : Nat} {xs : List Int} {p : Nat} {l : Int} (h0 : 0 ≤ l) : 0 ≤ (srch size f xs p l).2 ∧ (srch size f xs p l).2 ≤ l := by
  rw [srch_sols size f xs p l h0]; exact pickL_bd h0

/-- block L is a variable that holds v. -/
def Box1 (w : World) (L : Nat) (v : Int) : Prop := w.heap[L]? = some (.cells #[.int .i64 v] 3 (0, 0))
theorem Box1.cell {w : World} {L : Nat} {v : Int} (h : Box1 w L v) : w.cell? ⟨L, 0, none⟩ = some (.int .i64 v) := cell_of_row _ _ 0 _ _ _ h
theorem Box1.free {w : World} {L : Nat} {v : Int} (h : Box1 w L v) : w.frozen? ⟨L, 0, none⟩ = false := frozen_of_row w L 0 _ _ h
theorem Box1.lt {w : World} {L : Nat} {v : Int} (h : Box1 w L v) : L < w.heap.size := cell_lt h.cell
theorem Box1.set_ {w : World} {L : Nat} {v : Int} (h : Box1 w L v) (u : Int) : Box1 (w.setCell ⟨L, 0, none⟩ (.int .i64 u)) L u ∧ w.grownBy (w.setCell ⟨L, 0, none⟩ (.int .i64 u)) (some L) :=
  ⟨heap_setCell_same w L 0 _ _ _ h, ⟨rfl, rfl, rfl, by simp [World.setCell], fun k _ hk => heap_setCell_other w ⟨L, 0, none⟩ k _ (fun e => hk (by rw [e]))⟩⟩
theorem Box1.below {w w' : World} {L : Nat} {v : Int} (h : Box1 w L v) (hb : Below w.heap.size w w') : Box1 w' L v := (hb.block L h.lt).trans h

def SrchPost (w : World) (n L : Nat) (r : Option (List Int) × Int) (e : Ending) (w' : World) : Prop :=
  w.grownBy w' (some L) ∧ Box1 w' L r.2 ∧
    match r.1 with
    | some y => ∃ A' c', e = .returned (.slice A' n c') ∧ Rd w' w'.heap.size A' n y
    | none => e = .returned (.slice none 0 0)
theorem okAll_set {xs : List Int} {size v : Int} {n p : Nat} (h : okAll xs size n) (hl : xs.length = n) (hp : p < n) (v0 : 0 ≤ v) (v1 : v ≤ size) : okAll (xs.set p v) size n := by
  intro k hk
  rw [nth_set (by omega)]
  split
  · exact ⟨v0, v1⟩
  · exact h k hk
theorem grown_below {w w' : World} {L B : Nat} (h : w.grownBy w' (some L)) (hL : B ≤ L) (hB : B ≤ w.heap.size) : Below B w w' := (Below.refl _ _).grown h hB (fun k hk => by cases hk; exact hL)
theorem below_grown {w w1 w2 : World} {L : Nat} (h : w.grownBy w1 (some L)) (hb : Below w1.heap.size w1 w2) : w.grownBy w2 (some L) :=
  ⟨hb.os.trans h.os, hb.tape.trans h.tape, hb.output.trans h.output, Nat.le_trans h.size hb.size, fun k hk hne => (hb.block k (Nat.lt_of_lt_of_le hk h.size)).trans (h.block k hk hne)⟩
theorem tryFrom_clash {rec : List Int → Int → Option (List Int) × Int} {xs : List Int} {size : Int} {p r v : Nat} {l : Int} (h : clash (xs.set p (v : Int)) size = true) : tryFrom rec xs size p (r + 1) v l = tryFrom rec xs size p r (v + 1) l := by
  rw [tryFrom, if_pos h]
theorem tryFrom_some {rec : List Int → Int → Option (List Int) × Int} {xs y : List Int} {size : Int} {p r v : Nat} {l l' : Int} (h : clash (xs.set p (v : Int)) size = false) (hr : rec (xs.set p (v : Int)) l = (some y, l')) : tryFrom rec xs size p (r + 1) v l = (some y, l') := by
  rw [tryFrom, if_neg (by simp [h]), hr]
theorem tryFrom_none {rec : List Int → Int → Option (List Int) × Int} {xs : List Int} {size : Int} {p r v : Nat} {l l' : Int} (h : clash (xs.set p (v : Int)) size = false) (hr : rec (xs.set p (v : Int)) l = (none, l')) : tryFrom rec xs size p (r + 1) v l = tryFrom rec xs size p r (v + 1) l' := by
  rw [tryFrom, if_neg (by simp [h]), hr]

theorem specSearch (size : Int) (n L : Nat) (h2 : 2 ≤ size) (h4 : size ≤ 4) (hn : Hid ((n : Int) = size * size)) (hn4 : 4 ≤ n) (hn16 : n ≤ 16) (f : Nat) : ∀ (A : Option Addr) (c B : Nat) (xs : List Int) (p : Nat) (left : Int) (w : World),
    p + f = n → Rd w B A n xs → B ≤ w.heap.size → (∀ b off, A = some ⟨b, off, none⟩ → b ≠ L) → Hid (okAll xs size n) → Box1 w L left → 0 ≤ left → left ≤ 9223372036854775807 →
    Calls Try.prog 133 #[.slice A n c, .int .i64 size, .int .i64 p, .pointer (some ⟨L, 0, none⟩)] w (SrchPost w n L (srch size f xs p left)) := by
  induction f with
  | zero =>
    intro A c B xs p left w hp hr hB hne hok hx l0 l1
    obtain rfl : p = n := by omega
    have hnn : ((p : Int) == (p : Int)) = true := by simp
    have hc := hx.cell
    have hf := hx.free
    by_cases h0 : left = 0
    · have hz : (left == 0) = true := by simp [h0]
      have hs := Lib.hid (show srch size 0 xs p left = (some xs, left) by rw [srch, if_pos h0])
      clear h0
      go_enter Try.func133, Try.ntmps133
      go_wp2
      go_ret
      rw [hs.out]
      exact ⟨World.grownBy.refl _ _, hx, A, c, rfl, hr.more hB⟩
    · have hz : (left == 0) = false := by simp [h0]
      have hs := Lib.hid (show srch size 0 xs p left = (none, left - 1) by rw [srch, if_neg h0])
      have hpos : 1 ≤ left := by omega
      clear h0
      go_enter Try.func133, Try.ntmps133
      go_wp2
      go_ret
      rw [hs.out]
      exact ⟨(hx.set_ _).2, (hx.set_ _).1, rfl⟩
  | succ f ih =>
    intro A c B xs p left w hp hr hB hne hok hx l0 l1
    have hlen := Lib.hid hr.1
    have hLlt := hx.lt
    have hpn : p < n := by omega
    obtain ⟨b, off, rfl, hb, hcp⟩ := hr.at_ hpn
    have hbL := hne b off rfl
    clear hne hcp
    have hpp : ((p : Int) == (n : Int)) = false := by simp; omega
    have Hp := Lib.hid (show (p + 1) + f = n by omega)
    clear hp
    have Ih := Lib.hid ih; clear ih
    have hsz : size.toNat = size := Int.toNat_of_nonneg (by omega)
    have Hsz := Lib.hid hsz; clear hsz
    have hS := Lib.hid (show srch size (f + 1) xs p left = tryFrom (fun ys l => srch size f ys (p + 1) l) xs size p size.toNat 1 left from rfl)
    go_enter Try.func133, Try.ntmps133
    go_wp2
    go_loopw [9] (fun i wr => ∃ (v : Nat) (l : Int), 1 ≤ v ∧ (v : Int) ≤ size + 1 ∧ i = .int .i64 v ∧ Hid (srch size (f + 1) xs p left = tryFrom (fun ys l => srch size f ys (p + 1) l) xs size p (size.toNat + 1 - v) v l) ∧ w.grownBy wr (some L) ∧ Box1 wr L l ∧ 0 ≤ l ∧ l ≤ 9223372036854775807) (fun i _ => (size + 1 - intOf i).toNat)
    case atStart => exact ⟨1, left, by omega, by omega, rfl, hS, World.grownBy.refl _ _, hx, l0, l1⟩
    case round =>
      obtain ⟨v, l, v1, v2, rfl, hS', hg, hx', l0', l1'⟩ := hrel
      by_cases hlt : (v : Int) ≤ size
      · have hr' : Rd wr B (some ⟨b, off, none⟩) n xs := by
          refine ⟨hr.1, fun hn0 => ?_⟩
          obtain ⟨b', off', he, hb', hcc⟩ := hr.2 hn0
          cases he
          exact ⟨b, off, rfl, hb, fun k hk => (World.cell?_of_block (a := ⟨b, off + k, none⟩) (hg.block b (by omega) (fun e => hbL (by injection e)))).trans (hcc k hk)⟩
        have hwr := hg.size
        go_wp2_with (at_builtin; refine push_some rfl (.tmp 32) (.tmp 33) rfl wr.heap.size (some ⟨wr.heap.size, 0, none⟩) 0 0 [] b off n c B xs rfl rfl (Ow.made0 _ _ (Nat.le_refl _)) (hr'.alloc (by omega) _) (by omega) (by omega) (by simp) ?_; intro A1 c1 w1 ho1 hg1; simp only [Nat.zero_add, List.nil_append] at ho1; obtain ⟨g, rfl, hlog, hgw⟩ := ho1.form (by omega); obtain ⟨hcq, hfq⟩ := ho1.cell hpn)
        have ho2 : Ow (w1.setCell ⟨g, p, none⟩ (.int .i64 v)) wr.heap.size (some ⟨g, 0, none⟩) n c1 (xs.set p (v : Int)) := by
          have := (World.ownsRow.stored ho1 p (.int .i64 (v : Int))).1
          rw [vals_set] at this
          exact this
        have hb2 : Below wr.heap.size wr (w1.setCell ⟨g, p, none⟩ (.int .i64 v)) := (((Below.refl _ _).alloc (Nat.le_refl _) _).grown hg1 (by simp) (fun k hk => (Ow.made0 wr wr.heap.size (Nat.le_refl _)).own_lo k hk)).setCell hlog _
        generalize w1.setCell ⟨g, p, none⟩ (.int .i64 (v : Int)) = W2 at *
        have hx2 := hx'.below hb2
        have hok2 := Lib.hid (okAll_set hok.out hlen.out hpn (by omega : (0 : Int) ≤ (v : Int)) hlt)
        have hgL : g ≠ L := by have := hx'.lt; omega
        have hr2 : size.toNat + 1 - v = (size.toNat - v) + 1 := by have := Hsz.out; omega
        have hr3 : size.toNat - v = size.toNat + 1 - (v + 1) := by have := Hsz.out; omega
        have HS : srch size (f + 1) xs p left = tryFrom (fun ys l => srch size f ys (p + 1) l) xs size p ((size.toNat - v) + 1) v l := by rw [← hr2]; exact hS'.out
        have HS' := Lib.hid HS
        have Hr3 := Lib.hid hr3
        have hne3 : ∀ b' off' : Nat, (some ⟨g, 0, none⟩ : Option Addr) = some ⟨b', off', none⟩ → b' ≠ L := fun b' off' he => by cases he; exact hgL
        clear HS hr2 hr3 hS' hS hcq hfq hg1 ho1
        cases hcl : clash (xs.set p (v : Int)) size
        · refine (specClash _ _ _ _ _ _ _ ho2.rd (Nat.le_refl _) h2 h4 hn hok2).mono ?_
          rintro e w3 ⟨rfl, hb3⟩
          rw [hcl]
          have ho3 := ho2.below hb3
          have hx3 := hx2.below hb3
          have hg3 : w.grownBy w3 (some L) := below_grown (below_grown hg hb2) hb3
          cases hrr : srch size f (xs.set p (v : Int)) (p + 1) l with
          | mk o l2 =>
            have Hrr := Lib.hid hrr
            obtain ⟨bd0, bd1⟩ : 0 ≤ l2 ∧ l2 ≤ l := by
              have hbd := srch_bd (size := size) (f := f) (xs := xs.set p (v : Int)) (p := p + 1) l0'
              rw [hrr] at hbd
              exact hbd
            clear hrr
            cases o with
            | none =>
              have Hn := Lib.hid (tryFrom_none (rec := fun ys l => srch size f ys (p + 1) l) (r := size.toNat - v) hcl Hrr.out)
              clear hcl
              go_wp2_with (go_at_call 133; rw [show ((p : Int) + 1) = ((p + 1 : Nat) : Int) from by omega]; refine (Ih.out _ _ _ _ _ _ _ Hp.out ho3.rd (Nat.le_refl _) hne3 hok2 hx3 l0' l1').mono ?_; rintro e w4 hpost; rw [Hrr.out] at hpost; obtain ⟨hg4, hx4, rfl⟩ := hpost)
              go_roundw
              case rel => exact ⟨v + 1, l2, by omega, by omega, by go_num, by rw [← Hr3.out]; exact HS'.out.trans Hn.out, hg3.trans hg4, hx4, bd0, by omega⟩
              case measure => simp [intOf]; omega
            | some y =>
              have Hn := Lib.hid (tryFrom_some (rec := fun ys l => srch size f ys (p + 1) l) (r := size.toNat - v) hcl Hrr.out)
              clear hcl
              go_wp2_with (go_at_call 133; rw [show ((p : Int) + 1) = ((p + 1 : Nat) : Int) from by omega]; refine (Ih.out _ _ _ _ _ _ _ Hp.out ho3.rd (Nat.le_refl _) hne3 hok2 hx3 l0' l1').mono ?_; rintro e w4 hpost; rw [Hrr.out] at hpost; obtain ⟨hg4, hx4, A4, c4, rfl, hr4⟩ := hpost)
              go_ret
              rw [HS'.out, Hn.out]
              exact ⟨hg3.trans hg4, hx4, A4, c4, rfl, hr4⟩
        · have Hn := Lib.hid (tryFrom_clash (rec := fun ys l => srch size f ys (p + 1) l) (r := size.toNat - v) (l := l) hcl)
          refine (specClash _ _ _ _ _ _ _ ho2.rd (Nat.le_refl _) h2 h4 hn hok2).mono ?_
          rintro e w3 ⟨rfl, hb3⟩
          rw [hcl]
          clear hcl
          go_wp2
          go_roundw
          case rel => exact ⟨v + 1, l, by omega, by omega, by go_num, by rw [← Hr3.out]; exact HS'.out.trans Hn.out, below_grown (below_grown hg hb2) hb3, hx2.below hb3, l0', l1'⟩
          case measure => simp [intOf]; omega
      · go_wp2
        go_ret
        have e : size.toNat + 1 - v = 0 := by have := Hsz.out; omega
        rw [hS'.out, e]
        exact ⟨hg, hx', rfl⟩
end Go.Proofs.Ytoejpodchlepiaa
namespace Go.Proofs.Ytoejpodchlepiaa
open Go.ChangeShapes Go.WideShapes Go.ChangeAt Go.RowKit

/-- two of four are the same and not 0. -/
def dup4 (a b c d : Int) : Bool := (decide (0 < b) && a == b) || ((decide (0 < c) && (a == c || b == c)) || (decide (0 < d) && (a == d || (b == d || c == d))))
def fast16 : List Int → Bool
  | [a, b, c, d, e, f, g, h, i, j, k, l, m, n, o, p] => dup4 a b c d || (dup4 e f g h || (dup4 i j k l || (dup4 m n o p || (dup4 a e i m || (dup4 b f j n || (dup4 c g k o || dup4 d h l p))))))
  | _ => false
theorem dup4_is (f : Nat → Int) : dupTo f 4 = dup4 (f 0) (f 1) (f 2) (f 3) := by
  simp [dupTo, dup4, hasTo, List.range_succ, Bool.or_assoc]
theorem fast16_is (xs : List Int) (h : xs.length = 16) : clash xs 4 = fast16 xs := by
  match xs, h with
  | [a, b, c, d, e, f, g, h, i, j, k, l, m, n, o, p], _ =>
    have e8 : ((2 : Int) * 4).toNat = 8 := rfl
    have e4 : (4 : Int).toNat = 4 := rfl
    simp only [clash, e8, e4, clashTo, dup4_is, Bool.false_or, Bool.or_assoc, fast16]
    rfl

def solsFG (rec : List Int → List (List Int)) (chk : List Int → Bool) (xs : List Int) (p : Nat) : Nat → Nat → List (List Int)
  | 0, _ => []
  | r + 1, v => (if chk (xs.set p v) = true then [] else rec (xs.set p v)) ++ solsFG rec chk xs p r (v + 1)
def solsG (chk : List Int → Bool) (m : Nat) : Nat → List Int → Nat → List (List Int)
  | 0, xs, _ => [xs]
  | f + 1, xs, p => solsFG (fun ys => solsG chk m f ys (p + 1)) chk xs p m 1
theorem solsFG_is {rec rec' : List Int → List (List Int)} {chk : List Int → Bool} {size : Int} {n : Nat} (hc : ∀ ys, ys.length = n → clash ys size = chk ys) (hr : ∀ ys, ys.length = n → rec ys = rec' ys) {xs : List Int} (hx : xs.length = n) (p : Nat) :
    ∀ r v, solsFrom rec xs size p r v = solsFG rec' chk xs p r v := by
  intro r
  induction r with
  | zero => intro v; rfl
  | succ r ih =>
    intro v
    have hl : (xs.set p (v : Int)).length = n := by simpa using hx
    simp only [solsFrom, solsFG]
    rw [hc _ hl, hr _ hl, ih]
theorem solsG_is {chk : List Int → Bool} {size : Int} {n : Nat} (hc : ∀ ys, ys.length = n → clash ys size = chk ys) : ∀ (f : Nat) (xs : List Int) (p : Nat), xs.length = n → sols size f xs p = solsG chk size.toNat f xs p := by
  intro f
  induction f with
  | zero => intro xs p _; rfl
  | succ f ih =>
    intro xs p hx
    simp only [sols, solsG]
    exact solsFG_is hc (fun ys hy => ih ys (p + 1) hy) hx p _ _
theorem solsG4 : (solsG fast16 4 16 (zeros 16) 0).length = 576 := by decide +kernel
theorem sols4 : (sols 4 16 (zeros 16) 0).length = 576 := by
  rw [solsG_is fast16_is 16 (zeros 16) 0 (by decide)]
  exact solsG4
end Go.Proofs.Ytoejpodchlepiaa
set_option maxRecDepth 8000
namespace Go.Proofs.Ytoejpodchlepiaa
open Go.ChangeShapes Go.WideShapes Go.ChangeAt Go.RowKit

/-- the grid with a number; no grid if there are not so many. -/
def sqn (size number : Int) : List Int :=
  if inr size 2 4 = true ∧ 0 ≤ number then ((sols size (size * size).toNat (zeros (size * size).toNat) 0)[number.toNat]?).getD [] else []
theorem zeros_length (n : Nat) : (zeros n).length = n := by simp [zeros]
theorem zeros_nth (n k : Nat) : nth (zeros n) k = 0 := by
  simp only [nth, zeros, List.getD_eq_getElem?_getD, List.getElem?_replicate]
  split <;> rfl
theorem part_zeros (n : Nat) : part (zeros n) 0 n = zeros n := by
  apply ext_nth (by rw [part_length, zeros_length])
  intro k hk
  rw [part_length] at hk
  rw [part_nth _ _ _ _ hk, zeros_nth]
  simp
theorem okAll_zeros {size : Int} (h : 0 ≤ size) (n : Nat) : okAll (zeros n) size n := fun k _ => by rw [zeros_nth]; omega
theorem pickL_getD (L : List (List Int)) (l : Int) : (pickL L l).1 = L[l.toNat]? := by
  unfold pickL
  cases L[l.toNat]? <;> rfl
theorem sqn_length {size number : Int} : (sqn size number).length ≤ 16 := by
  unfold sqn
  split
  · next h =>
    obtain ⟨h2, h4⟩ := inr_t h.1
    have := sq_bd h2 h4
    cases e : (sols size (size * size).toNat (zeros (size * size).toNat) 0)[number.toNat]? with
    | none => simp
    | some y =>
      have := sols_length size _ _ _ y (List.mem_of_getElem? e)
      rw [zeros_length] at this
      simp only [Option.getD_some]
      omega
  · simp

theorem specSquareNumber (size number : Int) (w : World) (_hn0 : -9223372036854775808 ≤ number) (hn1 : number ≤ 9223372036854775807) :
    Calls Try.prog 111 #[.int .i64 size, .int .i64 number] w (RetSl w (sqn size number)) := by
  obtain ⟨i0, hi, hz0, hz1, hz2⟩ := info_parts int_info
  cases hs : inr size 2 4
  · have HL := Lib.hid (show sqn size number = [] by simp [sqn, hs])
    go_enter Try.func111, Try.ntmps111
    go_wp2_with (go_at_call 79; refine (l1In_any _ _ _ _).mono ?_; rintro e w' ⟨rfl, rfl⟩)
    go_ret
    rw [HL.out]
    exact ⟨_, _, rfl, Ow.made0 _ _ (Nat.le_refl _), (Below.refl _ _).alloc (Nat.le_refl _) _⟩
  · obtain ⟨h2, h4⟩ := inr_t hs
    by_cases h0 : number < 0
    · have HL := Lib.hid (show sqn size number = [] by unfold sqn; rw [if_neg (by intro h; omega)])
      go_enter Try.func111, Try.ntmps111
      go_wp2_with (go_at_call 79; refine (l1In_any _ _ _ _).mono ?_; rintro e w' ⟨rfl, rfl⟩)
      go_ret
      rw [HL.out]
      exact ⟨_, _, rfl, Ow.made0 _ _ (Nat.le_refl _), (Below.refl _ _).alloc (Nat.le_refl _) _⟩
    · have h0' : 0 ≤ number := by omega
      obtain ⟨q4, q16⟩ := sq_bd h2 h4
      obtain ⟨n, hnn⟩ : ∃ n : Nat, (n : Int) = size * size := ⟨(size * size).toNat, Int.toNat_of_nonneg (by omega)⟩
      have hn4 : 4 ≤ n := by omega
      have hn16 : n ≤ 16 := by omega
      have hw : wrap64 (size * size) = (n : Int) := by rw [sq_wrap h2 h4, hnn]
      have Hnn := Lib.hid hnn
      have HL := Lib.hid (show sqn size number = ((sols size n (zeros n) 0)[number.toNat]?).getD [] by
        unfold sqn; rw [if_pos ⟨hs, h0'⟩, ← hnn, Int.toNat_natCast])
      have hpk := Lib.hid ((congrArg Prod.fst (srch_sols size n (zeros n) 0 number h0')).trans (pickL_getD _ _))
      have hln : ∀ y, (sols size n (zeros n) 0)[number.toNat]? = some y → y.length = n := fun y hy => by
        have := sols_length size _ _ _ y (List.mem_of_getElem? hy)
        rwa [zeros_length] at this
      have Hln := Lib.hid hln
      clear hnn hln q4 q16 h0
      have hok := Lib.hid (okAll_zeros (by omega : 0 ≤ size) n)
      go_enter Try.func111, Try.ntmps111
      go_wp2_with (first | (go_at_call 79; refine (l1In_any _ _ _ _).mono ?_; rintro e w' ⟨rfl, rfl⟩) | (refine wpList_make_full _ rfl (.tmp 19) (.tmp 19) 23 rfl (w.heap.size + 1) 3 i0 (.int .i64 0) 1 Try.underlying23 hi hz0 hz1 .i64 .i64 _ _ n rfl rfl hw hw (by rw [hz2]; omega) (by simp only [maxLen]; omega) (by simp) ?_; intro w1 hown hgr))
      have ho1 := made_part (zeros n) hown
      rw [World.size_alloc, part_zeros] at ho1
      have hx0 : Box1 (w.alloc (.cells #[.int .i64 number] 3)) w.heap.size number := heap_alloc_new w _
      have hb0 := made_below hgr (Nat.le_refl _)
      have hx1 := hx0.below hb0
      have hbb := box_below hb0
      clear hown hgr
      have hne : ∀ b off : Nat, (some ⟨w.heap.size + 1, 0, none⟩ : Option Addr) = some ⟨b, off, none⟩ → b ≠ w.heap.size := fun b off he => by cases he; omega
      cases ho : (sols size n (zeros n) 0)[number.toNat]? with
      | none =>
        have HL' := Lib.hid (HL.out.trans (by rw [ho]; rfl : _ = ([] : List Int)))
        have hpk' := Lib.hid (hpk.out.trans ho)
        clear ho
        go_wp2_with (go_at_call 133; refine (specSearch size n w.heap.size h2 h4 Hnn hn4 hn16 n _ _ _ _ 0 number _ (Nat.zero_add _) ho1.rd (Nat.le_refl _) hne hok hx1 h0' hn1).mono ?_; rintro e w2 ⟨hg2, hx2, hp2⟩; rw [hpk'.out] at hp2; obtain rfl := hp2)
        go_ret
        rw [HL'.out]
        exact ⟨_, _, rfl, Ow.made0 _ _ (Nat.le_trans hbb.size hg2.size), (hbb.trans (grown_below hg2 (Nat.le_refl _) hbb.size)).alloc (Nat.le_trans hbb.size hg2.size) _⟩
      | some y =>
        have HL' := Lib.hid (HL.out.trans (by rw [ho]; rfl : _ = y))
        have hpk' := Lib.hid (hpk.out.trans ho)
        have hly := Lib.hid (Hln.out y ho)
        clear ho
        go_wp2_with (first | (go_at_call 133; refine (specSearch size n w.heap.size h2 h4 Hnn hn4 hn16 n _ _ _ _ 0 number _ (Nat.zero_add _) ho1.rd (Nat.le_refl _) hne hok hx1 h0' hn1).mono ?_; rintro e w2 ⟨hg2, hx2, hp2⟩; rw [hpk'.out] at hp2; obtain ⟨A', c', rfl, hr4⟩ := hp2; obtain ⟨b, off, rfl, hbb4, _⟩ := hr4.at_ (k := 0) (by omega)) | (at_builtin; refine push_some rfl (.tmp 24) (.tmp 25) rfl w2.heap.size (some ⟨w2.heap.size, 0, none⟩) 0 0 [] b off n c' w2.heap.size y rfl rfl (Ow.made0 _ _ (Nat.le_refl _)) (hr4.alloc (Nat.le_refl _) _) (by omega) (by omega) (by simp) ?_; intro A5 c5 w5 ho5 hg5))
        go_ret
        rw [HL'.out]
        simp only [Nat.zero_add, List.nil_append] at ho5
        have hb2 := hbb.trans (grown_below hg2 (Nat.le_refl _) hbb.size)
        exact retSl_mk (by simpa only [Nat.zero_add] using ho5.mono hb2.size) ((hb2.alloc hb2.size _).grown hg5 (by simp; have := hb2.size; omega) (fun k hk => Nat.le_trans hb2.size ((Ow.made0 w2 w2.heap.size (Nat.le_refl _)).own_lo k hk)))
end Go.Proofs.Ytoejpodchlepiaa
set_option maxRecDepth 8000
namespace Go.Proofs.Ytoejpodchlepiaa
open Go.ChangeShapes Go.WideShapes Go.ChangeAt Go.RowKit

theorem lit_cell {w w2 : World} {cs : Array Value} {t : TypeId} {G : Nat} (hg : (w.alloc (.cells cs t)).grownBy w2 (some G)) (hG : G < w.heap.size) (i : Nat) : w2.cell? ⟨w.heap.size, i, none⟩ = cs[i]? := by
  have h := hg.block w.heap.size (by simp) (fun e => by injection e with e; omega)
  exact cell_of_row _ _ i cs t (0, 0) (h.trans (heap_alloc_new w _))
theorem only_alloc {a w : World} {row : Option Nat} (h : a.grownBy w row) (o : Obj) : a.grownBy (w.alloc o) row :=
  ⟨h.os, h.tape, h.output, Nat.le_trans h.size (by simp), fun i hi hne => (Below.heap_alloc w o i (Nat.lt_of_lt_of_le hi h.size)).trans (h.block i hi hne)⟩
theorem only_set {a w : World} {row : Option Nat} (h : a.grownBy w row) {p : Addr} (hp : a.heap.size ≤ p.block) (u : Value) : a.grownBy (w.setCell p u) row :=
  ⟨h.os, h.tape, h.output, by simpa [World.setCell] using h.size, fun i hi hne => (Below.heap_setCell w p u i (by omega)).trans (h.block i hi hne)⟩
theorem grown_of_alloc {w w2 : World} {o : Obj} {G : Nat} (h : (w.alloc o).grownBy w2 (some G)) : w.grownBy w2 (some G) := (only_alloc (World.grownBy.refl w _) o).trans h
theorem Ow.keptG {w w' : World} {lo G : Nat} {A : Option Addr} {n c : Nat} {xs : List Int} (h : Ow w lo A n c xs) (hg : w.grownBy w' (some G)) (hG : G < lo) : Ow w' lo A n c xs := by
  refine World.ownsRow.kept h hg ?_
  cases e : (Value.slice A n c).ownBlock with
  | none => exact .inl rfl
  | some g =>
    refine .inr fun he => ?_
    have h1 := h.own_lo g e
    injection he with he
    omega

theorem Rdr.more {w : World} {B G P P' : Nat} (h : Rdr w B G P) (hP : P ≤ P') : Rdr w B G P' := by
  obtain ⟨A, n, c, p, bs, h1, h2, h3, h4, h5⟩ := h
  exact ⟨A, n, c, p, bs, h1, h2, by omega, h4, h5⟩
theorem Rdr.lt {w : World} {B G P : Nat} (h : Rdr w B G P) : G < w.heap.size := by
  obtain ⟨A, n, c, p, bs, h1, _⟩ := h
  exact cell_lt (p := ⟨G, 0, none⟩) (cell_of_row _ _ 0 _ _ _ h1)
theorem Rdr.alloc {w : World} {B G P : Nat} (h : Rdr w B G P) (hB : B ≤ w.heap.size) (o : Obj) : Rdr (w.alloc o) B G P := by
  have hlt := h.lt
  obtain ⟨A, n, c, p, bs, h1, h2, h3, h4, h5⟩ := h
  exact ⟨A, n, c, p, bs, (Below.heap_alloc w o G hlt).trans h1, h2, h3, h4, h5.below ((Below.refl _ _).alloc hB o)⟩
theorem Rdr.set_ {w : World} {B G P : Nat} (h : Rdr w B G P) {q : Addr} (hB : B ≤ q.block) (hne : q.block ≠ G) (u : Value) : Rdr (w.setCell q u) B G P := by
  obtain ⟨A, n, c, p, bs, h1, h2, h3, h4, h5⟩ := h
  exact ⟨A, n, c, p, bs, (Below.heap_setCell w q u G (fun e => hne e.symm)).trans h1, h2, h3, h4, h5.below ((Below.refl _ _).setCell hB u)⟩
theorem Rdr.below {w w' : World} {B G P : Nat} (h : Rdr w B G P) (hb : Below w.heap.size w w') (hB : B ≤ w.heap.size) : Rdr w' B G P := by
  have hlt := h.lt
  obtain ⟨A, n, c, p, bs, h1, h2, h3, h4, h5⟩ := h
  exact ⟨A, n, c, p, bs, (hb.block G hlt).trans h1, h2, h3, h4, h5.below (hb.mono hB)⟩

/-- the post of a draw that hands back an int with Q. -/
def DrewInt (w : World) (B G P : Nat) (Q : Int → Prop) (e : Ending) (w' : World) : Prop := ∃ v : Int, e = .returned (.int .i64 v) ∧ Q v ∧ Rdr w' B G P ∧ w.grownBy w' (some G)
def DrewBool (w : World) (B G P : Nat) (Q : Bool → Prop) (e : Ending) (w' : World) : Prop := ∃ v : Bool, e = .returned (.bool v) ∧ Q v ∧ Rdr w' B G P ∧ w.grownBy w' (some G)
theorem specOpen (A : Option Addr) (c n : Nat) (bs : List Int) (w : World) (h : RdB w w.heap.size A n bs) (hc : n ≤ c) (hm : c ≤ 9223372036854775807) :
    Calls Try.prog 70 #[.slice A n c] w fun e w' => e = .returned (.pointer (some ⟨w.heap.size, 0, none⟩)) ∧ Rdr w' w.heap.size w.heap.size 0 ∧ Below w.heap.size w w' := by
  have hal : ∀ (m : Nat) (A' : Option Addr) (c' : Nat) (bs' : List Int), m ≤ 2000 → RdB w w.heap.size A' m bs' → Rdr (w.alloc (.cells #[.slice A' m c', .int .i64 0] 110)) w.heap.size w.heap.size 0 := fun m A' c' bs' hm' hr' =>
    ⟨A', m, c', 0, bs', heap_alloc_new w _, by omega, by omega, hm', hr'.below ((Below.refl _ _).alloc (Nat.le_refl _) _)⟩
  have Hal := Lib.hid hal; clear hal
  by_cases hn : n ≤ 2000
  · go_enter Try.func70, Try.ntmps70
    go_wp2
    go_ret
    exact ⟨rfl, Hal.out _ _ _ _ hn h, (Below.refl _ _).alloc (Nat.le_refl _) _⟩
  · have h2 : RdB w w.heap.size A 2000 (bs.take 2000) := by
      have e : ∀ k, k < 2000 → nth (bs.take 2000) k = nth bs k := fun k hk => by
        simp [nth, List.getD_eq_getElem?_getD, hk]
      refine ⟨by rw [List.length_take, h.1]; omega, fun _ => ?_, fun k hk => by rw [e k hk]; exact h.2.2 k (by omega)⟩
      obtain ⟨b, off, he, hb, hcc⟩ := h.2.1 (by omega)
      exact ⟨b, off, he, hb, fun k hk => by rw [e k hk]; exact hcc k (by omega)⟩
    go_enter Try.func70, Try.ntmps70
    go_wp2
    go_ret
    exact ⟨rfl, Hal.out _ _ _ _ (by omega) h2, (Below.refl _ _).alloc (Nat.le_refl _) _⟩
theorem odd_any (B G P : Nat) (m : Int) (w : World) (h : Rdr w B G P) (hBG : B ≤ G) (hP : P ≤ 1000000) (hm : m ≤ 1000000) :
    Calls Try.prog 113 #[.pointer (some ⟨G, 0, none⟩), .int .i64 m] w (DrewBool w B G (P + 1) (fun b => m ≤ 0 → b = false)) := by
  by_cases h0 : 0 < m
  · go_enter Try.func113, Try.ntmps113
    go_wp2_with (go_at_call 72; refine (pick_any B G P _ _ h hBG (by omega)).mono ?_; rintro e w1 ⟨v, rfl, hv, hr1, hg1⟩)
    go_ret
    exact ⟨_, rfl, fun hh => by omega, hr1, hg1⟩
  · go_enter Try.func113, Try.ntmps113
    go_wp2
    go_ret
    refine ⟨false, rfl, ?_, h.more (by omega), World.grownBy.refl _ _⟩
    simp
theorem l20Size_any (B G P : Nat) (m : Int) (w : World) (h : Rdr w B G P) (hBG : B ≤ G) (hP : P ≤ 1000000) (hm : m ≤ 1000000) :
    Calls Try.prog 112 #[.pointer (some ⟨G, 0, none⟩), .int .i64 m] w (DrewInt w B G (P + 2) (fun s => -1 ≤ s ∧ s ≤ 5 ∧ (m ≤ 0 → 2 ≤ s ∧ s ≤ 4))) := by
  go_enter Try.func112, Try.ntmps112
  go_wp2_with fail
  refine (odd_any B G P _ _ h hBG hP hm).mono ?_
  rintro e w1 ⟨b, rfl, hb, hr1, hg1⟩
  have hsz := hr1.lt
  have hlt := h.lt
  have hB1 : B ≤ w1.heap.size := by omega
  cases b
  · go_wp2_with fail
    refine (pick_any B G (P + 1) _ _ (hr1.alloc hB1 _) hBG (by omega)).mono ?_
    rintro e w2 ⟨v, rfl, ⟨v0, v1, _⟩, hr2, hg2⟩
    have hc := fun i => lit_cell hg2 hsz i
    have Hc := Lib.hid hc; clear hc
    have hg := hg1.trans (grown_of_alloc hg2)
    have hv : v = 0 ∨ v = 1 ∨ v = 2 ∨ v = 3 ∨ v = 4 := by have := v1 (by omega); omega
    clear v0 v1
    rcases hv with rfl | rfl | rfl | rfl | rfl
    · have hc := Hc.out 0
      simp at hc
      go_wp2
      go_ret
      exact ⟨_, rfl, by omega, hr2, hg⟩
    · have hc := Hc.out 1
      simp at hc
      go_wp2
      go_ret
      exact ⟨_, rfl, by omega, hr2, hg⟩
    · have hc := Hc.out 2
      simp at hc
      go_wp2
      go_ret
      exact ⟨_, rfl, by omega, hr2, hg⟩
    · have hc := Hc.out 3
      simp at hc
      go_wp2
      go_ret
      exact ⟨_, rfl, by omega, hr2, hg⟩
    · have hc := Hc.out 4
      simp at hc
      go_wp2
      go_ret
      exact ⟨_, rfl, by omega, hr2, hg⟩
  · have hm0 : ¬ m ≤ 0 := fun hh => by simpa using hb hh
    go_wp2_with fail
    refine (pick_any B G (P + 1) _ _ (hr1.alloc hB1 _) hBG (by omega)).mono ?_
    rintro e w2 ⟨v, rfl, ⟨v0, v1, _⟩, hr2, hg2⟩
    have hc := fun i => lit_cell hg2 hsz i
    have Hc := Lib.hid hc; clear hc
    have hg := hg1.trans (grown_of_alloc hg2)
    have hv : v = 0 ∨ v = 1 ∨ v = 2 := by have := v1 (by omega); omega
    clear v0 v1
    rcases hv with rfl | rfl | rfl
    · have hc := Hc.out 0
      simp at hc
      go_wp2
      go_ret
      exact ⟨_, rfl, by omega, hr2, hg⟩
    · have hc := Hc.out 1
      simp at hc
      go_wp2
      go_ret
      exact ⟨_, rfl, by omega, hr2, hg⟩
    · have hc := Hc.out 2
      simp at hc
      go_wp2
      go_ret
      exact ⟨_, rfl, by omega, hr2, hg⟩
def manyOf (size : Int) : Int := if size = 2 then 2 else if size = 3 then 12 else 576
theorem sols_many {size : Int} (h2 : 2 ≤ size) (h4 : size ≤ 4) : ((sols size (size * size).toNat (zeros (size * size).toNat) 0).length : Int) = manyOf size := by
  have : size = 2 ∨ size = 3 ∨ size = 4 := by omega
  rcases this with rfl | rfl | rfl
  · have e : ((2 : Int) * 2).toNat = 4 := rfl
    rw [e, sols2]; rfl
  · have e : ((3 : Int) * 3).toNat = 9 := rfl
    rw [e, sols3]; rfl
  · have e : ((4 : Int) * 4).toNat = 16 := rfl
    rw [e, sols4]; rfl
theorem sqn_mem {size number : Int} (h2 : 2 ≤ size) (h4 : size ≤ 4) (h0 : 0 ≤ number) (h1 : number < manyOf size) : sqn size number ∈ sols size (size * size).toNat (zeros (size * size).toNat) 0 := by
  have hs : inr size 2 4 = true := by simp [inr, h2, h4]
  have hl : number.toNat < (sols size (size * size).toNat (zeros (size * size).toNat) 0).length := by
    have := sols_many h2 h4
    omega
  unfold sqn
  rw [if_pos ⟨hs, h0⟩, List.getElem?_eq_getElem hl, Option.getD_some]
  exact List.getElem_mem hl
theorem many_facts (size : Int) : 2 ≤ manyOf size ∧ manyOf size ≤ 576 := by
  unfold manyOf; split
  · omega
  · split <;> omega
/-- the post of the draw of a solved grid. -/
def DrewSolved (w : World) (B G P : Nat) (size : Int) (e : Ending) (w' : World) : Prop :=
  ∃ A n c xs, e = .returned (.slice A n c) ∧ Ow w' w.heap.size A n c xs ∧ (n : Int) = size * size ∧ xs ∈ sols size n (zeros n) 0 ∧ Rdr w' B G P ∧ w.grownBy w' (some G)
theorem l20Solved_any (B G P : Nat) (size : Int) (w : World) (h : Rdr w B G P) (hBG : B ≤ G) (hP : P ≤ 1000000) (h2 : 2 ≤ size) (h4 : size ≤ 4) :
    Calls Try.prog 106 #[.pointer (some ⟨G, 0, none⟩), .int .i64 size] w (DrewSolved w B G (P + 2) size) := by
  have hGlt := h.lt
  have hBw : B ≤ w.heap.size := by omega
  obtain ⟨m0, m1⟩ := many_facts size
  have key : ∀ (v : Int) (w1 : World) (e : Ending) (w2 : World), 0 ≤ v → v < manyOf size → w.grownBy w1 (some G) → Rdr w1 B G (P + 2) → RetSl w1 (sqn size v) e w2 → DrewSolved w B G (P + 2) size e w2 := by
    intro v w1 e w2 hv0 hv1 hg1 hr1 ⟨A, c, he, ho, hb⟩
    have hm := sqn_mem h2 h4 hv0 hv1
    have hl := sols_length size _ _ _ _ hm
    rw [zeros_length] at hl
    obtain ⟨q4, q16⟩ := sq_bd h2 h4
    refine ⟨A, _, c, _, he, ho.mono hg1.size, by rw [hl]; exact Int.toNat_of_nonneg (by omega), by rw [hl]; exact hm, hr1.below hb (by have := hg1.size; omega), below_grown hg1 hb⟩
  have Key := Lib.hid key; clear key
  have hsz : size = 2 ∨ size = 3 ∨ size = 4 := by omega
  rcases hsz with rfl | rfl | rfl
  all_goals
    go_enter Try.func106, Try.ntmps106
    go_wp2_with fail
    refine (pick_any B G P _ _ (h.alloc hBw _) hBG (by omega)).mono ?_
    rintro e w1 ⟨v, rfl, ⟨v0, v1, _⟩, hr1, hg1⟩
    have hv1 := v1 (by omega)
    clear v1
    go_wp2_with fail
    refine (pick_any B G (P + 1) _ _ hr1 hBG (by omega)).mono ?_
    rintro e w2 ⟨u, rfl, ⟨u0, u1, _⟩, hr2, hg2⟩
    have hu1 := u1 (by omega)
    clear u1
    have hg := (grown_of_alloc hg1).trans hg2
    go_wp2_with fail
    refine (specSquareNumber _ _ _ (by omega) (by omega)).mono ?_
    intro e w3 hp
    have hd := Key.out _ _ _ _ (by omega) (by simp only [manyOf]; omega) hg hr2 hp
    obtain ⟨A, n, c, xs, rfl, hrest⟩ := hd
    go_wp2
    go_ret
    exact ⟨A, n, c, xs, rfl, hrest⟩
end Go.Proofs.Ytoejpodchlepiaa
set_option maxRecDepth 8000
namespace Go.Proofs.Ytoejpodchlepiaa
open Go.ChangeShapes Go.WideShapes Go.ChangeAt Go.RowKit

theorem okAll_set' {xs : List Int} {size v : Int} {n p : Nat} (h : okAll xs size n) (v0 : 0 ≤ v) (v1 : v ≤ size) : okAll (xs.set p v) size n := by
  intro k hk
  by_cases hp : p < xs.length
  · rw [nth_set hp]
    split
    · exact ⟨v0, v1⟩
    · exact h k hk
  · rw [List.set_eq_of_length_le (by omega)]
    exact h k hk
theorem sols_ok {size : Int} (hs : 0 ≤ size) (n : Nat) : ∀ (f : Nat) (xs : List Int) (p : Nat), okAll xs size n → ∀ y, y ∈ sols size f xs p → okAll y size n := by
  intro f
  induction f with
  | zero => intro xs p h y hy; simp [sols] at hy; subst hy; exact h
  | succ f ih =>
    intro xs p h y hy
    refine solsFrom_all (P := fun y => okAll y size n) _ _ (fun u y h1 h2 hy => ?_) y hy
    exact ih _ _ (okAll_set' h (by omega) (by omega)) y hy
theorem okAll_gv {xs : List Int} {size : Int} {n : Nat} (hl : xs.length = n) (hn : (n : Int) = size * size) (h2 : 2 ≤ size) (h4 : size ≤ 4) (h : okAll xs size n) : gv xs size = true := by
  have h1 : inr size 2 4 = true := by simp [inr, h2, h4]
  have h3 : xs.all (fun x => inr x 0 size) = true := okTo_all (n := n) (fun j hj => by have := h j hj; simp [inr, this]) hl
  simp [gv, h1, h3, hl, hn]

theorem Ow.put {w : World} {lo g n c : Nat} {xs : List Int} (h : Ow w lo (some ⟨g, 0, none⟩) n c xs) (k : Nat) (v : Int) : Ow (w.setCell ⟨g, k, none⟩ (.int .i64 v)) lo (some ⟨g, 0, none⟩) n c (xs.set k v) := by
  have := (World.ownsRow.stored h k (.int .i64 v)).1
  rw [vals_set] at this
  exact this

end Go.Proofs.Ytoejpodchlepiaa
