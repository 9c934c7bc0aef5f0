import Derived.Test.YtgejahkdiciplabBase
import Derived.Test.YtgejahkdiciplabVNr
namespace Go.Proofs.Ytgejahkdiciplab
open Go.ChangeShapes Go.WideShapes Go.ChangeAt Go.RowKit

theorem toIntS_any (A : Option Addr) (c n B : Nat) (xs : List Int) (w : World) (h : Rd w B A n xs) (hB : B ≤ w.heap.size) (hm : n ≤ 1099511627776) :
    Calls Try.prog 34 #[.slice A n c] w fun e w' => e = .returned (.slice (some ⟨w.heap.size, 0, none⟩) n n) ∧ Ow w' w.heap.size (some ⟨w.heap.size, 0, none⟩) n n xs ∧ Below w.heap.size w w' := by
  obtain ⟨i0, hi, hz0, hz1, hz2⟩ := info_parts int_info
  have hlen := Lib.hid h.1
  go_enter Try.func34, Try.ntmps34
  go_wp2_with (refine wpList_make_full _ rfl (.tmp 6) (.tmp 6) 23 rfl w.heap.size 3 i0 (.int .i64 0) 1 Try.underlying23 hi hz0 hz1 .i64 .i64 n n n rfl rfl rfl rfl ?_ ?_ (Nat.le_refl _) ?_)
  · rw [hz2]; omega
  · simp only [maxLen]; omega
  · intro w1 hown hgr
    have hown1 : Ow w1 w.heap.size (some ⟨w.heap.size, 0, none⟩) n n (part xs 0 n) := by
      unfold Ow; rw [part_zero, ← toList_madeCells_one]; exact hown
    have hb1 : Below w.heap.size w w1 := (Below.refl _ _).grown hgr (Nat.le_refl _) (fun k hk => by cases hk)
    clear hown hgr
    go_wp2
    go_loopw [4] (fun i wr => ∃ k : Nat, k ≤ n ∧ i = .int .i64 k ∧ Ow wr w.heap.size (some ⟨w.heap.size, 0, none⟩) n n (part xs k n) ∧ Below w.heap.size w wr) (fun i _ => n - (intOf i).toNat)
    case atStart => exact ⟨0, Nat.zero_le _, rfl, hown1, hb1⟩
    case round =>
      obtain ⟨k, hk, rfl, ho, hb⟩ := hrel
      by_cases hlt : k < n
      · obtain ⟨b, off, rfl, hbB, hck⟩ := (h.below (hb.mono hB)).at_ hlt
        have hold := World.ownsRow.cellAt ho k (by omega)
        rw [vals_get (by rw [part_length]; exact hlt)] at hold
        have hfr := World.ownsRow.frozenAt ho k
        have hst := World.ownsRow.stored ho k (.int .i64 (nth xs k))
        rw [part_set] at hst
        have Hst := Lib.hid hst; clear hst
        go_wp2
        go_roundw
        case rel => exact ⟨k + 1, by omega, by go_num, Hst.out.1, hb.setCell (Nat.le_refl _) _⟩
        case measure => simp [intOf]; omega
      · obtain rfl : k = n := by omega
        go_wp2
        go_ret
        refine ⟨rfl, ?_, hb⟩
        have e := part_all xs
        rw [hlen.out] at e
        rw [e] at ho
        exact ho
theorem eqIntS_any (A A' : Option Addr) (c c' n n' B B' : Nat) (xs ys : List Int) (w : World) (h : Rd w B A n xs) (h' : Rd w B' A' n' ys) (hm : n ≤ 1099511627776) :
    Calls Try.prog 35 #[.slice A n c, .slice A' n' c'] w fun e w' => e = .returned (.bool (same xs ys)) ∧ Below w.heap.size w w' := by
  have hl := Lib.hid h.1
  have hl' := Lib.hid h'.1
  by_cases hnn : n = n'
  · subst hnn
    go_enter Try.func35, Try.ntmps35
    go_wp2
    go_loopw [5] (fun i wr => ∃ k : Nat, k ≤ n ∧ i = .int .i64 k ∧ eqTo xs ys k ∧ Below w.heap.size w wr ∧ Rd wr B A n xs ∧ Rd wr B' A' n ys) (fun i _ => n - (intOf i).toNat)
    case atStart => exact ⟨0, Nat.zero_le _, rfl, eqTo_zero, Below.refl _ _, h, h'⟩
    case round =>
      obtain ⟨k, hk, rfl, heq, hb, hr, hr'⟩ := hrel
      by_cases hlt : k < n
      · obtain ⟨b, off, rfl, hbB, hck⟩ := hr.at_ hlt
        obtain ⟨b', off', rfl, hbB', hck'⟩ := hr'.at_ hlt
        have hltI : (k : Int) < (n : Int) := by omega
        by_cases e : nth xs k = nth ys k
        · have hne : (nth xs k != nth ys k) = false := by simp [e]
          have He := Lib.hid e; clear e
          go_wp2
          go_quiet (fail)
          go_wp2
          go_roundw
          case rel => exact ⟨k + 1, by omega, by go_num, eqTo_succ heq He.out, below_drewN hb _, hr, hr'⟩
          case measure => simp [intOf]; omega
        · have hne : (nth xs k != nth ys k) = true := by simp [e]
          have He := Lib.hid e; clear e
          go_wp2
          go_quiet (fail)
          go_wp2
          go_ret
          exact ⟨by rw [same_f He.out]; rfl, below_drewN hb _⟩
      · obtain rfl : k = n := by omega
        go_wp2
        go_ret
        exact ⟨by rw [same_t hl.out hl'.out heq]; rfl, hb⟩
  · have hne : ((n : Int) != (n' : Int)) = true := by rw [bne_iff_ne]; omega
    go_enter Try.func35, Try.ntmps35
    go_wp2
    go_ret
    exact ⟨by rw [same_len (by rw [hl.out, hl'.out]; exact hnn)]; rfl, Below.refl _ _⟩
theorem sameInts_any (A A' : Option Addr) (c c' n n' B B' : Nat) (xs ys : List Int) (w : World) (h : Rd w B A n xs) (h' : Rd w B' A' n' ys) (hm : n ≤ 1099511627776) :
    Calls Try.prog 26 #[.slice A n c, .slice A' n' c'] w fun e w' => e = .returned (.bool (same xs ys)) ∧ Below w.heap.size w w' := by
  have hl := Lib.hid h.1
  have hl' := Lib.hid h'.1
  by_cases hnn : n = n'
  · subst hnn
    go_enter Try.func26, Try.ntmps26
    go_wp2
    go_loopw [5] (fun i wr => ∃ k : Nat, k ≤ n ∧ i = .int .i64 k ∧ eqTo xs ys k ∧ Below w.heap.size w wr ∧ Rd wr B A n xs ∧ Rd wr B' A' n ys) (fun i _ => n - (intOf i).toNat)
    case atStart => exact ⟨0, Nat.zero_le _, rfl, eqTo_zero, Below.refl _ _, h, h'⟩
    case round =>
      obtain ⟨k, hk, rfl, heq, hb, hr, hr'⟩ := hrel
      by_cases hlt : k < n
      · obtain ⟨b, off, rfl, hbB, hck⟩ := hr.at_ hlt
        obtain ⟨b', off', rfl, hbB', hck'⟩ := hr'.at_ hlt
        have hltI : (k : Int) < (n : Int) := by omega
        by_cases e : nth xs k = nth ys k
        · have hne : (nth xs k != nth ys k) = false := by simp [e]
          have He := Lib.hid e; clear e
          go_wp2
          go_quiet (fail)
          go_wp2
          go_roundw
          case rel => exact ⟨k + 1, by omega, by go_num, eqTo_succ heq He.out, below_drewN hb _, hr, hr'⟩
          case measure => simp [intOf]; omega
        · have hne : (nth xs k != nth ys k) = true := by simp [e]
          have He := Lib.hid e; clear e
          go_wp2
          go_quiet (fail)
          go_wp2
          go_ret
          exact ⟨by rw [same_f He.out]; rfl, below_drewN hb _⟩
      · obtain rfl : k = n := by omega
        go_wp2
        go_ret
        exact ⟨by rw [same_t hl.out hl'.out heq]; rfl, hb⟩
  · have hne : ((n : Int) != (n' : Int)) = true := by rw [bne_iff_ne]; omega
    go_enter Try.func26, Try.ntmps26
    go_wp2
    go_ret
    exact ⟨by rw [same_len (by rw [hl.out, hl'.out]; exact hnn)]; rfl, Below.refl _ _⟩
theorem markIntS_any (A : Option Addr) (c n lo : Nat) (xs : List Int) (m : Int) (w : World) (h : Ow w lo A n c xs) (hm : n ≤ 1099511627776) (h0 : 0 ≤ m) (h1 : m ≤ 1099511627776) :
    Calls Try.prog 36 #[.slice A n c, .int .i64 m] w fun e w' => e = .returned (.int .i64 (m + n)) ∧ Ow w' lo A n c (marked xs m n n) ∧ w.grownBy w' (Value.slice A n c).ownBlock := by
  have hlen := Lib.hid h.len
  go_enter Try.func36, Try.ntmps36
  go_wp2
  go_loopw [1, 5] (fun q i wr => ∃ k : Nat, k ≤ n ∧ i = .int .i64 k ∧ q = .int .i64 (m + k) ∧ Ow wr lo A n c (marked xs m k n) ∧ w.grownBy wr (Value.slice A n c).ownBlock) (fun _ i _ => n - (intOf i).toNat)
  case atStart =>
    refine ⟨0, Nat.zero_le _, rfl, by simp, ?_, World.grownBy.refl _ _⟩
    have e := marked_zero xs m
    rw [hlen.out] at e
    rw [e]; exact h
  case round =>
    obtain ⟨k, hk, rfl, rfl, ho, hg⟩ := hrel
    by_cases hlt : k < n
    · obtain ⟨g, rfl, hlog, hgw⟩ := ho.form (by omega)
      have hold := World.ownsRow.cellAt ho k (by omega)
      rw [vals_get (by rw [marked_length]; exact hlt)] at hold
      have hfr := World.ownsRow.frozenAt ho k
      have hst := World.ownsRow.stored ho k (.int .i64 (m + k))
      rw [marked_set] at hst
      have Hst := Lib.hid hst; clear hst
      go_wp2
      go_roundw
      case rel => exact ⟨k + 1, by omega, by go_num, by go_num, Hst.out.1, hg.trans Hst.out.2⟩
      case measure => simp [intOf]; omega
    · obtain rfl : k = n := by omega
      go_wp2
      go_ret
      exact ⟨rfl, ho, hg⟩
theorem heldIntS_seq (A : Option Addr) (c n B : Nat) (m : Int) (w : World) (h : Rd w B A n (seqI m n)) (hm : n ≤ 1099511627776) (h0 : 0 ≤ m) (h1 : m ≤ 1099511627776) :
    Calls Try.prog 37 #[.slice A n c, .int .i64 m] w fun e w' => e = .returned (.int .i64 (m + n)) ∧ w = w' := by
  go_enter Try.func37, Try.ntmps37
  go_wp2
  go_loop [1, 5] (fun q i => ∃ k : Nat, k ≤ n ∧ i = .int .i64 k ∧ q = .int .i64 (m + k)) (fun _ i => n - (intOf i).toNat)
  case atStart => exact ⟨0, Nat.zero_le _, rfl, by simp⟩
  case round =>
    obtain ⟨k, hk, rfl, rfl⟩ := hrel
    by_cases hlt : k < n
    · obtain ⟨b, off, rfl, hbB, hck⟩ := h.at_ hlt
      rw [seqI_nth hlt] at hck
      go_wp2
      go_round
      case rel => exact ⟨k + 1, by omega, by go_num, by go_num⟩
      case measure => simp [intOf]; omega
    · obtain rfl : k = n := by omega
      go_wp2
      go_ret
      exact ⟨rfl, rfl⟩
end Go.Proofs.Ytgejahkdiciplab
set_option maxRecDepth 8000
namespace Go.Proofs.Ytgejahkdiciplab
open Go.ChangeShapes Go.WideShapes Go.ChangeAt Go.RowKit

theorem specL8Same (A A' : Option Addr) (c c' n n' B B' : Nat) (xs ys : List Int) (w : World) (h : Rd w B A n xs) (h' : Rd w B' A' n' ys) (hm : n ≤ 1099511627776) :
    Calls Try.prog 109 #[.slice A n c, .slice A' n' c'] w fun e w' => e = .returned (.bool (same xs ys)) ∧ Below w.heap.size w w' := by
  have hl := Lib.hid h.1
  have hl' := Lib.hid h'.1
  by_cases hnn : n = n'
  · subst hnn
    go_enter Try.func109, Try.ntmps109
    go_wp2
    go_loopw [5] (fun i wr => ∃ k : Nat, k ≤ n ∧ i = .int .i64 k ∧ eqTo xs ys k ∧ Below w.heap.size w wr ∧ Rd wr B A n xs ∧ Rd wr B' A' n ys) (fun i _ => n - (intOf i).toNat)
    case atStart => exact ⟨0, Nat.zero_le _, rfl, eqTo_zero, Below.refl _ _, h, h'⟩
    case round =>
      obtain ⟨k, hk, rfl, heq, hb, hr, hr'⟩ := hrel
      by_cases hlt : k < n
      · obtain ⟨b, off, rfl, hbB, hck⟩ := hr.at_ hlt
        obtain ⟨b', off', rfl, hbB', hck'⟩ := hr'.at_ hlt
        have hltI : (k : Int) < (n : Int) := by omega
        by_cases e : nth xs k = nth ys k
        · have hne : (nth xs k != nth ys k) = false := by simp [e]
          have He := Lib.hid e; clear e
          go_wp2
          go_quiet (fail)
          go_wp2
          go_roundw
          case rel => exact ⟨k + 1, by omega, by go_num, eqTo_succ heq He.out, below_drewN hb _, hr, hr'⟩
          case measure => simp [intOf]; omega
        · have hne : (nth xs k != nth ys k) = true := by simp [e]
          have He := Lib.hid e; clear e
          go_wp2
          go_quiet (fail)
          go_wp2
          go_ret
          exact ⟨by rw [same_f He.out]; rfl, below_drewN hb _⟩
      · obtain rfl : k = n := by omega
        go_wp2
        go_ret
        exact ⟨by rw [same_t hl.out hl'.out heq]; rfl, hb⟩
  · have hne : ((n : Int) != (n' : Int)) = true := by rw [bne_iff_ne]; omega
    go_enter Try.func109, Try.ntmps109
    go_wp2
    go_ret
    exact ⟨by rw [same_len (by rw [hl.out, hl'.out]; exact hnn)]; rfl, Below.refl _ _⟩
end Go.Proofs.Ytgejahkdiciplab
set_option maxRecDepth 8000
namespace Go.Proofs.Ytgejahkdiciplab
open Go.ChangeShapes Go.WideShapes Go.ChangeAt Go.RowKit
/-! rounds of techniques, until none changes anything: the masks' sum sinks. -/
def sumTo (xs : List Int) : Nat → Nat
  | 0 => 0
  | k + 1 => sumTo xs k + (nth xs k).toNat
/-- the sum of what a slice's cells hold. -/
def sumAt (w : World) (v : Value) : Nat → Nat
  | 0 => 0
  | k + 1 => sumAt w v k + (match v with | .slice (some a) _ _ => (match w.cell? ⟨a.block, a.off + k, none⟩ with | some (.int _ z) => z.toNat | _ => 0) | _ => 0)
theorem sumAt_ow {w : World} {lo n c : Nat} {A : Option Addr} {xs : List Int} (h : Ow w lo A n c xs) : ∀ k, k ≤ n → sumAt w (.slice A n c) k = sumTo xs k := by
  intro k
  induction k with
  | zero => intro _; rfl
  | succ k ih =>
    intro hk
    obtain ⟨b, off, rfl, _, hc⟩ := h.rd.at_ (show k < n by omega)
    simp only [sumAt, sumTo]
    rw [ih (by omega), hc]
theorem sum_le {a b : List Int} (h : Sub a b) : ∀ k, k ≤ b.length → sumTo a k ≤ sumTo b k := by
  intro k
  induction k with
  | zero => intro _; exact Nat.le_refl _
  | succ k ih =>
    intro hk
    obtain ⟨x0, x1, _⟩ := h.2 k (by omega)
    have := ih (by omega)
    simp only [sumTo]
    omega
theorem sum_lt {a b : List Int} (h : Sub a b) (hne : a ≠ b) : sumTo a b.length < sumTo b b.length := by
  have : ∃ k, k < b.length ∧ nth a k ≠ nth b k := by
    by_cases hx : ∃ k, k < b.length ∧ nth a k ≠ nth b k
    · exact hx
    · exact absurd (ext_nth h.1 fun k hk => by
        by_cases e : nth a k = nth b k
        · exact e
        · exact absurd ⟨k, by rw [← h.1]; exact hk, e⟩ hx) hne
  obtain ⟨k, hk, e⟩ := this
  have key : ∀ j, k < j → j ≤ b.length → sumTo a j < sumTo b j := by
    intro j
    induction j with
    | zero => intro h; omega
    | succ j ih =>
      intro h1 h2
      obtain ⟨x0, x1, _⟩ := h.2 j (by omega)
      simp only [sumTo]
      by_cases hj : k < j
      · have := ih hj (by omega); omega
      · obtain rfl : j = k := by omega
        have := sum_le h j (by omega)
        omega
  exact key _ hk (Nat.le_refl _)
set_option maxHeartbeats 4000000 in
theorem specNarrowAll (s : Int) (Ag : Option Addr) (n cg Bg : Nat) (gi : List Int) (Ar : Option Addr) (nr cr Br : Nat) (rs : List RuleM) (A : Option Addr) (c nm B : Nat) (m : List Int) (most : Int) (w : World) (hp : PGs w s Ag n cg Bg gi Ar nr cr Br rs) (h : Rd w B A nm m) (hBm : B ≤ w.heap.size) (hm : nm ≤ 1099511627776) (hsb : -9223372036854775808 ≤ s ∧ s ≤ 9223372036854775807) (hv : pvB s gi rs = true) (hmv : mvd m s = true) (h1 : 1 ≤ most) (h4 : most ≤ 4) :
    Calls Try.prog 92 #[.agg #[.int .i64 s, .slice Ag n cg, .slice Ar nr cr], .slice A nm c, .int .i64 most] w fun e w' => ∃ A' c' o r, e = .returned (.tuple #[.slice A' nm c', .int .i64 r]) ∧ Ow w' w.heap.size A' nm c' o ∧ mvd o s = true ∧ Below w.heap.size w w' := by
  have hlen := Lib.hid h.1
  have hx0 := pbox_new w s Ag n cg Ar nr cr 26
  have hb0 : Below w.heap.size w (w.alloc (.cells #[.int .i64 s, .slice Ag n cg, .slice Ar nr cr] 26)) := (Below.refl _ _).alloc (Nat.le_refl _) _
  have hs0 : w.heap.size < (w.alloc (.cells #[.int .i64 s, .slice Ag n cg, .slice Ar nr cr] 26)).heap.size := by simp
  obtain ⟨z0, z1, z2⟩ := id hx0
  have HP := Lib.hid (fun w' (hb : Below w.heap.size w w') => specPuzzleValid s Ag n cg Bg gi Ar nr cr Br rs w' (hp.below hb).g (hp.below hb).gB hp.gm (hp.below hb).r (hp.below hb).rB hp.rm)
  have HV := Lib.hid (fun w' (hb : Below w.heap.size w w') => specMasksValid A c nm B m s w' (h.below (hb.mono hBm)) (Nat.le_trans hBm hb.size) hm hsb)
  have HCp := Lib.hid (fun w' (hb : Below w.heap.size w w') => specL6Copy A nm c B m w' (h.below (hb.mono hBm)) (Nat.le_trans hBm hb.size) hm)
  have hin : inr most 1 4 = true := by simp [inr]; omega
  have hl16 : nm ≤ 16 := by have := (mvd_at hmv).2.2.1; rw [hlen.out] at this; exact this
  have Hv := Lib.hid hv
  have Hmv := Lib.hid hmv
  clear hmv
  go_enter Try.func92, Try.ntmps92
  go_wp2_with (first
    | (go_at_call 12; refine (HP.out _ hb0).mono ?_; rintro e w1 ⟨rfl, hb1⟩; rw [hv]; have h01 := step hb0 hb1; have hx1 := hx0.below hs0 hb1; have hs1 := Nat.lt_of_lt_of_le hs0 hb1.size; obtain ⟨c0, c1, c2⟩ := id hx1)
    | (go_at_call 28; refine (HV.out _ h01).mono ?_; rintro e w2 ⟨rfl, hb2⟩; rw [Hmv.out]; have h02 := step h01 hb2; have hx2 := hx1.below hs1 hb2; have hs2 := Nat.lt_of_lt_of_le hs1 hb2.size)
    | (go_at_call 53; refine (l1In_any _ _ _ _).mono ?_; rintro e wq ⟨rfl, rfl⟩; rw [hin])
    | (go_at_call 64; refine (HCp.out _ h02).mono ?_; rintro e w3 ⟨Ac, cc, rfl, ho3, hb3⟩))
  have h03 := step h02 hb3
  have hx3 := hx2.below hs2 hb3
  have ho3' := ho3.mono h02.size
  clear z0 z1 z2 c0 c1 c2 hx0 hx1 hx2 ho3 hv hin
  go_loopw [8, 9, 10] (fun sl rd tv wr => ∃ (A' : Option Addr) (c' : Nat) (o : List Int) (r t : Int), sl = .slice A' nm c' ∧ rd = .int .i64 r ∧ tv = .int .i64 t ∧ 1 ≤ t ∧ t ≤ 5 ∧ Ow wr w.heap.size A' nm c' o ∧ Hid (mvd o s = true) ∧ PBox wr w.heap.size s Ag n cg Ar nr cr ∧ Below w.heap.size w wr ∧ w.heap.size < wr.heap.size) (fun sl _ tv wr => sumAt wr sl nm * 8 + (5 - intOf tv).toNat)
  case atStart => exact ⟨Ac, cc, m, 0, 1, rfl, rfl, rfl, by omega, by omega, ho3', Hmv, hx3, h03, by have := hb3.size; omega⟩
  case round =>
    clear ho3' h03 hx3 hb3
    obtain ⟨A', c', o, r, t, rfl, rfl, rfl, t1, t5, ho, hmo, hx, hb, hsw⟩ := hrel
    obtain ⟨c0, c1, c2⟩ := id hx
    by_cases hlt : t ≤ most
    · have HNB := Lib.hid (specNarrowBy s Ag n cg Bg gi Ar nr cr Br rs A' c' nm wr.heap.size o t wr (hp.below hb) ho.rd (Nat.le_refl _) hm hsb)
      have hsub := nb_sub (t := t) Hv.out hmo.out t1 (by omega)
      have hol := ho.len
      have Hsub := Lib.hid hsub
      have hnl : (nbL s gi rs o t).length = nm := by rw [hsub.1, hol]
      obtain ⟨q, hq⟩ : ∃ q, q = nbL s gi rs o t := ⟨_, rfl⟩
      rw [← hq] at HNB hnl Hsub
      have Hnl := Lib.hid hnl
      have hS0 := sumAt_ow ho nm (Nat.le_refl _)
      have HS0 := Lib.hid hS0
      clear hq hsub hnl hS0
      go_wp2_with fail
      refine HNB.out.mono ?_
      rintro e w4 ⟨A5, c5, rfl, ho5, hb5⟩
      rw [Hnl.out] at ho5 ⊢
      have ho4 := ho.below hb5
      have hx4 := hx.below hsw hb5
      have hs4 := Nat.lt_of_lt_of_le hsw hb5.size
      have h04 := step hb hb5
      have HSm := Lib.hid (specL8Same A5 A' c5 c' nm nm w4.heap.size w4.heap.size q o w4 ho5.rd ho4.rd hm)
      by_cases hqo : q = o
      · have hsm : same q o = true := by rw [hqo]; exact same_refl o
        clear hqo
        go_wp2_with (go_at_call 109; refine HSm.out.mono ?_; rintro e w6 ⟨rfl, hb6⟩; rw [hsm])
        have ho6 := ho4.below hb6
        have hS6 := sumAt_ow ho6 nm (Nat.le_refl _)
        go_roundw
        case rel => exact ⟨A', c', o, r, t + 1, rfl, rfl, by go_num, by omega, by omega, ho6, hmo, hx4.below hs4 hb6, step h04 hb6, Nat.lt_of_lt_of_le hs4 hb6.size⟩
        case measure => rw [hS6, HS0.out]; simp [intOf]; omega
      · have hsm : same q o = false := by simp [same, hqo]
        have Hlt := Lib.hid (sum_lt Hsub.out hqo)
        clear hqo
        go_wp2_with (go_at_call 109; refine HSm.out.mono ?_; rintro e w6 ⟨rfl, hb6⟩; rw [hsm])
        have ho6 := (ho5.mono hb.size).below hb6
        have hS6 := sumAt_ow ho6 nm (Nat.le_refl _)
        have hl2 := Hlt.out
        rw [hol] at hl2
        go_roundw
        case rel => exact ⟨A5, c5, q, _, 1, rfl, rfl, rfl, by omega, by omega, ho6, Lib.hid (Hsub.out.mvd_ hmo.out), hx4.below hs4 hb6, step h04 hb6, Nat.lt_of_lt_of_le hs4 hb6.size⟩
        case measure => rw [hS6, HS0.out]; simp [intOf]; omega
    · go_wp2
      go_ret2
      exact ⟨A', c', ⟨r, rfl⟩, o, ho, hmo.out, hb⟩
end Go.Proofs.Ytgejahkdiciplab
