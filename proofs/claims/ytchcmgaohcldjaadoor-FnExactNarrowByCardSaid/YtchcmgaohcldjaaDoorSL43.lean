import Derived.Test.YtchcmgaohcldjaaDoorSW1F
import Derived.Test.YtchcmgaohcldjaaDoorSW3E
import Derived.Test.YtchcmgaohcldjaaDoorSNr
import Derived.Deep.MidRow
import Derived.RegionTactic
import Derived.OrdersHeld
import Derived.Test.YtchcmgaohcldjaaDoorPushAll
import Derived.Test.YtchcmgaohcldjaaDoorOwn
set_option maxRecDepth 8000
namespace Go.Proofs.YtchcmgaohcldjaaDoor
open Go.ChangeShapes Go.WideShapes Go.ChangeAt Go.RowKit
/-! What a table tells of masks: the ways that are lost, what is left to each cell. -/
def loUF (F : Nat → Nat) (M j : Nat) : Nat → Nat
  | 0 => 0
  | u + 1 => loUF F M j u ||| (if M.testBit u = true then 0 else F (j * 5 + u))
def loJF (F : Nat → Nat) (Ms : Nat → Nat) : Nat → Nat
  | 0 => 0
  | j + 1 => loJF F Ms j ||| loUF F (Ms j) j 5
def nmUF (F : Nat → Nat) (lo j : Nat) : Nat → Nat
  | 0 => 0
  | u + 1 => nmUF F lo j u ||| (if anU (F (j * 5 + u)) lo ≠ 0 then 2 ^ u else 0)
theorem loUF_lt {F : Nat → Nat} {M j : Nat} (h : ∀ i, F i < 2 ^ 64) (u : Nat) : loUF F M j u < 2 ^ 64 := by
  induction u with
  | zero => simp [loUF]
  | succ u ih =>
    simp only [loUF]
    refine Nat.or_lt_two_pow ih ?_
    split
    · exact Nat.two_pow_pos _
    · exact h _
theorem loJF_lt {F : Nat → Nat} {Ms : Nat → Nat} (h : ∀ i, F i < 2 ^ 64) (j : Nat) : loJF F Ms j < 2 ^ 64 := by
  induction j with
  | zero => simp [loJF]
  | succ j ih => exact Nat.or_lt_two_pow ih (loUF_lt h 5)
theorem loUF_is {L : List (List Int)} {n M j : Nat} (hL : L.length ≤ 64) (hj : j < n) (u : Nat) (hu : u ≤ 5) : loUF (tF L n) M j u = loU L M j u := by
  induction u with
  | zero => rfl
  | succ u ih => simp only [loUF, loU]; rw [ih (by omega), tF_at hL hj (by omega)]
theorem loJF_is {L : List (List Int)} {n : Nat} {Ms : Nat → Nat} (hL : L.length ≤ 64) (j : Nat) (hj : j ≤ n) : loJF (tF L n) Ms j = loJ L Ms j := by
  induction j with
  | zero => rfl
  | succ j ih => simp only [loJF, loJ]; rw [ih (by omega), loUF_is hL (by omega) 5 (Nat.le_refl _)]
theorem nmUF_is {L : List (List Int)} {n lo j : Nat} (hL : L.length ≤ 64) (hj : j < n) (u : Nat) (hu : u ≤ 5) : nmUF (tF L n) lo j u = nmU L lo j u := by
  induction u with
  | zero => rfl
  | succ u ih => simp only [nmUF, nmU]; rw [ih (by omega), tF_at hL hj (by omega)]
theorem nmUF_lt {F : Nat → Nat} {lo j : Nat} (u : Nat) : nmUF F lo j u < 2 ^ u := by
  induction u with
  | zero => simp [nmUF]
  | succ u ih =>
    simp only [nmUF]
    refine Nat.or_lt_two_pow (Nat.lt_of_lt_of_le ih (Nat.pow_le_pow_right (by omega) (by omega))) ?_
    split
    · exact Nat.pow_lt_pow_right (by omega) (by omega)
    · exact Nat.two_pow_pos _
theorem idx5_0 (a0 a1 a2 a3 a4 : Value) (w : World) : (Instr.index 68 (.agg #[a0, a1, a2, a3, a4]) (.int .i64 0)).run Tryd.prog w = .ok a0 w := by kernel_rfl

theorem idx5_1 (a0 a1 a2 a3 a4 : Value) (w : World) : (Instr.index 68 (.agg #[a0, a1, a2, a3, a4]) (.int .i64 1)).run Tryd.prog w = .ok a1 w := by kernel_rfl

theorem idx5_2 (a0 a1 a2 a3 a4 : Value) (w : World) : (Instr.index 68 (.agg #[a0, a1, a2, a3, a4]) (.int .i64 2)).run Tryd.prog w = .ok a2 w := by kernel_rfl

theorem idx5_3 (a0 a1 a2 a3 a4 : Value) (w : World) : (Instr.index 68 (.agg #[a0, a1, a2, a3, a4]) (.int .i64 3)).run Tryd.prog w = .ok a3 w := by kernel_rfl

theorem idx5_4 (a0 a1 a2 a3 a4 : Value) (w : World) : (Instr.index 68 (.agg #[a0, a1, a2, a3, a4]) (.int .i64 4)).run Tryd.prog w = .ok a4 w := by kernel_rfl

set_option maxHeartbeats 1000000 in
theorem lost_any (F : Nat → Nat) (A : Option Addr) (c n B : Nat) (xs : List Int) (Am : Option Addr) (cm nm Bm : Nat) (m : List Int) (w : World) (h : Rd w B A n xs) (hB : B ≤ w.heap.size) (hm : Rd w Bm Am nm m) (hBm : Bm ≤ w.heap.size) (n4 : n ≤ 4) (hF : ∀ i, F i < 2 ^ 64)
    (hin : ∀ i, i < n → ∃ q : Nat, nth xs i = (q : Int) ∧ q < nm) (hms : ∀ i, i < nm → 0 ≤ nth m i ∧ nth m i < 32) :
    Calls Tryd.prog 77 #[.agg (tcells F A n c), .slice Am nm cm] w fun e w' => e = .returned (.int .u64 (loJF F (fun j => (nth m (nth xs j).toNat).toNat) n : Nat)) ∧ Below w.heap.size w w' := by
  obtain ⟨W, hW⟩ : ∃ W, w.alloc (.cells (tcells F A n c) 71) = W := ⟨_, rfl⟩
  have ht : TBox W w.heap.size F A n c := by rw [← hW]; exact heap_alloc_new w _
  have hb0 : Below w.heap.size w W := by rw [← hW]; exact (Below.refl _ _).alloc (Nat.le_refl _) _
  have hs0 : W.heap.size = w.heap.size + 1 := by rw [← hW]; simp
  have hc0 := ht.cell0
  obtain ⟨Ms, hMs⟩ : ∃ Ms : Nat → Nat, Ms = fun j => (nth m (nth xs j).toNat).toNat := ⟨_, rfl⟩
  rw [← hMs]
  have HMs := Lib.hid hMs
  have HT := Lib.hid ht
  have HIN := Lib.hid hin
  have HMS := Lib.hid hms
  have HLo := Lib.hid (fun j => loJF_lt (Ms := Ms) hF j)
  have HLu := Lib.hid (fun M j u => loUF_lt (M := M) (j := j) hF u)
  have HF := Lib.hid hF
  have H := Lib.hid h
  have HM := Lib.hid hm
  have HB0 := Lib.hid hb0
  clear hMs ht hin hms hF h hm hb0
  go_enter Tryd.func77, Tryd.ntmps77
  go_wp2
  go_loopw [13, 5] (fun i l wr => ∃ j : Nat, j ≤ n ∧ i = .int .i64 j ∧ l = .int .u64 (loJF F Ms j : Nat) ∧ Below W.heap.size W wr) (fun i _ _ => n - (intOf i).toNat)
  case atStart => exact ⟨0, Nat.zero_le _, rfl, rfl, Below.refl _ _⟩
  case round =>
    obtain ⟨j, hj, rfl, rfl, hb⟩ := hrel
    by_cases hlt : j < n
    · have hltI : (j : Int) < (n : Int) := by omega
      obtain ⟨b, off, rfl, hbB, hck⟩ := (H.out.below ((HB0.out.trans (hb.mono (by omega))).mono hB)).at_ hlt
      obtain ⟨q, hq, hqn⟩ := HIN.out j hlt
      rw [hq] at hck
      have htr : TBox wr w.heap.size F (some ⟨b, off, none⟩) n c := HT.out.kept (hb.block _ (by omega))
      have t0 := htr.cell (i := j * 5) (by omega)
      have t1 := htr.cell (i := j * 5 + 1) (by omega)
      have t2 := htr.cell (i := j * 5 + 2) (by omega)
      have t3 := htr.cell (i := j * 5 + 3) (by omega)
      have t4 := htr.cell (i := j * 5 + 4) (by omega)
      simp only [← Nat.add_assoc] at t1 t2 t3 t4
      have hj4 : (j : Int) < 4 := by omega
      have hx0 := HMS.out q hqn
      have HM2 := Lib.hid (fun w' (hb : Below W.heap.size W w') => (HM.out.below ((HB0.out.trans (hb.mono (by omega))).mono hBm)).at_ hqn)
      obtain ⟨M, hM⟩ : ∃ M : Nat, nth m q = (M : Int) := Int.eq_ofNat_of_zero_le hx0.1
      have hM32 : M < 32 := by omega
      have hMj : Ms j = M := by rw [HMs.out]; show (nth m (nth xs j).toNat).toNat = M; rw [hq, Int.toNat_natCast, hM]; simp
      rw [hM] at HM2
      have HStep := Lib.hid (fun (_u : Nat) => show loJF F Ms (j + 1) = loJF F Ms j ||| loUF F M j 5 by simp only [loJF]; rw [hMj])
      have HL0 := Lib.hid (HLo.out j)
      have HLu := Lib.hid (fun u => HLu.out M j u)
      have HF5 := Lib.hid (fun u => HF.out (j * 5 + u))
      have HU := Lib.hid (fun u => show loUF F M j (u + 1) = loUF F M j u ||| (if M.testBit u = true then 0 else F (j * 5 + u)) from rfl)
      obtain ⟨G, hG⟩ : ∃ G : Nat → Nat, G = fun u => F (j * 5 + u) := ⟨_, rfl⟩
      obtain ⟨K, hK⟩ : ∃ K, K = loJF F Ms j := ⟨_, rfl⟩
      obtain ⟨U, hU⟩ : ∃ U : Nat → Nat, U = fun u => loUF F M j u := ⟨_, rfl⟩
      have g0 : F (j * 5) = G 0 := by rw [hG]; rfl
      have g1 : F (j * 5 + 1) = G 1 := by rw [hG]
      have g2 : F (j * 5 + 2) = G 2 := by rw [hG]
      have g3 : F (j * 5 + 3) = G 3 := by rw [hG]
      have g4 : F (j * 5 + 4) = G 4 := by rw [hG]
      rw [g0] at t0
      rw [g1] at t1
      rw [g2] at t2
      rw [g3] at t3
      rw [g4] at t4
      have HU' : Hid (∀ u, U (u + 1) = U u ||| (if M.testBit u = true then 0 else G u)) := Lib.hid (fun u => by rw [hU, hG]; exact HU.out u)
      have HU0 : Hid (U 0 = 0) := Lib.hid (by rw [hU]; rfl)
      have HU5 : Hid (loJF F Ms (j + 1) = K ||| U 5) := Lib.hid (by rw [HStep.out 0, hK, hU])
      have HUl : Hid (∀ u, U u < 2 ^ 64) := Lib.hid (fun u => by rw [hU]; exact HLu.out u)
      have HGl : Hid (∀ u, G u < 2 ^ 64) := Lib.hid (fun u => by rw [hG]; exact HF5.out u)
      have HKl : Hid (K < 2 ^ 64) := Lib.hid (by rw [hK]; exact HL0.out)
      rw [← hK]
      have hj1 := hlt
      clear hq hM hMj HStep HL0 HLu HF5 HU hG hK hU g0 g1 g2 g3 g4 hx0 hlt htr
      go_wp2
      go_loopw [22, 5] (fun i l wx => ∃ u : Nat, u ≤ 5 ∧ i = .int .i64 u ∧ l = .int .u64 (K ||| U u : Nat) ∧ Below W.heap.size W wx) (fun i _ _ => 5 - (intOf i).toNat)
      case atStart => exact ⟨0, by omega, rfl, by rw [HU0.out, Nat.or_zero], hb⟩
      case round =>
        clear hb hck t0 t1 t2 t3 t4
        obtain ⟨u, hu, rfl, rfl, hb⟩ := hrel
        by_cases hlt : u < 5
        · have hltI : (u : Int) < 5 := by omega
          obtain ⟨b2, off2, rfl, hb2, hc2⟩ := HM2.out _ hb
          have hidx : ∀ w', (Instr.index 68 (.agg #[Value.int IntKind.u64 (G 0 : Nat), Value.int IntKind.u64 (G 1 : Nat), Value.int IntKind.u64 (G 2 : Nat), Value.int IntKind.u64 (G 3 : Nat), Value.int IntKind.u64 (G 4 : Nat)]) (.int .i64 (u : Int))).run Tryd.prog w' = .ok (Value.int IntKind.u64 (G u : Nat)) w' := fun w' => by
            have : u = 0 ∨ u = 1 ∨ u = 2 ∨ u = 3 ∨ u = 4 := by omega
            rcases this with rfl | rfl | rfl | rfl | rfl
            · exact idx5_0 _ _ _ _ _ _
            · exact idx5_1 _ _ _ _ _ _
            · exact idx5_2 _ _ _ _ _ _
            · exact idx5_3 _ _ _ _ _ _
            · exact idx5_4 _ _ _ _ _ _
          have hA0 := and_pow0 M u hM32 (by omega)
          have HGu := Lib.hid (HGl.out u)
          have HO := Lib.hid (bits_or_u64_nat (K ||| U u) (G u) (by have := Nat.or_lt_two_pow HKl.out (HUl.out u); omega) (by have := HGl.out u; omega))
          go_wp2
          go_quiet (fail)
          cases hbit : M.testBit u
          · rw [hbit] at hA0
            have HN := Lib.hid (show K ||| U u ||| G u = K ||| U (u + 1) by rw [HU'.out u, hbit, Nat.or_assoc]; simp)
            go_wp2
            go_roundw
            case rel => exact ⟨u + 1, by omega, by go_num, by rw [← HN.out, ← HO.out], below_drewN hb _⟩
            case measure => simp [intOf]; omega
          · rw [hbit] at hA0
            have HN := Lib.hid (show K ||| U u = K ||| U (u + 1) by rw [HU'.out u, hbit]; simp)
            go_wp2
            go_roundw
            case rel => exact ⟨u + 1, by omega, by go_num, by rw [← HN.out], below_drewN hb _⟩
            case measure => simp [intOf]; omega
        · obtain rfl : u = 5 := by omega
          go_wp2
          go_roundw
          case rel => exact ⟨j + 1, hj1, by go_num, by rw [HU5.out], hb⟩
          case measure => simp [intOf]; omega
    · obtain rfl : j = n := by omega
      go_wp2
      go_ret
      exact ⟨rfl, HB0.out.trans (hb.mono (by omega))⟩
set_option maxHeartbeats 1000000 in
theorem narrow_any (F : Nat → Nat) (A : Option Addr) (c n B : Nat) (xs f : List Int) (g cm nm lo : Nat) (o : List Int) (w : World) (h : Rd w B A n xs) (hBg : B ≤ g) (ho : Ow w lo (some ⟨g, 0, none⟩) nm cm o) (n4 : n ≤ 4) (hF : ∀ i, F i < 2 ^ 64)
    (hin : ∀ i, i < n → ∃ q : Nat, nth xs i = (q : Int) ∧ q < nm) (hms : ∀ i, i < nm → 0 ≤ nth o i ∧ nth o i < 32)
    (hf : ∀ j, j < n → nth f j = ((nmUF F (loJF F (fun j => (nth o (nth xs j).toNat).toNat) n) j 5 : Nat) : Int)) :
    Calls Tryd.prog 64 #[.agg (tcells F A n c), .slice (some ⟨g, 0, none⟩) nm cm] w fun e w' => e = .returned (.tuple #[]) ∧ Ow w' lo (some ⟨g, 0, none⟩) nm cm (nrIn xs f o n) ∧ w.grownBy w' (some g) := by
  have hgw := ho.own_hi g rfl
  obtain ⟨W, hW⟩ : ∃ W, w.alloc (.cells (tcells F A n c) 71) = W := ⟨_, rfl⟩
  have ht : TBox W w.heap.size F A n c := by rw [← hW]; exact heap_alloc_new w _
  have hb0 : Below w.heap.size w W := by rw [← hW]; exact (Below.refl _ _).alloc (Nat.le_refl _) _
  have hs0 : W.heap.size = w.heap.size + 1 := by rw [← hW]; simp
  have hB : B ≤ w.heap.size := by omega
  have HLs := Lib.hid (lost_any F A c n B xs (some ⟨g, 0, none⟩) cm nm W.heap.size o W (h.below (hb0.mono hB)) (by omega) (ho.below hb0).rd (Nat.le_refl _) n4 hF hin hms)
  obtain ⟨L, hL⟩ : ∃ L, L = loJF F (fun j => (nth o (nth xs j).toNat).toNat) n := ⟨_, rfl⟩
  rw [← hL] at HLs hf
  have HL64 := Lib.hid (show L < 2 ^ 64 by rw [hL]; exact loJF_lt hF n)
  have hlen := ho.len
  have Hi := Lib.hid (show (Tryd.prog.info? 71).map (·.size) = some 21 from by kernel_rfl)
  have HT := Lib.hid ht
  have HIN := Lib.hid hin
  have HFf := Lib.hid hf
  have HF := Lib.hid hF
  have H := Lib.hid h
  have HO := Lib.hid ho
  have HB0 := Lib.hid hb0
  have hr0 : W.heap[w.heap.size]? = some (.cells (tcells F A n c) 71) := ht
  clear hL ht hin hms hf hF h ho hb0
  go_enter Tryd.func64, Tryd.ntmps64
  go_wp2_with (first
    | (refine wpList_load_row rfl 71 _ rfl w.heap.size rfl 71 (tcells F A n c) (0, 0) _ hr0 Tryd.underlying71 rfl Hi.out ?_)
    | (go_at_call 77; refine HLs.out.mono ?_; rintro e w1 ⟨rfl, hb1⟩; have ht1 : TBox w1 w.heap.size F A n c := HT.out.kept (hb1.block _ (by omega)); have hc0 := ht1.cell0))
  have HB1 := Lib.hid (HB0.out.trans (hb1.mono (by omega)))
  have HT1 := Lib.hid ht1
  have hs1 := hb1.size
  clear ht1 hc0 hr0 hb1
  go_loopw [15] (fun i wr => ∃ j : Nat, j ≤ n ∧ i = .int .i64 j ∧ Ow wr lo (some ⟨g, 0, none⟩) nm cm (nrIn xs f o j) ∧ w1.grownBy wr (some g)) (fun i _ => n - (intOf i).toNat)
  case atStart => exact ⟨0, Nat.zero_le _, rfl, HO.out.below HB1.out, World.grownBy.refl _ _⟩
  case round =>
    obtain ⟨j, hj, rfl, ho, hg⟩ := hrel
    have htr : TBox wr w.heap.size F A n c := HT1.out.kept (hg.block _ (by omega) (fun e => by have := Option.some.inj e; omega))
    by_cases hlt : j < n
    · have hltI : (j : Int) < (n : Int) := by omega
      obtain ⟨b, off, rfl, hbB, hck0⟩ := (H.out.below (HB1.out.mono hB)).at_ hlt
      have hck := (hg.cell_far ⟨b, off + j, none⟩ (by show b < _; omega) (fun e => by have e : b = g := Option.some.inj e; omega)).trans hck0
      obtain ⟨q, hq, hqn⟩ := HIN.out j hlt
      rw [hq] at hck
      have t0 := htr.cell (i := j * 5) (by omega)
      have t1 := htr.cell (i := j * 5 + 1) (by omega)
      have t2 := htr.cell (i := j * 5 + 2) (by omega)
      have t3 := htr.cell (i := j * 5 + 3) (by omega)
      have t4 := htr.cell (i := j * 5 + 4) (by omega)
      simp only [← Nat.add_assoc] at t1 t2 t3 t4
      have hj4 : (j : Int) < 4 := by omega
      have hqI : (q : Int) < (nm : Int) := by omega
      obtain ⟨hcq, hfq⟩ := ho.cell hqn
      obtain ⟨G, hG⟩ : ∃ G : Nat → Nat, G = fun u => F (j * 5 + u) := ⟨_, rfl⟩
      obtain ⟨U, hU⟩ : ∃ U : Nat → Nat, U = fun u => nmUF F L j u := ⟨_, rfl⟩
      have g0 : F (j * 5) = G 0 := by rw [hG]; rfl
      have g1 : F (j * 5 + 1) = G 1 := by rw [hG]
      have g2 : F (j * 5 + 2) = G 2 := by rw [hG]
      have g3 : F (j * 5 + 3) = G 3 := by rw [hG]
      have g4 : F (j * 5 + 4) = G 4 := by rw [hG]
      rw [g0] at t0
      rw [g1] at t1
      rw [g2] at t2
      rw [g3] at t3
      rw [g4] at t4
      have HU : Hid (∀ u, U (u + 1) = U u ||| (if anU (G u) L ≠ 0 then 2 ^ u else 0)) := Lib.hid (fun u => by rw [hU, hG]; rfl)
      have HUl : Hid (∀ u, U u < 2 ^ u) := Lib.hid (fun u => by rw [hU]; exact nmUF_lt u)
      have HGl : Hid (∀ u, G u < 2 ^ 64) := Lib.hid (fun u => by rw [hG]; exact HF.out _)
      have HEnd : Hid (nrIn xs f o (j + 1) = (nrIn xs f o j).set q ((U 5 : Nat) : Int)) := Lib.hid (by simp only [nrIn]; rw [hq, Int.toNat_natCast, HFf.out j hlt, hU])
      obtain ⟨oj, hoj⟩ : ∃ oj, oj = nrIn xs f o j := ⟨_, rfl⟩
      rw [← hoj] at ho hcq HEnd
      have hol : q < oj.length := by rw [ho.len]; exact hqn
      have hput := ho.putN q 0
      have HS0 := Lib.hid (show Ow (wr.setCell ⟨g, q, none⟩ (.int .i64 0)) lo (some ⟨g, 0, none⟩) nm cm (oj.set q ((U 0 : Nat) : Int)) by rw [show ((U 0 : Nat) : Int) = 0 by rw [hU]; rfl]; exact hput)
      have HG1 := Lib.hid (hg.trans (grown_set (w := wr) (G := g) (i := q) (v := .int .i64 0)))
      have hts : ∀ i, i < 20 → (wr.setCell ⟨g, q, none⟩ (.int .i64 0)).cell? ⟨w.heap.size, 1 + i, none⟩ = wr.cell? ⟨w.heap.size, 1 + i, none⟩ := fun i _ => World.cell?_of_block (a := ⟨w.heap.size, 1 + i, none⟩) (heap_setCell_other wr ⟨g, q, none⟩ w.heap.size _ (fun e => by dsimp only at e; omega))
      have s0 := (hts (j * 5) (by omega)).trans t0
      have s1 := (hts (j * 5 + 1) (by omega)).trans t1
      have s2 := (hts (j * 5 + 2) (by omega)).trans t2
      have s3 := (hts (j * 5 + 3) (by omega)).trans t3
      have s4 := (hts (j * 5 + 4) (by omega)).trans t4
      simp only [← Nat.add_assoc] at s0 s1 s2 s3 s4
      have htc := htr.cell0
      have Hlt := Lib.hid hlt
      clear hq hG hU g0 g1 g2 g3 g4 hoj hput hts t0 t1 t2 t3 t4 hlt htr
      go_wp2
      go_loopw [27] (fun i wx => ∃ u : Nat, u ≤ 5 ∧ i = .int .i64 u ∧ Ow wx lo (some ⟨g, 0, none⟩) nm cm (oj.set q ((U u : Nat) : Int)) ∧ w1.grownBy wx (some g)) (fun i _ => 5 - (intOf i).toNat)
      case atStart => exact ⟨0, by omega, rfl, HS0.out, HG1.out⟩
      case round =>
        clear hck s0 s1 s2 s3 s4 htc hcq hfq hg
        obtain ⟨u, hu, rfl, ho, hg⟩ := hrel
        by_cases hlt : u < 5
        · have hltI : (u : Int) < 5 := by omega
          have hidx : ∀ w', (Instr.index 68 (.agg #[Value.int IntKind.u64 (G 0 : Nat), Value.int IntKind.u64 (G 1 : Nat), Value.int IntKind.u64 (G 2 : Nat), Value.int IntKind.u64 (G 3 : Nat), Value.int IntKind.u64 (G 4 : Nat)]) (.int .i64 (u : Int))).run Tryd.prog w' = .ok (Value.int IntKind.u64 (G u : Nat)) w' := fun w' => by
            have : u = 0 ∨ u = 1 ∨ u = 2 ∨ u = 3 ∨ u = 4 := by omega
            rcases this with rfl | rfl | rfl | rfl | rfl
            · exact idx5_0 _ _ _ _ _ _
            · exact idx5_1 _ _ _ _ _ _
            · exact idx5_2 _ _ _ _ _ _
            · exact idx5_3 _ _ _ _ _ _
            · exact idx5_4 _ _ _ _ _ _
          have hAn := andNot_u64 (a := G u) (b := L) (by have := HGl.out u; omega) (by have := HL64.out; omega)
          have HUu := HU.out u
          obtain ⟨Z, hZ⟩ : ∃ Z, Z = anU (G u) L := ⟨_, rfl⟩
          rw [← hZ] at hAn HUu
          by_cases hz : Z = 0
          · rw [if_neg (by simpa using hz), Nat.or_zero] at HUu
            have hZ0 : ((Z : Int) != 0) = false := by simp; exact hz
            have HN := Lib.hid HUu
            clear hZ hz HUu
            go_wp2
            go_roundw
            case rel => exact ⟨u + 1, by omega, by go_num, by rw [HN.out]; exact ho, hg⟩
            case measure => simp [intOf]; omega
          · rw [if_pos hz] at HUu
            have hZ0 : ((Z : Int) != 0) = true := by simp; exact hz
            obtain ⟨hc, hfr⟩ := ho.cell hqn
            rw [nth_set hol, if_pos rfl] at hc
            have hU32 : U u < 32 := Nat.lt_of_lt_of_le (HUl.out u) (Nat.pow_le_pow_right (n := 2) (j := 5) (by omega) (by omega))
            have hor := or_pow (U u) u hU32 (by omega)
            rw [← HUu] at hor
            obtain ⟨U1, hU1⟩ : ∃ U1, U1 = U (u + 1) := ⟨_, rfl⟩
            rw [← hU1] at hor
            obtain ⟨U0, hU0⟩ : ∃ U0, U0 = U u := ⟨_, rfl⟩
            rw [← hU0] at hor hc
            have hp := ho.putN q ((U1 : Nat) : Int)
            rw [List.set_set] at hp
            have HE1 : Hid (Ow (wr.setCell ⟨g, q, none⟩ (.int .i64 (bits .or .i64 (U0 : Int) (wrap64 (2 ^ u))))).drew lo (some ⟨g, 0, none⟩) nm cm (oj.set q ((U (u + 1) : Nat) : Int))) := Lib.hid (by rw [hor, ← hU1]; exact World.ownsRow.drew hp)
            have HE2 : Hid (w1.grownBy (wr.setCell ⟨g, q, none⟩ (.int .i64 (bits .or .i64 (U0 : Int) (wrap64 (2 ^ u))))).drew (some g)) := Lib.hid (grown_drew (hg.trans grown_set))
            have hu64 : (u : Int) < 64 := by omega
            clear hZ hz HUu hU1 hU0 hp ho hg hor hU32
            go_wp2
            go_region
            all_goals
              go_wp2
              first
                | (go_roundw
                   case rel => exact ⟨u + 1, by omega, by go_num, HE1.out, HE2.out⟩
                   case measure => simp [intOf]; omega)
                | exact ⟨⟨u + 1, by omega, by go_num, HE1.out, HE2.out⟩, by simp [intOf]; omega⟩
        · obtain rfl : u = 5 := by omega
          go_wp2
          go_roundw
          case rel => exact ⟨j + 1, Hlt.out, by go_num, by rw [HEnd.out]; exact ho, hg⟩
          case measure => have := Hlt.out; simp [intOf]; omega
    · obtain rfl : j = n := by omega
      go_wp2
      go_end0
      have hg0 : w.grownBy wr (some g) := (grown_of_below HB1.out).trans hg
      exact ⟨rfl, ho, hg0⟩
end Go.Proofs.YtchcmgaohcldjaaDoor
set_option maxRecDepth 8000
namespace Go.Proofs.YtchcmgaohcldjaaDoor
open Go.ChangeShapes Go.WideShapes Go.ChangeAt Go.RowKit
theorem own_kept8 {w w' : World} {lo sz k : Nat} {t : TypeId} {v : Value} {vs : List Value} {row : Option Nat} (h : w.ownsRow lo t sz v k vs) (hg : w.grownBy w' row) (hne : ∀ g, v.ownBlock = some g → row ≠ some g) : w'.ownsRow lo t sz v k vs := by
  refine World.ownsRow.kept h hg ?_
  cases e : v.ownBlock with
  | none => exact .inl rfl
  | some g => exact .inr (fun he => hne g e he.symm)
theorem own_below8 {w w' : World} {lo sz k : Nat} {t : TypeId} {v : Value} {vs : List Value} (h : w.ownsRow lo t sz v k vs) (hb : Below w.heap.size w w') : w'.ownsRow lo t sz v k vs :=
  own_kept8 (row := none) h ⟨hb.os, hb.tape, hb.output, hb.size, fun k hk _ => hb.block k hk⟩ (fun g _ e => by cases e)
theorem rdrc_fun8 {W : World} {B n : Nat} {A : Option Addr} {rs : List RuleM} (h : RdRc W B A n rs) : ∃ (b off : Nat) (RA : Nat → Option Addr) (RC : Nat → Nat), (0 < n → A = some ⟨b, off, none⟩ ∧ b < B) ∧ ∀ i, i < n → W.cell? ⟨b, off + i * 3, none⟩ = some (.int .i64 (rat rs i).k) ∧ W.cell? ⟨b, off + i * 3 + 1, none⟩ = some (.slice (RA i) (rat rs i).xs.length (RC i)) ∧ W.cell? ⟨b, off + i * 3 + 2, none⟩ = some (.int .i64 (rat rs i).v) ∧ Rd W B (RA i) (rat rs i).xs.length (rat rs i).xs ∧ (rat rs i).xs.length ≤ RC i := by
  by_cases h0 : 0 < n
  · obtain ⟨b, off, e, hlt, hc⟩ := h.2 h0
    have key : ∀ i, ∃ q : Option Addr × Nat, i < n → W.cell? ⟨b, off + i * 3, none⟩ = some (.int .i64 (rat rs i).k) ∧ W.cell? ⟨b, off + i * 3 + 1, none⟩ = some (.slice q.1 (rat rs i).xs.length q.2) ∧ W.cell? ⟨b, off + i * 3 + 2, none⟩ = some (.int .i64 (rat rs i).v) ∧ Rd W B q.1 (rat rs i).xs.length (rat rs i).xs ∧ (rat rs i).xs.length ≤ q.2 := fun i => by
      by_cases hi : i < n
      · obtain ⟨A', c', a0, a1, a2, a3, _, a5⟩ := hc i hi
        exact ⟨(A', c'), fun _ => ⟨a0, a1, a2, a3, a5⟩⟩
      · exact ⟨(none, 0), fun h => absurd h hi⟩
    obtain ⟨f, hf⟩ := Classical.axiomOfChoice key
    exact ⟨b, off, fun i => (f i).1, fun i => (f i).2, fun _ => ⟨e, hlt⟩, hf⟩
  · exact ⟨0, 0, fun _ => none, fun _ => 0, fun h => absurd h h0, fun i hi => absurd hi (by omega)⟩
end Go.Proofs.YtchcmgaohcldjaaDoor
set_option maxRecDepth 8000
namespace Go.Proofs.YtchcmgaohcldjaaDoor
open Go.ChangeShapes Go.WideShapes Go.ChangeAt Go.RowKit
/-! The tables of a puzzle's rules, as they lie in memory; what a table leaves is what the rule's masks are. -/
theorem mvd_top {m : List Int} {s : Nat} (h : mvd m s = true) (i : Nat) : (nth m i).toNat < 2 ^ (s + 1) := by
  by_cases hi : i < m.length
  · simp only [mvd, Bool.and_eq_true, List.all_eq_true] at h
    have hm := h.2 _ (List.getElem_mem hi)
    simp only [mkOk, Bool.and_eq_true] at hm
    have e : nth m i = m[i] := by simp [nth, List.getD_eq_getElem?_getD, hi]
    rw [e]
    obtain ⟨m0, m1⟩ := inr_t hm.1
    have hp : (2 : Int) ^ ((s : Int).toNat + 1) = ((2 ^ (s + 1) : Nat) : Int) := by rw [Int.toNat_natCast]; simp
    rw [hp] at m1
    omega
  · have : nth m i = 0 := by simp [nth, List.getD_eq_getElem?_getD, List.getElem?_eq_none (by omega : m.length ≤ i)]
    rw [this]
    exact Nat.two_pow_pos _
theorem opN_bit {s n i t : Nat} (hs : s ∈ [2, 3, 4]) (hi : i < n) (h1 : 1 ≤ t) (h4 : t ≤ s) : (nth (opN n s) i).toNat.testBit t = true := by
  unfold opN
  rw [emL_at (n := n) (by simp [zeros]) hi, Int.toNat_natCast]
  unfold emN
  rw [if_pos (by rw [zeros_nth])]
  simp at hs
  rcases hs with rfl | rfl | rfl
  · have : t = 1 ∨ t = 2 := by omega
    rcases this with rfl | rfl <;> decide
  · have : t = 1 ∨ t = 2 ∨ t = 3 := by omega
    rcases this with rfl | rfl | rfl <;> decide
  · have : t = 1 ∨ t = 2 ∨ t = 3 ∨ t = 4 := by omega
    rcases this with rfl | rfl | rfl | rfl <;> decide
/-- the words of a rule's table. -/
def rtF (s : Nat) (r : RuleM) : Nat → Nat := tF (rW r.k r.v r.xs.length s) r.xs.length
theorem rtF_lt (s : Nat) (r : RuleM) (i : Nat) : rtF s r i < 2 ^ 64 := tF_lt _ _ _
theorem nm_rm {s : Nat} {r : RuleM} {o : List Int} (hs : s ∈ [2, 3, 4]) (hv : rvR s r = true) (hm : mvd o s = true) (j : Nat) (hj : j < r.xs.length) :
    nth (rmL r.k r.xs r.v o s) j = ((nmUF (rtF s r) (loJF (rtF s r) (fun j => (nth o (nth r.xs j).toNat).toNat) r.xs.length) j 5 : Nat) : Int) := by
  have hL := rW_len (s := s) rfl hv
  unfold rtF
  rw [nmUF_is (by omega) hj 5 (Nat.le_refl _), loJF_is (by omega) _ (Nat.le_refl _), rm_nth hv hm j, nm_is (P := pks o r.xs r.xs.length) (by omega) (fun i hi => by rw [pks_nth hi]) (fun i hi t h1 _ hb => ?_) hj]
  rw [pks_nth hi] at hb
  have hlt := mvd_top hm (nth r.xs i).toNat
  refine opN_bit hs hi h1 ?_
  rcases Nat.lt_or_ge t (s + 1) with h | h
  · omega
  · rw [Nat.testBit_lt_two_pow (Nat.lt_of_lt_of_le hlt (Nat.pow_le_pow_right (n := 2) (by omega) h))] at hb
    cases hb
/-- the cells of the tables of the first u rules. -/
def tabV (s : Nat) (RA : Nat → Option Addr) (RC : Nat → Nat) (rs : List RuleM) : Nat → List Value
  | 0 => []
  | u + 1 => tabV s RA RC rs u ++ (tcells (rtF s (rat rs u)) (RA u) (rat rs u).xs.length (RC u)).toList
theorem tabV_len (s : Nat) (RA : Nat → Option Addr) (RC : Nat → Nat) (rs : List RuleM) (u : Nat) : (tabV s RA RC rs u).length = u * 21 := by
  induction u with
  | zero => rfl
  | succ u ih => simp only [tabV, List.length_append, ih]; rw [show (tcells (rtF s (rat rs u)) (RA u) (rat rs u).xs.length (RC u)).toList.length = 21 from rfl]; omega
theorem tabV_at (s : Nat) (RA : Nat → Option Addr) (RC : Nat → Nat) (rs : List RuleM) {u j i : Nat} (hj : j < u) (hi : i < 21) : (tabV s RA RC rs u)[j * 21 + i]? = (tcells (rtF s (rat rs j)) (RA j) (rat rs j).xs.length (RC j)).toList[i]? := by
  induction u with
  | zero => omega
  | succ u ih =>
    simp only [tabV]
    by_cases e : j = u
    · subst e
      rw [List.getElem?_append_right (by rw [tabV_len]; omega), tabV_len]
      congr 1; omega
    · rw [List.getElem?_append_left (by rw [tabV_len]; omega)]
      exact ih (by omega)
/-- a slice of tables that reads those of the rules rs: it lies in a block from L on and below B, the rules' cells below Br. -/
def TbR (w : World) (L B Br s : Nat) (rs : List RuleM) (A : Option Addr) (n : Nat) : Prop :=
  rs.length = n ∧ (0 < n → ∃ b, A = some ⟨b, 0, none⟩ ∧ L ≤ b ∧ b < B ∧ ∀ j, j < n → ∃ A' c', w.rangeAt b (j * 21) (tcells (rtF s (rat rs j)) A' (rat rs j).xs.length c').toList ∧ Rd w Br A' (rat rs j).xs.length (rat rs j).xs)
theorem rangeAt_below {w w' : World} {B b o : Nat} {cs : List Value} (h : w.rangeAt b o cs) (hb : Below B w w') (hB : b < B) : w'.rangeAt b o cs := fun j v hj => (hb.cell (p := ⟨b, o + j, none⟩) hB).trans (h j v hj)
theorem TbR.below {w w' : World} {L B Br s : Nat} {rs : List RuleM} {A : Option Addr} {n : Nat} (h : TbR w L B Br s rs A n) (hb : Below B w w') (hBr : Br ≤ B) : TbR w' L B Br s rs A n :=
  ⟨h.1, fun hn => by
    obtain ⟨b, e, hL, hlt, hc⟩ := h.2 hn
    refine ⟨b, e, hL, hlt, fun j hj => ?_⟩
    obtain ⟨A', c', h0, h1⟩ := hc j hj
    exact ⟨A', c', rangeAt_below h0 hb hlt, h1.below (hb.mono hBr)⟩⟩
theorem TbR.keep {w w' : World} {L B Br s : Nat} {rs : List RuleM} {A : Option Addr} {n : Nat} (h : TbR w L B Br s rs A n) (hk : ∀ k, L ≤ k → k < B → w'.heap[k]? = w.heap[k]?) (hb : Below Br w w') : TbR w' L B Br s rs A n :=
  ⟨h.1, fun hn => by
    obtain ⟨b, e, hL, hlt, hc⟩ := h.2 hn
    refine ⟨b, e, hL, hlt, fun j hj => ?_⟩
    obtain ⟨A', c', h0, h1⟩ := hc j hj
    exact ⟨A', c', fun i v hi => (World.cell?_of_block (a := ⟨b, j * 21 + i, none⟩) (hk b hL hlt)).trans (h0 i v hi), h1.below hb⟩⟩
/-- the call's own row of tables reads. -/
theorem tbr_own {w : World} {L lo Br s n c : Nat} {A : Option Addr} {rs : List RuleM} {RA : Nat → Option Addr} {RC : Nat → Nat} (h : w.ownsRow lo 71 21 (.slice A n c) n (tabV s RA RC rs n)) (hl : rs.length = n)
    (hr : ∀ j, j < n → Rd w Br (RA j) (rat rs j).xs.length (rat rs j).xs) (hL : L ≤ lo) : TbR w L w.heap.size Br s rs A n := by
  refine ⟨hl, fun hn => ?_⟩
  obtain ⟨g, cap, hv, h1, h2⟩ := World.ownsRow.form h hn
  injection hv with hA
  subst hA
  refine ⟨g, rfl, by omega, h2, fun j hj => ⟨RA j, RC j, fun i v hi => ?_, hr j hj⟩⟩
  have hi21 : i < 21 := by
    have := (List.getElem?_eq_some_iff.1 hi).1
    exact this
  have := World.ownsRow.cellAt h (j * 21 + i) (by omega)
  rw [this, tabV_at s RA RC rs hj hi21]
  exact hi
end Go.Proofs.YtchcmgaohcldjaaDoor
namespace Go.Proofs.YtchcmgaohcldjaaDoor
/-! A region that draws its order, by an invariant: one step a row of the region, whatever the order. -/
section
variable {P : Program} {md : Region.Mode} {ops : Array Oper} {Q : Exit → Act → World → Prop} {Inv : Array Bool → Act → World → Prop}
def unl (l : Array Bool) : Nat := l.toList.countP (fun b => b == false)
theorem unl_set {l : Array Bool} {i : Nat} (h : l.getD i true = false) : unl (l.setIfInBounds i true) < unl l := by
  have hi : i < l.size := by
    rcases Nat.lt_or_ge i l.size with h' | h'
    · exact h'
    · simp [Array.getElem?_eq_none h'] at h
  have he : l.toList[i]'(by simpa using hi) = false := by simpa [hi] using h
  unfold unl
  rw [Array.toList_setIfInBounds, List.countP_set (by simpa using hi), he]
  have : 0 < l.toList.countP (fun b => b == false) := List.countP_pos_iff.2 ⟨false, by rw [← he]; exact List.getElem_mem _, rfl⟩
  show List.countP (fun b => b == false) l.toList - 1 + 0 < List.countP (fun b => b == false) l.toList
  omega
theorem unl_zero {l : Array Bool} (h : unl l = 0) (i : Nat) : l.getD i true = true := by
  unfold unl at h
  rw [List.countP_eq_zero] at h
  rcases Nat.lt_or_ge i l.size with h' | h'
  · have := h (l.toList[i]'(by simpa using h')) (List.getElem_mem _)
    simpa [h'] using this
  · simp [Array.getElem?_eq_none h']
theorem wpAny_inv (hback : ∀ (i : Nat) (o : Oper), ops[i]? = some o → ∀ e ∈ o.after, e.on < i) (hsz : ∀ l a w, Inv l a w → l.size = ops.size)
    (hstep : ∀ l a w (i : Nat) (o : Oper), Inv l a w → ops[i]? = some o → l.getD i true = false → (∀ e ∈ o.after, Region.binds md e = true → l.getD e.on false = true) → wpOp P ops Q i (Inv (l.setIfInBounds i true)) a w)
    (hdone : ∀ l a w, Inv l a w → (∀ i, i < ops.size → l.getD i false = true) → Q .normal a w) :
    ∀ fuel l a w, unl l ≤ fuel → Inv l a w → wpAny P md ops Q fuel l a w := by
  have fin : ∀ l a w, Inv l a w → Region.ready md ops l = [] → Q .normal a w := by
    intro l a w hI hr
    refine hdone l a w hI ?_
    intro i
    induction i using Nat.strongRecOn with
    | ind i ih =>
      intro hi
      cases hb : l.getD i false with
      | true => rfl
      | false =>
        exfalso
        have hil : i < l.size := by rw [hsz l a w hI]; exact hi
        have ho : ops[i]? = some ops[i] := Array.getElem?_eq_getElem hi
        have : i ∈ Region.ready md ops l := mem_ready.2 ⟨by simpa [hil] using hb, ops[i], ho, fun e he _ => ih e.on (hback i _ ho e he) (Nat.lt_trans (hback i _ ho e he) hi)⟩
        rw [hr] at this
        cases this
  intro fuel
  induction fuel with
  | zero =>
    intro l a w hu hI
    have hr : Region.ready md ops l = [] := by
      cases e : Region.ready md ops l with
      | nil => rfl
      | cons j r =>
        have hj : j ∈ Region.ready md ops l := by rw [e]; exact List.mem_cons_self ..
        have h1 := (mem_ready.1 hj).1
        rw [unl_zero (by omega) j] at h1
        cases h1
    exact ⟨hr, fin l a w hI hr⟩
  | succ fuel ih =>
    intro l a w hu hI
    refine ⟨fin l a w hI, fun i hi => ?_⟩
    obtain ⟨h1, o, ho, hall⟩ := mem_ready.1 hi
    refine wpOp_mono (fun a' w' h => ih _ a' w' ?_ h) (hstep l a w i o hI ho h1 hall)
    have := unl_set h1
    omega
theorem wp_region_inv {id : Nat} {a : Act} {w : World} (hm : P.follows .mixedOrders = true) (hback : ∀ (i : Nat) (o : Oper), ops[i]? = some o → ∀ e ∈ o.after, e.on < i) (hsz : ∀ l a w, Inv l a w → l.size = ops.size)
    (hstep : ∀ l a w (i : Nat) (o : Oper), Inv l a w → ops[i]? = some o → l.getD i true = false → (∀ e ∈ o.after, Region.binds .any e = true → l.getD e.on false = true) → wpOp P ops Q i (Inv (l.setIfInBounds i true)) a w)
    (hdone : ∀ l a w, Inv l a w → (∀ i, i < ops.size → l.getD i false = true) → Q .normal a w)
    (h0 : Inv (Array.replicate ops.size false) a { w with drawn := w.drawn + 1 }) : (Code.region id ops true).wp P Q a w :=
  wp_region_any hm (wpAny_inv hback hsz hstep hdone _ _ _ _ (by
    unfold unl
    exact Nat.le_trans (List.countP_le_length) (by simp)) h0)
end
/-- A frame that differs from another in some slots alone. -/
theorem frame_of {a a0 : Array Value} (ts : List Nat) (hs : a.size = a0.size) (h : ∀ t, t ∉ ts → a[t]? = a0[t]?) : a = ts.foldl (fun tm t => tm.setIfInBounds t (a.getD t undef)) a0 := by
  have key : ∀ (ts : List Nat) (b : Array Value), b.size = a.size → ∀ t, (ts.foldl (fun tm t => tm.setIfInBounds t (a.getD t undef)) b)[t]? = if t ∈ ts then a[t]? else b[t]? := by
    intro ts
    induction ts with
    | nil => intro b _ t; simp
    | cons u ts ih =>
      intro b hb t
      rw [List.foldl_cons, ih _ (by simpa using hb)]
      by_cases e : t ∈ ts
      · simp [e]
      · simp only [e, if_false, List.mem_cons, or_false]
        by_cases hu : t = u
        · subst hu
          rw [if_pos rfl]
          rcases Nat.lt_or_ge t a.size with h' | h'
          · simp [Array.getElem?_setIfInBounds_self_of_lt (hb ▸ h'), h']
          · rw [Array.getElem?_eq_none h', Array.getElem?_eq_none (by simp; omega)]
        · rw [if_neg hu, Array.getElem?_setIfInBounds_ne (fun e' => hu e'.symm)]
  apply Array.ext_getElem?
  intro t
  rw [key ts a0 hs.symm t]
  split
  · rfl
  · exact h t (by assumption)
end Go.Proofs.YtchcmgaohcldjaaDoor
namespace Go.Proofs.YtchcmgaohcldjaaDoor
/-! A region whose loads come first while its last operation writes a cell that they read: a condition on the world is kept behind every operation but one, which waits for all that lean on it. -/
section
variable {P : Program} {ops : Array Oper} {Q : Exit → Act → World → Prop} {md : Region.Mode} {S : World → Prop} {z : Nat}

/-- While number i has not come up, none of U may: each waits for another one of U. -/
def shut (md : Region.Mode) (ops : Array Oper) (listed : Array Bool) (U : List Nat) (i : Nat) : Bool :=
  U.all fun u => (listed.getD u true == false) && (u == i || match ops[u]? with
    | some o => o.after.any fun e => Region.binds md e && U.contains e.on
    | none => false)

theorem shut_spec {listed : Array Bool} {U : List Nat} {i u : Nat} (h : shut md ops listed U i = true) (hu : u ∈ U) (hne : u ≠ i) : u ∉ Region.ready md ops listed := by
  intro hr
  obtain ⟨_, o, ho, hall⟩ := mem_ready.1 hr
  have h1 := List.all_eq_true.1 h u hu
  rw [Bool.and_eq_true, Bool.or_eq_true] at h1
  rcases h1.2 with h2 | h2
  · exact hne (by simpa using h2)
  · rw [ho] at h2
    obtain ⟨e, he, hb⟩ := Array.any_eq_true'.1 h2
    rw [Bool.and_eq_true] at hb
    have h3 := hall e he hb.1
    have h4 := List.all_eq_true.1 h e.on (by simpa using hb.2)
    rw [Bool.and_eq_true] at h4
    have h5 : listed.getD e.on true = false := by simpa using h4.1
    rcases Nat.lt_or_ge e.on listed.size with hlt | hge
    · simp [hlt] at h3 h5
      rw [h5] at h3; cases h3
    · simp [Array.getElem?_eq_none hge] at h3

theorem shut_mono {listed : Array Bool} {U : List Nat} {i j : Nat} (h : shut md ops listed U i = true) (hj : j ∈ Region.ready md ops listed) (hne : j ≠ i) : shut md ops (listed.setIfInBounds j true) U i = true := by
  refine List.all_eq_true.2 fun u hu => ?_
  have h1 := List.all_eq_true.1 h u hu
  have hju : j ≠ u := fun e => by subst e; exact shut_spec h hu hne hj
  rw [getD_set_ne true hju]
  exact h1

/-- Whatever order is picked, S holding behind every operation but number z. -/
def wpAnyL (P : Program) (md : Region.Mode) (ops : Array Oper) (Q : Exit → Act → World → Prop) (S : World → Prop) (z : Nat) : Nat → Array Bool → Act → World → Prop
  | 0, listed, a, w => Region.ready md ops listed = [] ∧ Q .normal a w
  | fuel + 1, listed, a, w =>
    (Region.ready md ops listed = [] → Q .normal a w) ∧
    ∀ i ∈ Region.ready md ops listed, wpOp P ops Q i (fun a' w' => (i ≠ z → S w') ∧ wpAnyL P md ops Q S z fuel (listed.setIfInBounds i true) a' w') a w

theorem wpAny_of_L : ∀ (fuel : Nat) (listed : Array Bool) (a : Act) (w : World), wpAnyL P md ops Q S z fuel listed a w → wpAny P md ops Q fuel listed a w
  | 0, _, _, _, h => h
  | fuel + 1, _, _, _, h => ⟨h.1, fun i hi => wpOp_mono (fun a' w' h' => wpAny_of_L fuel _ a' w' h'.2) (h.2 i hi)⟩

theorem wpAnyL_first {i : Nat} {oi : Oper} {v : Value} {U : List Nat} (hi : ops[i]? = some oi) (hsel : ∀ (j : Nat) (o : Oper) cs b, ops[j]? = some o → o.op ≠ .select cs b)
    (hQ : ∀ c a w, Q (.panic c) (a.put oi.dst v) w → Q (.panic c) a w) (hz : z ∈ U) (hzi : z ≠ i) :
    ∀ (fuel : Nat) (listed : Array Bool) (a : Act) (w : World), shut md ops listed U i = true →
      (∀ j oj, ops[j]? = some oj → j ≠ i → listed.getD j true = false → (∀ e ∈ oj.after, Region.binds md e = true → e.on ≠ i) → oi.apart ops oj = true) →
      i ∈ Region.ready md ops listed → YieldsIf P ops S oi v a → S w →
      wpAnyL P md ops Q S z fuel (listed.setIfInBounds i true) (a.put oi.dst v) w → wpAnyL P md ops Q S z (fuel + 1) listed a w := by
  intro fuel
  induction fuel with
  | zero =>
    intro listed a w _ _ hr hy hS H
    refine ⟨fun h => (by rw [h] at hr; cases hr), fun j hj => ?_⟩
    by_cases hji : j = i
    · subst hji; exact hy.wpOp hi hS ⟨fun _ => hS, H⟩
    · have := ready_mono hj hji
      rw [H.1] at this
      cases this
  | succ fuel ih =>
    intro listed a w hU hfree hr hy hS H
    refine ⟨fun h => (by rw [h] at hr; cases hr), fun j hj => ?_⟩
    by_cases hji : j = i
    · subst hji; exact hy.wpOp hi hS ⟨fun _ => hS, H⟩
    · have hjz : j ≠ z := fun e => by subst e; exact shut_spec hU hz hji hj
      have h1 := H.2 j (ready_mono hj hji)
      obtain ⟨hjun, oj, hoj, hall⟩ := mem_ready.1 hj
      have hnot : ∀ e ∈ oj.after, Region.binds md e = true → e.on ≠ i := fun e he hb heq => by
        have h1 := hall e he hb
        have h0 := (mem_ready.1 hr).1
        rw [heq] at h1
        rcases Nat.lt_or_ge i listed.size with h' | h'
        · simp [h'] at h0 h1; rw [h0] at h1; cases h1
        · simp [Array.getElem?_eq_none h'] at h1
      have h2 := wpOp_putIf hoj (hfree j oj hoj hji hjun hnot) (fun cs b => hsel i oi cs b hi) (fun cs b => hsel j oj cs b hoj) hQ hy h1
      have hfree' : ∀ k ok, ops[k]? = some ok → k ≠ i → (listed.setIfInBounds j true).getD k true = false →
          (∀ e ∈ ok.after, Region.binds md e = true → e.on ≠ i) → oi.apart ops ok = true := fun k ok hk hki hun hno => by
        refine hfree k ok hk hki ?_ hno
        by_cases hjk : j = k
        · subst hjk; exact hjun
        · rw [getD_set_ne true hjk] at hun; exact hun
      refine wpOp_mono (fun a' w' h3 => ⟨h3.2.1, ih (listed.setIfInBounds j true) a' w' (shut_mono hU hj hji) hfree' (ready_mono hr (Ne.symm hji)) h3.1 (h3.2.1 hjz) ?_⟩) h2
      rw [Array.setIfInBounds_comm _ _ hji]
      exact h3.2.2

theorem wpAnyL_take (U : List Nat) {i : Nat} {oi : Oper} {v : Value} {fuel : Nat} {listed : Array Bool} {a : Act} {w : World} (hi : ops[i]? = some oi)
    (hs : Region.noSelect ops = true) (hf : Region.free md ops listed i = true) (hr : (Region.ready md ops listed).contains i = true)
    (hu : shut md ops listed U i = true) (hz : U.contains z = true) (hzi : z ≠ i)
    (hQ : ∀ c a w, Q (.panic c) (a.put oi.dst v) w → Q (.panic c) a w) (hy : YieldsIf P ops S oi v a) (hS : S w)
    (h : wpAnyL P md ops Q S z fuel (listed.setIfInBounds i true) (a.put oi.dst v) w) : wpAnyL P md ops Q S z (fuel + 1) listed a w :=
  wpAnyL_first hi (Region.noSelect_spec hs) hQ (by simpa using hz) hzi fuel listed a w hu (Region.free_spec hi hf) (by simpa using hr) hy hS h

/-- The one that may come up comes up. -/
theorem wpAnyL_only {i : Nat} {oi : Oper} {fuel : Nat} {listed : Array Bool} {a : Act} {w : World} (hr : Region.ready md ops listed = [i]) (hi : ops[i]? = some oi)
    (hw : Region.wanted oi (yielded ops a.tmps) = true)
    (h : oi.wp P a w (fun a' w' => (i ≠ z → S w') ∧ wpAnyL P md ops Q S z fuel (listed.setIfInBounds i true) a' w') Q) : wpAnyL P md ops Q S z (fuel + 1) listed a w :=
  ⟨fun h0 => (by rw [hr] at h0; cases h0), fun j hj => by
    rw [hr, List.mem_singleton] at hj
    subst hj
    unfold wpOp
    simp only [hi, hw, if_true]
    exact .inl h⟩

/-- One of two comes up. -/
theorem wpAnyL_two {i j : Nat} {oi oj : Oper} {fuel : Nat} {listed : Array Bool} {a : Act} {w : World} (hr : Region.ready md ops listed = [i, j]) (hi : ops[i]? = some oi) (hj : ops[j]? = some oj)
    (hw : Region.wanted oi (yielded ops a.tmps) = true) (hw' : Region.wanted oj (yielded ops a.tmps) = true)
    (h : oi.wp P a w (fun a' w' => (i ≠ z → S w') ∧ wpAnyL P md ops Q S z fuel (listed.setIfInBounds i true) a' w') Q)
    (h' : oj.wp P a w (fun a' w' => (j ≠ z → S w') ∧ wpAnyL P md ops Q S z fuel (listed.setIfInBounds j true) a' w') Q) : wpAnyL P md ops Q S z (fuel + 1) listed a w :=
  ⟨fun h0 => (by rw [hr] at h0; cases h0), fun k hk => by
    rw [hr, List.mem_cons, List.mem_singleton] at hk
    rcases hk with rfl | rfl
    · unfold wpOp
      simp only [hi, hw, if_true]
      exact .inl h
    · unfold wpOp
      simp only [hj, hw', if_true]
      exact .inl h'⟩

theorem wpAnyL_done {fuel : Nat} {listed : Array Bool} {a : Act} {w : World} (hr : Region.ready md ops listed = []) (h : Q .normal a w) : wpAnyL P md ops Q S z fuel listed a w := by
  cases fuel with
  | zero => exact ⟨hr, h⟩
  | succ n => exact ⟨fun _ => h, by rw [hr]; simp⟩

theorem wp_region_last {id : Nat} {a : Act} {w : World} (hm : P.follows .mixedOrders = true)
    (h : wpAnyL P .any ops Q S z ops.size (Array.replicate ops.size false) a { w with drawn := w.drawn + 1 }) : (Code.region id ops true).wp P Q a w :=
  wp_region_any hm (wpAny_of_L _ _ _ _ h)
end
end Go.Proofs.YtchcmgaohcldjaaDoor
set_option maxRecDepth 8000
namespace Go.Proofs.YtchcmgaohcldjaaDoor
open Go.ChangeShapes Go.WideShapes Go.ChangeAt Go.RowKit
/-! The program's own operations of 'x.Cells = append(append([]int{}, x.Cells...), x.Cells[0])', walked in a frame in letters. -/
theorem eval_put_same {a : Act} {t : Nat} {v : Value} (h : t < a.tmps.size) : (a.put (some t) v).eval (.tmp t) = v := by
  simp [Act.put, Act.eval, h]
theorem eval_put_ne {a : Act} {t u : Nat} {v : Value} (h : t ≠ u) : (a.put (some t) v).eval (.tmp u) = a.eval (.tmp u) := by
  simp [Act.put, Act.eval, Array.getElem?_setIfInBounds_ne h]
theorem size_put {a : Act} {d : Option Tmp} {v : Value} : (a.put d v).tmps.size = a.tmps.size := by
  cases d <;> simp [Act.put]
theorem wp_push_all {w : World} {o : Oper} {a : Act} {K : Act → World → Prop} {Q : Exit → Act → World → Prop} (s x : Operand)
    (ho : o.op = .call { callee := .builtin .append, args := #[s, x], argTypes := #[22, 22] })
    (lo : Nat) (A : Option Addr) (n c : Nat) (xs : List Int) (A2 : Option Addr) (m c2 B : Nat) (ys : List Int) (hs : a.eval s = .slice A n c) (hx : a.eval x = .slice A2 m c2) (hown : Ow w lo A n c xs) (hr : Rd w B A2 m ys) (hmn : 0 < m ∨ n = 0)
    (hn : n ≤ 1099511627776) (hm : m ≤ 1099511627776) (hlo : lo ≤ w.heap.size)
    (h : ∀ A' c' w', Ow w' lo A' (n + m) c' (xs ++ ys) → w.grownBy w' (Value.slice A n c).ownBlock → K (a.put o.dst (.slice A' (n + m) c')) w') : o.wp Tryd.prog a w K Q := by
  obtain ⟨A', c', w', hrun, h1, h2, h3⟩ := run_push_all o.type lo A n c xs A2 m c2 B ys hown hr hmn hn hm hlo
  unfold Oper.wp execOp
  simp only [ho, resolve, invoke, builtin, Sem.run_bind, Sem.run_pure, Result.andThen_ok, List.map_toArray, List.map_cons, List.map_nil, hs, hx, hrun]
  exact h A' c' w' h1 h2

abbrev o43_0 : Oper := { dst := some 213, op := .buildSlice 22 0 #[], type := 22, pos := "l20_draw.go:239", after := #[], guard := none }
abbrev o43_1 : Oper := { dst := some 214, op := .fieldAddr 44 (.tmp 18) 1, type := 0, pos := "l20_draw.go:239", after := #[], guard := none }
abbrev o43_2 : Oper := { dst := some 215, op := .load 22 (.tmp 214), type := 22, pos := "l20_draw.go:239", after := #[⟨1, .data⟩], guard := none }
abbrev o43_3 : Oper := { dst := some 216, op := .call { callee := .builtin .append, args := #[.tmp 213, .tmp 215], argTypes := #[22, 22] }, type := 22, pos := "l20_draw.go:239", after := #[⟨0, .data⟩, ⟨2, .data⟩], guard := none }
abbrev o43_4 : Oper := { dst := some 217, op := .fieldAddr 44 (.tmp 18) 1, type := 0, pos := "l20_draw.go:239", after := #[], guard := none }
abbrev o43_5 : Oper := { dst := some 218, op := .load 22 (.tmp 217), type := 22, pos := "l20_draw.go:239", after := #[⟨4, .data⟩], guard := none }
abbrev o43_6 : Oper := { dst := some 219, op := .indexAddr 22 (.tmp 218) (.const (.int .i64 0)), type := 0, pos := "l20_draw.go:239", after := #[⟨5, .data⟩], guard := none }
abbrev o43_7 : Oper := { dst := some 220, op := .load 3 (.tmp 219), type := 3, pos := "l20_draw.go:239", after := #[⟨6, .data⟩], guard := none }
abbrev o43_8 : Oper := { dst := some 221, op := .buildSlice 22 1 #[(0, .tmp 220)], type := 22, pos := "l20_draw.go:239", after := #[⟨7, .data⟩], guard := none }
abbrev o43_9 : Oper := { dst := some 222, op := .call { callee := .builtin .append, args := #[.tmp 216, .tmp 221], argTypes := #[22, 22] }, type := 22, pos := "l20_draw.go:239", after := #[⟨3, .data⟩, ⟨8, .data⟩, ⟨3, .chain⟩], guard := none }
abbrev o43_10 : Oper := { dst := some 223, op := .fieldAddr 44 (.tmp 18) 1, type := 0, pos := "l20_draw.go:239", after := #[⟨0, .phase⟩, ⟨1, .phase⟩, ⟨2, .phase⟩, ⟨3, .phase⟩, ⟨4, .phase⟩, ⟨5, .phase⟩, ⟨6, .phase⟩, ⟨7, .phase⟩, ⟨8, .phase⟩, ⟨9, .phase⟩], guard := none }
abbrev o43_11 : Oper := { dst := none, op := .store 22 (.tmp 223) (.tmp 222), type := 0, pos := "l20_draw.go:239", after := #[⟨10, .data⟩, ⟨9, .data⟩, ⟨9, .chain⟩, ⟨0, .phase⟩, ⟨1, .phase⟩, ⟨2, .phase⟩, ⟨3, .phase⟩, ⟨4, .phase⟩, ⟨5, .phase⟩, ⟨6, .phase⟩, ⟨7, .phase⟩, ⟨8, .phase⟩, ⟨9, .phase⟩], guard := none }
def ops43 : Array Oper := #[o43_0, o43_1, o43_2, o43_3, o43_4, o43_5, o43_6, o43_7, o43_8, o43_9, o43_10, o43_11]

def put43 (a : Act) (p s e i : Value) (u0 u3 u8 u9 : Value) : Act :=
  ((((((((((a.put (some 214) p).put (some 215) s).put (some 217) p).put (some 218) s).put (some 219) e).put (some 220) i).put (some 213) u0).put (some 216) u3).put (some 221) u8).put (some 222) u9).put (some 223) p

theorem tail43 {Q : Exit → Act → World → Prop} (d : Act) (w w5 : World) (X b8 n c1 : Nat) (A1 : Option Addr) (xs : List Int) (x0 : Int) (old : Value) (listed : Array Bool)
    (hr1 : Region.ready .any ops43 listed = [9]) (hr2 : Region.ready .any ops43 (listed.setIfInBounds 9 true) = [10]) (hr3 : Region.ready .any ops43 ((listed.setIfInBounds 9 true).setIfInBounds 10 true) = [11]) (hr4 : Region.ready .any ops43 (((listed.setIfInBounds 9 true).setIfInBounds 10 true).setIfInBounds 11 true) = [])
    (hsz : 223 < d.tmps.size) (h216 : d.eval (.tmp 216) = .slice A1 n c1) (h221 : d.eval (.tmp 221) = .slice (some ⟨b8, 0, none⟩) 1 1) (h18 : d.eval (.tmp 18) = .pointer (some ⟨X, 0, none⟩))
    (hb : Below w.heap.size w w5) (hX : X < w.heap.size) (hc : w.cell? ⟨X, 1, none⟩ = some old) (hf : w.frozen? ⟨X, 1, none⟩ = false)
    (ho : Ow w5 w.heap.size A1 n c1 xs) (hr : Rd w5 w5.heap.size (some ⟨b8, 0, none⟩) 1 [x0]) (hn : n ≤ 1099511627776)
    (h : ∀ A' c' w', Below w.heap.size w w' → Ow w' w.heap.size A' (n + 1) c' (xs ++ [x0]) → Q .normal ((d.put (some 222) (.slice A' (n + 1) c')).put (some 223) (.pointer (some ⟨X, 1, none⟩))) (w'.setCell ⟨X, 1, none⟩ (.slice A' (n + 1) c'))) :
    wpAnyL Tryd.prog .any ops43 Q (fun w' => Below w.heap.size w w') 11 3 listed d w5 := by
  refine wpAnyL_only (oi := o43_9) hr1 rfl rfl ?_
  refine wp_push_all (.tmp 216) (.tmp 221) rfl w.heap.size A1 n c1 xs (some ⟨b8, 0, none⟩) 1 1 w5.heap.size [x0] h216 h221 ho hr (.inl (by omega)) hn (by omega) hb.size ?_
  intro A' c' w6 ho6 hg6
  have hb6 : Below w.heap.size w w6 := hb.grown hg6 hb.size (fun k hk => ho.own_lo k hk)
  refine ⟨fun _ => hb6, ?_⟩
  have f18 : (d.put (some 222) (.slice A' (n + 1) c')).eval (.tmp 18) = .pointer (some ⟨X, 0, none⟩) := (eval_put_ne (by decide)).trans h18
  have f222 : (d.put (some 222) (.slice A' (n + 1) c')).eval (.tmp 222) = .slice A' (n + 1) c' := eval_put_same (by omega)
  have fs : 223 < (d.put (some 222) (.slice A' (n + 1) c')).tmps.size := by rw [size_put]; exact hsz
  have H := h A' c' w6 hb6 ho6
  show wpAnyL Tryd.prog .any ops43 Q _ 11 2 _ (d.put (some 222) (.slice A' (n + 1) c')) w6
  generalize hD : d.put (some 222) (.slice A' (n + 1) c') = D at f18 f222 fs H ⊢
  refine wpAnyL_only (oi := o43_10) hr2 rfl rfl ?_
  have hrun0 : (execOp D.eval o43_10).run Tryd.prog w6 = .ok (.value (.pointer (some ⟨X, 1, none⟩))) w6 := by
    unfold execOp
    simp only [f18]
    go_simp
  unfold Oper.wp
  rw [hrun0]
  refine ⟨fun _ => hb6, ?_⟩
  refine wpAnyL_only (oi := o43_11) hr3 rfl rfl ?_
  show Oper.wp Tryd.prog o43_11 (D.put (some 223) (.pointer (some ⟨X, 1, none⟩))) w6 _ Q
  have e1 : (D.put (some 223) (.pointer (some ⟨X, 1, none⟩))).eval (.tmp 223) = .pointer (some ⟨X, 1, none⟩) := eval_put_same fs
  have e2 : (D.put (some 223) (.pointer (some ⟨X, 1, none⟩))).eval (.tmp 222) = .slice A' (n + 1) c' := (eval_put_ne (by decide)).trans f222
  have hc6 : w6.cell? ⟨X, 1, none⟩ = some old := (hb6.cell (p := ⟨X, 1, none⟩) hX).trans hc
  have hf6 : w6.frozen? ⟨X, 1, none⟩ = false := (World.frozen?_of_block (hb6.block X hX)).trans hf
  generalize hE : D.put (some 223) (.pointer (some ⟨X, 1, none⟩)) = E at e1 e2 H ⊢
  have hrun : (execOp E.eval o43_11).run Tryd.prog w6 = .ok .skip (w6.setCell ⟨X, 1, none⟩ (.slice A' (n + 1) c')) := by
    unfold execOp
    simp only [e1, e2]
    go_simp
  unfold Oper.wp
  rw [hrun]
  exact ⟨fun e => absurd rfl e, wpAnyL_done hr4 H⟩

theorem panic_move {P : Program} {fn : Func} {R : Ending → World → Prop} {K : Act → World → Prop} {id : Nat} (c : List PanicEntry) (a a' : Act) (w : World) (he : a.defers = a'.defers)
    (h : Exit.inBlock id (Exit.then K (bodyPost P fn R)) (.panic c) a w) : Exit.inBlock id (Exit.then K (bodyPost P fn R)) (.panic c) a' w := by
  have h' : a.defers = [] ∧ R (.panicked c) w := h
  show a'.defers = [] ∧ R (.panicked c) w
  exact ⟨he ▸ h'.1, h'.2⟩

theorem region43 {Q : Exit → Act → World → Prop} (a : Act) (w : World) (X g n c : Nat) (xs : List Int) (hsz : 223 < a.tmps.size) (hX : a.eval (.tmp 18) = .pointer (some ⟨X, 0, none⟩)) (hXw : X < w.heap.size)
    (hc1 : w.cell? ⟨X, 1, none⟩ = some (.slice (some ⟨g, 0, none⟩) n c)) (hf1 : w.frozen? ⟨X, 1, none⟩ = false) (hr : Rd w w.heap.size (some ⟨g, 0, none⟩) n xs) (hn0 : 0 < n) (hn : n ≤ 1099511627776)
    (hQ : ∀ c a a' w, a.defers = a'.defers → Q (.panic c) a w → Q (.panic c) a' w)
    (h : ∀ (u0 u3 u8 u9 : Value) (A' : Option Addr) (c' : Nat) (w' : World), Below w.heap.size w w' → Ow w' w.heap.size A' (n + 1) c' (xs ++ [nth xs 0]) →
      Q .normal (put43 a (.pointer (some ⟨X, 1, none⟩)) (.slice (some ⟨g, 0, none⟩) n c) (.pointer (some ⟨g, 0, none⟩)) (.int .i64 (nth xs 0)) u0 u3 u8 u9) (w'.setCell ⟨X, 1, none⟩ (.slice A' (n + 1) c'))) :
    (Code.region 43 ops43 true).wp Tryd.prog Q a w := by
  obtain ⟨b0, off, e0, hgw, hg⟩ := hr.at_ hn0
  cases e0
  rw [Nat.zero_add] at hg
  refine wp_region_last (S := fun w' => Below w.heap.size w w') (z := 11) (by kernel_rfl) ?_
  have hB0 : Below w.heap.size w { w with drawn := w.drawn + 1 } := (Below.refl _ _).drew
  obtain ⟨W, hW⟩ : ∃ W, ({ w with drawn := w.drawn + 1 } : World) = W := ⟨_, rfl⟩
  rw [hW] at hB0 ⊢
  have hS1 : ∀ w', Below w.heap.size w w' → w'.cell? ⟨X, 1, none⟩ = some (.slice (some ⟨g, 0, none⟩) n c) := fun w' hb => (hb.cell (p := ⟨X, 1, none⟩) hXw).trans hc1
  have hS2 : ∀ w', Below w.heap.size w w' → w'.cell? ⟨g, 0, none⟩ = some (.int .i64 (nth xs 0)) := fun w' hb => (hb.cell (p := ⟨g, 0, none⟩) hgw).trans hg
  have hnI : (0 : Int) < n := by omega
  have e18 := hX
  have s0 := hsz
  show wpAnyL Tryd.prog .any ops43 Q _ 11 12 _ _ _
  have r1 : ∀ w', Below w.heap.size w w' → (execOp a.eval o43_1).run Tryd.prog w' = .ok (.value (.pointer (some ⟨X, 1, none⟩))) w' := fun w' hb => by
    have hA := hS1 w' hb
    have hC := hS2 w' hb
    unfold execOp
    simp only [e18]
    go_simp
  refine wpAnyL_take [1, 2, 3, 9, 11] (i := 1) (oi := o43_1) (v := .pointer (some ⟨X, 1, none⟩)) rfl (by kernel_rfl) (by kernel_rfl) (by kernel_rfl) (by kernel_rfl) (by kernel_rfl) (by decide) (fun c x w => hQ c _ _ w rfl) (Or.inl ⟨rfl, r1⟩) hB0 ?_
  show wpAnyL Tryd.prog .any ops43 Q _ 11 11 _ (a.put (some 214) (.pointer (some ⟨X, 1, none⟩))) _
  have s1 : 223 < (a.put (some 214) (.pointer (some ⟨X, 1, none⟩))).tmps.size := by rw [size_put]; exact s0
  have e18' : (a.put (some 214) (.pointer (some ⟨X, 1, none⟩))).eval (.tmp 18) = .pointer (some ⟨X, 0, none⟩) := (eval_put_ne (by decide)).trans e18
  have e214 : (a.put (some 214) (.pointer (some ⟨X, 1, none⟩))).eval (.tmp 214) = .pointer (some ⟨X, 1, none⟩) := eval_put_same (by omega)
  generalize hA1 : a.put (some 214) (.pointer (some ⟨X, 1, none⟩)) = a1 at e18' e214 s1 ⊢
  clear e18; have e18 := e18'; clear e18'
  have r2 : ∀ w', Below w.heap.size w w' → (execOp a1.eval o43_2).run Tryd.prog w' = .ok (.value (.slice (some ⟨g, 0, none⟩) n c)) w' := fun w' hb => by
    have hA := hS1 w' hb
    have hC := hS2 w' hb
    unfold execOp
    simp only [e214]
    go_simp
  refine wpAnyL_take [2, 3, 9, 11] (i := 2) (oi := o43_2) (v := .slice (some ⟨g, 0, none⟩) n c) rfl (by kernel_rfl) (by kernel_rfl) (by kernel_rfl) (by kernel_rfl) (by kernel_rfl) (by decide) (fun c x w => hQ c _ _ w rfl) (Or.inl ⟨rfl, r2⟩) hB0 ?_
  show wpAnyL Tryd.prog .any ops43 Q _ 11 10 _ (a1.put (some 215) (.slice (some ⟨g, 0, none⟩) n c)) _
  have s2 : 223 < (a1.put (some 215) (.slice (some ⟨g, 0, none⟩) n c)).tmps.size := by rw [size_put]; exact s1
  have e18' : (a1.put (some 215) (.slice (some ⟨g, 0, none⟩) n c)).eval (.tmp 18) = .pointer (some ⟨X, 0, none⟩) := (eval_put_ne (by decide)).trans e18
  have e214' : (a1.put (some 215) (.slice (some ⟨g, 0, none⟩) n c)).eval (.tmp 214) = .pointer (some ⟨X, 1, none⟩) := (eval_put_ne (by decide)).trans e214
  have e215 : (a1.put (some 215) (.slice (some ⟨g, 0, none⟩) n c)).eval (.tmp 215) = .slice (some ⟨g, 0, none⟩) n c := eval_put_same (by omega)
  generalize hA2 : a1.put (some 215) (.slice (some ⟨g, 0, none⟩) n c) = a2 at e18' e214' e215 s2 ⊢
  clear e18; have e18 := e18'; clear e18'
  clear e214; have e214 := e214'; clear e214'
  have r4 : ∀ w', Below w.heap.size w w' → (execOp a2.eval o43_4).run Tryd.prog w' = .ok (.value (.pointer (some ⟨X, 1, none⟩))) w' := fun w' hb => by
    have hA := hS1 w' hb
    have hC := hS2 w' hb
    unfold execOp
    simp only [e18]
    go_simp
  refine wpAnyL_take [4, 5, 6, 7, 8, 9, 11] (i := 4) (oi := o43_4) (v := .pointer (some ⟨X, 1, none⟩)) rfl (by kernel_rfl) (by kernel_rfl) (by kernel_rfl) (by kernel_rfl) (by kernel_rfl) (by decide) (fun c x w => hQ c _ _ w rfl) (Or.inl ⟨rfl, r4⟩) hB0 ?_
  show wpAnyL Tryd.prog .any ops43 Q _ 11 9 _ (a2.put (some 217) (.pointer (some ⟨X, 1, none⟩))) _
  have s3 : 223 < (a2.put (some 217) (.pointer (some ⟨X, 1, none⟩))).tmps.size := by rw [size_put]; exact s2
  have e18' : (a2.put (some 217) (.pointer (some ⟨X, 1, none⟩))).eval (.tmp 18) = .pointer (some ⟨X, 0, none⟩) := (eval_put_ne (by decide)).trans e18
  have e214' : (a2.put (some 217) (.pointer (some ⟨X, 1, none⟩))).eval (.tmp 214) = .pointer (some ⟨X, 1, none⟩) := (eval_put_ne (by decide)).trans e214
  have e215' : (a2.put (some 217) (.pointer (some ⟨X, 1, none⟩))).eval (.tmp 215) = .slice (some ⟨g, 0, none⟩) n c := (eval_put_ne (by decide)).trans e215
  have e217 : (a2.put (some 217) (.pointer (some ⟨X, 1, none⟩))).eval (.tmp 217) = .pointer (some ⟨X, 1, none⟩) := eval_put_same (by omega)
  generalize hA3 : a2.put (some 217) (.pointer (some ⟨X, 1, none⟩)) = a3 at e18' e214' e215' e217 s3 ⊢
  clear e18; have e18 := e18'; clear e18'
  clear e214; have e214 := e214'; clear e214'
  clear e215; have e215 := e215'; clear e215'
  have r5 : ∀ w', Below w.heap.size w w' → (execOp a3.eval o43_5).run Tryd.prog w' = .ok (.value (.slice (some ⟨g, 0, none⟩) n c)) w' := fun w' hb => by
    have hA := hS1 w' hb
    have hC := hS2 w' hb
    unfold execOp
    simp only [e217]
    go_simp
  refine wpAnyL_take [5, 6, 7, 8, 9, 11] (i := 5) (oi := o43_5) (v := .slice (some ⟨g, 0, none⟩) n c) rfl (by kernel_rfl) (by kernel_rfl) (by kernel_rfl) (by kernel_rfl) (by kernel_rfl) (by decide) (fun c x w => hQ c _ _ w rfl) (Or.inl ⟨rfl, r5⟩) hB0 ?_
  show wpAnyL Tryd.prog .any ops43 Q _ 11 8 _ (a3.put (some 218) (.slice (some ⟨g, 0, none⟩) n c)) _
  have s4 : 223 < (a3.put (some 218) (.slice (some ⟨g, 0, none⟩) n c)).tmps.size := by rw [size_put]; exact s3
  have e18' : (a3.put (some 218) (.slice (some ⟨g, 0, none⟩) n c)).eval (.tmp 18) = .pointer (some ⟨X, 0, none⟩) := (eval_put_ne (by decide)).trans e18
  have e214' : (a3.put (some 218) (.slice (some ⟨g, 0, none⟩) n c)).eval (.tmp 214) = .pointer (some ⟨X, 1, none⟩) := (eval_put_ne (by decide)).trans e214
  have e215' : (a3.put (some 218) (.slice (some ⟨g, 0, none⟩) n c)).eval (.tmp 215) = .slice (some ⟨g, 0, none⟩) n c := (eval_put_ne (by decide)).trans e215
  have e217' : (a3.put (some 218) (.slice (some ⟨g, 0, none⟩) n c)).eval (.tmp 217) = .pointer (some ⟨X, 1, none⟩) := (eval_put_ne (by decide)).trans e217
  have e218 : (a3.put (some 218) (.slice (some ⟨g, 0, none⟩) n c)).eval (.tmp 218) = .slice (some ⟨g, 0, none⟩) n c := eval_put_same (by omega)
  generalize hA4 : a3.put (some 218) (.slice (some ⟨g, 0, none⟩) n c) = a4 at e18' e214' e215' e217' e218 s4 ⊢
  clear e18; have e18 := e18'; clear e18'
  clear e214; have e214 := e214'; clear e214'
  clear e215; have e215 := e215'; clear e215'
  clear e217; have e217 := e217'; clear e217'
  have r6 : ∀ w', Below w.heap.size w w' → (execOp a4.eval o43_6).run Tryd.prog w' = .ok (.value (.pointer (some ⟨g, 0, none⟩))) w' := fun w' hb => by
    have hA := hS1 w' hb
    have hC := hS2 w' hb
    unfold execOp
    simp only [e218]
    go_simp
  refine wpAnyL_take [6, 7, 8, 9, 11] (i := 6) (oi := o43_6) (v := .pointer (some ⟨g, 0, none⟩)) rfl (by kernel_rfl) (by kernel_rfl) (by kernel_rfl) (by kernel_rfl) (by kernel_rfl) (by decide) (fun c x w => hQ c _ _ w rfl) (Or.inl ⟨rfl, r6⟩) hB0 ?_
  show wpAnyL Tryd.prog .any ops43 Q _ 11 7 _ (a4.put (some 219) (.pointer (some ⟨g, 0, none⟩))) _
  have s5 : 223 < (a4.put (some 219) (.pointer (some ⟨g, 0, none⟩))).tmps.size := by rw [size_put]; exact s4
  have e18' : (a4.put (some 219) (.pointer (some ⟨g, 0, none⟩))).eval (.tmp 18) = .pointer (some ⟨X, 0, none⟩) := (eval_put_ne (by decide)).trans e18
  have e214' : (a4.put (some 219) (.pointer (some ⟨g, 0, none⟩))).eval (.tmp 214) = .pointer (some ⟨X, 1, none⟩) := (eval_put_ne (by decide)).trans e214
  have e215' : (a4.put (some 219) (.pointer (some ⟨g, 0, none⟩))).eval (.tmp 215) = .slice (some ⟨g, 0, none⟩) n c := (eval_put_ne (by decide)).trans e215
  have e217' : (a4.put (some 219) (.pointer (some ⟨g, 0, none⟩))).eval (.tmp 217) = .pointer (some ⟨X, 1, none⟩) := (eval_put_ne (by decide)).trans e217
  have e218' : (a4.put (some 219) (.pointer (some ⟨g, 0, none⟩))).eval (.tmp 218) = .slice (some ⟨g, 0, none⟩) n c := (eval_put_ne (by decide)).trans e218
  have e219 : (a4.put (some 219) (.pointer (some ⟨g, 0, none⟩))).eval (.tmp 219) = .pointer (some ⟨g, 0, none⟩) := eval_put_same (by omega)
  generalize hA5 : a4.put (some 219) (.pointer (some ⟨g, 0, none⟩)) = a5 at e18' e214' e215' e217' e218' e219 s5 ⊢
  clear e18; have e18 := e18'; clear e18'
  clear e214; have e214 := e214'; clear e214'
  clear e215; have e215 := e215'; clear e215'
  clear e217; have e217 := e217'; clear e217'
  clear e218; have e218 := e218'; clear e218'
  have r7 : ∀ w', Below w.heap.size w w' → (execOp a5.eval o43_7).run Tryd.prog w' = .ok (.value (.int .i64 (nth xs 0))) w' := fun w' hb => by
    have hA := hS1 w' hb
    have hC := hS2 w' hb
    unfold execOp
    simp only [e219]
    go_simp
  refine wpAnyL_take [7, 8, 9, 11] (i := 7) (oi := o43_7) (v := .int .i64 (nth xs 0)) rfl (by kernel_rfl) (by kernel_rfl) (by kernel_rfl) (by kernel_rfl) (by kernel_rfl) (by decide) (fun c x w => hQ c _ _ w rfl) (Or.inl ⟨rfl, r7⟩) hB0 ?_
  show wpAnyL Tryd.prog .any ops43 Q _ 11 6 _ (a5.put (some 220) (.int .i64 (nth xs 0))) _
  have s6 : 223 < (a5.put (some 220) (.int .i64 (nth xs 0))).tmps.size := by rw [size_put]; exact s5
  have e18' : (a5.put (some 220) (.int .i64 (nth xs 0))).eval (.tmp 18) = .pointer (some ⟨X, 0, none⟩) := (eval_put_ne (by decide)).trans e18
  have e214' : (a5.put (some 220) (.int .i64 (nth xs 0))).eval (.tmp 214) = .pointer (some ⟨X, 1, none⟩) := (eval_put_ne (by decide)).trans e214
  have e215' : (a5.put (some 220) (.int .i64 (nth xs 0))).eval (.tmp 215) = .slice (some ⟨g, 0, none⟩) n c := (eval_put_ne (by decide)).trans e215
  have e217' : (a5.put (some 220) (.int .i64 (nth xs 0))).eval (.tmp 217) = .pointer (some ⟨X, 1, none⟩) := (eval_put_ne (by decide)).trans e217
  have e218' : (a5.put (some 220) (.int .i64 (nth xs 0))).eval (.tmp 218) = .slice (some ⟨g, 0, none⟩) n c := (eval_put_ne (by decide)).trans e218
  have e219' : (a5.put (some 220) (.int .i64 (nth xs 0))).eval (.tmp 219) = .pointer (some ⟨g, 0, none⟩) := (eval_put_ne (by decide)).trans e219
  have e220 : (a5.put (some 220) (.int .i64 (nth xs 0))).eval (.tmp 220) = .int .i64 (nth xs 0) := eval_put_same (by omega)
  generalize hA6 : a5.put (some 220) (.int .i64 (nth xs 0)) = a6 at e18' e214' e215' e217' e218' e219' e220 s6 ⊢
  clear e18; have e18 := e18'; clear e18'
  clear e214; have e214 := e214'; clear e214'
  clear e215; have e215 := e215'; clear e215'
  clear e217; have e217 := e217'; clear e217'
  clear e218; have e218 := e218'; clear e218'
  clear e219; have e219 := e219'; clear e219'
  -- what is left: two literals and two appends, in three orders
  have done : ∀ (d : Act) (w5 : World) (b8 c1 : Nat) (A1 : Option Addr) (listed : Array Bool) (u0 u3 u8 : Value), d = ((a6.put (some 213) u0).put (some 216) u3).put (some 221) u8 →
      Region.ready .any ops43 listed = [9] → Region.ready .any ops43 (listed.setIfInBounds 9 true) = [10] → Region.ready .any ops43 ((listed.setIfInBounds 9 true).setIfInBounds 10 true) = [11] → Region.ready .any ops43 (((listed.setIfInBounds 9 true).setIfInBounds 10 true).setIfInBounds 11 true) = [] →
      u3 = .slice A1 n c1 → u8 = .slice (some ⟨b8, 0, none⟩) 1 1 → Below w.heap.size w w5 → Ow w5 w.heap.size A1 n c1 xs → Rd w5 w5.heap.size (some ⟨b8, 0, none⟩) 1 [nth xs 0] →
      wpAnyL Tryd.prog .any ops43 Q (fun w' => Below w.heap.size w w') 11 3 listed d w5 := by
    rintro d w5 b8 c1 A1 listed u0 u3 u8 rfl hr1 hr2 hr3 hr4 rfl rfl hb ho hrd
    refine tail43 _ w w5 X b8 n c1 A1 xs (nth xs 0) _ listed hr1 hr2 hr3 hr4 (by simp only [size_put]; exact s6) ?_ (eval_put_same (by simp only [size_put]; omega)) ?_ hb hXw hc1 hf1 ho hrd hn ?_
    · rw [eval_put_ne (by decide), eval_put_same (by simp only [size_put]; omega)]
    · rw [eval_put_ne (by decide), eval_put_ne (by decide), eval_put_ne (by decide)]; exact e18
    · intro A' c' w' hb' ho'
      have := h u0 (.slice A1 n c1) (.slice (some ⟨b8, 0, none⟩) 1 1) (.slice A' (n + 1) c') A' c' w' hb' ho'
      simp only [put43, hA1, hA2, hA3, hA4, hA5, hA6] at this
      exact this
  have lit0 : ∀ (d : Act) (w5 : World) (K : Act → World → Prop), K (d.put (some 213) (.slice (some ⟨w5.heap.size, 0, none⟩) 0 0)) (w5.alloc (.cells #[] 3)) → Oper.wp Tryd.prog o43_0 d w5 K Q := fun d w5 K hK => by
    have hrun : (execOp d.eval o43_0).run Tryd.prog w5 = .ok (.value (.slice (some ⟨w5.heap.size, 0, none⟩) 0 0)) (w5.alloc (.cells #[] 3)) := by
      unfold execOp
      go_simp
    unfold Oper.wp
    rw [hrun]
    exact hK
  have lit8 : ∀ (d : Act) (w5 : World) (K : Act → World → Prop), d.eval (.tmp 220) = .int .i64 (nth xs 0) → K (d.put (some 221) (.slice (some ⟨w5.heap.size, 0, none⟩) 1 1)) (w5.alloc (.cells #[.int .i64 (nth xs 0)] 3)) → Oper.wp Tryd.prog o43_8 d w5 K Q := fun d w5 K he hK => by
    have hrun : (execOp d.eval o43_8).run Tryd.prog w5 = .ok (.value (.slice (some ⟨w5.heap.size, 0, none⟩) 1 1)) (w5.alloc (.cells #[.int .i64 (nth xs 0)] 3)) := by
      unfold execOp
      simp only [List.map_toArray, List.map_cons, List.map_nil, he]
      go_simp
    unfold Oper.wp
    rw [hrun]
    exact hK
  have new1 : ∀ w5 : World, Rd (w5.alloc (.cells #[.int .i64 (nth xs 0)] 3)) (w5.heap.size + 1) (some ⟨w5.heap.size, 0, none⟩) 1 [nth xs 0] := fun w5 => ⟨rfl, fun _ => ⟨w5.heap.size, 0, rfl, by omega, fun k hk => by
    obtain rfl : k = 0 := by omega
    exact cell_of_row _ _ 0 _ _ (0, 0) (heap_alloc_new w5 _)⟩⟩
  have app3 : ∀ (d : Act) (w5 : World) (b0 : Nat) (K : Act → World → Prop), d.eval (.tmp 213) = .slice (some ⟨b0, 0, none⟩) 0 0 → d.eval (.tmp 215) = .slice (some ⟨g, 0, none⟩) n c → Ow w5 w.heap.size (some ⟨b0, 0, none⟩) 0 0 [] → Below w.heap.size w w5 →
      (∀ A1 c1 w6, Ow w6 w.heap.size A1 n c1 xs → w5.grownBy w6 (Value.slice (some ⟨b0, 0, none⟩) 0 0).ownBlock → Below w.heap.size w w6 → K (d.put (some 216) (.slice A1 n c1)) w6) → Oper.wp Tryd.prog o43_3 d w5 K Q := fun d w5 b0 K h1 h2 ho hb hK => by
    refine wp_push_all (.tmp 213) (.tmp 215) rfl w.heap.size _ 0 0 [] _ n c w.heap.size xs h1 h2 ho (hr.below hb) (.inr rfl) (by omega) hn hb.size ?_
    intro A1 c1 w6 ho6 hg6
    rw [Nat.zero_add] at ho6 ⊢
    rw [List.nil_append] at ho6
    exact hK A1 c1 w6 ho6 hg6 (hb.grown hg6 hb.size (fun k hk => ho.own_lo k hk))
  have made : ∀ w5 : World, Below w.heap.size w w5 → Ow (w5.alloc (.cells #[] 3)) w.heap.size (some ⟨w5.heap.size, 0, none⟩) 0 0 [] := fun w5 hb => Ow.made0 _ _ hb.size
  have hBa : ∀ (w5 : World) (o : Obj), Below w.heap.size w w5 → Below w.heap.size w (w5.alloc o) := fun w5 o hb => hb.alloc hb.size o
  refine wpAnyL_two (i := 0) (j := 8) (oi := o43_0) (oj := o43_8) (by kernel_rfl) rfl rfl rfl rfl ?first ?second
  case first =>
    refine lit0 _ _ _ ?_
    have hB1 := hBa W (.cells #[] 3) hB0
    have ho1 := made W hB0
    refine ⟨fun _ => hB1, ?_⟩
    refine wpAnyL_two (i := 3) (j := 8) (oi := o43_3) (oj := o43_8) (by kernel_rfl) rfl rfl rfl rfl ?fa ?fb
    case fa =>
      refine app3 _ _ _ _ (eval_put_same (by omega)) ((eval_put_ne (by decide)).trans e215) ho1 hB1 ?_
      intro A1 c1 w6 ho6 _ hb6
      refine ⟨fun _ => hb6, ?_⟩
      refine wpAnyL_only (i := 8) (oi := o43_8) (by kernel_rfl) rfl rfl ?_
      refine lit8 _ _ _ (by rw [eval_put_ne (by decide), eval_put_ne (by decide)]; exact e220) ?_
      refine ⟨fun _ => hBa _ _ hb6, ?_⟩
      exact done _ _ _ _ _ _ _ _ _ rfl (by kernel_rfl) (by kernel_rfl) (by kernel_rfl) (by kernel_rfl) rfl rfl (hBa _ _ hb6) (ho6.below ((Below.refl _ _).alloc (Nat.le_refl _) _)) (by rw [World.size_alloc]; exact new1 _)
    case fb =>
      refine lit8 _ _ _ (by rw [eval_put_ne (by decide)]; exact e220) ?_
      have hB2 := hBa _ (.cells #[.int .i64 (nth xs 0)] 3) hB1
      refine ⟨fun _ => hB2, ?_⟩
      refine wpAnyL_only (i := 3) (oi := o43_3) (by kernel_rfl) rfl rfl ?_
      refine app3 _ _ _ _ (by rw [eval_put_ne (by decide), eval_put_same (by omega)]) (by rw [eval_put_ne (by decide), eval_put_ne (by decide)]; exact e215) (ho1.below ((Below.refl _ _).alloc (Nat.le_refl _) _)) hB2 ?_
      intro A1 c1 w6 ho6 hg6 hb6
      refine ⟨fun _ => hb6, ?_⟩
      refine done _ _ _ _ _ _ _ _ _ (Act.put_comm _ _ _ (by intro d h1 h2; cases h1; cases h2)) (by kernel_rfl) (by kernel_rfl) (by kernel_rfl) (by kernel_rfl) rfl rfl hb6 ho6 ?_
      have hrd := Rd.grown (G := W.heap.size) (new1 (W.alloc (.cells #[] 3))) hg6 (fun b off e => by cases e; rw [World.size_alloc]; omega) (by simp)
      exact ⟨hrd.1, fun hn => by
        obtain ⟨b, off, e, hl, hc⟩ := hrd.2 hn
        exact ⟨b, off, e, cell_lt (hc 0 hn), hc⟩⟩
  case second =>
    refine lit8 _ _ _ e220 ?_
    have hB1 := hBa W (.cells #[.int .i64 (nth xs 0)] 3) hB0
    refine ⟨fun _ => hB1, ?_⟩
    refine wpAnyL_only (i := 0) (oi := o43_0) (by kernel_rfl) rfl rfl ?_
    refine lit0 _ _ _ ?_
    have hB2 := hBa _ (.cells #[] 3) hB1
    have ho1 := made _ hB1
    refine ⟨fun _ => hB2, ?_⟩
    refine wpAnyL_only (i := 3) (oi := o43_3) (by kernel_rfl) rfl rfl ?_
    refine app3 _ _ _ _ (eval_put_same (by simp only [size_put]; omega)) (by rw [eval_put_ne (by decide), eval_put_ne (by decide)]; exact e215) ho1 hB2 ?_
    intro A1 c1 w6 ho6 hg6 hb6
    refine ⟨fun _ => hb6, ?_⟩
    refine done _ _ _ _ _ _ _ _ _ ((congrArg (fun x : Act => x.put (some 216) (.slice A1 n c1)) (Act.put_comm a6 _ _ (by intro d h1 h2; cases h1; cases h2))).trans (Act.put_comm _ _ _ (by intro d h1 h2; cases h1; cases h2))) (by kernel_rfl) (by kernel_rfl) (by kernel_rfl) (by kernel_rfl) rfl rfl hb6 ho6 ?_
    have hrd := Rd.grown (G := (W.alloc (.cells #[.int .i64 (nth xs 0)] 3)).heap.size) ((new1 W).below ((Below.refl _ _).alloc (by simp) (.cells #[] 3))) hg6 (fun b off e => by cases e; rw [World.size_alloc]; omega) (by simp)
    exact ⟨hrd.1, fun hn => by
      obtain ⟨b, off, e, hl, hc⟩ := hrd.2 hn
      exact ⟨b, off, e, cell_lt (hc 0 hn), hc⟩⟩
end Go.Proofs.YtchcmgaohcldjaaDoor
