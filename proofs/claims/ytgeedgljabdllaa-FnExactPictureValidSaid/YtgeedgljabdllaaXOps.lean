import Derived.Test.YtgeedgljabdllaaXPxt
import Derived.Test.YtgeedgljabdllaaXGb
import Derived.Test.YtgeedgljabdllaaPp
import Derived.Test.YtgeedgljabdllaaIl
import Derived.Deep.Slices
import Derived.Deep.Fields
import Derived.Lib.SmallJoins
import Derived.ChangeSame
set_option maxRecDepth 8000
namespace Go.Proofs.Ytgeedgljabdllaa
open Go.ChangeShapes Go.WideShapes Go.ChangeAt Go.RowKit
/-! picture puzzles by value: counted, copied, compared. -/
/-- a picture puzzle that came in, of any size. -/
structure PicX (w : World) (B : Nat) (RA : Option Addr) (nr : Nat) (rc : List (List Int)) (CA : Option Addr) (nc : Nat) (cc : List (List Int)) : Prop where
  r : Rrx w B RA nr rc
  c : Rrx w B CA nc cc
  mr : nr ≤ 9223372036854775807
  mc : nc ≤ 9223372036854775807
theorem PicX.below {w w' : World} {B : Nat} {RA : Option Addr} {nr : Nat} {rc : List (List Int)} {CA : Option Addr} {nc : Nat} {cc : List (List Int)} (h : PicX w B RA nr rc CA nc cc) (hb : Below B w w') : PicX w' B RA nr rc CA nc cc := ⟨Rrx.below h.r hb, Rrx.below h.c hb, h.mr, h.mc⟩
theorem pic_info13 (T : TypeId) (u v : Value) (h : (Try.prog.info? T).map (·.size) = some 2) : (Try.prog.info? T).map (·.size) = some (#[u, v] : Array Value).size := h
theorem pic_one13 (A A' : Option Addr) (n c n' c' : Nat) : (#[Value.slice A n c, .slice A' n' c'] : Array Value).all (·.oneCell') = true := by simp [Value.oneCell']
set_option maxHeartbeats 1000000 in
theorem szPicture_any (RA : Option Addr) (nr cr : Nat) (rc : List (List Int)) (CA : Option Addr) (nc c2 : Nat) (cc : List (List Int)) (B : Nat) (l : Int) (w : World) (hp : PicX w B RA nr rc CA nc cc) (hB : B ≤ w.heap.size) (h0 : 0 ≤ l) (h1 : l ≤ 1048576) :
    Calls Try.prog 32 #[.agg #[.slice RA nr cr, .slice CA nc c2], .int .i64 l] w fun e w' => ∃ r : Int, e = .returned (.int .i64 r) ∧ Below w.heap.size w w' ∧ (r = -1 ∨ (0 ≤ r ∧ ∀ w2 B2, PicX w2 B2 RA nr rc CA nc cc → PicR w2 B2 RA nr rc CA nc cc)) := by
  have hx := pcbox_new w RA nr cr CA nc c2 45
  have hb0 : Below w.heap.size w (w.alloc (.cells #[.slice RA nr cr, .slice CA nc c2] 45)) := (Below.refl _ _).alloc (Nat.le_refl _) _
  have hs0 : w.heap.size < (w.alloc (.cells #[.slice RA nr cr, .slice CA nc c2] 45)).heap.size := by simp
  obtain ⟨a0, a1⟩ := id hx
  have Hx := Lib.hid hx
  have HC := Lib.hid (fun w' (hb : Below w.heap.size w w') => szIntSS_any RA cr nr B rc l w' (Rrx.below hp.r (hb.mono hB)) (Nat.le_trans hB hb.size) hp.mr h0 (by omega))
  have HD := Lib.hid (fun w' (q : Int) (hb : Below w.heap.size w w') (hq : 0 ≤ q) (hq2 : q ≤ 1048576) => szIntSS_any CA c2 nc B cc q w' (Rrx.below hp.c (hb.mono hB)) (Nat.le_trans hB hb.size) hp.mc hq (by omega))
  clear hp hx
  go_enter Try.func32, Try.ntmps32
  go_wp2_with fail
  refine (HC.out _ hb0).mono ?_
  rintro e w1 ⟨q, rfl, hb1, hq⟩
  have h01 := step hb0 hb1
  obtain ⟨c0, c1⟩ := Hx.out.below hs0 hb1
  rcases hq with rfl | ⟨q0, q1, q2, q3⟩
  · go_wp2
    go_ret
    exact ⟨-1, rfl, h01, .inl rfl⟩
  · have hn1 : ¬ q < 0 := by omega
    have HQ2 := Lib.hid q2
    have HQ3 := Lib.hid q3
    clear q2 q3 a0 a1
    go_wp2_with fail
    refine (HD.out _ q h01 q0 (by omega)).mono ?_
    rintro e w2 ⟨p, rfl, hb2, hpp⟩
    have h02 := step h01 hb2
    rcases hpp with rfl | ⟨p0, p1, p2, p3⟩
    · go_wp2
      go_ret
      exact ⟨-1, rfl, h02, .inl rfl⟩
    · have hn2 : ¬ p < 0 := by omega
      have HP2 := Lib.hid p2
      have HP3 := Lib.hid p3
      clear p2 p3
      go_wp2
      go_ret
      refine ⟨p, rfl, h02, .inr ⟨p0, fun w3 B3 hx3 => ⟨Rrx.lns hx3.r (by have := HQ2.out; omega) fun k hk => by have := HQ3.out k hk; omega, Rrx.lns hx3.c (by have := HP2.out; omega) fun k hk => by have := HP3.out k hk; omega⟩⟩⟩
set_option maxHeartbeats 1000000 in
theorem eqPicture_rd (RA : Option Addr) (nr cr : Nat) (rc : List (List Int)) (CA : Option Addr) (nc c2 : Nat) (cc : List (List Int)) (B : Nat) (RA' : Option Addr) (cr' : Nat) (CA' : Option Addr) (c2' B' : Nat) (w : World) (hp : PicR w B RA nr rc CA nc cc) (hB : B ≤ w.heap.size) (hp' : PicR w B' RA' nr rc CA' nc cc) (hB' : B' ≤ w.heap.size) :
    Calls Try.prog 34 #[.agg #[.slice RA nr cr, .slice CA nc c2], .agg #[.slice RA' nr cr', .slice CA' nc c2']] w fun e w' => e = .returned (.bool true) ∧ Below w.heap.size w w' := by
  have hx := pcbox_new w RA nr cr CA nc c2 25
  have hs0 : w.heap.size < (w.alloc (.cells #[.slice RA nr cr, .slice CA nc c2] 25)).heap.size := by simp
  have hx2 := pcbox_new (w.alloc (.cells #[.slice RA nr cr, .slice CA nc c2] 25)) RA' nr cr' CA' nc c2' 25
  obtain ⟨U, hU⟩ : ∃ U, U = (w.alloc (.cells #[.slice RA nr cr, .slice CA nc c2] 25)).alloc (.cells #[.slice RA' nr cr', .slice CA' nc c2'] 25) := ⟨_, rfl⟩
  rw [World.size_alloc, ← hU] at hx2
  have hx1 : PcBox U w.heap.size RA nr cr CA nc c2 := by rw [hU]; exact hx.below hs0 ((Below.refl _ _).alloc (Nat.le_refl _) _)
  have hbU : Below w.heap.size w U := by rw [hU]; exact ((Below.refl _ _).alloc (Nat.le_refl _) _).alloc (by simp) _
  have hsU : U.heap.size = w.heap.size + 1 + 1 := by rw [hU]; simp
  have hs1 : w.heap.size < U.heap.size := by omega
  have hs2 : w.heap.size + 1 < U.heap.size := by omega
  obtain ⟨a0, a1⟩ := id hx1
  obtain ⟨b0, b1⟩ := id hx2
  have HR := Lib.hid (eqIntSS_rd RA RA' cr cr' nr B B' rc U (hp.r.below (hbU.mono hB)) (hp'.r.below (hbU.mono hB')) (Nat.le_trans hB hbU.size) (Nat.le_trans hB' hbU.size))
  have HC := Lib.hid (fun w' (hb : Below w.heap.size w w') => eqIntSS_rd CA CA' c2 c2' nc B B' cc w' (hp.c.below (hb.mono hB)) (hp'.c.below (hb.mono hB')) (Nat.le_trans hB hb.size) (Nat.le_trans hB' hb.size))
  have HU := Lib.hid hU
  have Hx1 := Lib.hid hx1
  have Hx2 := Lib.hid hx2
  clear hU hx hsU hp hp' hx1 hx2
  go_enter Try.func34, Try.ntmps34
  go_wp2_with fail
  rw [← HU.out]
  refine HR.out.mono ?_
  rintro e w2 ⟨rfl, hb2⟩
  have h02 := step hbU hb2
  obtain ⟨d0, d1⟩ := Hx1.out.below hs1 hb2
  obtain ⟨e0, e1⟩ := Hx2.out.below hs2 hb2
  clear a0 a1 b0 b1
  go_wp2_with fail
  refine (HC.out _ h02).mono ?_
  rintro e w3 ⟨rfl, hb3⟩
  have h03 := step h02 hb3
  go_wp2
  go_ret
  exact ⟨rfl, h03⟩
theorem picn_one : Hid (∀ A n c A' n' c', (#[Value.slice A n c, .slice A' n' c'] : Array Value).all (·.oneCell') = true) := Lib.hid fun A n c A' n' c' => pic_one13 A A' n c n' c'
set_option maxHeartbeats 2000000 in
theorem toPicture_any (RA : Option Addr) (nr cr : Nat) (rc : List (List Int)) (CA : Option Addr) (nc c2 : Nat) (cc : List (List Int)) (B : Nat) (w : World) (hp : PicR w B RA nr rc CA nc cc) (hB : B ≤ w.heap.size) :
    Calls Try.prog 33 #[.agg #[.slice RA nr cr, .slice CA nc c2]] w fun e w' => ∃ g1 g2 d1 d2, e = .returned (.agg #[.slice (some ⟨g1, 0, none⟩) nr nr, .slice (some ⟨g2, 0, none⟩) nc nc]) ∧ Gs w' w.heap.size (.slice (some ⟨g1, 0, none⟩) nr nr) d1 ∧ d1.length = nr ∧ gsC d1 = rc ∧ (∃ B2, Gs w' B2 (.slice (some ⟨g2, 0, none⟩) nc nc) d2 ∧ w.heap.size ≤ B2 ∧ g1 < B2 ∧ ∀ x ∈ d1, ∀ g, x.1.ownBlock = some g → g < B2) ∧ d2.length = nc ∧ gsC d2 = cc ∧ Below w.heap.size w w' := by
  have Hi : Hid ((Try.prog.info? 25).map (·.size) = some 2) := Lib.hid (by kernel_rfl)
  have hx0 := pcbox_new w RA nr cr CA nc c2 45
  have hs0 : w.heap.size < (w.alloc (.cells #[.slice RA nr cr, .slice CA nc c2] 45)).heap.size := by simp
  obtain ⟨V, hV⟩ : ∃ V, V = ((w.alloc (.cells #[.slice RA nr cr, .slice CA nc c2] 45)).alloc (.cells #[.slice none 0 0, .slice none 0 0] 25)).alloc (.cells #[.slice none 0 0, .slice none 0 0] 25) := ⟨_, rfl⟩
  have hbV : Below w.heap.size w V := by rw [hV]; exact (((Below.refl _ _).alloc (Nat.le_refl _) _).alloc (by simp) _).alloc (by simp; omega) _
  have hsV : V.heap.size = w.heap.size + 1 + 1 + 1 := by rw [hV]; simp
  have hv2 : V.heap[w.heap.size + 1 + 1]? = some (.cells #[.slice none 0 0, .slice none 0 0] 25) := by
    have := heap_alloc2_new (w.alloc (.cells #[.slice RA nr cr, .slice CA nc c2] 45)) (.cells #[.slice none 0 0, .slice none 0 0] 25) (.cells #[.slice none 0 0, .slice none 0 0] 25)
    rw [World.size_alloc] at this
    rw [hV]
    exact this
  have hv1 : V.heap[w.heap.size + 1]? = some (.cells #[.slice none 0 0, .slice none 0 0] 25) := by
    have := heap_alloc2_old (w.alloc (.cells #[.slice RA nr cr, .slice CA nc c2] 45)) (.cells #[.slice none 0 0, .slice none 0 0] 25) (.cells #[.slice none 0 0, .slice none 0 0] 25)
    rw [World.size_alloc] at this
    rw [hV]
    exact this
  have hx1 : PcBox V w.heap.size RA nr cr CA nc c2 := by
    rw [hV]
    exact hx0.below hs0 (((Below.refl _ _).alloc (Nat.le_refl _) _).alloc (by simp) _)
  obtain ⟨k0, k1⟩ := id hx1
  have hwV0 : w.heap.size < V.heap.size := by omega
  have hwV1 : w.heap.size + 1 < V.heap.size := by omega
  have hwV2 : w.heap.size + 1 + 1 < V.heap.size := by omega
  have hne02 : w.heap.size + 1 + 1 ≠ w.heap.size := by omega
  have hne12 : w.heap.size + 1 ≠ w.heap.size + 1 + 1 := by omega
  have HR := Lib.hid (fun w' (hb : Below w.heap.size w w') => toIntSS_any RA cr nr B rc w' (hp.r.below (hb.mono hB)) (Nat.le_trans hB hb.size))
  have HC := Lib.hid (fun w' (hb : Below w.heap.size w w') => toIntSS_any CA c2 nc B cc w' (hp.c.below (hb.mono hB)) (Nat.le_trans hB hb.size))
  have HV := Lib.hid hV
  have HsV := Lib.hid hsV
  clear hV hsV hx0 hs0 hp
  go_enter Try.func33, Try.ntmps33
  go_wp2_with fail
  rw [← HV.out]
  refine (HR.out _ hbV).mono ?_
  rintro e w1 ⟨d1, rfl, ho1, hl1, hc1, hbw1⟩
  have f1 := (hbw1.block (w.heap.size + 1) hwV1).trans hv1
  have f2 := (hbw1.block (w.heap.size + 1 + 1) hwV2).trans hv2
  obtain ⟨j0, j1⟩ := hx1.below hwV0 hbw1
  have m0 : w1.cell? ⟨w.heap.size + 1 + 1, 0, none⟩ = some (.slice none 0 0) := cell_of_row _ _ 0 _ _ (0, 0) f2
  have fz := frozen_of_row w1 (w.heap.size + 1 + 1) 0 _ _ f2
  obtain ⟨W2, hW2⟩ : ∃ W2, w1.setCell ⟨w.heap.size + 1 + 1, 0, none⟩ (.slice (some ⟨V.heap.size, 0, none⟩) nr nr) = W2 := ⟨_, rfl⟩
  have g1 : W2.heap[w.heap.size + 1]? = some (.cells #[.slice none 0 0, .slice none 0 0] 25) := by rw [← hW2]; exact (heap_setCell_other w1 ⟨w.heap.size + 1 + 1, 0, none⟩ (w.heap.size + 1) _ hne12).trans f1
  have g2 : W2.heap[w.heap.size + 1 + 1]? = some (.cells #[.slice (some ⟨V.heap.size, 0, none⟩) nr nr, .slice none 0 0] 25) := by rw [← hW2]; exact heap_setCell_same w1 (w.heap.size + 1 + 1) 0 _ _ (.slice (some ⟨V.heap.size, 0, none⟩) nr nr) f2
  have hb2 : Below w.heap.size w W2 := by rw [← hW2]; exact (hbV.trans (hbw1.mono (by omega))).setCell (p := ⟨w.heap.size + 1 + 1, 0, none⟩) (show w.heap.size ≤ w.heap.size + 1 + 1 by omega) _
  have hj2 : W2.cell? ⟨w.heap.size, 1, none⟩ = some (.slice CA nc c2) := by rw [← hW2]; exact (World.cell?_setCell_far w1 ⟨w.heap.size + 1 + 1, 0, none⟩ ⟨w.heap.size, 1, none⟩ _ hne02).trans j1
  have ho2 : Hid (Gs W2 V.heap.size (.slice (some ⟨V.heap.size, 0, none⟩) nr nr) d1) := Lib.hid (by rw [← hW2]; exact ho1.off (row := some (w.heap.size + 1 + 1)) grown_set13 (fun g e => by injection e with e; omega))
  have hs2 : w.heap.size + 1 + 1 < W2.heap.size := (Array.getElem?_eq_some_iff.1 g2).1
  have HR2 := Lib.hid (HC.out W2 hb2)
  have HL1 := Lib.hid hl1
  have HC1 := Lib.hid hc1
  have HbV := Lib.hid hbV
  clear f1 f2 k0 k1 hv1 hv2 ho1 hl1 hc1 hbV
  go_wp2_with fail
  (try rw [hW2])
  refine HR2.out.mono ?_
  rintro e w3 ⟨d2, rfl, ho3, hl3, hc3, hb3⟩
  have q1 := (hb3.block (w.heap.size + 1) (by omega)).trans g1
  have q2 := (hb3.block (w.heap.size + 1 + 1) hs2).trans g2
  have fz3 := frozen_of_row w3 (w.heap.size + 1 + 1) 1 _ _ q2
  have p2 : w3.cell? ⟨w.heap.size + 1 + 1, 1, none⟩ = some (.slice none 0 0) := cell_of_row _ _ 1 _ _ (0, 0) q2
  have r1 := (heap_setCell_other w3 ⟨w.heap.size + 1 + 1, 1, none⟩ (w.heap.size + 1) (.slice (some ⟨W2.heap.size, 0, none⟩) nc nc) hne12).trans q1
  have r2 := heap_setCell_same w3 (w.heap.size + 1 + 1) 1 _ _ (.slice (some ⟨W2.heap.size, 0, none⟩) nc nc) q2
  have HO3 := Lib.hid ho3
  have HL3 := Lib.hid hl3
  have HC3 := Lib.hid hc3
  clear ho3 hl3 hc3
  go_wp2_with (first
    | (refine wpList_load_row rfl 25 _ rfl (w.heap.size + 1 + 1) rfl 25 #[.slice (some ⟨V.heap.size, 0, none⟩) nr nr, .slice (some ⟨W2.heap.size, 0, none⟩) nc nc] (0, 0) _ r2 Try.underlying25 rfl Hi.out ?_)
    | (refine wpList_store_row rfl 25 _ _ rfl (w.heap.size + 1) #[.slice (some ⟨V.heap.size, 0, none⟩) nr nr, .slice (some ⟨W2.heap.size, 0, none⟩) nc nc] rfl rfl 25 #[.slice none 0 0, .slice none 0 0] r1 Hi.out rfl (picn_one.out _ _ _ _ _ _) ?_))
  have hB3 : Below w.heap.size w w3 := step hb2 hb3
  have hBe : Below w.heap.size w ((w3.setCell ⟨w.heap.size + 1 + 1, 1, none⟩ (.slice (some ⟨W2.heap.size, 0, none⟩) nc nc)).setRow (w.heap.size + 1) #[.slice (some ⟨V.heap.size, 0, none⟩) nr nr, .slice (some ⟨W2.heap.size, 0, none⟩) nc nc]) := below_setRow13 (hB3.setCell (p := ⟨w.heap.size + 1 + 1, 1, none⟩) (show w.heap.size ≤ w.heap.size + 1 + 1 by omega) _) (by omega)
  have HsV' := HsV.out
  have hVW : V.heap.size < W2.heap.size := ho2.out.vhi V.heap.size rfl
  have ko : ∀ {lo : Nat} {v : Value} {d : List GV}, Gs w3 lo v d → w.heap.size + 1 + 1 < lo → Gs ((w3.setCell ⟨w.heap.size + 1 + 1, 1, none⟩ (.slice (some ⟨W2.heap.size, 0, none⟩) nc nc)).setRow (w.heap.size + 1) #[.slice (some ⟨V.heap.size, 0, none⟩) nr nr, .slice (some ⟨W2.heap.size, 0, none⟩) nc nc]) lo v d := fun hg hlo => (hg.off (row := some (w.heap.size + 1 + 1)) grown_set13 (fun g e => by injection e with e; omega)).off (row := some (w.heap.size + 1)) grown_setRow13 (fun g e => by injection e with e; omega)
  refine bodyPost_ret (v := .agg #[.slice (some ⟨V.heap.size, 0, none⟩) nr nr, .slice (some ⟨W2.heap.size, 0, none⟩) nc nc]) (results_cell_row (by rfl) _ _ (w.heap.size + 1) 25 _ (0, 0) _ rfl (setRow_heap _ _ _ _ _ _ r1) Try.underlying25 rfl Hi.out) rfl ?_
  exact ⟨V.heap.size, W2.heap.size, d1, d2, rfl, (ko (ho2.out.below hb3) (by omega)).mono (by omega), HL1.out, HC1.out, ⟨W2.heap.size, ko HO3.out hs2, by omega, hVW, fun x hx g hg => ho2.out.hi hx g hg⟩, HL3.out, HC3.out, hBe⟩
end Go.Proofs.Ytgeedgljabdllaa
set_option maxRecDepth 8000
namespace Go.Proofs.Ytgeedgljabdllaa
open Go.ChangeShapes Go.WideShapes Go.ChangeAt Go.RowKit
/-! PictureValid, of both. -/
theorem sideValid_any (n : Int) (w : World) : Calls Try.prog 80 #[.int .i64 n] w fun e w' => e = .returned (.bool (inr n 1 5)) ∧ w = w' := by
  by_cases h1 : 1 ≤ n
  · by_cases h8 : n ≤ 5
    · have Hr := Lib.hid (show inr n 1 5 = true by simp [inr, h1, h8])
      go_enter Try.func80, Try.ntmps80
      go_wp2
      go_ret
      exact ⟨by rw [Hr.out]; rfl, rfl⟩
    · have Hr := Lib.hid (show inr n 1 5 = false by simp [inr, h8])
      go_enter Try.func80, Try.ntmps80
      go_wp2
      go_ret
      exact ⟨by rw [Hr.out]; rfl, rfl⟩
  · have Hr := Lib.hid (show inr n 1 5 = false by simp [inr, h1])
    go_enter Try.func80, Try.ntmps80
    go_wp2
    go_ret
    exact ⟨by rw [Hr.out]; rfl, rfl⟩
theorem cluesValid_any (A : Option Addr) (n c B : Nat) (Ls : List (List Int)) (cells : Int) (w : World) (h : Lns w B A n Ls) :
    Calls Try.prog 81 #[.slice A n c, .int .i64 cells] w fun e w' => e = .returned (.bool (clsB Ls cells)) ∧ w = w' := by
  have hl := Lib.hid h.len
  have hm := h.m
  go_enter Try.func81, Try.ntmps81
  go_wp2
  go_loop [9] (fun i => ∃ k : Nat, k ≤ n ∧ i = .int .i64 k ∧ csB Ls cells k) (fun i => n - (intOf i).toNat)
  case atStart => exact ⟨0, Nat.zero_le _, rfl, fun j hj => by omega⟩
  case round =>
    obtain ⟨k, hk, rfl, hall⟩ := hrel
    have Hall := Lib.hid hall
    clear hall
    by_cases hlt : k < n
    · obtain ⟨b, off, A', c', rfl, hbB, hck, hr⟩ := h.r.at_ hlt
      have hkI : (k : Int) < (n : Int) := by omega
      have HC := implClueValid A' _ c' _ (gtl Ls k) cells w hr (h.ms k hlt) (h.b k hlt)
      obtain ⟨q, hq⟩ : ∃ q, (gtl Ls k).length = q := ⟨_, rfl⟩
      rw [hq] at hck HC
      clear hr hq
      cases hv : cvB (gtl Ls k) cells
      · have Hv := Lib.hid (clsB_f (by rw [hl.out]; exact hlt) hv)
        rw [hv] at HC
        have HC := Lib.hid HC
        clear hv
        go_wp2_with (go_at_call 100; refine HC.out.mono ?_; rintro e w' ⟨rfl, rfl⟩)
        go_ret
        exact ⟨by rw [Hv.out]; rfl, rfl⟩
      · rw [hv] at HC
        have HC := Lib.hid HC
        have Hv := Lib.hid hv
        clear hv
        go_wp2_with (go_at_call 100; refine HC.out.mono ?_; rintro e w' ⟨rfl, rfl⟩)
        go_round
        case rel => exact ⟨k + 1, by omega, by go_num, fun j hj => by
          by_cases e : j = k
          · subst e; exact Hv.out
          · exact Hall.out j (by omega)⟩
        case measure => simp [intOf]; omega
    · obtain rfl : k = n := by omega
      have Hv := Lib.hid (clsB_t hl.out Hall.out)
      go_wp2
      go_ret
      exact ⟨by rw [Hv.out]; rfl, rfl⟩
set_option maxHeartbeats 1000000 in
theorem picValid_any (RA : Option Addr) (nr cr : Nat) (rc : List (List Int)) (CA : Option Addr) (nc c2 : Nat) (cc : List (List Int)) (B : Nat) (w : World) (hp : PicR w B RA nr rc CA nc cc) (hB : B ≤ w.heap.size) :
    Calls Try.prog 47 #[.agg #[.slice RA nr cr, .slice CA nc c2]] w fun e w' => e = .returned (.bool (pcB rc cc)) ∧ Below w.heap.size w w' := by
  have hx0 := pcbox_new w RA nr cr CA nc c2 25
  have hb0 : Below w.heap.size w (w.alloc (.cells #[.slice RA nr cr, .slice CA nc c2] 25)) := (Below.refl _ _).alloc (Nat.le_refl _) _
  have hl1 := hp.r.len
  have hl2 := hp.c.len
  have hp' := hp.below (hb0.mono hB)
  have H1 := cluesValid_any RA nr cr B rc (nc : Nat) _ hp'.r
  have H2 := cluesValid_any CA nc c2 B cc (nr : Nat) _ hp'.c
  have HE : pcB rc cc = ((inr (nr : Int) 1 5 && inr (nc : Int) 1 5) && (clsB rc (nc : Int) && clsB cc (nr : Int))) := by simp only [pcB, hl1, hl2]
  have m1 := hp.r.m
  have m2 := hp.c.m
  clear hp hp' hl1 hl2
  cases h1 : inr (nr : Int) 1 5
  · have He := Lib.hid (show pcB rc cc = false by rw [HE, h1]; rfl)
    clear HE
    go_enter Try.func47, Try.ntmps47
    go_wp2_with (go_at_call 80; refine (sideValid_any _ _).mono ?_; rintro e w' ⟨rfl, rfl⟩; rw [h1])
    go_ret
    exact ⟨by rw [He.out]; rfl, hb0⟩
  · cases h2 : inr (nc : Int) 1 5
    · have He := Lib.hid (show pcB rc cc = false by rw [HE, h1, h2]; rfl)
      clear HE
      go_enter Try.func47, Try.ntmps47
      go_wp2_with (go_at_call 80; refine (sideValid_any _ _).mono ?_; rintro e w' ⟨rfl, rfl⟩; first | rw [h1] | rw [h2])
      go_ret
      exact ⟨by rw [He.out]; rfl, hb0⟩
    · cases h3 : clsB rc (nc : Int)
      · have He := Lib.hid (show pcB rc cc = false by rw [HE, h1, h2, h3]; rfl)
        rw [h3] at H1
        have H1 := Lib.hid H1
        clear HE H2
        go_enter Try.func47, Try.ntmps47
        go_wp2_with (first
          | (go_at_call 80; refine (sideValid_any _ _).mono ?_; rintro e w' ⟨rfl, rfl⟩; first | rw [h1] | rw [h2])
          | (go_at_call 81; refine H1.out.mono ?_; rintro e w' ⟨rfl, rfl⟩))
        go_ret
        exact ⟨by rw [He.out]; rfl, hb0⟩
      · have He := Lib.hid (show pcB rc cc = clsB cc (nr : Int) by rw [HE, h1, h2, h3]; rfl)
        rw [h3] at H1
        have H1 := Lib.hid H1
        have H2 := Lib.hid H2
        clear HE
        go_enter Try.func47, Try.ntmps47
        go_wp2_with (first
          | (go_at_call 80; refine (sideValid_any _ _).mono ?_; rintro e w' ⟨rfl, rfl⟩; first | rw [h1] | rw [h2])
          | (go_at_call 81; with_reducible refine H1.out.mono ?_; rintro e w' ⟨rfl, rfl⟩)
          | (go_at_call 81; refine H2.out.mono ?_; rintro e w' ⟨rfl, rfl⟩))
        go_ret
        exact ⟨by rw [He.out]; rfl, hb0⟩
theorem implPictureValid (RA : Option Addr) (nr cr : Nat) (rc : List (List Int)) (CA : Option Addr) (nc c2 : Nat) (cc : List (List Int)) (B : Nat) (w : World) (hp : PicR w B RA nr rc CA nc cc) (hB : B ≤ w.heap.size) :
    Calls Try.prog 15 #[.agg #[.slice RA nr cr, .slice CA nc c2]] w fun e w' => e = .returned (.bool (pcB rc cc)) ∧ Below w.heap.size w w' := by
  have hx0 := pcbox_new w RA nr cr CA nc c2 25
  have hb0 : Below w.heap.size w (w.alloc (.cells #[.slice RA nr cr, .slice CA nc c2] 25)) := (Below.refl _ _).alloc (Nat.le_refl _) _
  obtain ⟨d0, d1⟩ := hx0
  have H := Lib.hid (picValid_any RA nr cr rc CA nc c2 cc B _ (hp.below (hb0.mono hB)) (Nat.le_trans hB hb0.size))
  clear hp
  go_enter Try.func15, Try.ntmps15
  go_wp2_with (go_at_call 47; refine H.out.mono ?_; rintro e w1 ⟨rfl, hb1⟩)
  go_ret
  exact ⟨rfl, step hb0 hb1⟩
set_option maxHeartbeats 2000000 in
theorem specPictureValid (RA : Option Addr) (nr cr : Nat) (rc : List (List Int)) (CA : Option Addr) (nc c2 : Nat) (cc : List (List Int)) (B : Nat) (w : World) (hp : PicR w B RA nr rc CA nc cc) (hB : B ≤ w.heap.size) :
    Calls Try.prog 16 #[.agg #[.slice RA nr cr, .slice CA nc c2]] w fun e w' => e = .returned (.bool (pcB rc cc)) ∧ Below w.heap.size w w' := by
  have hx0 := pcbox_new w RA nr cr CA nc c2 25
  have hb0 : Below w.heap.size w (w.alloc (.cells #[.slice RA nr cr, .slice CA nc c2] 25)) := (Below.refl _ _).alloc (Nat.le_refl _) _
  have hs0 : w.heap.size < (w.alloc (.cells #[.slice RA nr cr, .slice CA nc c2] 25)).heap.size := by simp
  have Hl1 := Lib.hid hp.r.len
  have Hl2 := Lib.hid hp.c.len
  have HE : Hid (pcB rc cc = ((inr (nr : Int) 1 5 && inr (nc : Int) 1 5) && (clsB rc (nc : Int) && clsB cc (nr : Int)))) := Lib.hid (by simp only [pcB, Hl1.out, Hl2.out])
  have m1 := hp.r.m
  have m2 := hp.c.m
  have HP := Lib.hid hp
  obtain ⟨d0, d1⟩ := id hx0
  have Hx0 := Lib.hid hx0
  clear hp hx0
  go_enter Try.func16, Try.ntmps16
  go_wp2
  go_loopw [3] (fun i wr => ∃ k : Nat, k ≤ nr ∧ i = .int .i64 k ∧ Hid (csB rc nc k) ∧ Below (w.alloc (.cells #[.slice RA nr cr, .slice CA nc c2] 25)).heap.size (w.alloc (.cells #[.slice RA nr cr, .slice CA nc c2] 25)) wr) (fun i _ => nr - (intOf i).toNat)
  case atStart => exact ⟨0, Nat.zero_le _, rfl, Lib.hid (fun j hj => absurd hj (by omega)), Below.refl _ _⟩
  case round =>
    clear d0 d1
    obtain ⟨k, hk, rfl, hall, hb⟩ := hrel
    obtain ⟨d0, d1⟩ := Hx0.out.below hs0 hb
    have hB1 := step hb0 hb
    have Hb := Lib.hid hb
    clear hb
    by_cases hlt : k < nr
    · have hkI : (k : Int) < (nr : Int) := by omega
      obtain ⟨b, off, A', c', rfl, hbB, hck, hr⟩ := (HP.out.below (hB1.mono hB)).r.r.at_ hlt
      have HC : ∀ q, Calls Try.prog 48 #[.slice A' (gtl rc k).length c', .int .i64 (nc : Nat)] (wr.drewN q) fun e w' => e = .returned (.bool (cvB (gtl rc k) (nc : Nat))) ∧ w' = wr.drewN q := fun q => (specClueValid A' _ c' _ (gtl rc k) (nc : Nat) (wr.drewN q) hr (HP.out.r.ms k hlt)).mono fun _ _ h => ⟨h.1, h.2.symm⟩
      obtain ⟨q, hq⟩ : ∃ q, (gtl rc k).length = q := ⟨_, rfl⟩
      rw [hq] at hck HC
      clear hr hq
      cases hv : cvB (gtl rc k) (nc : Int)
      · have Hv := Lib.hid (clsB_f (by rw [Hl1.out]; exact hlt) hv)
        rw [hv] at HC
        have HC := Lib.hid HC
        clear hv
        go_wp2
        go_quiet ((go_at_call 48; exact Calls.quiet_of_same (HC.out _)))
        go_wp2
        go_ret
        exact ⟨by rw [HE.out, Hv.out]; simp, below_drewN hB1 _⟩
      · rw [hv] at HC
        have HC := Lib.hid HC
        have Hv := Lib.hid hv
        clear hv
        go_wp2
        go_quiet ((go_at_call 48; exact Calls.quiet_of_same (HC.out _)))
        go_wp2
        go_roundw
        case rel => exact ⟨k + 1, by omega, by go_num, Lib.hid fun j hj => by
          by_cases e : j = k
          · subst e; exact Hv.out
          · exact hall.out j (by omega), below_drewN Hb.out _⟩
        case measure => simp [intOf]; omega
    · have hkI : ¬ (k : Int) < (nr : Int) := by omega
      have Hr := Lib.hid (clsB_t Hl1.out (by have : k = nr := by omega
                                             rw [← this]; exact hall.out))
      go_wp2
      go_loopw [4] (fun i wr => ∃ k : Nat, k ≤ nc ∧ i = .int .i64 k ∧ Hid (csB cc nr k) ∧ Below (w.alloc (.cells #[.slice RA nr cr, .slice CA nc c2] 25)).heap.size (w.alloc (.cells #[.slice RA nr cr, .slice CA nc c2] 25)) wr) (fun i _ => nc - (intOf i).toNat)
      case atStart => exact ⟨0, Nat.zero_le _, rfl, Lib.hid (fun j hj => absurd hj (by omega)), Hb.out⟩
      case round =>
        clear d0 d1 hB1 hall hkI hk Hb
        obtain ⟨k, hk, rfl, hall, hb⟩ := hrel
        obtain ⟨d0, d1⟩ := Hx0.out.below hs0 hb
        have hB1 := step hb0 hb
        have Hb := Lib.hid hb
        clear hb
        by_cases hlt : k < nc
        · have hkI : (k : Int) < (nc : Int) := by omega
          obtain ⟨b, off, A', c', rfl, hbB, hck, hr⟩ := (HP.out.below (hB1.mono hB)).c.r.at_ hlt
          rename World => wr2
          have HC : ∀ q, Calls Try.prog 48 #[.slice A' (gtl cc k).length c', .int .i64 (nr : Nat)] (wr2.drewN q) fun e w' => e = .returned (.bool (cvB (gtl cc k) (nr : Nat))) ∧ w' = wr2.drewN q := fun q => (specClueValid A' _ c' _ (gtl cc k) (nr : Nat) (wr2.drewN q) hr (HP.out.c.ms k hlt)).mono fun _ _ h => ⟨h.1, h.2.symm⟩
          obtain ⟨q, hq⟩ : ∃ q, (gtl cc k).length = q := ⟨_, rfl⟩
          rw [hq] at hck HC
          clear hr hq
          cases hv : cvB (gtl cc k) (nr : Int)
          · have Hv := Lib.hid (clsB_f (by rw [Hl2.out]; exact hlt) hv)
            rw [hv] at HC
            have HC := Lib.hid HC
            clear hv
            go_wp2
            go_quiet ((go_at_call 48; exact Calls.quiet_of_same (HC.out _)))
            go_wp2
            go_ret
            exact ⟨by rw [HE.out, Hv.out]; simp, below_drewN hB1 _⟩
          · rw [hv] at HC
            have HC := Lib.hid HC
            have Hv := Lib.hid hv
            clear hv
            go_wp2
            go_quiet ((go_at_call 48; exact Calls.quiet_of_same (HC.out _)))
            go_wp2
            go_roundw
            case rel => exact ⟨k + 1, by omega, by go_num, Lib.hid fun j hj => by
              by_cases e : j = k
              · subst e; exact Hv.out
              · exact hall.out j (by omega), below_drewN Hb.out _⟩
            case measure => simp [intOf]; omega
        · have hkI : ¬ (k : Int) < (nc : Int) := by omega
          have Hc := Lib.hid (clsB_t Hl2.out (by have : k = nc := by omega
                                                 rw [← this]; exact hall.out))
          cases h1 : inr (nr : Int) 1 5
          · go_wp2_with (go_at_call 49; refine (l1In_any _ _ _ _).mono ?_; rintro e wq ⟨rfl, rfl⟩; rw [h1])
            go_ret
            exact ⟨by rw [HE.out, h1]; rfl, hB1⟩
          · go_wp2_with (go_at_call 49; refine (l1In_any _ _ _ _).mono ?_; rintro e wq ⟨rfl, rfl⟩; first | rw [h1] | skip)
            go_ret
            exact ⟨by rw [HE.out, h1, Hr.out, Hc.out]; simp, hB1⟩
end Go.Proofs.Ytgeedgljabdllaa
set_option maxRecDepth 8000
namespace Go.Proofs.Ytgeedgljabdllaa
open Go.ChangeShapes Go.WideShapes Go.ChangeAt Go.RowKit Go.Deep
/-! A slice of slices of numbers that came in, as it reads. -/
theorem row_max13 {k : IntKind} {w : World} {a : Option Addr} {len cap : Nat} {zs : List Int} (h : IsRow k w a len cap zs) : len ≤ 9223372036854775807 := by
  rcases h with ⟨_, rfl, _, _⟩ | ⟨x, _, hl, hm, _⟩
  · omega
  · simp only [maxLen] at hm; omega
theorem lists_of {P : Nat → List Int → Prop} : ∀ n, (∀ i, i < n → ∃ r, P i r) → ∃ rs : List (List Int), rs.length = n ∧ ∀ i, i < n → P i (gtl rs i) := by
  intro n
  induction n with
  | zero => intro _; exact ⟨[], rfl, fun i hi => absurd hi (by omega)⟩
  | succ n ih =>
    intro h
    obtain ⟨rs, hl, hp⟩ := ih (fun i hi => h i (by omega))
    obtain ⟨r, hr⟩ := h n (by omega)
    refine ⟨rs ++ [r], by simp [hl], fun i hi => ?_⟩
    by_cases e : i < n
    · have : gtl (rs ++ [r]) i = gtl rs i := by simp [gtl, List.getD_eq_getElem?_getD, List.getElem?_append_left (by omega : i < rs.length)]
      rw [this]; exact hp i e
    · obtain rfl : i = n := by omega
      have : gtl (rs ++ [r]) i = r := by simp [gtl, List.getD_eq_getElem?_getD, ← hl]
      rw [this]; exact hr
theorem add_plain13 (b off i : Nat) : (⟨b, off, none⟩ : Addr).add i = ⟨b, off + i, none⟩ := by unfold Addr.add; split <;> simp_all
theorem open_slices {H : Type} {enc : TypeId × Value → H} {W : World} {base : Nat} {held : Bool} {fuel : Nat} {v : Value} {x : DataW H × List MemPlace} (hC : Try.prog.cellsOf 28 = 1) (h1 : Try.prog.cellsOf 3 = 1)
    (h : DataW.trod enc Try.prog W base (fun _ => true) held fuel 23 [v] = some x) :
    ∃ A len cap Ls, v = .slice A len cap ∧ Rrx W W.heap.size A len Ls ∧ len ≤ 9223372036854775807 := by
  rcases open_slice Try.underlying23 h with ⟨hcs, _⟩ | ⟨a, len, cap, m, nf, D, Pl, hcs, hb, hl, hm, hmm, _, hi⟩
  · injection hcs with hcs
    exact ⟨none, 0, 0, [], hcs, ⟨rfl, fun hn => absurd hn (by omega)⟩, by omega⟩
  · injection hcs with hcs
    have hlm : len ≤ m := by rw [hmm]; simpa using hl
    have hmax : len ≤ 9223372036854775807 := by simp only [maxLen] at hm; omega
    have one : ∀ i, i < len → ∃ (A' : Option Addr) (l c : Nat) (zs : List Int), W.cell? (a.add i) = some (.slice A' l c) ∧ IsRow .i64 W A' l c zs := fun i hil => by
      obtain ⟨cs', hc, ht⟩ := hi i (by omega)
      rw [hC, Nat.mul_one] at hc
      obtain ⟨_, hcl, hat⟩ := World.cells?_some hc
      match cs', hcl with
      | [c0], _ =>
        have a0 := hat 0 (by omega)
        obtain ⟨A', l, c, zs, ez, hz⟩ : ∃ A' l c zs, c0 = .slice A' l c ∧ IsRow .i64 W A' l c zs := by
          rcases open_ints Try.underlying28 Try.underlying3 h1 ht with ⟨hcs, _⟩ | ⟨x, l, c, zs, hcs, _, hl, hm, hz, _, hcell, hwz⟩
          · injection hcs with hcs
            exact ⟨none, 0, 0, [], hcs, .inl ⟨rfl, rfl, rfl, rfl⟩⟩
          · injection hcs with hcs
            exact ⟨_, _, _, zs, hcs, .inr ⟨_, rfl, hl, hm, by simpa using hz, hcell, hwz⟩⟩
        exact ⟨A', l, c, zs, by rw [ez] at a0; simpa [Addr.add] using a0, hz⟩
    by_cases h0 : len = 0
    · subst h0
      exact ⟨some a, 0, cap, [], hcs, ⟨rfl, fun hn => absurd hn (by omega)⟩, hmax⟩
    · obtain ⟨A', l, c, zs, q0, q3⟩ := one 0 (by omega)
      obtain ⟨b, off, spot⟩ := a
      have hspot : spot = none := by simpa [Addr.add] using World.cell?_spot q0
      subst hspot
      obtain ⟨rs, hrl, hrs⟩ := lists_of (P := fun i r => ∃ A' c', W.cell? ⟨b, off + i, none⟩ = some (.slice A' r.length c') ∧ Rdx W W.heap.size A' r.length r) len (fun i hil => by
        obtain ⟨A', l, c, zs, q0, q3⟩ := one i hil
        have hrd := rd_of_row q3
        have hll := hrd.1
        rw [add_plain13] at q0
        exact ⟨zs.take l, A', c, by rw [hll]; exact q0, by rw [hll]; exact ⟨hrd, row_max13 q3, row_b64 q3⟩⟩)
      exact ⟨_, _, _, rs, hcs, ⟨hrl, fun _ => ⟨b, off, rfl, cell_lt q0, hrs⟩⟩, hmax⟩
end Go.Proofs.Ytgeedgljabdllaa
