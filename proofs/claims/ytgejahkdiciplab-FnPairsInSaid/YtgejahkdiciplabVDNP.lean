import Derived.Test.YtgejahkdiciplabVW4E
import Derived.Deep.RegionHeld3
import Derived.Test.YtgejahkdiciplabVLM
import Derived.Test.YtgejahkdiciplabVI3V
import Derived.Deep.CutRange
import Derived.Deep.CutBlock
set_option maxRecDepth 8000
namespace Go.Proofs.Ytgejahkdiciplab
open Go.ChangeShapes Go.WideShapes Go.ChangeAt Go.RowKit

def DrawnRule (w : World) (e : Ending) (w' : World) : Prop :=
  ∃ (k : Int) (A : Option Addr) (n c : Nat) (v : Int) (xs : List Int) (s : Int), e = .returned (.tuple #[.agg #[.int .i64 k, .slice A n c, .int .i64 v], .int .i64 s]) ∧ Ow w' w.heap.size A n c xs ∧ n ≤ 5 ∧ -1 ≤ s ∧ s ≤ 5 ∧ Below w.heap.size w w'
end Go.Proofs.Ytgejahkdiciplab
set_option maxRecDepth 8000
namespace Go.Proofs.Ytgejahkdiciplab
open Go.ChangeShapes Go.WideShapes Go.ChangeAt Go.RowKit
/-- what a draw of masks hands back. -/
def DrawnM (w : World) (e : Ending) (w' : World) : Prop := ∃ s A n c xs, e = .returned (.tuple #[.slice A n c, .int .i64 s]) ∧ -1 ≤ s ∧ s ≤ 5 ∧ n ≤ 16 ∧ n ≤ c ∧ c ≤ 9223372036854775807 ∧ Rd w' w'.heap.size A n xs ∧ Hid (smallM xs n) ∧ (∀ b off, A = some ⟨b, off, none⟩ → w.heap.size ≤ b) ∧ Below w.heap.size w w'


theorem rd_tail {w : World} {B b off n : Nat} {xs : List Int} (h : Rd w B (some ⟨b, off, none⟩) n xs) (hn : 1 ≤ n) : Rd w B (some ⟨b, off + 1, none⟩) (n - 1) (xs.drop 1) := by
  refine ⟨by rw [List.length_drop, h.1], fun hn1 => ?_⟩
  obtain ⟨b', off', e, hlt, hc⟩ := h.2 (by omega)
  injection e with e
  injection e with e1 e2 _
  subst e1 e2
  refine ⟨_, off + 1, rfl, hlt, fun k hk => ?_⟩
  have := hc (k + 1) (by omega)
  rw [show nth (xs.drop 1) k = nth xs (k + 1) by simp [nth, List.getD_eq_getElem?_getD]]
  rw [← this]
  congr 2
  omega
theorem mvd_odd {m : List Int} {s : Int} (_hm : mvd m s = true) (h0 : 0 < m.length) : mvd (m.set 0 1) s = false := by
  unfold mvd
  rw [all_not (xs := m.set 0 1) (k := 0) rfl (by rw [List.length_set]; exact h0) (by rw [nth_set h0, if_pos rfl]; unfold mkOk; simp)]
  simp
theorem mvd_less {m : List Int} {s : Int} (hm : mvd m s = true) : mvd (m.drop 1) s = false := by
  obtain ⟨⟨s2, s4⟩, hl, _, _⟩ := mvd_at hm
  have h4 := (sq_bd s2 s4).1
  have : ((m.drop 1).length : Int) ≠ s * s := by rw [List.length_drop]; omega
  unfold mvd
  rw [show (((m.drop 1).length : Int) == s * s) = false by simpa using this]
  simp
end Go.Proofs.Ytgejahkdiciplab
set_option maxRecDepth 8000
namespace Go.Proofs.Ytgejahkdiciplab
open Go.ChangeShapes Go.WideShapes Go.ChangeAt Go.RowKit
/-! the draw of masks with pairs among them. -/
theorem fz_setD {w : World} {A : Option Addr} {n : Nat} {p : Addr} {v : Value} (h : Hid (Fz w A n)) : Hid (Fz (w.setCell p v) A n) := Lib.hid (fun b off e k hk => (World.frozen?_setCell w p _ v).trans (h.out b off e k hk))
theorem rd_setD {w : World} {B b off n : Nat} {xs : List Int} (h : Rd w B (some ⟨b, off, none⟩) n xs) {k : Nat} (hk : k < n) (v : Int) : Rd (w.setCell ⟨b, off + k, none⟩ (.int .i64 v)) B (some ⟨b, off, none⟩) n (xs.set k v) := by
  refine ⟨by rw [List.length_set, h.1], fun hn => ?_⟩
  obtain ⟨b', off', e, hlt, hc⟩ := h.2 hn
  injection e with e
  injection e with e1 e2 _
  subst e1 e2
  refine ⟨_, _, rfl, hlt, fun j hj => ?_⟩
  rw [nth_set (by rw [h.1]; exact hk)]
  by_cases e : k = j
  · subst e; rw [if_pos rfl]; exact World.cell?_setCell_same w _ _ (hc k hk)
  · rw [if_neg e, World.cell?_setCell_other _ _ _ _ (fun e' => by injection e' with _ e2 _; omega)]; exact hc j hj
theorem rd_keepD {w w' : World} {G B n : Nat} {A : Option Addr} {xs : List Int} (h : Rd w B A n xs) (hB : B ≤ w.heap.size) (hg : w.grownBy w' (some G)) (hne : ∀ b off, A = some ⟨b, off, none⟩ → G < b) : Rd w' B A n xs := by
  refine ⟨h.1, fun hn => ?_⟩
  obtain ⟨b, off, e, hlt, hc⟩ := h.2 hn
  exact ⟨b, off, e, hlt, fun k hk => (grown_at hg _ _ (hne b off e) (by omega)).trans (hc k hk)⟩
theorem fz_keepD {w w' : World} {G B n : Nat} {A : Option Addr} {xs : List Int} (hf : Hid (Fz w A n)) (h : Rd w B A n xs) (hB : B ≤ w.heap.size) (hg : w.grownBy w' (some G)) (hne : ∀ b off, A = some ⟨b, off, none⟩ → G < b) : Hid (Fz w' A n) := Lib.hid (fun b off e k hk => by
  obtain ⟨b', off', e', hlt, _⟩ := h.2 (by omega)
  have he := hne b off e
  rw [e] at e'
  injection e' with e'
  injection e' with e1 _ _
  have hb : b < w.heap.size := by omega
  rw [← hf.out b off e k hk]
  unfold World.frozen?
  rw [hg.block b hb (fun e => by injection e with e; omega)])
theorem and_small : ∀ y, y < 13 → ∀ p, p < 31 → (0 ≤ bits .and .i64 (y : Nat) (p : Nat) ∧ bits .and .i64 (y : Nat) (p : Nat) ≤ 12) := by decide +kernel
/-- what the values of a pair's region are. -/
def DnG (B G Pn bb off n c k : Nat) (s m4 t p2 : Int) : Nat → Value → World → Prop
  | 0, v, _ => v = .slice (some ⟨bb, off, none⟩) n c
  | 1, v, _ => v = .int .i64 k
  | 2, v, w => ∃ b, v = .slice (some ⟨b, 0, none⟩) 4 4 ∧ w.heap[b]? = some (.cells #[.int .i64 6, .int .i64 12, .int .i64 10, .int .i64 6] 3) ∧ b ≠ G
  | 3, v, _ => v = .pointer (some ⟨G, 0, none⟩)
  | 4, v, w => ∃ x : Int, v = .int .i64 x ∧ 0 ≤ x ∧ x < 4 ∧ Rdr w B G Pn
  | 5, v, w => ∃ b i, v = .pointer (some ⟨b, i, none⟩) ∧ i < 4 ∧ w.heap[b]? = some (.cells #[.int .i64 6, .int .i64 12, .int .i64 10, .int .i64 6] 3) ∧ b ≠ G
  | 6, v, _ => ∃ y : Nat, v = .int .i64 y ∧ y < 13
  | 7, v, _ => v = .int .i64 s
  | 8, v, _ => v = .int .i64 m4
  | 9, v, _ => v = .int .i64 t
  | 10, v, _ => v = .int .i64 (t + 1)
  | 11, v, _ => v = .int .i64 p2
  | 12, v, _ => v = .int .i64 (p2 - 2)
  | 13, v, _ => ∃ z : Int, v = .int .i64 z ∧ -4 ≤ z ∧ z ≤ 64
  | 14, v, _ => v = .pointer (some ⟨bb, off + k, none⟩)
  | _, _, _ => True
def DnEff (B G : Nat) (i : Nat) (w w' : World) : Prop := w.grownBy w' (some G) ∧ (i ≠ 4 → ∀ p, Rdr w B G p → Rdr w' B G p)
theorem dnG_eff {B G Pn bb off n c k : Nat} {s m4 t p2 : Int} (j i : Nat) (v : Value) (w w' : World) (hji : j ≠ i) (h : DnEff B G i w w') (hg : DnG B G Pn bb off n c k s m4 t p2 j v w) : DnG B G Pn bb off n c k s m4 t p2 j v w' := by
  have hblk : ∀ (b : Nat) (o : Obj), w.heap[b]? = some o → b ≠ G → w'.heap[b]? = some o := fun b o hb h1 => (h.1.block b (Array.getElem?_eq_some_iff.1 hb).1 (fun e => h1 (Option.some.inj e))).trans hb
  match j, hg with
  | 0, hg => exact hg
  | 1, hg => exact hg
  | 2, ⟨b, e, hb, h1⟩ => exact ⟨b, e, hblk b _ hb h1, h1⟩
  | 3, hg => exact hg
  | 4, ⟨x, e, h0, h1, hr⟩ => exact ⟨x, e, h0, h1, h.2 (fun e => hji e.symm) _ hr⟩
  | 5, ⟨b, i', e, hi, hb, h1⟩ => exact ⟨b, i', e, hi, hblk b _ hb h1, h1⟩
  | 6, hg => exact hg
  | 7, hg => exact hg
  | 8, hg => exact hg
  | 9, hg => exact hg
  | 10, hg => exact hg
  | 11, hg => exact hg
  | 12, hg => exact hg
  | 13, hg => exact hg
  | 14, hg => exact hg
  | _ + 15, hg => exact hg
theorem dn_get {w : World} {b i : Nat} (h : w.heap[b]? = some (.cells #[.int .i64 6, .int .i64 12, .int .i64 10, .int .i64 6] 3)) (hi : i < 4) : ∃ y : Nat, w.cell? ⟨b, i, none⟩ = some (.int .i64 y) ∧ y < 13 := by
  rw [cell_of_row w b i _ _ (0, 0) h]
  have : i = 0 ∨ i = 1 ∨ i = 2 ∨ i = 3 := by omega
  rcases this with rfl | rfl | rfl | rfl
  · exact ⟨6, rfl, by omega⟩
  · exact ⟨12, rfl, by omega⟩
  · exact ⟨10, rfl, by omega⟩
  · exact ⟨6, rfl, by omega⟩
set_option maxHeartbeats 4000000 in
theorem draw_DrawNarrowPairs (A : Option Addr) (n c : Nat) (bs : List Int) (w : World) (h : Code_ w A n c bs) : Calls Try.prog 24 #[.slice A n c] w (DrawnM w) := by
  go_enter Try.func24, Try.ntmps24
  go_wp2_with fail
  refine (specOpen A c n bs w h.1 h.2.1 h.2.2).mono ?_
  rintro e w1 ⟨rfl, hr, hb⟩
  go_wp2_with fail
  refine (l20Masks_any w.heap.size w.heap.size 0 12 w1 hr (Nat.le_refl _) (by omega) (by omega)).mono ?_
  rintro e w2 ⟨s, A2, n2, c2, xs, rfl, s1, s5, n16, hnc, hcm, hrd, hsm, hlo, hr2, hg, hfz⟩
  have hb2 : Below w.heap.size w w2 := hb.grown hg hb.size (fun k hk => by injection hk with hk; omega)
  have hw1 : w.heap.size < w1.heap.size := hr.lt
  have hlo2 : ∀ b off, A2 = some ⟨b, off, none⟩ → w.heap.size < b := fun b off e => by have := hlo b off e; omega
  have Hlo := Lib.hid hlo2
  have hsz2 := hb2.size
  have hm4 : ∃ m4 t p2 : Int, (m4 = min 4 s ∧ t = max 1 m4) ∧ (1 ≤ t ∧ t ≤ 4 ∧ ((t = 1 ∧ p2 = 4) ∨ (t = 2 ∧ p2 = 8) ∨ (t = 3 ∧ p2 = 16) ∨ (t = 4 ∧ p2 = 32))) := by
    refine ⟨min 4 s, max 1 (min 4 s), (if max 1 (min 4 s) = 1 then 4 else if max 1 (min 4 s) = 2 then 8 else if max 1 (min 4 s) = 3 then 16 else 32), ⟨rfl, rfl⟩, by omega, by omega, ?_⟩
    have : max 1 (min 4 s) = 1 ∨ max 1 (min 4 s) = 2 ∨ max 1 (min 4 s) = 3 ∨ max 1 (min 4 s) = 4 := by omega
    rcases this with e | e | e | e <;> rw [e] <;> simp
  obtain ⟨m4, t, p2, hmt, ht1, ht4, htp⟩ := hm4
  have Hmt := Lib.hid hmt
  have Htp := Lib.hid htp
  have hss : s = -1 ∨ s = 0 ∨ s = 1 ∨ s = 2 ∨ s = 3 ∨ s = 4 ∨ s = 5 := by omega
  have Hss := Lib.hid hss
  clear hlo hmt htp hss hr hb hg
  go_wp2
  go_loopw [7] (fun i wr => ∃ (k : Nat) (ys : List Int), k ≤ n2 ∧ i = .int .i64 k ∧ Hid (smallM ys n2) ∧ Rd wr w2.heap.size A2 n2 ys ∧ Hid (Fz wr A2 n2) ∧ Rdr wr w.heap.size w.heap.size (900 + 2 * k) ∧ Below w.heap.size w wr ∧ w2.heap.size ≤ wr.heap.size) (fun i _ => n2 - (intOf i).toNat)
  case atStart => exact ⟨0, xs, Nat.zero_le _, rfl, hsm, hrd, hfz, hr2, hb2, Nat.le_refl _⟩
  case round =>
    clear hrd hfz hr2 hb2 hsm
    obtain ⟨k, ys, hk, rfl, hsm, hry, hfz, hrr, hbw, hsz⟩ := hrel
    by_cases hlt : k < n2
    · have hltI : (k : Int) < (n2 : Int) := by omega
      go_wp2_with fail
      refine (pick_any w.heap.size w.heap.size (900 + 2 * k) 3 wr hrr (Nat.le_refl _) (by omega)).mono ?_
      rintro e w3 ⟨pv, rfl, ⟨p0, p1, _⟩, hr3, hg3⟩
      have hb3 : Below w.heap.size w w3 := hbw.grown hg3 hbw.size (fun k hk => by injection hk with hk; omega)
      have hry3 := rd_keepD hry hsz hg3 Hlo.out
      have hfz3 := fz_keepD hfz hry hsz hg3 Hlo.out
      have hs3 := hg3.size
      clear hry hfz hrr hbw hg3
      by_cases hp : pv = 0
      · subst hp
        obtain ⟨bb, off, rfl, hbB, hck⟩ := hry3.at_ hlt
        have hwb : w.heap.size < bb := Hlo.out bb off rfl
        have Hry := Lib.hid hry3
        have hbb3 : bb < w3.heap.size := by omega
        have Hr3 := Lib.hid hr3
        clear hck
        go_wp2
        refine wp_region_dsS [24, 25, 26, 27, 28, 29, 30, 31, 32, 33, 34, 35, 36, 37, 38] (DnG w.heap.size w.heap.size (900 + 2 * (k + 1)) bb off n2 c2 k s m4 t p2) (fun w1 w2 => w1.grownBy w2 (some w.heap.size)) (DnEff w.heap.size w.heap.size) (fun j w' => j = 4 → Rdr w' w.heap.size w.heap.size (900 + 2 * k + 1)) (fun _ _ => Hr3.out) (grown_drew (World.grownBy.refl w3 _)) (fun _ _ h h' => h.trans h') (by kernel_rfl) (by kernel_rfl) (by simp) (fun j i v w w' hji _ h hg => dnG_eff j i v w w' hji h hg) ?step ?last
        case step =>
          intro i o a w' K D hD hcl2 hi hoo hrel hfr hpre hC hK
          have e4 : a.eval (.tmp 4) = .pointer (some ⟨w.heap.size, 0, none⟩) := hfr 4 (by simp)
          have e5 : a.eval (.tmp 5) = .slice (some ⟨bb, off, none⟩) n2 c2 := hfr 5 (by simp)
          have e6 : a.eval (.tmp 6) = .int .i64 s := hfr 6 (by simp)
          have e7 : a.eval (.tmp 7) = .int .i64 k := hfr 7 (by simp)
          have hsW : w.heap.size ≤ w'.heap.size := by have := hrel.size; omega
          have hGW : w.heap.size < w'.heap.size := by have := hrel.size; omega
          have hkeep : ∀ (v : Value), DnG w.heap.size w.heap.size (900 + 2 * (k + 1)) bb off n2 c2 k s m4 t p2 i v w' → K (a.put o.dst v) w' := fun v hv => hK v w' (World.grownBy.refl _ _) ⟨World.grownBy.refl _ _, fun _ _ h => h⟩ (fun j _ _ h => h) hv
          have hi15 : i < 15 := hi
          have : i = 0 ∨ i = 1 ∨ i = 2 ∨ i = 3 ∨ i = 4 ∨ i = 5 ∨ i = 6 ∨ i = 7 ∨ i = 8 ∨ i = 9 ∨ i = 10 ∨ i = 11 ∨ i = 12 ∨ i = 13 ∨ i = 14 := by omega
          rcases this with rfl | rfl | rfl | rfl | rfl | rfl | rfl | rfl | rfl | rfl | rfl | rfl | rfl | rfl | rfl
          all_goals
            simp only [List.getElem?_toArray, List.getElem?_cons_zero, List.getElem?_cons_succ, Option.some.injEq] at hoo
            subst hoo
          · refine oper_val (v := .slice (some ⟨bb, off, none⟩) n2 c2) (w' := w') ?_ (hkeep _ rfl)
            unfold execOp
            simp only [e5]
            go_simp
          · refine oper_val (v := .int .i64 k) (w' := w') ?_ (hkeep _ rfl)
            unfold execOp
            simp only [e7]
            go_simp
          · have hgA : w'.grownBy (w'.alloc (.cells #[.int .i64 6, .int .i64 12, .int .i64 10, .int .i64 6] 3)) (some w.heap.size) := only_alloc (World.grownBy.refl _ _) _
            refine oper_val (v := .slice (some ⟨w'.heap.size, 0, none⟩) 4 4) (w' := w'.alloc (.cells #[.int .i64 6, .int .i64 12, .int .i64 10, .int .i64 6] 3)) ?_ (hK _ _ hgA ⟨hgA, fun _ _ h => h.alloc hsW _⟩ (fun j _ _ h e => (h e).alloc hsW _) ⟨w'.heap.size, rfl, heap_alloc_new w' _, by omega⟩)
            unfold execOp
            go_simp
          · refine oper_val (v := .pointer (some ⟨w.heap.size, 0, none⟩)) (w' := w') ?_ (hkeep _ rfl)
            unfold execOp
            simp only [e4]
            go_simp
          · have p3 : a.eval (.tmp 27) = .pointer (some ⟨w.heap.size, 0, none⟩) := hpre ⟨3, .data⟩ (by simp) rfl
            refine oper_call (f := 50) (args := #[.pointer (some ⟨w.heap.size, 0, none⟩), .int .i64 4]) ?_ (pick_any w.heap.size w.heap.size (900 + 2 * k + 1) 4 w' (hC rfl) (Nat.le_refl _) (by omega)) ?_
            · unfold execOp
              go_simp
              exact by simpa [Act.eval] using p3
            · rintro e w8 ⟨v, rfl, ⟨v0, v1, _⟩, hr8, hg8⟩
              exact ⟨_, rfl, hK _ w8 hg8 ⟨hg8, fun e => absurd rfl e⟩ (fun j hj _ h e => absurd e hj) ⟨v, rfl, v0, v1 (by omega), hr8.more (by omega)⟩⟩
          · obtain ⟨b, p2', hb, h1⟩ : ∃ b, a.eval (.tmp 26) = .slice (some ⟨b, 0, none⟩) 4 4 ∧ w'.heap[b]? = some (.cells #[.int .i64 6, .int .i64 12, .int .i64 10, .int .i64 6] 3) ∧ b ≠ w.heap.size := hpre ⟨2, .data⟩ (by simp) rfl
            obtain ⟨x, p4, v0, v1, _⟩ : ∃ x : Int, a.eval (.tmp 28) = .int .i64 x ∧ 0 ≤ x ∧ x < 4 ∧ _ := hpre ⟨4, .data⟩ (by simp) rfl
            have hk4 : x = 0 ∨ x = 1 ∨ x = 2 ∨ x = 3 := by omega
            rcases hk4 with rfl | rfl | rfl | rfl
            · refine oper_val (v := .pointer (some ⟨b, 0, none⟩)) (w' := w') ?_ (hkeep _ ⟨b, 0, rfl, by omega, hb, h1⟩)
              unfold execOp
              simp only [p2', p4]
              go_simp
            · refine oper_val (v := .pointer (some ⟨b, 1, none⟩)) (w' := w') ?_ (hkeep _ ⟨b, 1, rfl, by omega, hb, h1⟩)
              unfold execOp
              simp only [p2', p4]
              go_simp
            · refine oper_val (v := .pointer (some ⟨b, 2, none⟩)) (w' := w') ?_ (hkeep _ ⟨b, 2, rfl, by omega, hb, h1⟩)
              unfold execOp
              simp only [p2', p4]
              go_simp
            · refine oper_val (v := .pointer (some ⟨b, 3, none⟩)) (w' := w') ?_ (hkeep _ ⟨b, 3, rfl, by omega, hb, h1⟩)
              unfold execOp
              simp only [p2', p4]
              go_simp
          · obtain ⟨b, i, p5, hi4, hb, h1⟩ : ∃ b i, a.eval (.tmp 29) = .pointer (some ⟨b, i, none⟩) ∧ i < 4 ∧ w'.heap[b]? = some (.cells #[.int .i64 6, .int .i64 12, .int .i64 10, .int .i64 6] 3) ∧ b ≠ w.heap.size := hpre ⟨5, .data⟩ (by simp) rfl
            obtain ⟨y, hy, hy2⟩ := dn_get hb hi4
            refine oper_val (v := .int .i64 y) (w' := w') ?_ (hkeep _ ⟨y, rfl, hy2⟩)
            unfold execOp
            simp only [p5]
            go_simp
          · refine oper_val (v := .int .i64 s) (w' := w') ?_ (hkeep _ rfl)
            unfold execOp
            simp only [e6]
            go_simp
          · have p7 : a.eval (.tmp 31) = .int .i64 s := hpre ⟨7, .data⟩ (by simp) rfl
            refine oper_val (v := .int .i64 m4) (w' := w') ?_ (hkeep _ rfl)
            have p7' : a.tmps[31]?.getD undef = .int .i64 s := by simpa [Act.eval] using p7
            have hm := Hmt.out.1
            rcases Hss.out with rfl | rfl | rfl | rfl | rfl | rfl | rfl
            all_goals
              subst hm
              unfold execOp
              go_simp <;> omega
          · have p8 : a.eval (.tmp 32) = .int .i64 m4 := hpre ⟨8, .data⟩ (by simp) rfl
            refine oper_val (v := .int .i64 t) (w' := w') ?_ (hkeep _ rfl)
            have p8' : a.tmps[32]?.getD undef = .int .i64 m4 := by simpa [Act.eval] using p8
            have hm := Hmt.out.1
            have ht := Hmt.out.2
            rcases Hss.out with rfl | rfl | rfl | rfl | rfl | rfl | rfl
            all_goals
              subst hm
              subst ht
              unfold execOp
              go_simp <;> omega
          · have p9 : a.eval (.tmp 33) = .int .i64 t := hpre ⟨9, .data⟩ (by simp) rfl
            refine oper_val (v := .int .i64 (t + 1)) (w' := w') ?_ (hkeep _ rfl)
            unfold execOp
            simp only [p9]
            go_simp
            exact IntWalk.i64_in _ (by omega)
          · have p10 : a.eval (.tmp 34) = .int .i64 (t + 1) := hpre ⟨10, .data⟩ (by simp) rfl
            refine oper_val (v := .int .i64 p2) (w' := w') ?_ (hkeep _ rfl)
            rcases Htp.out with ⟨rfl, rfl⟩ | ⟨rfl, rfl⟩ | ⟨rfl, rfl⟩ | ⟨rfl, rfl⟩
            all_goals
              unfold execOp
              simp only [p10]
              go_simp <;> exact IntWalk.i64_in _ (by omega)
          · have p11 : a.eval (.tmp 35) = .int .i64 p2 := hpre ⟨11, .data⟩ (by simp) rfl
            refine oper_val (v := .int .i64 (p2 - 2)) (w' := w') ?_ (hkeep _ rfl)
            have := Htp.out
            unfold execOp
            simp only [p11]
            go_simp
            exact IntWalk.i64_in _ (by omega)
          · obtain ⟨y, p6, hy⟩ : ∃ y : Nat, a.eval (.tmp 30) = .int .i64 y ∧ y < 13 := hpre ⟨6, .data⟩ (by simp) rfl
            have p12 : a.eval (.tmp 36) = .int .i64 (p2 - 2) := hpre ⟨12, .data⟩ (by simp) rfl
            obtain ⟨p, hp, hp31⟩ : ∃ p : Nat, p2 - 2 = (p : Int) ∧ p < 31 := ⟨(p2 - 2).toNat, by have := Htp.out; omega, by have := Htp.out; omega⟩
            rw [hp] at p12
            obtain ⟨a0, a1⟩ := and_small y hy p hp31
            refine oper_val (v := .int .i64 (bits .and .i64 (y : Nat) (p : Nat))) (w' := w') ?_ (hkeep _ ⟨_, rfl, by omega, by omega⟩)
            unfold execOp
            simp only [p6, p12]
            go_simp
          · have p0 : a.eval (.tmp 24) = .slice (some ⟨bb, off, none⟩) n2 c2 := hpre ⟨0, .data⟩ (by simp) rfl
            have p1 : a.eval (.tmp 25) = .int .i64 k := hpre ⟨1, .data⟩ (by simp) rfl
            refine oper_val (v := .pointer (some ⟨bb, off + k, none⟩)) (w' := w') ?_ (hkeep _ rfl)
            unfold execOp
            simp only [p0, p1]
            go_simp
        case last =>
          intro o a w5 hoo hrel hdef htm hfr hpre
          simp only [List.length_cons, List.length_nil, Nat.reduceAdd, List.getElem?_toArray, List.getElem?_cons_zero, List.getElem?_cons_succ, Option.some.injEq] at hoo
          subst hoo
          have g0 : a.tmps.getD 24 undef = .slice (some ⟨bb, off, none⟩) n2 c2 := hpre 0 (by simp)
          have g1 : a.tmps.getD 25 undef = .int .i64 k := hpre 1 (by simp)
          obtain ⟨b2, g2, _⟩ : ∃ b, a.tmps.getD 26 undef = .slice (some ⟨b, 0, none⟩) 4 4 ∧ w5.heap[b]? = some (.cells #[.int .i64 6, .int .i64 12, .int .i64 10, .int .i64 6] 3) ∧ b ≠ w.heap.size := hpre 2 (by simp)
          have g3 : a.tmps.getD 27 undef = .pointer (some ⟨w.heap.size, 0, none⟩) := hpre 3 (by simp)
          obtain ⟨x4, g4, _, _, hr5⟩ : ∃ x : Int, a.tmps.getD 28 undef = .int .i64 x ∧ 0 ≤ x ∧ x < 4 ∧ Rdr w5 w.heap.size w.heap.size (900 + 2 * (k + 1)) := hpre 4 (by simp)
          obtain ⟨b5, i5, g5, _⟩ : ∃ b i, a.tmps.getD 29 undef = .pointer (some ⟨b, i, none⟩) ∧ i < 4 ∧ w5.heap[b]? = some (.cells #[.int .i64 6, .int .i64 12, .int .i64 10, .int .i64 6] 3) ∧ b ≠ w.heap.size := hpre 5 (by simp)
          obtain ⟨y6, g6, _⟩ : ∃ y : Nat, a.tmps.getD 30 undef = .int .i64 y ∧ y < 13 := hpre 6 (by simp)
          have g7 : a.tmps.getD 31 undef = .int .i64 s := hpre 7 (by simp)
          have g8 : a.tmps.getD 32 undef = .int .i64 m4 := hpre 8 (by simp)
          have g9 : a.tmps.getD 33 undef = .int .i64 t := hpre 9 (by simp)
          have g10 : a.tmps.getD 34 undef = .int .i64 (t + 1) := hpre 10 (by simp)
          have g11 : a.tmps.getD 35 undef = .int .i64 p2 := hpre 11 (by simp)
          have g12 : a.tmps.getD 36 undef = .int .i64 (p2 - 2) := hpre 12 (by simp)
          obtain ⟨z, g13, hz⟩ : ∃ z : Int, a.tmps.getD 37 undef = .int .i64 z ∧ -4 ≤ z ∧ z ≤ 64 := hpre 13 (by simp)
          have g14 : a.tmps.getD 38 undef = .pointer (some ⟨bb, off + k, none⟩) := hpre 14 (by simp)
          have h37 : a.eval (.tmp 37) = .int .i64 z := g13
          have h38 : a.eval (.tmp 38) = .pointer (some ⟨bb, off + k, none⟩) := g14
          have hry5 := rd_keepD Hry.out (by omega) hrel Hlo.out
          have hfz5 := fz_keepD hfz3 Hry.out (by omega) hrel Hlo.out
          obtain ⟨bb', off', hbe, _, hc5⟩ := hry5.at_ hlt
          cases hbe
          have hf5 := hfz5.out bb off rfl k hlt
          have hb5 : Below w.heap.size w w5 := hb3.grown hrel hb3.size (fun k hk => by injection hk with hk; omega)
          have hset := Lib.hid (rd_setD hry5 hlt z)
          have hfs := fz_setD (p := (⟨bb, off + k, none⟩ : Addr)) (v := (.int .i64 z)) hfz5
          have hrs := Lib.hid (hr5.set_ (q := (⟨bb, off + k, none⟩ : Addr)) (Nat.le_of_lt hwb) (by show bb ≠ _; omega) (.int .i64 z))
          have hbs := Lib.hid (Below.setCell (p := (⟨bb, off + k, none⟩ : Addr)) hb5 (Nat.le_of_lt hwb) (.int .i64 z))
          have hss5 : w2.heap.size ≤ (w5.setCell ⟨bb, off + k, none⟩ (.int .i64 z)).heap.size := by have := hrel.size; simp [World.setCell]; omega
          have hsm5 : Hid (smallM (ys.set k z) n2) := Lib.hid (smallM_set hsm.out hz)
          refine ⟨w5.setCell ⟨bb, off + k, none⟩ (.int .i64 z), ?_, ?_⟩
          · unfold execOp
            simp only [h37, h38]
            go_simp
          · have key := htm
            simp only [List.foldl_cons, List.foldl_nil, g0, g1, g2, g3, g4, g5, g6, g7, g8, g9, g10, g11, g12, g13, g14, List.setIfInBounds_toArray, List.set_cons_succ, List.set_cons_zero] at key
            clear htm hfr hpre g0 g1 g2 g3 g4 g5 g6 g7 g8 g9 g10 g11 g12 g13 g14 h37 h38
            obtain ⟨tm, df⟩ := a
            dsimp only at key hdef
            subst key hdef
            clear hc5 hf5 hry5 hfz5 hr5 hb5
            go_wp2
            go_roundw
            case rel => exact ⟨k + 1, ys.set k z, by omega, by go_num, hsm5, hset.out, hfs, hrs.out, hbs.out, hss5⟩
            case measure => simp [intOf]; omega
      · have hpb : (pv == 0) = false := by simpa using hp
        go_wp2
        go_roundw
        case rel => exact ⟨k + 1, ys, by omega, by go_num, hsm, hry3, hfz3, hr3.more (by omega), hb3, by omega⟩
        case measure => simp [intOf]; omega
    · obtain rfl : k = n2 := by omega
      go_wp2
      go_ret2
      exact ⟨s, A2, _, c2, ys, rfl, s1, s5, n16, hnc, hcm, hry.more hsz, hsm, fun b off e => Nat.le_of_lt (Hlo.out b off e), hbw⟩
theorem draw_DrawPairsIn (A : Option Addr) (n c : Nat) (bs : List Int) (w : World) (h : Code_ w A n c bs) : Calls Try.prog 32 #[.slice A n c] w fun e w' => ∃ s A' n' c' xs l, e = .returned (.tuple #[.slice A' n' c', .int .i64 s, .int .i64 l]) ∧ (-1 ≤ l ∧ l ≤ 8) ∧ DrawnM w (.returned (.tuple #[.slice A' n' c', .int .i64 s])) w' ∧ (Rd w' w'.heap.size A' n' xs ∧ Hid (smallM xs n') ∧ n' ≤ 16 ∧ -1 ≤ s ∧ s ≤ 5 ∧ Below w.heap.size w w') := by
  have hn := h.2.1
  go_enter Try.func32, Try.ntmps32
  go_wp2_with fail
  refine (draw_DrawNarrowPairs A n c bs w h).mono ?_
  rintro e w1 hd
  obtain ⟨s, A1, n1, c1, xs, rfl, s1, s5, n16, hnc, hcm, hrd, hsm, hlo, hb1⟩ := id hd
  have e1 : (n : Int).tmod 10 = (n : Int) % 10 := Int.tmod_eq_emod_of_nonneg (by omega)
  have e2 : 0 ≤ (n : Int) % 10 := Int.emod_nonneg _ (by decide)
  have e3 : (n : Int) % 10 < 10 := Int.emod_lt_of_pos _ (by decide)
  obtain ⟨r, hr⟩ : ∃ r, (n : Int) % 10 = r := ⟨_, rfl⟩
  rw [hr] at e1 e2 e3
  clear hr
  go_wp2
  go_ret3
  exact ⟨s, A1, n1, c1, xs, r - 1, rfl, ⟨by omega, by omega⟩, hd, hrd, hsm, n16, s1, s5, hb1⟩
end Go.Proofs.Ytgejahkdiciplab
