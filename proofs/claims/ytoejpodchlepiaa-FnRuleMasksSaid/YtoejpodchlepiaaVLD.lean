import Derived.Test.YtoejpodchlepiaaDrawH
import Derived.Test.YtoejpodchlepiaaC1
import Derived.Test.YtoejpodchlepiaaVLC
set_option maxRecDepth 8000
namespace Go.Proofs.Ytoejpodchlepiaa
open Go.ChangeShapes Go.WideShapes Go.ChangeAt Go.RowKit

/-- the code that a law of draws takes. -/
def Code_ (w : World) (A : Option Addr) (n c : Nat) (bs : List Int) : Prop := RdB w w.heap.size A n bs ∧ n ≤ c ∧ c ≤ 9223372036854775807
theorem code_of_row {w : World} {a : Option Addr} {len cap : Nat} {zs : List Int} (h : IsRow .u8 w a len cap zs) : Code_ w a len cap (zs.take len) := by
  refine ⟨rdB_of_row h, ?_⟩
  rcases h with ⟨rfl, rfl, rfl, rfl⟩ | ⟨x, rfl, hl, hm, _⟩
  · omega
  · simp only [maxLen] at hm; omega






theorem alive_any (w : World) : Calls Try.prog 24 #[] w fun e w' => e = .returned (.bool true) ∧ Below w.heap.size w w' := by
  have hrd : Rd (w.alloc (.cells #[.int .i64 1, .int .i64 0, .int .i64 0, .int .i64 2] 3)) (w.heap.size + 1) (some ⟨w.heap.size, 0, none⟩) 4 [1, 0, 0, 2] := by
    refine ⟨rfl, fun _ => ⟨w.heap.size, 0, rfl, by omega, fun k hk => ?_⟩⟩
    rw [cell_of_row _ _ (0 + k) _ _ _ (heap_alloc_new w _)]
    have : k = 0 ∨ k = 1 ∨ k = 2 ∨ k = 3 := by omega
    rcases this with rfl | rfl | rfl | rfl <;> rfl
  have hgf := Lib.hid (show gf [1, 0, 0, 2] 2 = 2 by decide)
  go_enter Try.func24, Try.ntmps24
  go_wp2_with fail
  refine (implGridFilled _ _ _ _ _ _ _ hrd (by simp) (by omega)).mono ?_
  rintro e w1 ⟨rfl, hb⟩
  rw [hgf.out]
  go_wp2
  go_ret
  exact ⟨rfl, box_below hb⟩
end Go.Proofs.Ytoejpodchlepiaa
set_option maxRecDepth 8000
namespace Go.Proofs.Ytoejpodchlepiaa
open Go.ChangeShapes Go.WideShapes Go.ChangeAt Go.RowKit

theorem RdB.alloc_ {w : World} {A : Option Addr} {n : Nat} {bs : List Int} (h : RdB w w.heap.size A n bs) (o : Obj) : RdB (w.alloc o) (w.alloc o).heap.size A n bs := by
  have h' := h.below ((Below.refl w.heap.size w).alloc (Nat.le_refl _) o)
  refine ⟨h'.1, fun hn => ?_, h'.2.2⟩
  obtain ⟨b, off, e, hb, hc⟩ := h'.2.1 hn
  exact ⟨b, off, e, by rw [World.size_alloc]; omega, hc⟩
theorem results_ct {P : Program} {fn : Func} {p q : Tmp} {ty : TypeId} (h : fn.results = #[.cell p ty, .tmp q]) (tmps : Array Value) (w : World) (g : Nat) (t : TypeId) (cs : Array Value) (fr : Nat × Nat) (d : TypeDesc) (b : Value)
    (hp : tmps.getD p undef = .pointer (some ⟨g, 0, none⟩)) (hq : tmps.getD q undef = b) (hg : w.heap[g]? = some (.cells cs t fr))
    (hu : P.underlying ty = some d) (hd : (match d with | .struct _ | .array _ _ => true | _ => false) = true) (hi : (P.info? ty).map (·.size) = some cs.size) :
    (results fn tmps).run P w = .ok (.tuple #[.agg cs, b]) w := by
  have hp' : tmps[p]?.getD undef = .pointer (some ⟨g, 0, none⟩) := by simpa using hp
  have hq' : tmps[q]?.getD undef = b := by simpa using hq
  simp [results, h, hp', hq', asAddr, run_loadVar_row w g t ty cs fr d hg hu hd hi]
def DrawnCase (w : World) (e : Ending) (w' : World) : Prop :=
  ∃ (k : Int) (A : Option Addr) (n c : Nat) (v : Int) (xs : List Int) (Ag : Option Addr) (ng cg : Nat) (g : List Int) (s : Int), e = .returned (.tuple #[.agg #[.int .i64 k, .slice A n c, .int .i64 v], .slice Ag ng cg, .int .i64 s]) ∧ Ow w' w.heap.size A n c xs ∧ n ≤ 5 ∧ Ow w' w.heap.size Ag ng cg g ∧ ng ≤ 16 ∧ 2 ≤ s ∧ s ≤ 4 ∧ Below w.heap.size w w'
set_option maxHeartbeats 2000000 in
theorem drawCase_end {w w0 w1 w2 w3 : World} {e : Ending} {P : Nat} (hW : w0 = w.alloc (.cells #[.int .i64 0, .slice none 0 0, .int .i64 0] 25)) (hb1 : Below w0.heap.size w0 w1) (hg2 : w1.grownBy w2 (some w0.heap.size)) (h : DrewCase w2 w0.heap.size w0.heap.size P e w3) :
    ∃ (k : Int) (A : Option Addr) (n c : Nat) (v : Int) (_xs : List Int) (Ag : Option Addr) (ng cg : Nat) (_g : List Int) (s : Int), e = .returned (.tuple #[.agg #[.int .i64 k, .slice A n c, .int .i64 v], .slice Ag ng cg, .int .i64 s]) ∧ w3.heap[w.heap.size]? = some (.cells #[.int .i64 0, .slice none 0 0, .int .i64 0] 25) ∧
      DrawnCase w (.returned (.tuple #[.agg #[.int .i64 k, .slice A n c, .int .i64 v], .slice Ag ng cg, .int .i64 s])) (w3.setRow w.heap.size #[.int .i64 k, .slice A n c, .int .i64 v]) := by
  obtain ⟨k, A, n, c, v, xs, Ag, ng, cg, g, s, rfl, ho, hn, hog, hng, h2, h4, _, hg3⟩ := h
  have hRw : w.heap.size < w0.heap.size := by rw [hW]; simp
  have hb00 : Below w.heap.size w w0 := by rw [hW]; exact (Below.refl _ _).alloc (Nat.le_refl _) _
  have hR0 : w0.heap[w.heap.size]? = some (.cells #[.int .i64 0, .slice none 0 0, .int .i64 0] 25) := by rw [hW]; exact heap_alloc_new w _
  have hR1 := (hb1.block w.heap.size hRw).trans hR0
  have hg13 := hg2.trans hg3
  have hR3 := (hg13.block w.heap.size (Nat.lt_of_lt_of_le hRw hb1.size) (fun e => by injection e with e; omega)).trans hR1
  have hlo : w.heap.size < w2.heap.size := Nat.lt_of_lt_of_le hRw (Nat.le_trans hb1.size hg2.size)
  have hb13 : Below w.heap.size w w3 := (hb00.trans (hb1.mono hb00.size)).trans ⟨hg13.os, hg13.tape, hg13.output, hg13.size, fun j hj => hg13.block j (Nat.lt_of_lt_of_le hj (Nat.le_trans hb00.size hb1.size)) (fun e => by injection e with e; omega)⟩
  refine ⟨k, A, n, c, v, xs, Ag, ng, cg, g, s, rfl, hR3, k, A, n, c, v, xs, Ag, ng, cg, g, s, rfl, (ho.row5 (fun b hb => ?_)).mono (Nat.le_of_lt hlo), hn, (hog.row5 (fun b hb => ?_)).mono (Nat.le_of_lt hlo), hng, h2, h4, setRow_below5 hb13 (Nat.le_refl _)⟩
  · have := ho.own_lo b hb
    omega
  · have := hog.own_lo b hb
    omega
set_option maxHeartbeats 2000000 in
theorem drawRuleHolds (A : Option Addr) (n c : Nat) (bs : List Int) (w : World) (h : Code_ w A n c bs) :
    Calls Try.prog 19 #[.slice A n c] w (DrawnCase w) := by
  have Hone := Lib.hid rule_one
  have Hi := Lib.hid rule_info
  have h1 := h.1.alloc_ (.cells #[.int .i64 0, .slice none 0 0, .int .i64 0] 25)
  obtain ⟨w0, hW⟩ : ∃ w0, w0 = w.alloc (.cells #[.int .i64 0, .slice none 0 0, .int .i64 0] 25) := ⟨_, rfl⟩
  rw [← hW] at h1
  have HW := Lib.hid hW
  clear hW
  go_enter Try.func19, Try.ntmps19
  go_wp2_with fail
  rw [← HW.out]
  refine (specOpen A c n bs w0 h1 h.2.1 h.2.2).mono ?_
  rintro e w1 ⟨rfl, hr, hb⟩
  go_wp2_with fail
  refine (pick_any _ _ 0 3 _ hr (Nat.le_refl _) (by omega)).mono ?_
  rintro e w2 ⟨v2, rfl, _, hr2, hg2⟩
  go_wp2_with fail
  refine (l20Case_any _ _ (0 + 1) _ _ hr2 (Nat.le_refl _) (by omega)).mono ?_
  intro e w3 hp
  obtain ⟨k, A1, n1, c1, v1, xs1, Ag, ng, cg, g, s, rfl, hR, hd⟩ := drawCase_end HW.out hb hg2 hp
  go_wp2_with (refine wpList_store_row rfl 25 _ _ rfl w.heap.size #[.int .i64 k, .slice A1 n1 c1, .int .i64 v1] rfl rfl 25 #[.int .i64 0, .slice none 0 0, .int .i64 0] hR (Hi.out _ _ _ _ _) rfl (Hone.out _ _ _ _ _) ?_)
  exact bodyPost_ret (v := .tuple #[.agg #[.int .i64 k, .slice A1 n1 c1, .int .i64 v1], .slice Ag ng cg, .int .i64 s]) (results_c2 (by rfl) _ _ w.heap.size 25 _ (0, 0) _ _ _ rfl rfl rfl (setRow_heap _ _ _ _ _ _ hR) Try.underlying25 rfl (Hi.out _ _ _ _ _)) rfl hd
set_option maxHeartbeats 2000000 in
theorem drawRulePossible (A : Option Addr) (n c : Nat) (bs : List Int) (w : World) (h : Code_ w A n c bs) :
    Calls Try.prog 27 #[.slice A n c] w (DrawnCase w) := by
  have Hone := Lib.hid rule_one
  have Hi := Lib.hid rule_info
  have h1 := h.1.alloc_ (.cells #[.int .i64 0, .slice none 0 0, .int .i64 0] 25)
  obtain ⟨w0, hW⟩ : ∃ w0, w0 = w.alloc (.cells #[.int .i64 0, .slice none 0 0, .int .i64 0] 25) := ⟨_, rfl⟩
  rw [← hW] at h1
  have HW := Lib.hid hW
  clear hW
  go_enter Try.func27, Try.ntmps27
  go_wp2_with fail
  rw [← HW.out]
  refine (specOpen A c n bs w0 h1 h.2.1 h.2.2).mono ?_
  rintro e w1 ⟨rfl, hr, hb⟩
  go_wp2_with fail
  refine (l20Case_any _ _ 0 _ _ hr (Nat.le_refl _) (by omega)).mono ?_
  intro e w3 hp
  obtain ⟨k, A1, n1, c1, v1, xs1, Ag, ng, cg, g, s, rfl, hR, hd⟩ := drawCase_end HW.out hb (World.grownBy.refl _ _) hp
  go_wp2_with (refine wpList_store_row rfl 25 _ _ rfl w.heap.size #[.int .i64 k, .slice A1 n1 c1, .int .i64 v1] rfl rfl 25 #[.int .i64 0, .slice none 0 0, .int .i64 0] hR (Hi.out _ _ _ _ _) rfl (Hone.out _ _ _ _ _) ?_)
  exact bodyPost_ret (v := .tuple #[.agg #[.int .i64 k, .slice A1 n1 c1, .int .i64 v1], .slice Ag ng cg, .int .i64 s]) (results_c2 (by rfl) _ _ w.heap.size 25 _ (0, 0) _ _ _ rfl rfl rfl (setRow_heap _ _ _ _ _ _ hR) Try.underlying25 rfl (Hi.out _ _ _ _ _)) rfl hd
end Go.Proofs.Ytoejpodchlepiaa
