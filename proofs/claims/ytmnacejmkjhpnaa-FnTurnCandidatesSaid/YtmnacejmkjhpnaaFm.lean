import Derived.Test.YtmnacejmkjhpnaaIM
namespace Go.Proofs.Ytmnacejmkjhpnaa
open Go.ChangeShapes Go.WideShapes Go.ChangeAt Go.RowKit

def agree (ys xs : List Int) (p : Nat) : Prop := ∀ j, j < p → nth ys j = nth xs j
theorem lmask_agree {xs ys : List Int} {s : Nat} : ∀ k, agree ys xs k → lmask ys s k = lmask xs s k ∧ twice ys s k = twice xs s k := by
  intro k
  induction k with
  | zero => intro _; exact ⟨rfl, rfl⟩
  | succ k ih =>
    intro h
    obtain ⟨h1, h2⟩ := ih (fun j hj => h j (by omega))
    have h3 := h k (by omega)
    simp only [lmask, twice, h1, h2, h3]
    exact ⟨trivial, trivial⟩
theorem twice_tail {xs : List Int} {s p : Nat} : ∀ k, p ≤ k → (∀ j, p ≤ j → j < k → nth xs j = 0) → twice xs s k = twice xs s p := by
  intro k
  induction k with
  | zero => intro h _; have : p = 0 := by omega
            subst this; rfl
  | succ k ih =>
    intro h hz
    by_cases e : p = k + 1
    · subst e; rfl
    · rw [(lmask_z (s := s) (hz k (by omega) (by omega))).2]
      exact ih (by omega) (fun j h1 h2 => hz j h1 (by omega))
/-- all values from p on are 0. -/
def zfrom (xs : List Int) (p n : Nat) : Prop := ∀ j, p ≤ j → j < n → nth xs j = 0
theorem zfrom_set {xs : List Int} {p n : Nat} {v : Int} (h : zfrom xs p n) (hl : xs.length = n) (hp : p < n) : zfrom (xs.set p v) (p + 1) n := fun j h1 h2 => by
  rw [nth_set (by omega), if_neg (by omega)]
  exact h j (by omega) h2
theorem agree_set (xs : List Int) {p n : Nat} (v : Int) (hl : xs.length = n) (hp : p < n) : agree (xs.set p v) xs p := fun j h1 => by
  rw [nth_set (by omega), if_neg (by omega)]
theorem clash_put {xs : List Int} {s n p v : Nat} (hs : s ∈ [2, 3, 4]) (hn : n = s * s) (hl : xs.length = n) (hok : okAll xs s n) (hz : zfrom xs p n) (hc : clash xs s = false) (hp : p < n) (v1 : 1 ≤ v) (v2 : v ≤ s) :
    clash (xs.set p (v : Int)) s = ((lmask xs s p (p / s)).testBit v || (lmask xs s p (s + p % s)).testBit v) := by
  have hok' := okAll_set (v := (v : Int)) hok hl hp (by omega) (by omega)
  have ha := agree_set xs (v : Int) hl hp
  have hat : nth (xs.set p (v : Int)) p = (v : Int) := by rw [nth_set (by omega), if_pos rfl]
  rw [← twice_clash hs hn hok', twice_tail n (by omega) (zfrom_set (v := (v : Int)) hz hl hp), (lmask_nz (s := s) hat (by omega)).2, (lmask_agree p ha).1, (lmask_agree p ha).2]
  rw [← twice_clash hs hn hok, twice_tail n (by omega) hz] at hc
  rw [hc, Bool.false_or]
theorem lmask_put {xs : List Int} {s n p v : Nat} (hl : xs.length = n) (hp : p < n) (v1 : 1 ≤ v) : lmask (xs.set p (v : Int)) s (p + 1) = mput (mput (lmask xs s p) (p / s) v) (s + p % s) v := by
  have ha := agree_set xs (v : Int) hl hp
  have hat : nth (xs.set p (v : Int)) p = (v : Int) := by rw [nth_set (by omega), if_pos rfl]
  rw [(lmask_nz (s := s) hat (by omega)).1, (lmask_agree p ha).1]

/-- what the search leaves as it was: all but the blocks P and G. -/
def Chg (w w' : World) (P G : Nat) : Prop := w'.os = w.os ∧ w'.tape = w.tape ∧ w'.output = w.output ∧ w.heap.size ≤ w'.heap.size ∧ ∀ k, k < w.heap.size → k ≠ P → k ≠ G → w'.heap[k]? = w.heap[k]?
theorem Chg.refl (w : World) (P G : Nat) : Chg w w P G := ⟨rfl, rfl, rfl, Nat.le_refl _, fun _ _ _ _ => rfl⟩
theorem Chg.trans {w w1 w2 : World} {P G : Nat} (h : Chg w w1 P G) (h2 : Chg w1 w2 P G) : Chg w w2 P G :=
  ⟨h2.1.trans h.1, h2.2.1.trans h.2.1, h2.2.2.1.trans h.2.2.1, Nat.le_trans h.2.2.2.1 h2.2.2.2.1, fun k hk hP hG => (h2.2.2.2.2 k (Nat.lt_of_lt_of_le hk h.2.2.2.1) hP hG).trans (h.2.2.2.2 k hk hP hG)⟩
theorem Chg.ofBelow {w w' : World} {P G : Nat} (h : Below w.heap.size w w') : Chg w w' P G := ⟨h.os, h.tape, h.output, h.size, fun k hk _ _ => h.block k hk⟩
theorem Chg.setP (w : World) (P G i : Nat) (v : Value) : Chg w (w.setCell ⟨P, i, none⟩ v) P G := ⟨rfl, rfl, rfl, by simp, fun k _ hk _ => heap_setCell_other w _ k v hk⟩
theorem Chg.setG (w : World) (P G i : Nat) (v : Value) : Chg w (w.setCell ⟨G, i, none⟩ v) P G := ⟨rfl, rfl, rfl, by simp, fun k _ _ hk => heap_setCell_other w _ k v hk⟩
theorem Chg.below {w w' : World} {P G B : Nat} (h : Chg w w' P G) (hP : B ≤ P) (hG : B ≤ G) (hB : B ≤ w.heap.size) : Below B w w' := ⟨h.1, h.2.1, h.2.2.1, h.2.2.2.1, fun k hk => h.2.2.2.2 k (Nat.lt_of_lt_of_le hk hB) (by omega) (by omega)⟩
theorem Chg.mbox {w w' : World} {P G g : Nat} {M : Nat → Nat} {s : Int} (h : Chg w w' P G) (hx : MBox w g M s) (hP : g ≠ P) (hG : g ≠ G) : MBox w' g M s := (h.2.2.2.2 g hx.lt hP hG).trans hx

/-- the search: its grid in block G, what is left to skip. -/
def SB (w : World) (P G n : Nat) (s sk : Int) (ys : List Int) : Prop :=
  w.heap[P]? = some (.cells #[.slice (some ⟨G, 0, none⟩) n n, .int .i64 s, .int .i64 sk] 64) ∧ w.heap[G]? = some (.cells (vals ys).toArray 3) ∧ ys.length = n ∧ P ≠ G
section
variable {w w' : World} {P G n : Nat} {s sk : Int} {ys : List Int}
theorem SB.c0 (h : SB w P G n s sk ys) : w.cell? ⟨P, 0, none⟩ = some (.slice (some ⟨G, 0, none⟩) n n) := cell_of_row _ _ 0 _ _ _ h.1
theorem SB.c1 (h : SB w P G n s sk ys) : w.cell? ⟨P, 1, none⟩ = some (.int .i64 s) := cell_of_row _ _ 1 _ _ _ h.1
theorem SB.c2 (h : SB w P G n s sk ys) : w.cell? ⟨P, 2, none⟩ = some (.int .i64 sk) := cell_of_row _ _ 2 _ _ _ h.1
theorem SB.f2 (h : SB w P G n s sk ys) : w.frozen? ⟨P, 2, none⟩ = false := frozen_of_row _ _ 2 _ _ h.1
theorem SB.ltP (h : SB w P G n s sk ys) : P < w.heap.size := (Array.getElem?_eq_some_iff.1 h.1).1
theorem SB.ltG (h : SB w P G n s sk ys) : G < w.heap.size := (Array.getElem?_eq_some_iff.1 h.2.1).1
theorem SB.g (h : SB w P G n s sk ys) {k : Nat} (hk : k < n) : w.cell? ⟨G, k, none⟩ = some (.int .i64 (nth ys k)) ∧ w.frozen? ⟨G, k, none⟩ = false :=
  ⟨(cell_of_row _ _ k _ _ _ h.2.1).trans (by rw [List.getElem?_toArray]; exact vals_get (by rw [h.2.2.1]; exact hk)), frozen_of_row _ _ k _ _ h.2.1⟩
theorem SB.below {B : Nat} (h : SB w P G n s sk ys) (hb : Below B w w') (hP : P < B) (hG : G < B) : SB w' P G n s sk ys := ⟨(hb.block P hP).trans h.1, (hb.block G hG).trans h.2.1, h.2.2⟩
theorem SB.setP (h : SB w P G n s sk ys) (u : Int) : SB (w.setCell ⟨P, 2, none⟩ (.int .i64 u)) P G n s u ys :=
  ⟨by rw [heap_setCell_same w P 2 _ _ _ h.1]; rfl, (heap_setCell_other w _ G _ (fun e => h.2.2.2 e.symm)).trans h.2.1, h.2.2⟩
theorem SB.setG (h : SB w P G n s sk ys) (k : Nat) (u : Int) : SB (w.setCell ⟨G, k, none⟩ (.int .i64 u)) P G n s sk (ys.set k u) :=
  ⟨(heap_setCell_other w _ P _ h.2.2.2).trans h.1, by rw [heap_setCell_same w G k _ _ _ h.2.1, ← vals_set, List.setIfInBounds_toArray], by rw [List.length_set]; exact h.2.2.1, h.2.2.2⟩
end
def FillPost (w : World) (P G n s : Nat) (xs : List Int) (p : Nat) (r : Option (List Int) × Int) (e : Ending) (w' : World) : Prop :=
  Chg w w' P G ∧
    match r.1 with
    | some y => e = .returned (.bool true) ∧ ∃ sk, SB w' P G n s sk y
    | none => e = .returned (.bool false) ∧ ∃ ys, SB w' P G n s r.2 ys ∧ agree ys xs p
end Go.Proofs.Ytmnacejmkjhpnaa
