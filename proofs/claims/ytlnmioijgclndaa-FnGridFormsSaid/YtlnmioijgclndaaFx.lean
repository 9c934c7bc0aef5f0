import Derived.Test.YtlnmioijgclndaaFc
import Derived.Test.YtlnmioijgclndaaSol
set_option maxRecDepth 8000
namespace Go.Proofs.Ytlnmioijgclndaa
open Go.ChangeShapes Go.WideShapes Go.ChangeAt Go.RowKit
/-! what renaming and the forms keep. -/
theorem clash_pat {xs ys : List Int} {s n : Nat} (hs : s ∈ [2, 3, 4]) (hn : n = s * s) (h : SamePat xs ys n) (gx : gv xs s = true) (gy : gv ys s = true) (lx : xs.length = n) (ly : ys.length = n) : clash xs s = clash ys s := by
  have key : ∀ {us vs : List Int}, SamePat us vs n → gv vs s = true → vs.length = n → clash us s = true → clash vs s = true := fun {us vs} hp hgv hlv hc => by
    obtain ⟨i, j, hi, hj, ha, he, hp0⟩ := (clash_iff hs).1 hc
    rw [← hn] at hi hj
    have h1 := (hp.2 i j hi hj).1 he
    have h2 : nth vs j ≠ 0 := fun q => by have := (hp.1 j hj).2 q; omega
    have h3 := (gv_nth hgv (show j < vs.length by omega)).1
    exact (clash_iff hs).2 ⟨i, j, by omega, by omega, ha, h1, by omega⟩
  rw [Bool.eq_iff_iff]
  exact ⟨key h gy ly, key h.symm gx lx⟩
theorem sqFits_rn {xs : List Int} {s n : Nat} (hs : s ∈ [2, 3, 4]) (hn : n = s * s) (hl : xs.length = n) (hg : gv xs s = true) : sqFits (rnL xs n) s = sqFits xs s := by
  have g2 := rnL_gv hg hl
  simp [sqFits, hg, g2, clash_pat hs hn (samePat_rn xs n) hg g2 hl (rnL_len _ _)]
theorem pm_turn {xs : List Int} {s : Int} {n : Nat} (hg : gv xs s = true) (hl : xs.length = n) : pm xs (turnIx s) n = turnL xs s := (turnL_pm hg hl).symm
theorem sqFits_trn {xs : List Int} {s n : Nat} (hs : s ∈ [2, 3, 4]) (hn : n = s * s) (hl : xs.length = n) (hg : gv xs s = true) : ∀ q, sqFits (trn s n xs q) s = sqFits xs s
  | 0 => rfl
  | q + 1 => by
    have g := trn_gv hs hn hl hg q
    have l : (trn s n xs q).length = n := trn_len hl q
    show sqFits (pm (trn s n xs q) (turnIx s) n) s = _
    rw [pm_turn g l]
    simp only [sqFits, (turn_all g l).valid, clash_turn g l, Bool.true_and]
    have := sqFits_trn hs hn hl hg q
    simp only [sqFits, g, Bool.true_and] at this
    exact this
theorem sqFits_frm {xs : List Int} {s n : Nat} (hs : s ∈ [2, 3, 4]) (hn : n = s * s) (hl : xs.length = n) (hg : gv xs s = true) (k : Nat) : sqFits (frm s n xs k) s = sqFits xs s := by
  unfold frm
  split
  · exact sqFits_trn hs hn hl hg _
  · rw [sqFits_trn hs hn (pm_length _ _ _) (mir_gv hs hn hl hg)]
    have e : pm xs (mirIx s) n = mirL xs s := (mirL_pm hg hl).symm
    rw [e]
    simp [sqFits, hg, (mir_all hg hl).valid, clash_mir hg hl]
theorem solved_pat {xs ys : List Int} {s n : Nat} (hs : s ∈ [2, 3, 4]) (hn : n = s * s) (h : SamePat xs ys n) (lx : xs.length = n) (ly : ys.length = n) (gy : gv ys s = true) (hx : sqSolved xs s = true) : sqSolved ys s = true := by
  obtain ⟨a, b, c⟩ := (solved_iff lx).1 hx
  exact (solved_iff ly).2 ⟨gy, by rw [← clash_pat hs hn h a gy lx ly]; exact b, fun k hk q => c k hk ((h.1 k hk).2 q)⟩
theorem solved_frm {xs : List Int} {s n : Nat} (hs : s ∈ [2, 3, 4]) (hn : n = s * s) (hl : xs.length = n) (hx : sqSolved xs s = true) {k : Nat} (hk : k < 8) : sqSolved (frm s n xs k) s = true := by
  obtain ⟨a, b, c⟩ := (solved_iff hl).1 hx
  have hg := frm_gv hs hn hl a k
  refine (solved_iff (frm_len hl k)).2 ⟨hg, ?_, fun j hj => ?_⟩
  · have := sqFits_frm hs hn hl a k
    simp only [sqFits, hg, a, b, Bool.true_and] at this
    simpa using this
  · rw [frm_pm hs hn hl hk, pm_nth hj]
    exact c _ (by rw [hn] at hj ⊢; exact tix_lt s hs k hk j hj)
/-! the group of forms. -/
theorem frm_pat {xs ys : List Int} {s n : Nat} (hs : s ∈ [2, 3, 4]) (hn : n = s * s) (lx : xs.length = n) (ly : ys.length = n) (h : SamePat xs ys n) {k : Nat} (hk : k < 8) : SamePat (frm s n xs k) (frm s n ys k) n := by
  rw [frm_pm hs hn lx hk, frm_pm hs hn ly hk]
  exact h.pm (fun j hj => by rw [hn] at hj ⊢; exact tix_lt s hs k hk j hj)
theorem rf_pat {xs ys : List Int} {s n : Nat} (hs : s ∈ [2, 3, 4]) (hn : n = s * s) (lx : xs.length = n) (ly : ys.length = n) (h : SamePat xs ys n) {k : Nat} (hk : k < 8) : rf xs s n k = rf ys s n k := rnL_pat (frm_pat hs hn lx ly h hk)
theorem rf_frm {xs : List Int} {s n : Nat} (hs : s ∈ [2, 3, 4]) (hn : n = s * s) (hl : xs.length = n) {a b : Nat} (ha : a < 8) (hb : b < 8) : rf (frm s n xs a) s n b = rf xs s n (gmul a b) := by
  unfold rf
  rw [frm_frm hs hn hl ha hb]
theorem rf_rf {xs : List Int} {s n : Nat} (hs : s ∈ [2, 3, 4]) (hn : n = s * s) (hl : xs.length = n) {a b : Nat} (ha : a < 8) (hb : b < 8) : rf (rf xs s n a) s n b = rf xs s n (gmul a b) := by
  rw [← rf_frm hs hn hl ha hb]
  exact (rf_pat hs hn (frm_len hl a) (rnL_len _ _) (samePat_rn _ _) hb).symm
theorem rf_eq {xs : List Int} {s n : Nat} (hs : s ∈ [2, 3, 4]) (hn : n = s * s) (hl : xs.length = n) {i j b : Nat} (hi : i < 8) (hj : j < 8) (hb : b < 8) (h : rf xs s n i = rf xs s n j) : rf xs s n (gmul i b) = rf xs s n (gmul j b) := by
  rw [← rf_rf hs hn hl hi hb, ← rf_rf hs hn hl hj hb, h]
def ginv (a : Nat) : Nat := if a < 4 then (4 - a) % 4 else a
theorem ginv_lt : ∀ a, a < 8 → ginv a < 8 := by decide +kernel
theorem gmul_inv : ∀ a, a < 8 → gmul a (ginv a) = 0 := by decide +kernel
theorem gmul_all : ∀ a, a < 8 → ∀ j, j < 8 → gmul a (gmul (ginv a) j) = j := by decide +kernel
theorem gmul_zero : ∀ a, a < 8 → gmul 0 a = a := by decide +kernel
theorem gmul_undo : ∀ i, i < 8 → ∀ j, j < 8 → gmul (gmul i (ginv j)) j = i := by decide +kernel
/-- the same renamed forms. -/
def SameForms (F G : Nat → List Int) : Prop := (∀ k, k < 8 → ∃ j, j < 8 ∧ F k = G j) ∧ ∀ k, k < 8 → ∃ j, j < 8 ∧ G k = F j
theorem forms_frm {xs : List Int} {s n : Nat} (hs : s ∈ [2, 3, 4]) (hn : n = s * s) (hl : xs.length = n) {a : Nat} (ha : a < 8) : SameForms (rf (frm s n xs a) s n) (rf xs s n) :=
  ⟨fun k hk => ⟨gmul a k, gmul_lt a ha k hk, rf_frm hs hn hl ha hk⟩, fun k hk => ⟨gmul (ginv a) k, gmul_lt _ (ginv_lt a ha) k hk, by rw [rf_frm hs hn hl ha (gmul_lt _ (ginv_lt a ha) k hk), gmul_all a ha k hk]⟩⟩
theorem forms_rf {xs : List Int} {s n : Nat} (hs : s ∈ [2, 3, 4]) (hn : n = s * s) (hl : xs.length = n) {a : Nat} (ha : a < 8) : SameForms (rf (rf xs s n a) s n) (rf xs s n) :=
  ⟨fun k hk => ⟨gmul a k, gmul_lt a ha k hk, rf_rf hs hn hl ha hk⟩, fun k hk => ⟨gmul (ginv a) k, gmul_lt _ (ginv_lt a ha) k hk, by rw [rf_rf hs hn hl ha (gmul_lt _ (ginv_lt a ha) k hk), gmul_all a ha k hk]⟩⟩
theorem forms_pat {xs ys : List Int} {s n : Nat} (hs : s ∈ [2, 3, 4]) (hn : n = s * s) (lx : xs.length = n) (ly : ys.length = n) (h : SamePat xs ys n) : SameForms (rf xs s n) (rf ys s n) :=
  ⟨fun k hk => ⟨k, hk, rf_pat hs hn lx ly h hk⟩, fun k hk => ⟨k, hk, (rf_pat hs hn lx ly h hk).symm⟩⟩
theorem best_same {F G : Nat → List Int} {n : Nat} (h : SameForms F G) (dF : ∀ k, dig (F k) n) (dG : ∀ k, dig (G k) n) (lF : ∀ k, (F k).length = n) (lG : ∀ k, (G k).length = n) : bestT F n 8 = bestT G n 8 := by
  obtain ⟨i, hi, ei⟩ := bestT_mem (F := F) (n := n) 8 (by omega)
  obtain ⟨j, hj, ej⟩ := bestT_mem (F := G) (n := n) 8 (by omega)
  obtain ⟨i', hi', ei'⟩ := h.1 i hi
  obtain ⟨j', hj', ej'⟩ := h.2 j hj
  have h1 := bestT_le (F := G) (n := n) 8 i' hi'
  have h2 := bestT_le (F := F) (n := n) 8 j' hj'
  rw [← ei', ← ei] at h1
  rw [← ej', ← ej] at h2
  exact keyT_eq (by rw [ei]; exact dF i) (by rw [ej]; exact dG j) (by rw [ei]; exact lF i) (by rw [ej]; exact lG j) (by omega)
theorem nodup_len : ∀ {l m : List (List Int)}, l.Nodup → (∀ x ∈ l, x ∈ m) → l.length ≤ m.length
  | [], _, _, _ => Nat.zero_le _
  | a :: t, m, hl, h => by
    rw [List.nodup_cons] at hl
    have ha := h a (by simp)
    have := nodup_len (l := t) (m := m.erase a) hl.2 (fun x hx => (List.mem_erase_of_ne (fun e => hl.1 (by rw [← e]; exact hx))).2 (h x (by simp [hx])))
    rw [List.length_erase_of_mem ha] at this
    have : 0 < m.length := List.length_pos_of_mem ha
    simp; omega
theorem fnd_same {F G : Nat → List Int} (h : SameForms F G) : (fnd F 8).length = (fnd G 8).length := by
  refine Nat.le_antisymm (nodup_len (fnd_nodup 8) fun x hx => ?_) (nodup_len (fnd_nodup 8) fun x hx => ?_)
  · obtain ⟨k, hk, e⟩ := (fnd_mem 8).1 hx
    obtain ⟨j, hj, e2⟩ := h.1 k hk
    exact (fnd_mem 8).2 ⟨j, hj, by rw [← e2, e]⟩
  · obtain ⟨k, hk, e⟩ := (fnd_mem 8).1 hx
    obtain ⟨j, hj, e2⟩ := h.2 k hk
    exact (fnd_mem 8).2 ⟨j, hj, by rw [← e2, e]⟩
theorem cn_same {xs ys : List Int} {s n : Nat} (hs : s ∈ [2, 3, 4]) (hn : n = s * s) (lx : xs.length = n) (ly : ys.length = n) (gx : gv xs s = true) (gy : gv ys s = true) (h : SameForms (rf xs s n) (rf ys s n)) : cnL xs s n = cnL ys s n := by
  rw [cnL_t gx, cnL_t gy]
  exact best_same h (rf_dig hs hn lx gx) (rf_dig hs hn ly gy) (fun k => rf_len _ _ _ k) (fun k => rf_len _ _ _ k)
theorem fc_same {xs ys : List Int} {s n : Nat} (gx : gv xs s = true) (gy : gv ys s = true) (h : SameForms (rf xs s n) (rf ys s n)) : fcI xs s n = fcI ys s n := by
  simp only [fcI, gx, gy, if_true, fnd_same h]
theorem cn_mem {xs : List Int} {s n : Nat} (hg : gv xs s = true) : ∃ a, a < 8 ∧ cnL xs s n = rf xs s n a := by
  obtain ⟨a, ha, e⟩ := bestT_mem (F := rf xs s n) (n := n) 8 (by omega)
  exact ⟨a, ha, by rw [cnL_t hg, e]⟩
/-! how many forms there are. -/
/-- how many of the first k are none of those before, by a set of forms (a number's bits). -/
def cosN (m : Nat) : Nat → Nat
  | 0 => 0
  | k + 1 => if (List.range k).any (fun j => m.testBit (gmul k (ginv j))) = true then cosN m k else cosN m k + 1
def closedM (m : Nat) : Bool := m.testBit 0 && (List.range 8).all fun a => (List.range 8).all fun b => !(m.testBit a && m.testBit b) || (m.testBit (gmul a b) && m.testBit (gmul a (ginv b)))
theorem cosN_all : ∀ m, m < 256 → closedM m = true → cosN m 8 = 1 ∨ cosN m 8 = 2 ∨ cosN m 8 = 4 ∨ cosN m 8 = 8 := by decide +kernel
/-- the bits of a set. -/
def bitsN (f : Nat → Bool) : Nat → Nat
  | 0 => 0
  | k + 1 => bitsN f k + if f k = true then 2 ^ k else 0
theorem bitsN_lt (f : Nat → Bool) : ∀ k, bitsN f k < 2 ^ k
  | 0 => by simp [bitsN]
  | k + 1 => by
    have := bitsN_lt f k
    simp only [bitsN, Nat.pow_succ]
    split <;> omega
theorem bitsN_bit (f : Nat → Bool) : ∀ k i, i < k → (bitsN f k).testBit i = f i
  | 0, _, h => absurd h (by omega)
  | k + 1, i, h => by
    have hlt := bitsN_lt f k
    simp only [bitsN]
    by_cases e : i = k
    · subst e
      by_cases hf : f i = true
      · rw [if_pos hf, Nat.add_comm, Nat.testBit_two_pow_add_eq, Nat.testBit_lt_two_pow hlt, hf]; rfl
      · rw [if_neg hf, Nat.add_zero, Nat.testBit_lt_two_pow hlt]; simpa using hf
    · by_cases hf : f k = true
      · rw [if_pos hf, Nat.add_comm, Nat.testBit_two_pow_add_gt (by omega)]; exact bitsN_bit f k i (by omega)
      · rw [if_neg hf, Nat.add_zero]; exact bitsN_bit f k i (by omega)
theorem fc_one {xs : List Int} {s n : Nat} (hs : s ∈ [2, 3, 4]) (hn : n = s * s) (hl : xs.length = n) (hg : gv xs s = true) : fcI xs s n = 1 ∨ fcI xs s n = 2 ∨ fcI xs s n = 4 ∨ fcI xs s n = 8 := by
  obtain ⟨m, hm⟩ : ∃ m, m = bitsN (fun k => decide (rf xs s n k = rf xs s n 0)) 8 := ⟨_, rfl⟩
  have hbit : ∀ k, k < 8 → (m.testBit k = true ↔ rf xs s n k = rf xs s n 0) := fun k hk => by rw [hm, bitsN_bit _ 8 k hk]; simp
  have hm256 : m < 256 := by rw [hm]; exact bitsN_lt _ 8
  have heq : ∀ i j, i < 8 → j < 8 → (rf xs s n i = rf xs s n j ↔ m.testBit (gmul i (ginv j)) = true) := fun i j hi hj => by
    have hb := ginv_lt j hj
    have hib := gmul_lt i hi _ hb
    rw [hbit _ hib]
    refine ⟨fun h => by rw [rf_eq hs hn hl hi hj hb h, gmul_inv j hj], fun h => ?_⟩
    have := rf_eq hs hn hl hib (show 0 < 8 by omega) hj h
    rwa [gmul_undo i hi j hj, gmul_zero j hj] at this
  have hcl : closedM m = true := by
    simp only [closedM, Bool.and_eq_true, List.all_eq_true, List.mem_range]
    refine ⟨(hbit 0 (by omega)).2 rfl, fun a ha b hb => ?_⟩
    cases e : (m.testBit a && m.testBit b)
    · rfl
    · simp only [Bool.and_eq_true] at e
      have ea := (hbit a ha).1 e.1
      have eb := (hbit b hb).1 e.2
      have h1 : m.testBit (gmul a b) = true := (hbit _ (gmul_lt a ha b hb)).2 (by
        rw [rf_eq hs hn hl ha (show 0 < 8 by omega) hb ea, gmul_zero b hb]; exact eb)
      have h2 : m.testBit (gmul a (ginv b)) = true := (heq a b ha hb).1 (by rw [ea, eb])
      rw [h1, h2]; rfl
  have hlen : ∀ k, k ≤ 8 → (fnd (rf xs s n) k).length = cosN m k := fun k => by
    induction k with
    | zero => intro _; rfl
    | succ k ih =>
      intro hk
      have ih' := ih (by omega)
      have hiff : rf xs s n k ∈ fnd (rf xs s n) k ↔ (List.range k).any (fun j => m.testBit (gmul k (ginv j))) = true := by
        rw [fnd_mem, List.any_eq_true]
        refine ⟨fun ⟨j, hj, e⟩ => ⟨j, by simpa using hj, (heq k j (by omega) (by omega)).1 e.symm⟩, fun ⟨j, hj, e⟩ => ?_⟩
        have hj' : j < k := by simpa using hj
        exact ⟨j, hj', ((heq k j (by omega) (by omega)).2 e).symm⟩
      simp only [fnd, cosN]
      by_cases h : rf xs s n k ∈ fnd (rf xs s n) k
      · rw [if_pos h, if_pos (hiff.1 h), ih']
      · rw [if_neg h, if_neg (fun q => h (hiff.2 q)), List.length_append, ih']; rfl
  have := cosN_all m hm256 hcl
  simp only [fcI, hg, if_true, hlen 8 (Nat.le_refl _)]
  omega
/-! what is sorted. -/
/-- how many of the first k of a list are not the one before. -/
def cpt (L : List (List Int)) : Nat → Nat
  | 0 => 0
  | k + 1 => if 0 < k ∧ gat L k = gat L (k - 1) then cpt L k else cpt L k + 1
theorem cpt_fnd {L : List (List Int)} {n m : Nat} (hl : ∀ k, k < m → (gat L k).length = n) (hd : ∀ k, k < m → dig (gat L k) n) (hsort : ∀ i j, i < j → j < m → keyT (gat L i) n ≤ keyT (gat L j) n) : ∀ k, k ≤ m → (fnd (gat L) k).length = cpt L k
  | 0, _ => rfl
  | k + 1, hk => by
    have ih := cpt_fnd hl hd hsort k (by omega)
    have hiff : gat L k ∈ fnd (gat L) k ↔ 0 < k ∧ gat L k = gat L (k - 1) := by
      rw [fnd_mem]
      refine ⟨fun ⟨j, hj, e⟩ => ⟨by omega, ?_⟩, fun ⟨h0, e⟩ => ⟨k - 1, by omega, e.symm⟩⟩
      have h1 : keyT (gat L j) n ≤ keyT (gat L (k - 1)) n := by
        by_cases q : j = k - 1
        · rw [q]; omega
        · exact hsort j (k - 1) (by omega) (by omega)
      have h2 := hsort (k - 1) k (by omega) (by omega)
      rw [e] at h1
      exact keyT_eq (hd k (by omega)) (hd (k - 1) (by omega)) (hl k (by omega)) (hl (k - 1) (by omega)) (by omega)
    simp only [fnd, cpt]
    by_cases h : gat L k ∈ fnd (gat L) k
    · rw [if_pos h, if_pos (hiff.1 h), ih]
    · rw [if_neg h, if_neg (fun q => h (hiff.2 q)), List.length_append, ih]; rfl
end Go.Proofs.Ytlnmioijgclndaa
