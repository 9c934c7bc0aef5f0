import Derived.Test.YtgeedgljabdllaaPg
set_option maxRecDepth 8000
namespace Go.Proofs.Ytgeedgljabdllaa
open Go.ChangeShapes Go.WideShapes Go.ChangeAt Go.RowKit
/-! the reference's search: row by row, with a look at the columns' beginnings. -/
/-- a clue can be that of the beginning of a line with another. -/
def ptB (p c : List Int) : Bool := decide (p.length ≤ c.length ∧ ∀ k, k < p.length → nth p k ≤ nth c k ∧ (k + 1 < p.length → nth c k ≤ nth p k))
theorem fin_fold : ∀ (S : List Bool) (o : List Int) (r : Nat), ∃ t, fin (S.foldl stp (o, r)) = o ++ t ∧ (0 < r → ∃ h t', t = h :: t' ∧ (r : Int) ≤ h) := by
  intro S
  induction S with
  | nil =>
    intro o r
    by_cases h : 0 < r
    · exact ⟨[(r : Int)], by simp [fin, h], fun _ => ⟨_, [], rfl, Int.le_refl _⟩⟩
    · exact ⟨[], by simp [fin, h], fun h' => absurd h' h⟩
  | cons b S ih =>
    intro o r
    rw [List.foldl_cons]
    cases b
    · by_cases h : 0 < r
      · obtain ⟨t, e, _⟩ := ih (o ++ [(r : Int)]) 0
        exact ⟨(r : Int) :: t, by simp only [stp, h, if_true, Bool.false_eq_true, if_false]; rw [e]; simp, fun _ => ⟨_, t, rfl, Int.le_refl _⟩⟩
      · obtain ⟨t, e, _⟩ := ih o 0
        exact ⟨t, by simp only [stp, h, if_false, Bool.false_eq_true]; exact e, fun h' => absurd h' h⟩
    · obtain ⟨t, e, h1⟩ := ih o (r + 1)
      obtain ⟨h, t', rfl, hle⟩ := h1 (by omega)
      exact ⟨h :: t', by simp only [stp, if_true]; exact e, fun _ => ⟨h, t', rfl, by omega⟩⟩
theorem nth_appL {a b : List Int} {k : Nat} (h : k < a.length) : nth (a ++ b) k = nth a k := by
  simp [nth, List.getD_eq_getElem?_getD, List.getElem?_append_left h]
theorem nth_appR {a : List Int} {x : Int} {b : List Int} : nth (a ++ x :: b) a.length = x := by
  simp [nth, List.getD_eq_getElem?_getD]
theorem ptB_app (P S : List Bool) : ptB (cl P) (cl (P ++ S)) = true := by
  obtain ⟨t, e, h⟩ := fin_fold S (sF P).1 (sF P).2
  have e' : cl (P ++ S) = (sF P).1 ++ t := by
    rw [← e]
    unfold cl sF
    rw [List.foldl_append]
  rw [e']
  unfold ptB
  rw [decide_eq_true_eq]
  by_cases hr : 0 < (sF P).2
  · obtain ⟨x, t', rfl, hle⟩ := h hr
    have ec : cl P = (sF P).1 ++ [((sF P).2 : Int)] := by unfold cl fin; rw [if_pos hr]
    rw [ec]
    refine ⟨by simp, fun k hk => ?_⟩
    rw [List.length_append, List.length_singleton] at hk ⊢
    by_cases e1 : k < (sF P).1.length
    · rw [nth_appL e1, nth_appL e1]
      exact ⟨Int.le_refl _, fun _ => Int.le_refl _⟩
    · obtain rfl : k = (sF P).1.length := by omega
      rw [nth_appR, nth_appR]
      exact ⟨hle, fun h => by omega⟩
  · have ec : cl P = (sF P).1 := by unfold cl fin; rw [if_neg hr]
    rw [ec]
    refine ⟨by simp, fun k hk => ?_⟩
    rw [nth_appL hk]
    exact ⟨Int.le_refl _, fun _ => Int.le_refl _⟩
def clm (rows : List (List Bool)) (c : Nat) : List Bool := rows.map fun L => nb L c
def gtl {α : Type} (Ls : List (List α)) (k : Nat) : List α := Ls.getD k []
/-- no column's beginning speaks against the rows. -/
def prB (cc : List (List Int)) (rows : List (List Bool)) : Bool := decide (∀ c, c < cc.length → ptB (cl (clm rows c)) (gtl cc c) = true)
def enB (cc : List (List Int)) (rows : List (List Bool)) : Bool := decide (∀ c, c < cc.length → cl (clm rows c) = gtl cc c)
def srL (rc cc : List (List Int)) : Nat → List (List Bool) → List (List (List Bool))
  | 0, rows => if enB cc rows then [rows] else []
  | f + 1, rows => if prB cc rows then (List.range (2 ^ cc.length)).flatMap fun k => if cl (lnB k cc.length) = gtl rc rows.length then srL rc cc f (rows ++ [lnB k cc.length]) else [] else []
theorem clm_app (A B : List (List Bool)) (c : Nat) : clm (A ++ B) c = clm A c ++ clm B c := by simp [clm]
theorem srL_is {rc cc : List (List Int)} : ∀ (f : Nat) (rows : List (List Bool)), rows.length + f = rc.length → (∀ i, i < rows.length → cl (rows.getD i []) = rc.getD i []) → srL rc cc f rows = ((alM cc.length f).filter fun M => pic rc cc (rows ++ M)).map (rows ++ ·) := by
  intro f
  induction f with
  | zero =>
    intro rows hl hr
    have hp : pic rc cc rows = enB cc rows := by
      rw [Bool.eq_iff_iff, pic_iff (by omega)]
      unfold enB
      rw [decide_eq_true_eq]
      exact ⟨fun h => h.2, fun h => ⟨fun i hi => hr i (by omega), h⟩⟩
    simp only [srL, alM]
    cases e : enB cc rows <;> simp [hp, e]
  | succ f ih =>
    intro rows hl hr
    simp only [srL, alM]
    cases e : prB cc rows
    · have hnil : ((List.range (2 ^ cc.length)).flatMap fun k => (alM cc.length f).map fun M => lnB k cc.length :: M).filter (fun M => pic rc cc (rows ++ M)) = [] := by
        rw [List.filter_eq_nil_iff]
        intro M hM h
        unfold prB at e
        rw [decide_eq_false_iff_not] at e
        apply e
        intro c hc
        have := pic_col h hc
        rw [show (rows ++ M).map (fun L => nb L c) = clm rows c ++ clm M c from clm_app _ _ _] at this
        have hlat : gtl cc c = cc.getD c [] := rfl
        rw [hlat, ← this]
        exact ptB_app _ _
      rw [hnil]
      rfl
    · simp only [if_true]
      rw [List.filter_flatMap, List.map_flatMap]
      congr 1
      funext k
      rw [List.filter_map, List.map_map]
      by_cases h : cl (lnB k cc.length) = gtl rc rows.length
      · rw [if_pos h, ih (rows ++ [lnB k cc.length]) (by simp; omega) (fun i hi => by
          rw [List.length_append, List.length_singleton] at hi
          by_cases e1 : i < rows.length
          · rw [← hr i e1]
            simp [List.getD_eq_getElem?_getD, List.getElem?_append_left e1]
          · obtain rfl : i = rows.length := by omega
            rw [show rc.getD rows.length [] = gtl rc rows.length from rfl, ← h]
            simp [List.getD_eq_getElem?_getD])]
        simp [Function.comp_def]
      · rw [if_neg h]
        symm
        rw [List.map_eq_nil_iff, List.filter_eq_nil_iff]
        intro M _ hM
        apply h
        have := pic_row (i := rows.length) hM (by omega)
        rw [show gtl rc rows.length = rc.getD rows.length [] from rfl, ← this]
        simp [List.getD_eq_getElem?_getD]
/-- the whole search. -/
theorem srL_all (rc cc : List (List Int)) : srL rc cc rc.length [] = pcL rc cc := by
  rw [srL_is rc.length [] (by simp) (fun i hi => by simp at hi)]
  unfold pcL
  simp
theorem take_full {α : Type} {A B : List α} {m : Nat} (h : m ≤ A.length) : (A ++ B).take m = A.take m := List.take_append_of_le_length h
end Go.Proofs.Ytgeedgljabdllaa
