import Derived.Test.YtgeedgljabdllaaPm
import Derived.Test.YtgeedgljabdllaaSx
set_option maxRecDepth 8000
namespace Go.Proofs.Ytgeedgljabdllaa
open Go.ChangeShapes Go.WideShapes Go.ChangeAt Go.RowKit
/-! pictures: matrices of cells (drafted in round 12, before chapter 13 had landed). -/
/-- the sum over all matrices of r lines of n cells. -/
def smM (n : Nat) : Nat → (List (List Bool) → Nat) → Nat
  | 0, f => f []
  | r + 1, f => sm n (fun L => smM n r (fun M => f (L :: M)))
def Mx (r n : Nat) (M : List (List Bool)) : Prop := M.length = r ∧ ∀ L ∈ M, L.length = n
theorem Mx.nil (n : Nat) : Mx 0 n [] := ⟨rfl, fun L h => by simp at h⟩
theorem Mx.cons {r n : Nat} {L : List Bool} {M : List (List Bool)} (hL : L.length = n) (h : Mx r n M) : Mx (r + 1) n (L :: M) :=
  ⟨by rw [List.length_cons, h.1], fun X hX => by (rcases List.mem_cons.1 hX with rfl | e); (exact hL); (exact h.2 X e)⟩
theorem smM_congr {n r : Nat} : ∀ {f g : List (List Bool) → Nat}, (∀ M, Mx r n M → f M = g M) → smM n r f = smM n r g := by
  induction r with
  | zero => intro f g h; exact h [] (Mx.nil n)
  | succ r ih => intro f g h; exact sm_congr fun L hL => ih fun M hM => h _ (hM.cons hL)
theorem smM_zero (n r : Nat) : smM n r (fun _ => 0) = 0 := by
  induction r with
  | zero => rfl
  | succ r ih =>
    show sm n (fun _ => smM n r (fun _ => 0)) = 0
    rw [ih, sm_zero]
theorem smM_mono {n r : Nat} : ∀ {f g : List (List Bool) → Nat}, (∀ M, Mx r n M → f M ≤ g M) → smM n r f ≤ smM n r g := by
  induction r with
  | zero => intro f g h; exact h [] (Mx.nil n)
  | succ r ih => intro f g h; exact sm_mono fun L hL => ih fun M hM => h _ (hM.cons hL)
theorem smM_one {n : Nat} (x : Nat) : ∀ {r : Nat} (M : List (List Bool)), Mx r n M → smM n r (fun N => if N = M then x else 0) = x := by
  intro r
  induction r with
  | zero => intro M h; obtain rfl := List.length_eq_zero_iff.1 h.1; rfl
  | succ r ih =>
    intro M h
    cases M with
    | nil => have := h.1; simp at this
    | cons L M =>
      have hL : L.length = n := h.2 L (by simp)
      have hM : Mx r n M := ⟨by have := h.1; simpa using this, fun X hX => h.2 X (by simp [hX])⟩
      show sm n (fun A => smM n r (fun N => if A :: N = L :: M then x else 0)) = x
      rw [show (fun A : List Bool => smM n r (fun N => if A :: N = L :: M then x else 0)) = fun A => if A = L then x else 0 from by
        funext A
        by_cases e : A = L
        · subst e
          rw [if_pos rfl]
          rw [show (fun N : List (List Bool) => if A :: N = A :: M then x else 0) = fun N => if N = M then x else 0 from by funext N; simp]
          exact ih M hM
        · rw [if_neg e, show (fun N : List (List Bool) => if A :: N = L :: M then x else 0) = fun _ => 0 from by funext N; simp [e]]
          exact smM_zero n r]
      exact sm_one L hL x
theorem smM_pos {n r : Nat} {f : List (List Bool) → Nat} (M : List (List Bool)) (hM : Mx r n M) (h : 0 < f M) : 0 < smM n r f := by
  have h1 : smM n r (fun N => if N = M then f M else 0) ≤ smM n r f := smM_mono (fun N _ => by by_cases e : N = M <;> simp [e])
  rw [smM_one _ M hM] at h1
  omega
theorem smM_none {n r : Nat} {f : List (List Bool) → Nat} (h : ∀ M, Mx r n M → f M = 0) : smM n r f = 0 := by rw [smM_congr (g := fun _ => 0) h, smM_zero]
def zipC (col : List Bool) (M : List (List Bool)) : List (List Bool) := List.zipWith (fun b L => b :: L) col M
theorem smM_cols (n : Nat) : ∀ (r : Nat) (f : List (List Bool) → Nat), smM (n + 1) r f = sm r (fun col => smM n r (fun M => f (zipC col M))) := by
  intro r
  induction r with
  | zero => intro f; rfl
  | succ r ih =>
    intro f
    show sm (n + 1) (fun L => smM (n + 1) r (fun M => f (L :: M))) = _
    rw [show (fun L => smM (n + 1) r (fun M => f (L :: M))) = fun L => sm r (fun col => smM n r (fun M => f (L :: zipC col M))) from by funext L; exact ih _]
    rw [sm_cons, sm_cons r, sm_comm n r, sm_comm n r]
    rfl
/-- rows and columns exchanged: n the rows' cells. -/
def trM : Nat → List (List Bool) → List (List Bool)
  | 0, _ => []
  | n + 1, M => M.map (fun L => nb L 0) :: trM n (M.map List.tail)
theorem zipC_head : ∀ {col : List Bool} {M : List (List Bool)}, col.length = M.length → (zipC col M).map (fun L => nb L 0) = col ∧ (zipC col M).map List.tail = M := by
  intro col
  induction col with
  | nil => intro M h; obtain rfl := List.length_eq_zero_iff.1 h.symm; exact ⟨rfl, rfl⟩
  | cons b t ih =>
    intro M h
    cases M with
    | nil => simp at h
    | cons L M =>
      obtain ⟨h1, h2⟩ := ih (M := M) (by simpa using h)
      unfold zipC at h1 h2 ⊢
      rw [List.zipWith_cons_cons, List.map_cons, List.map_cons, h1, h2]
      exact ⟨rfl, rfl⟩
theorem trM_zip {n : Nat} {col : List Bool} {M : List (List Bool)} (h : col.length = M.length) : trM (n + 1) (zipC col M) = col :: trM n M := by
  obtain ⟨h1, h2⟩ := zipC_head h
  show (zipC col M).map (fun L => nb L 0) :: trM n ((zipC col M).map List.tail) = _
  rw [h1, h2]
theorem smM_nil (r x : Nat) : smM 0 r (fun _ => x) = x := by
  induction r with
  | zero => rfl
  | succ r ih => show smM 0 r (fun _ => x) = x; exact ih
theorem smM_tr (n r : Nat) : ∀ f : List (List Bool) → Nat, smM n r (fun M => f (trM n M)) = smM r n f := by
  induction n with
  | zero => intro f; exact smM_nil r (f [])
  | succ n ih =>
    intro f
    rw [smM_cols]
    show _ = sm r (fun L => smM r n (fun M => f (L :: M)))
    refine sm_congr fun col hc => ?_
    rw [← ih (fun N => f (col :: N))]
    exact smM_congr fun M hM => by rw [trM_zip (by rw [hc, hM.1])]
theorem trM_length : ∀ (n : Nat) (M : List (List Bool)), (trM n M).length = n := by
  intro n
  induction n with
  | zero => intro M; rfl
  | succ n ih => intro M; unfold trM; rw [List.length_cons, ih]
theorem nb_tail (L : List Bool) (k : Nat) : nb L.tail k = nb L (k + 1) := by cases L <;> simp [nb]
theorem trM_at : ∀ {n j : Nat} {M : List (List Bool)}, j < n → (trM n M).getD j [] = M.map (fun L => nb L j) := by
  intro n
  induction n with
  | zero => intro j M h; omega
  | succ n ih =>
    intro j M h
    cases j with
    | zero => rfl
    | succ j =>
      show (trM n (M.map List.tail)).getD j [] = _
      rw [ih (by omega), List.map_map]
      congr 1
      funext L
      exact nb_tail L j
theorem trM_mx {n r : Nat} {M : List (List Bool)} (h : M.length = r) : Mx n r (trM n M) := by
  refine ⟨trM_length n M, fun L hL => ?_⟩
  obtain ⟨j, hj, e⟩ := List.mem_iff_getElem.1 hL
  rw [trM_length] at hj
  have h1 := trM_at (M := M) hj
  rw [List.getD_eq_getElem?_getD, List.getElem?_eq_getElem (by rw [trM_length]; exact hj)] at h1
  simp only [Option.getD_some] at h1
  rw [← e, h1, List.length_map, h]
/-- a cell of a matrix. -/
def mc (M : List (List Bool)) (i j : Nat) : Bool := nb (M.getD i []) j
theorem mc_tr {n r i j : Nat} {M : List (List Bool)} (h : M.length = r) (hi : i < r) (hj : j < n) : mc (trM n M) j i = mc M i j := by
  unfold mc
  rw [trM_at hj]
  have hi' : i < M.length := by omega
  simp [nb, List.getD_eq_getElem?_getD, hi']
theorem mx_ext {r n : Nat} {M N : List (List Bool)} (hM : Mx r n M) (hN : Mx r n N) (h : ∀ i j, i < r → j < n → mc M i j = mc N i j) : M = N := by
  refine List.ext_getElem (by rw [hM.1, hN.1]) fun i h1 h2 => ?_
  have l1 := hM.2 _ (List.getElem_mem h1)
  have l2 := hN.2 _ (List.getElem_mem h2)
  refine List.ext_getElem (by rw [l1, l2]) fun j h3 h4 => ?_
  have := h i j (by rw [← hM.1]; exact h1) (by rw [← l1]; exact h3)
  simpa [mc, nb, List.getD_eq_getElem?_getD, h1, h2, h3, h4] using this
theorem trM_tr {n r : Nat} {M : List (List Bool)} (h : Mx r n M) : trM r (trM n M) = M := by
  have h1 := trM_mx (n := n) h.1
  have h2 := trM_mx (n := r) h1.1
  exact mx_ext h2 h fun i j hi hj => by rw [mc_tr h1.1 hj hi, mc_tr h.1 hi hj]
/-- the clues of the rows and of the columns. -/
def pic (rc cc : List (List Int)) (M : List (List Bool)) : Bool := decide (M.map cl = rc) && decide ((trM cc.length M).map cl = cc)
def picC (rc cc : List (List Int)) : Nat := smM cc.length rc.length (fun M => if pic rc cc M then 1 else 0)
theorem pic_turn {rc cc : List (List Int)} {M : List (List Bool)} (h : Mx rc.length cc.length M) : pic cc rc (trM cc.length M) = pic rc cc M := by
  unfold pic
  rw [trM_tr h, Bool.and_comm]
theorem picC_turn (rc cc : List (List Int)) : picC cc rc = picC rc cc := by
  unfold picC
  rw [← smM_tr]
  exact smM_congr fun M hM => by rw [pic_turn hM]
/-- the clues of a matrix are those of its picture. -/
theorem pic_of (n : Nat) (M : List (List Bool)) : pic (M.map cl) ((trM n M).map cl) M = true := by
  unfold pic
  rw [List.length_map, trM_length]
  simp
theorem pic_row {rc cc : List (List Int)} {M : List (List Bool)} (h : pic rc cc M = true) {i : Nat} (hi : i < rc.length) : cl (M.getD i []) = rc.getD i [] := by
  unfold pic at h
  rw [Bool.and_eq_true, decide_eq_true_eq, decide_eq_true_eq] at h
  have hl : i < M.length := by have := congrArg List.length h.1; rw [List.length_map] at this; omega
  rw [← h.1]
  simp [List.getD_eq_getElem?_getD, hl]
theorem pic_col {rc cc : List (List Int)} {M : List (List Bool)} (h : pic rc cc M = true) {j : Nat} (hj : j < cc.length) : cl (M.map (fun L => nb L j)) = cc.getD j [] := by
  unfold pic at h
  rw [Bool.and_eq_true, decide_eq_true_eq, decide_eq_true_eq] at h
  have h1 : ((trM cc.length M).map cl).getD j [] = cc.getD j [] := by rw [h.2]
  have h2 := trM_at (M := M) hj
  have hl : j < (trM cc.length M).length := by rw [trM_length]; exact hj
  rw [← h2, ← h1]
  simp [List.getD_eq_getElem?_getD, hl]
theorem pic_iff {rc cc : List (List Int)} {M : List (List Bool)} (hl : M.length = rc.length) : pic rc cc M = true ↔ (∀ i, i < rc.length → cl (M.getD i []) = rc.getD i []) ∧ (∀ j, j < cc.length → cl (M.map (fun L => nb L j)) = cc.getD j []) := by
  refine ⟨fun h => ⟨fun i hi => pic_row h hi, fun j hj => pic_col h hj⟩, fun ⟨h1, h2⟩ => ?_⟩
  unfold pic
  rw [Bool.and_eq_true, decide_eq_true_eq, decide_eq_true_eq]
  constructor
  · refine List.ext_getElem (by rw [List.length_map, hl]) fun i h3 h4 => ?_
    have := h1 i h4
    have hi : i < M.length := by omega
    simpa [List.getD_eq_getElem?_getD, hi, h4] using this
  · refine List.ext_getElem (by rw [List.length_map, trM_length]) fun j h3 h4 => ?_
    have := h2 j h4
    have h5 := trM_at (M := M) h4
    rw [← h5] at this
    have hj : j < (trM cc.length M).length := by rw [trM_length]; exact h4
    simpa [List.getD_eq_getElem?_getD, hj, h4] using this
/-- one line more is forced: what agreed agrees. -/
theorem line_step {ks c : List Int} {n : Nat} {L : List Bool} (hl : ks.length = n) (hk : okK ks c n = true) (hL : L.length = n) (ho : okL (kk ks) c L = true) :
    forB c ks = true ∧ okL (kk (forI c ks)) c L = true ∧ (forI c ks).length = n ∧ okK (forI c ks) c n = true := by
  have hW : 0 < wys (kk ks) c n := sm_pos L hL (by rw [ho]; simp)
  have hb : forB c ks = true := by
    unfold forB
    rw [hl, hk]
    simp; omega
  have hf : forI c ks = forL c ks := (forI_yes hb).1
  refine ⟨hb, ?_, ?_, ?_⟩
  · rw [hf, okL_for hl hW hL]; exact ho
  · rw [hf]; unfold forL; rw [mapTo_length, hl]
  · rw [hf]; exact okK_for hk
theorem line_none {ks c : List Int} {n : Nat} {L : List Bool} (hl : ks.length = n) (hk : okK ks c n = true) (hL : L.length = n) (hb : forB c ks = false) : okL (kk ks) c L = false := by
  cases ho : okL (kk ks) c L
  · rfl
  · have := (line_step hl hk hL ho).1
    rw [hb] at this
    simp at this
end Go.Proofs.Ytgeedgljabdllaa
