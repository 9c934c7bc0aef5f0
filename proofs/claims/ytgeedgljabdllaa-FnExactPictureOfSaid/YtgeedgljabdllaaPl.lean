import Derived.Test.YtgeedgljabdllaaBase
set_option maxRecDepth 8000
namespace Go.Proofs.Ytgeedgljabdllaa
/-! Lines of pictures: clues. -/
def nb (L : List Bool) (k : Nat) : Bool := L.getD k false
theorem snoc_ind {P : List Bool → Prop} (h0 : P []) (h1 : ∀ L b, P L → P (L ++ [b])) (L : List Bool) : P L := by
  rw [← List.reverse_reverse L]
  induction L.reverse with
  | nil => exact h0
  | cons b t ih => rw [List.reverse_cons]; exact h1 _ _ ih
def stp (s : List Int × Nat) (b : Bool) : List Int × Nat := if b then (s.1, s.2 + 1) else if 0 < s.2 then (s.1 ++ [(s.2 : Int)], 0) else (s.1, 0)
def sF (L : List Bool) : List Int × Nat := L.foldl stp ([], 0)
def fin (s : List Int × Nat) : List Int := if 0 < s.2 then s.1 ++ [(s.2 : Int)] else s.1
/-- the clue of a line, and the run at its end. -/
def cl (L : List Bool) : List Int := fin (sF L)
def tr (L : List Bool) : Nat := (sF L).2
theorem sF_snoc (L : List Bool) (b : Bool) : sF (L ++ [b]) = stp (sF L) b := by simp [sF]
theorem tr_nil : tr [] = 0 := rfl
theorem tr_f (L : List Bool) : tr (L ++ [false]) = 0 := by
  unfold tr; rw [sF_snoc]; unfold stp; simp; split <;> rfl
theorem tr_t (L : List Bool) : tr (L ++ [true]) = tr L + 1 := by
  unfold tr; rw [sF_snoc]; unfold stp; simp
theorem foldl_shift (B : List Bool) : ∀ (o p : List Int) (r : Nat), B.foldl stp (o ++ p, r) = (o ++ (B.foldl stp (p, r)).1, (B.foldl stp (p, r)).2) := by
  induction B with
  | nil => intro o p r; rfl
  | cons b t ih =>
    intro o p r
    simp only [List.foldl_cons]
    have e : stp (o ++ p, r) b = (o ++ (stp (p, r) b).1, (stp (p, r) b).2) := by
      unfold stp
      cases b
      · by_cases h : 0 < r <;> simp [h]
      · simp
    rw [e, ih]
theorem sF_end {A : List Bool} (h : tr A = 0) : sF A = (cl A, 0) := by
  unfold cl fin
  unfold tr at h
  rw [if_neg (by omega)]
  exact Prod.ext rfl h
theorem cl_f (L : List Bool) : cl (L ++ [false]) = cl L := by
  unfold cl; rw [sF_snoc]; unfold stp fin; simp
  by_cases h : 0 < (sF L).2 <;> simp [h]
theorem cl_app {A B : List Bool} (h : tr A = 0) : cl (A ++ B) = cl A ++ cl B := by
  have e : sF (A ++ B) = (cl A ++ (sF B).1, (sF B).2) := by
    have := foldl_shift B (cl A) [] 0
    unfold sF
    rw [List.foldl_append, show List.foldl stp ([], 0) A = (cl A, 0) from sF_end h]
    simpa using this
  show fin (sF (A ++ B)) = cl A ++ fin (sF B)
  rw [e]
  unfold fin
  by_cases h : 0 < (sF B).2 <;> simp [h]
/-- a line that begins with an empty cell, or has no cell. -/
def hd (B : List Bool) : Bool := nb B 0
theorem cl_app' {A B : List Bool} (h : hd B = false) : cl (A ++ B) = cl A ++ cl B := by
  cases B with
  | nil => simp [show cl [] = [] from rfl]
  | cons b t =>
    have hb : b = false := by simpa [hd, nb] using h
    subst hb
    have e : A ++ false :: t = (A ++ [false]) ++ t := by simp
    have e2 : cl (false :: t) = cl t := by
      have := cl_app (A := [false]) (B := t) rfl
      simpa [show cl [false] = [] from rfl] using this
    rw [e, cl_app (tr_f A), cl_f, e2]
theorem sF_rep (A : List Bool) (r : Nat) : sF (A ++ List.replicate r true) = ((sF A).1, tr A + r) := by
  induction r with
  | zero => simp [tr]
  | succ r ih =>
    rw [List.replicate_succ', ← List.append_assoc, sF_snoc, ih]
    simp [stp]; omega
theorem cl_rep {A : List Bool} (h : tr A = 0) {r : Nat} (hr : 0 < r) : cl (A ++ List.replicate r true) = cl A ++ [(r : Int)] := by
  unfold cl
  rw [sF_rep, h, sF_end h]
  simp [fin, hr]
theorem tr_rep {A : List Bool} (h : tr A = 0) (r : Nat) : tr (A ++ List.replicate r true) = r := by
  unfold tr; rw [sF_rep, h]; simp
theorem tr_split (L : List Bool) : ∃ A, tr A = 0 ∧ L = A ++ List.replicate (tr L) true := by
  refine snoc_ind (P := fun L => ∃ A, tr A = 0 ∧ L = A ++ List.replicate (tr L) true) ⟨[], rfl, rfl⟩ ?_ L
  rintro L b ⟨A, hA, e⟩
  cases b
  · exact ⟨L ++ [false], tr_f L, by rw [tr_f]; simp⟩
  · refine ⟨A, hA, ?_⟩
    rw [tr_t, List.replicate_succ', ← List.append_assoc, ← e]
theorem tr_le (L : List Bool) : tr L ≤ L.length := by
  obtain ⟨A, _, e⟩ := tr_split L
  have := congrArg List.length e
  simp at this
  omega
theorem hd_rev {A : List Bool} (h : tr A = 0) : hd A.reverse = false := by
  revert h
  refine snoc_ind (P := fun A => tr A = 0 → hd A.reverse = false) (fun _ => rfl) ?_ A
  intro L b _ h
  cases b
  · simp [hd, nb]
  · rw [tr_t] at h; omega
theorem tr_rev {B : List Bool} (h : hd B = false) : tr B.reverse = 0 := by
  cases B with
  | nil => rfl
  | cons b t =>
    have hb : b = false := by simpa [hd, nb] using h
    subst hb
    rw [List.reverse_cons]
    exact tr_f _
theorem cl_all {r : Nat} (hr : 0 < r) : cl (List.replicate r true) = [(r : Int)] := by
  have := cl_rep (A := []) rfl hr
  simpa [show cl [] = [] from rfl] using this
theorem cl_rev (L : List Bool) : cl L.reverse = (cl L).reverse := by
  suffices ∀ n (L : List Bool), L.length = n → cl L.reverse = (cl L).reverse from this _ L rfl
  intro n
  induction n using Nat.strongRecOn with
  | ind n ih =>
    intro L hL
    obtain ⟨A, hA, e⟩ := tr_split L
    by_cases h0 : tr L = 0
    · rcases List.eq_nil_or_concat L with rfl | ⟨L', b, rfl⟩
      · rfl
      · have hb : b = false := by
          cases b
          · rfl
          · rw [List.concat_eq_append, tr_t] at h0; omega
        subst hb
        rw [List.concat_eq_append] at *
        rw [cl_f, List.reverse_append]
        show cl ([false] ++ L'.reverse) = _
        rw [cl_app (by rfl), ih L'.length (by simp at hL; omega) L' rfl]
        rfl
    · generalize tr L = r at *
      subst e
      rw [cl_rep hA (by omega), List.reverse_append, List.reverse_replicate, cl_app' (hd_rev hA), cl_all (by omega), ih A.length (by simp at hL; omega) A rfl]
      simp
/-- Σ of the numbers, and of the numbers with a cell behind each. -/
def sI (xs : List Int) : Nat → Int
  | 0 => 0
  | k + 1 => sI xs k + nth xs k
theorem sum_snoc (xs : List Int) (v : Int) : (xs ++ [v]).sum = xs.sum + v := by simp
def cT (L : List Bool) : Nat := L.countP id
theorem cl_inv (L : List Bool) : (sF L).1.sum + ((sF L).2 : Int) = (cT L : Int) ∧ (∀ v ∈ (sF L).1, 1 ≤ v) ∧ (sF L).1.sum + ((sF L).1.length : Int) + ((sF L).2 : Int) ≤ L.length ∧ (∀ v ∈ (sF L).1, v ≤ L.length) := by
  refine snoc_ind (P := fun L => (sF L).1.sum + ((sF L).2 : Int) = (cT L : Int) ∧ (∀ v ∈ (sF L).1, 1 ≤ v) ∧ (sF L).1.sum + ((sF L).1.length : Int) + ((sF L).2 : Int) ≤ L.length ∧ (∀ v ∈ (sF L).1, v ≤ L.length)) ?_ ?_ L
  · simp [sF, cT]
  · rintro L b ⟨h1, h2, h3, h4⟩
    have hlen := tr_le L
    unfold tr at hlen
    rw [sF_snoc]
    have hc : cT (L ++ [b]) = cT L + (if b then 1 else 0) := by simp [cT, List.countP_append, List.countP_cons]
    rw [hc]
    unfold stp
    cases b
    · by_cases h : 0 < (sF L).2
      · simp only [Bool.false_eq_true, if_false, if_pos h]
        refine ⟨by simp; omega, ?_, by simp; omega, ?_⟩
        · intro v hv
          rcases List.mem_append.1 hv with hv | hv
          · exact h2 v hv
          · simp at hv; omega
        · intro v hv
          rcases List.mem_append.1 hv with hv | hv
          · have := h4 v hv; simp; omega
          · simp at hv ⊢; omega
      · simp only [Bool.false_eq_true, if_false, if_neg h]
        refine ⟨by simp; omega, h2, by simp; omega, fun v hv => by have := h4 v hv; simp; omega⟩
    · simp only [if_true]
      refine ⟨by simp; omega, h2, by simp; omega, fun v hv => by have := h4 v hv; simp; omega⟩
theorem cl_sum (L : List Bool) : (cl L).sum = (cT L : Int) := by
  have := (cl_inv L).1
  unfold cl fin
  split
  · rw [sum_snoc]; exact this
  · have : (sF L).2 = 0 := by omega
    simp_all
theorem cl_pos (L : List Bool) : ∀ v ∈ cl L, 1 ≤ v ∧ v ≤ L.length := by
  obtain ⟨_, h2, h3, h4⟩ := cl_inv L
  have hlen := tr_le L
  unfold tr at hlen
  unfold cl fin
  split
  · intro v hv
    rcases List.mem_append.1 hv with hv | hv
    · exact ⟨h2 v hv, h4 v hv⟩
    · simp at hv; omega
  · intro v hv; exact ⟨h2 v hv, h4 v hv⟩
theorem cl_fits (L : List Bool) : (cl L).sum + ((cl L).length : Int) ≤ L.length + 1 := by
  obtain ⟨_, h2, h3, h4⟩ := cl_inv L
  unfold cl fin
  split
  · simp; omega
  · omega
/-! counting lines. -/
def sm : Nat → (List Bool → Nat) → Nat
  | 0, f => f []
  | n + 1, f => sm n (fun L => f (L ++ [false])) + sm n (fun L => f (L ++ [true]))
theorem sm_congr {n : Nat} : ∀ {f g : List Bool → Nat}, (∀ L : List Bool, L.length = n → f L = g L) → sm n f = sm n g := by
  induction n with
  | zero => intro f g h; exact h [] rfl
  | succ n ih =>
    intro f g h
    unfold sm
    rw [ih (fun L hL => h (L ++ [false]) (by simp [hL])), ih (fun L hL => h (L ++ [true]) (by simp [hL]))]
theorem sm_zero (n : Nat) : sm n (fun _ => 0) = 0 := by
  induction n with
  | zero => rfl
  | succ n ih => unfold sm; rw [ih]
theorem sm_add (n : Nat) : ∀ (f g : List Bool → Nat), sm n (fun L => f L + g L) = sm n f + sm n g := by
  induction n with
  | zero => intro f g; rfl
  | succ n ih => intro f g; unfold sm; rw [ih, ih]; omega
theorem sm_mul (n : Nat) (c : Nat) : ∀ (f : List Bool → Nat), sm n (fun L => c * f L) = c * sm n f := by
  induction n with
  | zero => intro f; rfl
  | succ n ih => intro f; unfold sm; rw [ih, ih, Nat.mul_add]
theorem sm_app (a b : Nat) : ∀ f : List Bool → Nat, sm (a + b) f = sm a (fun A => sm b (fun B => f (A ++ B))) := by
  induction b with
  | zero => intro f; simp [sm]
  | succ b ih =>
    intro f
    rw [← Nat.add_assoc]
    simp only [sm]
    rw [ih, ih, ← sm_add]
    simp
theorem sm_le {n : Nat} : ∀ {f : List Bool → Nat}, (∀ L : List Bool, f L ≤ 1) → sm n f ≤ 2 ^ n := by
  induction n with
  | zero => intro f h; exact h []
  | succ n ih =>
    intro f h
    unfold sm
    have h1 := ih (f := fun L => f (L ++ [false])) (fun L => h _)
    have h2 := ih (f := fun L => f (L ++ [true])) (fun L => h _)
    rw [Nat.pow_succ]; omega
theorem sm_mono {n : Nat} : ∀ {f g : List Bool → Nat}, (∀ L : List Bool, L.length = n → f L ≤ g L) → sm n f ≤ sm n g := by
  induction n with
  | zero => intro f g h; exact h [] rfl
  | succ n ih =>
    intro f g h
    unfold sm
    have h1 := ih (f := fun L => f (L ++ [false])) (g := fun L => g (L ++ [false])) (fun L hL => h _ (by simp [hL]))
    have h2 := ih (f := fun L => f (L ++ [true])) (g := fun L => g (L ++ [true])) (fun L hL => h _ (by simp [hL]))
    omega
theorem sm_rev (n : Nat) : ∀ f : List Bool → Nat, sm n (fun L => f L.reverse) = sm n f := by
  induction n with
  | zero => intro f; rfl
  | succ n ih =>
    intro f
    conv => rhs; rw [Nat.add_comm, sm_app 1 n]
    simp only [sm, List.nil_append, List.reverse_append, List.reverse_cons, List.reverse_nil]
    rw [ih (fun L => f ([false] ++ L)), ih (fun L => f ([true] ++ L))]
theorem sm_one {n : Nat} (M : List Bool) (hM : M.length = n) (x : Nat) : sm n (fun L => if L = M then x else 0) = x := by
  subst hM
  refine snoc_ind (P := fun M => sm M.length (fun L => if L = M then x else 0) = x) (by simp [sm]) ?_ M
  intro M b ih
  rw [List.length_append]
  show sm (M.length + 1) _ = x
  unfold sm
  cases b
  · rw [show (fun L : List Bool => if L ++ [false] = M ++ [false] then x else 0) = fun L => if L = M then x else 0 from by funext L; simp, ih, show (fun L : List Bool => if L ++ [true] = M ++ [false] then x else 0) = fun _ => 0 from by funext L; rw [if_neg]; intro h; have := List.append_inj_right' h rfl; simp at this, sm_zero, Nat.add_zero]
  · rw [show (fun L : List Bool => if L ++ [true] = M ++ [true] then x else 0) = fun L => if L = M then x else 0 from by funext L; simp, ih, show (fun L : List Bool => if L ++ [false] = M ++ [true] then x else 0) = fun _ => 0 from by funext L; rw [if_neg]; intro h; have := List.append_inj_right' h rfl; simp at this, sm_zero, Nat.zero_add]
theorem sm_pos {n : Nat} {f : List Bool → Nat} (M : List Bool) (hM : M.length = n) (h : 0 < f M) : 0 < sm n f := by
  have h1 : sm n (fun L => if L = M then f M else 0) ≤ sm n f := sm_mono (fun L _ => by by_cases e : L = M <;> simp [e])
  rw [sm_one M hM] at h1
  omega
/-- whether a line agrees from cell s on. -/
def ft (K : Nat → Bool → Bool) : Nat → List Bool → Bool
  | _, [] => true
  | s, b :: t => K s b && ft K (s + 1) t
theorem ft_app (K : Nat → Bool → Bool) : ∀ (A B : List Bool) (s : Nat), ft K s (A ++ B) = (ft K s A && ft K (s + A.length) B) := by
  intro A B
  induction A with
  | nil => intro s; simp [ft]
  | cons b t ih => intro s; simp only [List.cons_append, ft, ih, List.length_cons, Bool.and_assoc]; rw [show s + (t.length + 1) = s + 1 + t.length by omega]
theorem nb_cons (b : Bool) (t : List Bool) (k : Nat) : nb (b :: t) (k + 1) = nb t k := by simp [nb]
theorem ft_iff (K : Nat → Bool → Bool) (L : List Bool) : ∀ s, ft K s L = true ↔ ∀ j, j < L.length → K (s + j) (nb L j) = true := by
  induction L with
  | nil => intro s; simp [ft]
  | cons b t ih =>
    intro s
    simp only [ft, Bool.and_eq_true, ih]
    constructor
    · rintro ⟨h1, h2⟩ j hj
      cases j with
      | zero => simpa [nb] using h1
      | succ j => rw [nb_cons, show s + (j + 1) = s + 1 + j by omega]; exact h2 j (by simp at hj; omega)
    · intro h
      refine ⟨by simpa [nb] using h 0 (by simp), fun j hj => ?_⟩
      have := h (j + 1) (by simp; omega)
      rwa [nb_cons, show s + (j + 1) = s + 1 + j by omega] at this
theorem nb_rev {L : List Bool} {j : Nat} (h : j < L.length) : nb L.reverse j = nb L (L.length - 1 - j) := by
  simp only [nb, List.getD_eq_getElem?_getD]
  rw [List.getElem?_reverse h]
theorem ft_rev {K K' : Nat → Bool → Bool} {n : Nat} (hK : ∀ j b, j < n → K' j b = K (n - 1 - j) b) (L : List Bool) (s : Nat) (h : s + L.length ≤ n) : ft K' s L = ft K (n - s - L.length) L.reverse := by
  rw [Bool.eq_iff_iff, ft_iff, ft_iff]
  constructor
  · intro H j hj
    simp at hj
    rw [nb_rev (by omega)]
    have := H (L.length - 1 - j) (by omega)
    rw [hK _ _ (by omega)] at this
    rwa [show n - 1 - (s + (L.length - 1 - j)) = n - s - L.length + j by omega] at this
  · intro H j hj
    have := H (L.length - 1 - j) (by simp; omega)
    rw [nb_rev (by omega), show L.length - 1 - (L.length - 1 - j) = j by omega] at this
    rw [hK _ _ (by omega)]
    rwa [show n - 1 - (s + j) = n - s - L.length + (L.length - 1 - j) by omega]
/-- the table: lines of j cells that end with an empty one (or have none), agree, and have the first i runs. -/
def frP (K : Nat → Bool → Bool) (c : List Int) (i : Nat) (L : List Bool) : Bool := decide (tr L = 0) && ft K 0 L && decide (cl L = c.take i)
def fr (K : Nat → Bool → Bool) (c : List Int) (j i : Nat) : Nat := sm j (fun L => if frP K c i L then 1 else 0)
theorem fr_zero (K : Nat → Bool → Bool) (c : List Int) (i : Nat) (h : i ≤ c.length) : fr K c 0 i = if i = 0 then 1 else 0 := by
  unfold fr sm frP
  cases i with
  | zero => simp [tr_nil, ft, show cl [] = [] from rfl]
  | succ i =>
    cases c with
    | nil => simp at h
    | cons a t => simp [show cl [] = [] from rfl]
def allK (K : Nat → Bool → Bool) (s e : Nat) : Bool := ft K s (List.replicate (e - s) true)
theorem end_parts {c : List Int} {i : Nat} (hi : i < c.length) {L : List Bool} (h0 : tr L ≠ 0) (h : cl L = c.take (i + 1)) :
    ∃ A, L = A ++ List.replicate (tr L) true ∧ tr A = 0 ∧ cl A = c.take i ∧ (tr L : Int) = nth c i := by
  obtain ⟨A, hA, e⟩ := tr_split L
  have hr : 0 < tr L := by omega
  have hc := cl_rep hA hr
  rw [← e, h, List.take_add_one] at hc
  rw [List.getElem?_eq_getElem hi] at hc
  simp only [Option.toList] at hc
  obtain ⟨h1, h2⟩ := List.append_inj' hc rfl
  refine ⟨A, e, hA, h1.symm, ?_⟩
  simp at h2
  simp [nth, List.getD_eq_getElem?_getD, hi, h2]
theorem any_end (K : Nat → Bool → Bool) (c : List Int) (hc : ∀ v ∈ c, 1 ≤ v) (j i : Nat) (hi : i ≤ c.length) :
    sm j (fun L => if ft K 0 L && decide (cl L = c.take i) then 1 else 0)
      = fr K c j i + (if 0 < i ∧ nth c (i - 1) ≤ j ∧ allK K (j - (nth c (i - 1)).toNat) j = true then fr K c (j - (nth c (i - 1)).toNat) (i - 1) else 0) := by
  have hsplit : (fun L => if ft K 0 L && decide (cl L = c.take i) then 1 else 0) = fun L => (if frP K c i L then 1 else 0) + (if ft K 0 L && decide (cl L = c.take i) && decide (tr L ≠ 0) then 1 else 0) := by
    funext L
    unfold frP
    by_cases h : tr L = 0 <;> simp [h]
  rw [hsplit, sm_add]
  show fr K c j i + _ = _
  congr 1
  cases i with
  | zero =>
    rw [if_neg (by omega)]
    refine (sm_congr ?_).trans (sm_zero j)
    intro L _
    refine if_neg ?_
    simp only [Bool.and_eq_true, decide_eq_true_eq]
    rintro ⟨⟨_, h⟩, h0⟩
    obtain ⟨A, hA, e⟩ := tr_split L
    have := cl_rep hA (r := tr L) (by omega)
    rw [← e, h] at this
    simp at this
  | succ i =>
    have hil : i < c.length := by omega
    have hv : 1 ≤ nth c i := by
      have := hc _ (List.getElem_mem hil)
      simp [nth, List.getD_eq_getElem?_getD, hil]; exact this
    obtain ⟨r, hr⟩ := Int.eq_ofNat_of_zero_le (show 0 ≤ nth c i by omega)
    rw [show i + 1 - 1 = i by omega, hr]
    have hr1 : 1 ≤ r := by omega
    by_cases hrj : r ≤ j
    · obtain ⟨a, rfl⟩ : ∃ a, j = a + r := ⟨j - r, by omega⟩
      rw [sm_app, show ((r : Int)).toNat = r by simp, show a + r - r = a by omega]
      have key : ∀ A : List Bool, A.length = a → sm r (fun B => if ft K 0 (A ++ B) && decide (cl (A ++ B) = c.take (i + 1)) && decide (tr (A ++ B) ≠ 0) then 1 else 0) = if allK K a (a + r) then (if frP K c i A then 1 else 0) else 0 := by
        intro A hA
        rw [← sm_one (n := r) (List.replicate r true) (by simp) (if allK K a (a + r) then (if frP K c i A then 1 else 0) else 0)]
        refine sm_congr fun B hB => ?_
        by_cases e : B = List.replicate r true
        · subst e
          rw [if_pos rfl, ft_app, hA, Nat.zero_add]
          by_cases hak : allK K a (a + r) = true
          · have hak' : ft K a (List.replicate r true) = true := by unfold allK at hak; rwa [show a + r - a = r by omega] at hak
            rw [if_pos hak, hak', Bool.and_true]
            by_cases hP : frP K c i A = true
            · rw [if_pos hP]
              simp only [frP, Bool.and_eq_true, decide_eq_true_eq] at hP
              obtain ⟨⟨p1, p2⟩, p3⟩ := hP
              rw [if_pos]
              rw [cl_rep p1 hr1, tr_rep p1, p2, p3, List.take_add_one, List.getElem?_eq_getElem hil]
              have : c[i] = (r : Int) := by rw [← hr]; simp [nth, List.getD_eq_getElem?_getD, hil]
              simp [this]
              omega
            · rw [if_neg hP, if_neg]
              intro hq
              apply hP
              simp only [Bool.and_eq_true, decide_eq_true_eq] at hq
              obtain ⟨⟨q1, q2⟩, q3⟩ := hq
              obtain ⟨A', e1, e2, e3, e4⟩ := end_parts hil q3 q2
              have ht : tr (A ++ List.replicate r true) = r := by rw [hr] at e4; omega
              rw [ht] at e1
              have := (List.append_inj' e1 rfl).1
              subst this
              simp [frP, e2, e3, q1]
          · have hak' : ft K a (List.replicate r true) = false := by
              cases h : ft K a (List.replicate r true)
              · rfl
              · exact absurd (by unfold allK; rw [show a + r - a = r by omega]; exact h) hak
            rw [if_neg hak, hak']
            simp
        · rw [if_neg e, if_neg]
          intro hq
          apply e
          simp only [Bool.and_eq_true, decide_eq_true_eq] at hq
          obtain ⟨⟨q1, q2⟩, q3⟩ := hq
          obtain ⟨A', e1, e2, e3, e4⟩ := end_parts hil q3 q2
          have ht : tr (A ++ B) = r := by rw [hr] at e4; omega
          rw [ht] at e1
          exact (List.append_inj' e1 (by simp [hB])).2
      rw [sm_congr key]
      by_cases hak : allK K a (a + r) = true
      · simp only [hak, if_true]
        rw [if_pos ⟨by omega, by omega, trivial⟩]
        rfl
      · rw [Bool.not_eq_true] at hak
        simp only [hak, Bool.false_eq_true, if_false, and_false]
        exact sm_zero _
    · rw [if_neg (by omega)]
      refine (sm_congr (fun L hL => if_neg ?_)).trans (sm_zero j)
      simp only [Bool.and_eq_true, decide_eq_true_eq]
      rintro ⟨⟨_, h⟩, h0⟩
      obtain ⟨A', e1, e2, e3, e4⟩ := end_parts hil h0 h
      have := tr_le L
      rw [hr] at e4
      omega
theorem fr_succ (K : Nat → Bool → Bool) (c : List Int) (hc : ∀ v ∈ c, 1 ≤ v) (j i : Nat) (hi : i ≤ c.length) :
    fr K c (j + 1) i = if K j false then fr K c j i + (if 0 < i ∧ nth c (i - 1) ≤ j ∧ allK K (j - (nth c (i - 1)).toNat) j = true then fr K c (j - (nth c (i - 1)).toNat) (i - 1) else 0) else 0 := by
  have e1 : fr K c (j + 1) i = sm j (fun L => if ft K 0 L && decide (cl L = c.take i) && K j false then 1 else 0) := by
    unfold fr
    rw [sm]
    have h2 : sm j (fun L => if frP K c i (L ++ [true]) then 1 else 0) = 0 := by
      have e : ∀ L : List Bool, L.length = j → (if frP K c i (L ++ [true]) then 1 else 0) = (fun _ => 0) L := fun L _ => if_neg (by simp [frP, tr_t])
      exact (sm_congr e).trans (sm_zero j)
    rw [h2, Nat.add_zero]
    refine sm_congr fun L hL => ?_
    have : frP K c i (L ++ [false]) = (ft K 0 L && decide (cl L = c.take i) && K j false) := by
      unfold frP
      rw [tr_f, ft_app, cl_f, hL]
      simp only [ft, Nat.zero_add]
      cases ft K 0 L <;> cases decide (cl L = List.take i c) <;> cases K j false <;> rfl
    rw [this]
  rw [e1]
  by_cases h : K j false = true
  · simp only [h, Bool.and_true, if_true]
    exact any_end K c hc j i hi
  · rw [Bool.not_eq_true] at h
    simp only [h, Bool.and_false, Bool.false_eq_true, if_false]
    exact sm_zero _
theorem fr_le (K : Nat → Bool → Bool) (c : List Int) (j i : Nat) : fr K c j i ≤ 2 ^ j := sm_le (fun L => by split <;> omega)
/-- the ways: lines of n cells that agree and have the clue. -/
def okL (K : Nat → Bool → Bool) (c : List Int) (L : List Bool) : Bool := ft K 0 L && decide (cl L = c)
def wys (K : Nat → Bool → Bool) (c : List Int) (n : Nat) : Nat := sm n (fun L => if okL K c L then 1 else 0)
theorem wys_fr (K : Nat → Bool → Bool) (c : List Int) (hc : ∀ v ∈ c, 1 ≤ v) (n : Nat) (hn : K n false = true) : fr K c (n + 1) c.length = wys K c n := by
  rw [fr_succ K c hc n c.length (Nat.le_refl _), if_pos hn, ← any_end K c hc n c.length (Nat.le_refl _), List.take_length]
  rfl
/-! how many ways fill a cell. -/
def sN : Nat → (Nat → Nat) → Nat
  | 0, _ => 0
  | n + 1, g => sN n g + g n
theorem sN_congr {n : Nat} {f g : Nat → Nat} (h : ∀ k, k < n → f k = g k) : sN n f = sN n g := by
  induction n with
  | zero => rfl
  | succ n ih => simp only [sN]; rw [ih (fun k hk => h k (by omega)), h n (by omega)]
theorem sN_zero (n : Nat) {g : Nat → Nat} (h : ∀ k, k < n → g k = 0) : sN n g = 0 := by
  induction n with
  | zero => rfl
  | succ n ih => simp only [sN]; rw [ih (fun k hk => h k (by omega)), h n (by omega)]
theorem sN_single {n : Nat} {g : Nat → Nat} {k0 : Nat} (h0 : k0 < n) (h : ∀ k, k < n → k ≠ k0 → g k = 0) : sN n g = g k0 := by
  induction n with
  | zero => omega
  | succ n ih =>
    simp only [sN]
    by_cases e : k0 = n
    · subst e
      rw [sN_zero _ (fun k hk => h k (by omega) (by omega))]; omega
    · rw [ih (by omega) (fun k hk hne => h k (by omega) hne), h n (by omega) (by omega)]; omega
theorem sN_le {m n : Nat} (g : Nat → Nat) (h : m ≤ n) : sN m g ≤ sN n g := by
  induction n with
  | zero => have : m = 0 := by omega
            subst this; exact Nat.le_refl _
  | succ n ih =>
    by_cases e : m = n + 1
    · subst e; exact Nat.le_refl _
    · have := ih (by omega)
      simp only [sN]; omega
theorem sN_add (n : Nat) (f g : Nat → Nat) : sN n (fun k => f k + g k) = sN n f + sN n g := by
  induction n with
  | zero => rfl
  | succ n ih => simp only [sN]; rw [ih]; omega
theorem sm_sN (n k : Nat) (f : Nat → List Bool → Nat) : sm n (fun L => sN k (fun i => f i L)) = sN k (fun i => sm n (f i)) := by
  induction k with
  | zero => exact sm_zero n
  | succ k ih => simp only [sN]; rw [sm_add, ih]
theorem sN_app (a b : Nat) (g : Nat → Nat) : sN (a + b) g = sN a g + sN b (fun k => g (a + k)) := by
  induction b with
  | zero => rfl
  | succ b ih => rw [← Nat.add_assoc]; simp only [sN]; rw [ih]; omega
/-- lines by their numbers. -/
def lnB (k n : Nat) : List Bool := (List.range n).map fun j => k.testBit j
theorem lnB_length (k n : Nat) : (lnB k n).length = n := by simp [lnB]
theorem lnB_succ (k n : Nat) : lnB k (n + 1) = lnB k n ++ [k.testBit n] := by simp [lnB, List.range_succ]
theorem sN_lines (n : Nat) : ∀ f : List Bool → Nat, sN (2 ^ n) (fun k => f (lnB k n)) = sm n f := by
  induction n with
  | zero => intro f; simp [sN, sm, lnB]
  | succ n ih =>
    intro f
    rw [Nat.pow_succ, Nat.mul_two, sN_app]
    simp only [sm]
    rw [← ih (fun L => f (L ++ [false])), ← ih (fun L => f (L ++ [true]))]
    congr 1
    · refine sN_congr fun k hk => ?_
      rw [lnB_succ, Nat.testBit_lt_two_pow hk]
    · refine sN_congr fun k hk => ?_
      rw [lnB_succ, Nat.testBit_two_pow_add_eq, Nat.testBit_lt_two_pow hk]
      congr 2
      refine List.map_congr_left fun j hj => ?_
      rw [List.mem_range] at hj
      exact Nat.testBit_two_pow_add_gt hj k
def flC (K : Nat → Bool → Bool) (c : List Int) (n cell : Nat) : Nat := sm n (fun L => if okL K c L && nb L cell then 1 else 0)
/-- the ways with the run m right ahead of cell e. -/
def rnC (c : List Int) (m : Nat) : Nat := (nth c m).toNat
def tm (K K' : Nat → Bool → Bool) (c : List Int) (n m e : Nat) : Nat :=
  if allK K (e - rnC c m) e then fr K c (e - rnC c m) m * fr K' c.reverse (n - e) (c.length - 1 - m) else 0
def inn (c : List Int) (m e cell : Nat) : Bool := decide (rnC c m ≤ e ∧ e - rnC c m ≤ cell ∧ cell < e)
def dec (K : Nat → Bool → Bool) (c : List Int) (m e : Nat) (L : List Bool) : Bool :=
  ft K 0 L && decide (tr (L.take (e - rnC c m)) = 0 ∧ cl (L.take (e - rnC c m)) = c.take m ∧ (L.drop (e - rnC c m)).take (rnC c m) = List.replicate (rnC c m) true ∧ hd (L.drop e) = false ∧ cl (L.drop e) = c.drop (m + 1))
theorem hd_iff (B : List Bool) : hd B = false ↔ tr B.reverse = 0 := by
  refine ⟨tr_rev, fun h => ?_⟩
  have := hd_rev h
  rwa [List.reverse_reverse] at this
theorem back_eq {K K' : Nat → Bool → Bool} {n : Nat} (hK : ∀ j b, j < n → K' j b = K (n - 1 - j) b) (c : List Int) (m e : Nat) (he : e ≤ n) (hm : m < c.length) :
    fr K' c.reverse (n - e) (c.length - 1 - m) = sm (n - e) (fun B => if decide (hd B = false) && ft K e B && decide (cl B = c.drop (m + 1)) then 1 else 0) := by
  unfold fr
  rw [← sm_rev]
  refine sm_congr fun B hB => ?_
  have e1 : frP K' c.reverse (c.length - 1 - m) B.reverse = (decide (hd B = false) && ft K e B && decide (cl B = c.drop (m + 1))) := by
    unfold frP
    rw [ft_rev hK B.reverse 0 (by simp; omega), List.reverse_reverse, cl_rev, List.take_reverse, show c.length - (c.length - 1 - m) = m + 1 by omega, show n - 0 - B.reverse.length = e by simp; omega]
    congr 1
    · congr 1
      rw [Bool.eq_iff_iff, decide_eq_true_eq, decide_eq_true_eq, hd_iff]
    · rw [Bool.eq_iff_iff, decide_eq_true_eq, decide_eq_true_eq, List.reverse_inj]
  rw [e1]
theorem sm_prod (a b : Nat) (f g : List Bool → Nat) : sm a (fun A => sm b (fun B => f A * g B)) = sm a f * sm b g := by
  have : (fun A => sm b (fun B => f A * g B)) = fun A => sm b g * f A := by
    funext A; rw [sm_mul, Nat.mul_comm]
  rw [this, sm_mul, Nat.mul_comm]
theorem tm_eq {K K' : Nat → Bool → Bool} {n : Nat} (hK : ∀ j b, j < n → K' j b = K (n - 1 - j) b) (c : List Int) (m e : Nat) (he : e ≤ n) (hm : m < c.length) (hr : rnC c m ≤ e) :
    tm K K' c n m e = sm n (fun L => if dec K c m e L then 1 else 0) := by
  obtain ⟨r, hrr⟩ : ∃ r, r = rnC c m := ⟨_, rfl⟩
  obtain ⟨s, rfl⟩ : ∃ s, e = s + r := ⟨e - r, by omega⟩
  obtain ⟨b, rfl⟩ : ∃ b, n = s + (r + b) := ⟨n - (s + r), by omega⟩
  rw [sm_app s (r + b)]
  have hb := back_eq hK c m (s + r) he hm
  rw [show s + (r + b) - (s + r) = b by omega] at hb
  unfold tm
  rw [← hrr, show s + r - r = s by omega, show s + (r + b) - (s + r) = b by omega, hb]
  have key : ∀ A : List Bool, A.length = s → sm (r + b) (fun M => if dec K c m (s + r) (A ++ M) then 1 else 0) = sm b (fun B => (if frP K c m A then 1 else 0) * (if allK K s (s + r) then (if decide (hd B = false) && ft K (s + r) B && decide (cl B = c.drop (m + 1)) then 1 else 0) else 0)) := by
    intro A hA
    rw [sm_app r b]
    have k2 : ∀ M : List Bool, M.length = r → sm b (fun B => if dec K c m (s + r) (A ++ (M ++ B)) then 1 else 0) = if M = List.replicate r true then sm b (fun B => (if frP K c m A then 1 else 0) * (if allK K s (s + r) then (if decide (hd B = false) && ft K (s + r) B && decide (cl B = c.drop (m + 1)) then 1 else 0) else 0)) else 0 := by
      intro M hM
      have hdec : ∀ B : List Bool, dec K c m (s + r) (A ++ (M ++ B)) = (ft K 0 (A ++ (M ++ B)) && decide (tr A = 0 ∧ cl A = c.take m ∧ M = List.replicate r true ∧ hd B = false ∧ cl B = c.drop (m + 1))) := by
        intro B
        unfold dec
        rw [← hrr, show s + r - r = s by omega, List.take_left' hA, List.drop_left' hA, List.take_left' hM, show (A ++ (M ++ B)).drop (s + r) = B by rw [← List.append_assoc, List.drop_left' (by simp [hA, hM])]]
      by_cases e : M = List.replicate r true
      · rw [if_pos e]
        refine sm_congr fun B _ => ?_
        rw [hdec B, ft_app, ft_app, hA, hM, Nat.zero_add]
        subst e
        have hak : allK K s (s + r) = ft K s (List.replicate r true) := by unfold allK; rw [show s + r - s = r by omega]
        rw [hak]
        unfold frP
        by_cases h1 : tr A = 0 <;> by_cases h2 : cl A = c.take m <;> by_cases h3 : hd B = false <;> by_cases h4 : cl B = c.drop (m + 1) <;> cases h5 : ft K 0 A <;> cases h6 : ft K s (List.replicate r true) <;> cases h7 : ft K (s + r) B <;> simp [h1, h2, h3, h4]
      · rw [if_neg e]
        refine (sm_congr (g := fun _ => 0) (fun B _ => ?_)).trans (sm_zero b)
        rw [hdec B]
        simp [e]
    rw [sm_congr k2]
    exact sm_one (List.replicate r true) (by simp) _
  rw [sm_congr key, sm_prod]
  by_cases hak : allK K s (s + r) = true
  · simp only [hak, if_true]
    rfl
  · rw [Bool.not_eq_true] at hak
    simp only [hak, Bool.false_eq_true, if_false]
    rw [sm_zero, Nat.mul_zero]
/-- the sums as the program makes them. -/
def tE (K K' : Nat → Bool → Bool) (c : List Int) (n m cell E : Nat) : Nat := sN E (fun e => if inn c m e cell then tm K K' c n m e else 0)
def tM (K K' : Nat → Bool → Bool) (c : List Int) (n cell M : Nat) : Nat := sN M (fun m => tE K K' c n m cell (n + 1))
theorem nb_drop (L : List Bool) (i j : Nat) : nb (L.drop i) j = nb L (i + j) := by simp [nb, List.getD_eq_getElem?_getD]
theorem nb_take {L : List Bool} {i j : Nat} (h : j < i) : nb (L.take i) j = nb L j := by simp [nb, List.getD_eq_getElem?_getD, h]
theorem dec_parts {K : Nat → Bool → Bool} {c : List Int} {m e : Nat} {L : List Bool} (h : dec K c m e L = true) (hr : rnC c m ≤ e) (he : e ≤ L.length) :
    ∃ A B, L = A ++ (List.replicate (rnC c m) true ++ B) ∧ A.length = e - rnC c m ∧ tr A = 0 ∧ cl A = c.take m ∧ hd B = false ∧ cl B = c.drop (m + 1) ∧ ft K 0 L = true := by
  unfold dec at h
  rw [Bool.and_eq_true, decide_eq_true_eq] at h
  obtain ⟨h0, h1, h2, h3, h4, h5⟩ := h
  refine ⟨L.take (e - rnC c m), L.drop e, ?_, by simp; omega, h1, h2, h4, h5, h0⟩
  rw [← h3]
  have e1 : L.drop e = (L.drop (e - rnC c m)).drop (rnC c m) := by rw [List.drop_drop]; congr 1; omega
  rw [e1, List.take_append_drop, List.take_append_drop]
theorem c_parts {c : List Int} {m : Nat} (hm : m < c.length) : c = c.take m ++ (nth c m :: c.drop (m + 1)) := by
  have : nth c m = c[m] := by simp [nth, List.getD_eq_getElem?_getD, hm]
  rw [this]
  simp
theorem dec_fact {K : Nat → Bool → Bool} {c : List Int} (hc : ∀ v ∈ c, 1 ≤ v) {m e cell : Nat} {L : List Bool} (h : dec K c m e L = true) (hi : inn c m e cell = true) (he : e ≤ L.length) (hm : m < c.length) :
    okL K c L = true ∧ nb L cell = true ∧ e = cell + tr (L.drop cell).reverse ∧ m = (cl (L.take (cell + 1 - tr (L.take (cell + 1))))).length := by
  unfold inn at hi
  rw [decide_eq_true_eq] at hi
  obtain ⟨i1, i2, i3⟩ := hi
  obtain ⟨A, B, hL, hA, h1, h2, h4, h5, h0⟩ := dec_parts h i1 he
  have hv : 1 ≤ nth c m := by
    have := hc _ (List.getElem_mem hm)
    simp [nth, List.getD_eq_getElem?_getD, hm]; exact this
  have hrr : ((rnC c m : Nat) : Int) = nth c m := by unfold rnC; omega
  generalize rnC c m = r at *
  have hr1 : 0 < r := by omega
  have t1 : L.take (cell + 1) = A ++ List.replicate (cell + 1 - A.length) true := by
    rw [hL, List.take_append, List.take_of_length_le (by omega), List.take_append, List.take_replicate]
    rw [show min (cell + 1 - A.length) r = cell + 1 - A.length by omega]
    simp; omega
  have t2 : (L.drop cell).reverse = B.reverse ++ List.replicate (e - cell) true := by
    rw [hL, List.drop_append, List.drop_of_length_le (by omega), List.nil_append, List.drop_append, List.drop_replicate, List.length_replicate, show cell - A.length - r = 0 by omega, List.drop_zero, List.reverse_append, List.reverse_replicate]
    congr 2; omega
  refine ⟨?_, ?_, ?_, ?_⟩
  · unfold okL
    rw [h0, Bool.true_and, decide_eq_true_eq, hL, ← List.append_assoc, cl_app' h4, cl_rep h1 hr1, h2, h5, hrr]
    conv => rhs; rw [c_parts hm]
    simp
  · have : nb (L.take (cell + 1)) cell = true := by
      rw [t1]
      simp only [nb, List.getD_eq_getElem?_getD]
      rw [List.getElem?_append_right (by omega), List.getElem?_replicate, if_pos (by omega)]
      rfl
    rwa [nb_take (by omega)] at this
  · rw [t2, tr_rep ((hd_iff B).1 h4)]; omega
  · rw [t1, tr_rep h1, show cell + 1 - (cell + 1 - A.length) = A.length by omega, hL, List.take_left' rfl, h2, List.length_take]
    omega
theorem dec_exists {K : Nat → Bool → Bool} {c : List Int} {cell : Nat} {L : List Bool} (h : okL K c L = true) (hb : nb L cell = true) (hl : cell < L.length) :
    ∃ m e, m < c.length ∧ e ≤ L.length ∧ inn c m e cell = true ∧ dec K c m e L = true := by
  unfold okL at h
  rw [Bool.and_eq_true, decide_eq_true_eq] at h
  obtain ⟨h0, hcl⟩ := h
  obtain ⟨A, hA, eA⟩ := tr_split (L.take cell)
  obtain ⟨X, hX, eX⟩ := tr_split (L.drop (cell + 1)).reverse
  generalize tr (L.take cell) = a at *
  generalize tr (L.drop (cell + 1)).reverse = b at *
  have eB : L.drop (cell + 1) = List.replicate b true ++ X.reverse := by
    rw [← List.reverse_reverse (L.drop (cell + 1)), eX, List.reverse_append, List.reverse_replicate]
  have hL : L = A ++ (List.replicate (a + 1 + b) true ++ X.reverse) := by
    have e1 : L = L.take cell ++ (L[cell] :: L.drop (cell + 1)) := by simp
    have e2 : L[cell] = true := by simpa [nb, List.getD_eq_getElem?_getD, hl] using hb
    rw [e1, e2, eA, eB, ← List.replicate_append_replicate (n := a + 1), List.replicate_succ']
    simp
  have hlA : A.length + a = cell := by
    have := congrArg List.length eA
    simp at this
    omega
  have hlL : A.length + (a + 1 + b) ≤ L.length := by rw [hL]; simp
  have hsB := hd_rev hX
  have hclL : c = cl A ++ (((a + 1 + b : Nat) : Int) :: cl X.reverse) := by
    rw [← hcl, hL, ← List.append_assoc, cl_app' hsB, cl_rep hA (by omega)]
    simp
  have hrun : rnC c (cl A).length = a + 1 + b := by
    have : nth c (cl A).length = ((a + 1 + b : Nat) : Int) := by
      rw [hclL]; simp [nth, List.getD_eq_getElem?_getD]
    unfold rnC; rw [this]; omega
  refine ⟨(cl A).length, A.length + (a + 1 + b), ?_, hlL, ?_, ?_⟩
  · rw [hclL]; simp
  · unfold inn; rw [decide_eq_true_eq, hrun]; omega
  · unfold dec
    rw [h0, Bool.true_and, decide_eq_true_eq, hrun, show A.length + (a + 1 + b) - (a + 1 + b) = A.length by omega]
    refine ⟨?_, ?_, ?_, ?_, ?_⟩
    · rw [hL, List.take_left' rfl]; exact hA
    · rw [hL, List.take_left' rfl, hclL, List.take_left' rfl]
    · rw [hL, List.drop_left' rfl, List.take_left' (by simp)]
    · rw [hL, ← List.append_assoc, List.drop_left' (by simp)]; exact hsB
    · conv => lhs; rw [hL, ← List.append_assoc, List.drop_left' (by simp)]
      conv => rhs; rw [hclL]
      rw [show cl A ++ (((a + 1 + b : Nat) : Int) :: cl X.reverse) = (cl A ++ [((a + 1 + b : Nat) : Int)]) ++ cl X.reverse by simp, List.drop_left' (by simp)]
theorem tM_fl {K K' : Nat → Bool → Bool} {n : Nat} (hK : ∀ j b, j < n → K' j b = K (n - 1 - j) b) (c : List Int) (hc : ∀ v ∈ c, 1 ≤ v) {cell : Nat} (hcell : cell < n) :
    tM K K' c n cell c.length = flC K c n cell := by
  unfold tM flC
  have e1 : sN c.length (fun m => tE K K' c n m cell (n + 1)) = sN c.length (fun m => sN (n + 1) (fun e => sm n (fun L => if inn c m e cell && dec K c m e L then 1 else 0))) := by
    refine sN_congr fun m hm => ?_
    unfold tE
    refine sN_congr fun e he => ?_
    by_cases hi : inn c m e cell = true
    · have hi' := hi
      unfold inn at hi'
      rw [decide_eq_true_eq] at hi'
      simp only [hi, if_true, Bool.true_and]
      exact tm_eq hK c m e (by omega) hm hi'.1
    · rw [Bool.not_eq_true] at hi
      simp only [hi, Bool.false_eq_true, if_false, Bool.false_and]
      exact (sm_zero n).symm
  rw [e1]
  have e2 : ∀ m, sN (n + 1) (fun e => sm n (fun L => if inn c m e cell && dec K c m e L then 1 else 0)) = sm n (fun L => sN (n + 1) (fun e => if inn c m e cell && dec K c m e L then 1 else 0)) := fun m => (sm_sN n (n + 1) (fun e L => if inn c m e cell && dec K c m e L then 1 else 0)).symm
  simp only [e2]
  rw [← sm_sN n c.length (fun m L => sN (n + 1) (fun e => if inn c m e cell && dec K c m e L then 1 else 0))]
  refine sm_congr fun L hL => ?_
  by_cases h : okL K c L = true ∧ nb L cell = true
  · obtain ⟨m0, e0, hm0, he0, hi0, hd0⟩ := dec_exists h.1 h.2 (by omega)
    obtain ⟨_, _, f3, f4⟩ := dec_fact hc hd0 hi0 he0 hm0
    rw [sN_single hm0, sN_single (k0 := e0) (by omega)]
    · simp [hi0, hd0, h.1, h.2]
    · intro e he hne
      refine if_neg fun hq => hne ?_
      rw [Bool.and_eq_true] at hq
      rw [f3]
      exact (dec_fact hc hq.2 hq.1 (by omega) hm0).2.2.1
    · intro m hm hne
      refine sN_zero _ fun e he => if_neg fun hq => hne ?_
      rw [Bool.and_eq_true] at hq
      rw [f4]
      exact (dec_fact hc hq.2 hq.1 (by omega) hm).2.2.2
  · rw [if_neg (by simpa using h)]
    refine sN_zero _ fun m hm => sN_zero _ fun e he => if_neg fun hq => h ?_
    rw [Bool.and_eq_true] at hq
    have := dec_fact hc hq.2 hq.1 (by omega) hm
    exact ⟨this.1, this.2.1⟩
end Go.Proofs.Ytgeedgljabdllaa
