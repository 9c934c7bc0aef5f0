import Derived.Test.YtlnmioijgclndaaNm
import Derived.Test.YtlnmioijgclndaaEightA
set_option maxRecDepth 8000
namespace Go.Proofs.Ytlnmioijgclndaa
open Go.ChangeShapes Go.WideShapes Go.ChangeAt Go.RowKit
/-! the reference's canonical grid, and its number of forms. -/
theorem Gs.off {w w' : World} {lo H : Nat} {v : Value} {d : List GV} {row : Option Nat} (h : Gs w lo v d) (hg : w.grownBy w' row) (hr : ∀ g, row = some g → g < lo ∨ H ≤ g) (hv : ∀ g, v.ownBlock = some g → g < H) (hd : ∀ x ∈ d, ∀ g, x.1.ownBlock = some g → g < H) : Gs w' lo v d := by
  refine ⟨World.ownsRow.kept h.1 hg ?_, fun x hx => ?_, h.2.2⟩
  · cases e : v.ownBlock with
    | none => exact .inl rfl
    | some g =>
      refine .inr fun q => ?_
      have h1 := h.vlo g e
      have h2 := hv g e
      rcases hr g q.symm with q | q <;> omega
  · obtain ⟨⟨A, c, e, ho⟩, hs⟩ := h.2.1 x hx
    refine ⟨⟨A, c, e, Ow.off ho hg (fun g hgb q => ?_)⟩, hs⟩
    have h1 := ho.own_lo g hgb
    have h2 := hd x hx g (by rw [e]; exact hgb)
    rcases hr g q with q | q <;> omega
/-- the renamed forms. -/
def rf (xs : List Int) (s : Int) (n k : Nat) : List Int := rnL (frm s n xs k) n
theorem rf_len (xs : List Int) (s : Int) (n k : Nat) : (rf xs s n k).length = n := rnL_len _ _
theorem gv_dig {xs : List Int} {s : Int} {n : Nat} (hg : gv xs s = true) (hl : xs.length = n) : dig xs n := fun k hk => by
  have := gv_nth hg (show k < xs.length by omega)
  have := (gv_size hg).2
  omega
theorem rf_gv {xs : List Int} {s n : Nat} (hs : s ∈ [2, 3, 4]) (hn : n = s * s) (hl : xs.length = n) (hg : gv xs s = true) (k : Nat) : gv (rf xs s n k) s = true := rnL_gv (frm_gv hs hn hl hg k) (frm_len hl k)
theorem rf_dig {xs : List Int} {s n : Nat} (hs : s ∈ [2, 3, 4]) (hn : n = s * s) (hl : xs.length = n) (hg : gv xs s = true) (k : Nat) : dig (rf xs s n k) n := gv_dig (rf_gv hs hn hl hg k) (rf_len _ _ _ _)
def bestT (F : Nat → List Int) (n : Nat) : Nat → List Int
  | 0 => []
  | k + 1 => if k = 0 ∨ keyT (F k) n < keyT (bestT F n k) n then F k else bestT F n k
def cnL (xs : List Int) (s : Int) (n : Nat) : List Int := if gv xs s = true then bestT (rf xs s n) n 8 else []
theorem bestT_mem {F : Nat → List Int} {n : Nat} : ∀ k, 0 < k → ∃ j, j < k ∧ bestT F n k = F j
  | 0, h => absurd h (by omega)
  | k + 1, _ => by
    simp only [bestT]
    split
    · exact ⟨k, by omega, rfl⟩
    · next h =>
      obtain ⟨j, hj, e⟩ := bestT_mem (F := F) (n := n) k (by omega)
      exact ⟨j, by omega, e⟩
theorem bestT_le {F : Nat → List Int} {n : Nat} : ∀ k j, j < k → keyT (bestT F n k) n ≤ keyT (F j) n
  | 0, _, h => absurd h (by omega)
  | k + 1, j, h => by
    simp only [bestT]
    by_cases hc : k = 0 ∨ keyT (F k) n < keyT (bestT F n k) n
    · rw [if_pos hc]
      by_cases e : j = k
      · subst e; omega
      · rcases hc with q | q
        · omega
        · have := bestT_le (F := F) (n := n) k j (by omega); omega
    · rw [if_neg hc]
      by_cases e : j = k
      · subst e; omega
      · exact bestT_le k j (by omega)
theorem cnL_t {xs : List Int} {s : Int} {n : Nat} (h : gv xs s = true) : cnL xs s n = bestT (rf xs s n) n 8 := by simp [cnL, h]
theorem cnL_f {xs : List Int} {s : Int} {n : Nat} (h : gv xs s = false) : cnL xs s n = [] := by simp [cnL, h]
theorem bestT_len {xs : List Int} {s : Int} {n k : Nat} (hk : 0 < k) : (bestT (rf xs s n) n k).length = n := by
  obtain ⟨j, _, e⟩ := bestT_mem (F := rf xs s n) (n := n) k hk
  rw [e]; exact rf_len _ _ _ _
/-- what is renamed of a valid grid. -/
def rgL (xs : List Int) (s : Int) (n : Nat) : List Int := if gv xs s = true then rnL xs n else []
theorem specRenameGrid (A : Option Addr) (c n B : Nat) (xs : List Int) (size : Int) (w : World) (h : Rd w B A n xs) (hB : B ≤ w.heap.size) (hm : n ≤ 1099511627776) :
    Calls Try.prog 27 #[.slice A n c, .int .i64 size] w (RetSl w (rgL xs size n)) := by
  have hlen := Lib.hid h.1
  cases hg : gv xs size
  · have HL := Lib.hid (show rgL xs size n = [] by simp [rgL, hg])
    go_enter Try.func27, Try.ntmps27
    go_wp2_with (go_at_call 54; refine (specGridValid _ _ _ _ _ _ _ h hm).mono ?_; rintro e w' ⟨rfl, rfl⟩; rw [hg])
    go_ret
    rw [HL.out]
    exact ⟨_, _, rfl, Ow.made0 _ _ (Nat.le_refl _), (Below.refl _ _).alloc (Nat.le_refl _) _⟩
  · obtain ⟨h2, h4⟩ := gv_size hg
    have HL := Lib.hid (show rgL xs size n = rnL xs n by simp [rgL, hg])
    have hok : ∀ k, k < n → 0 ≤ nth xs k ∧ nth xs k ≤ size := fun k hk => gv_nth hg (by rw [hlen.out]; exact hk)
    have HN := Lib.hid (specNames A c n B xs size w h hB hm h2 h4 hok)
    clear hok
    go_enter Try.func27, Try.ntmps27
    go_wp2_with (first | (go_at_call 54; refine (specGridValid _ _ _ _ _ _ _ h hm).mono ?_; rintro e w' ⟨rfl, rfl⟩; rw [hg]) | (go_at_call 46; refine HN.out.mono ?_; rintro e w1 ⟨A1, c1, rfl, ho, hb⟩))
    go_ret
    rw [HL.out]
    exact retSl_mk ho hb
set_option maxHeartbeats 2000000 in
theorem specCanonicalGrid (A : Option Addr) (c n B : Nat) (xs : List Int) (size : Int) (w : World) (h : Rd w B A n xs) (hB : B ≤ w.heap.size) (hm : n ≤ 1099511627776) :
    Calls Try.prog 16 #[.slice A n c, .int .i64 size] w (RetSl w (cnL xs size n)) := by
  have hlen := Lib.hid h.1
  have hb0 : Below w.heap.size w (w.alloc (.cells #[] 3)) := (Below.refl _ _).alloc (Nat.le_refl _) _
  have h1 := h.alloc hB (.cells #[] 3)
  have O0 : Ow (w.alloc (.cells #[] 3)) w.heap.size (some ⟨w.heap.size, 0, none⟩) 0 0 [] := Ow.made0 _ _ (Nat.le_refl _)
  have HF := Lib.hid (specGridForms A c n B xs size _ h1 (Nat.le_trans hB hb0.size) hm)
  cases hg : gv xs size
  · have HL := Lib.hid (cnL_f (n := n) hg)
    have HG := Lib.hid (gfL_f (n := n) hg)
    go_enter Try.func16, Try.ntmps16
    go_wp2_with (go_at_call 23; refine HF.out.mono ?_; rintro e w1 ⟨A1, c1, d, rfl, hd, hG, hb1⟩; rw [HG.out, show ([] : List (List Int)).length = 0 from rfl])
    go_loopw [5, 7] (fun v i wr => v = .slice (some ⟨w.heap.size, 0, none⟩) 0 0 ∧ i = .int .i64 0 ∧ wr = w1) (fun _ _ _ => 0)
    case atStart => exact ⟨rfl, rfl, rfl⟩
    case round =>
      obtain ⟨rfl, rfl, rfl⟩ := hrel
      go_wp2
      go_ret
      rw [HL.out]
      exact ⟨_, _, rfl, O0.below hb1, hb0.trans (hb1.mono hb0.size)⟩
  · obtain ⟨s, rfl, hs, hls⟩ := size_nat hg
    have hn : n = s * s := by have := hlen.out; omega
    have HL := Lib.hid (cnL_t (n := n) hg)
    have HG := Lib.hid (gfL_t (n := n) hg)
    have HD : Hid (∀ k, dig (rf xs s n k) n) := Lib.hid (rf_dig hs hn hlen.out hg)
    have hn4 := Lib.hid (gv_n hg hlen.out)
    have HN : Hid (∀ k W A' c', Rd W W.heap.size A' n (frm s n xs k) → Calls Try.prog 46 #[.slice A' n c', .int .i64 s] W (RetN W n (rf xs s n k))) := Lib.hid fun k W A' c' hr => by
      obtain ⟨h2, h4⟩ := gv_size hg
      exact specNames A' c' n _ _ s W hr (Nat.le_refl _) hm h2 h4 (fun j hj => gv_nth (frm_gv hs hn hlen.out hg k) (by rw [frm_len hlen.out]; exact hj))
    have HX := Lib.hid (fun k => frm_len (s := (s : Int)) hlen.out k)
    clear hn
    go_enter Try.func16, Try.ntmps16
    go_wp2_with (go_at_call 23; refine HF.out.mono ?_; rintro e w1 ⟨A1, c1, d, rfl, hd, hG, hb1⟩; rw [HG.out] at hd hG ⊢; rw [List.length_map, List.length_range] at hG ⊢)
    have hdl : d.length = 8 := by rw [← cnt_len, hd]; simp
    have HC := Lib.hid hd
    have hb1' := hb0.trans (hb1.mono hb0.size)
    have O1 := O0.below hb1
    clear hd hg
    go_loopw [5, 7] (fun v i wr => ∃ (k : Nat) (A' : Option Addr) (m c' : Nat), k ≤ 8 ∧ i = .int .i64 k ∧ v = .slice A' m c' ∧ Hid (m = if k = 0 then 0 else n) ∧ Ow wr w.heap.size A' m c' (bestT (rf xs s n) n k) ∧ Gs wr (w.alloc (.cells #[] 3)).heap.size (.slice A1 8 c1) d ∧ Below w.heap.size w wr) (fun _ i _ => 8 - (intOf i).toNat)
    case atStart => exact ⟨0, _, _, _, Nat.zero_le _, rfl, rfl, Lib.hid rfl, O1, hG, hb1'⟩
    case round =>
      obtain ⟨k, A', m, c', hk, rfl, rfl, Hm, ho, hG, hb⟩ := hrel
      by_cases hlt : k < 8
      · have hlt' : (k : Int) < 8 := by omega
        obtain ⟨g, A3, c3, rfl, -, -, hgw, hck, hfk, ho3, -, -⟩ := hG.at_ (show k < d.length by omega)
        rw [HC.out, gat_map hlt, HX.out] at hck ho3
        have hcall := Lib.hid (HN.out k wr A3 c3 ho3.rd)
        by_cases h0 : k = 0
        · subst h0
          have hm0 : m = 0 := Hm.out
          subst hm0
          have HB := Lib.hid (show bestT (rf xs s n) n (0 + 1) = rf xs s n 0 by simp [bestT])
          have hck0 : wr.cell? ⟨g, 0, none⟩ = some (.slice A3 n c3) := hck
          go_wp2_with (go_at_call 46; refine hcall.out.mono ?_; rintro e w2 ⟨A2, c2, rfl, ho2, hb2⟩)
          go_roundw
          case rel => exact ⟨1, A2, n, c2, by omega, by go_num, rfl, Lib.hid rfl, by rw [show 1 = 0 + 1 from rfl, HB.out]; exact ho2.mono hb.size, hG.below hb2, step hb hb2⟩
          case measure => simp [intOf]
        · have hmn : m = n := by rw [Hm.out, if_neg h0]
          subst hmn
          have hn0 : ¬ ((m : Int) = 0) := by have := hn4.out; omega
          have hmz : ((m : Int) == 0) = false := by simp; have := hn4.out; omega
          have HBd : Hid (dig (bestT (rf xs s m) m k) m) := Lib.hid (by
            obtain ⟨j, _, e⟩ := bestT_mem (F := rf xs s m) (n := m) k (by omega)
            rw [e]; exact HD.out j)
          cases hcmp : decide (keyT (rf xs s m k) m < keyT (bestT (rf xs s m) m k) m)
          · have HB := Lib.hid (show bestT (rf xs s m) m (k + 1) = bestT (rf xs s m) m k by
              simp only [bestT]; rw [if_neg]; rintro (q | q)
              · exact h0 q
              · rw [decide_eq_true q] at hcmp; cases hcmp)
            go_wp2_with (first
              | (go_at_call 46; refine hcall.out.mono ?_; rintro e w2 ⟨A2, c2, rfl, ho2, hb2⟩; have hob := ho.below hb2)
              | (go_at_call 47; refine (specBefore _ _ _ _ _ _ _ _ _ _ ho2.rd hob.rd hm (HD.out k) HBd.out).mono ?_; rintro e w3 ⟨rfl, hb3⟩; rw [hcmp]))
            have hb23 := hb2.trans (hb3.mono hb2.size)
            go_roundw
            case rel => exact ⟨k + 1, A', m, c', by omega, by go_num, rfl, Lib.hid (by rw [if_neg (by omega)]), by rw [HB.out]; exact hob.below hb3, (hG.below hb2).below hb3, step hb hb23⟩
            case measure => simp [intOf]; omega
          · have HB := Lib.hid (show bestT (rf xs s m) m (k + 1) = rf xs s m k by
              simp only [bestT]; rw [if_pos (.inr (of_decide_eq_true hcmp))])
            go_wp2_with (first
              | (go_at_call 46; refine hcall.out.mono ?_; rintro e w2 ⟨A2, c2, rfl, ho2, hb2⟩; have hob := ho.below hb2)
              | (go_at_call 47; refine (specBefore _ _ _ _ _ _ _ _ _ _ ho2.rd hob.rd hm (HD.out k) HBd.out).mono ?_; rintro e w3 ⟨rfl, hb3⟩; rw [hcmp]))
            have hb23 := hb2.trans (hb3.mono hb2.size)
            go_roundw
            case rel => exact ⟨k + 1, A2, m, c2, by omega, by go_num, rfl, Lib.hid (by rw [if_neg (by omega)]), by rw [HB.out]; exact (ho2.below hb3).mono hb.size, (hG.below hb2).below hb3, step hb hb23⟩
            case measure => simp [intOf]; omega
      · obtain rfl : k = 8 := by omega
        have hmn : m = n := by rw [Hm.out, if_neg (by omega)]
        subst hmn
        go_wp2
        go_ret
        rw [HL.out]
        exact retSl_mk ho hb
/-- the different ones among the first k. -/
def fnd (F : Nat → List Int) : Nat → List (List Int)
  | 0 => []
  | k + 1 => if F k ∈ fnd F k then fnd F k else fnd F k ++ [F k]
def fcI (xs : List Int) (s : Int) (n : Nat) : Int := if gv xs s = true then ((fnd (rf xs s n) 8).length : Nat) else -1
theorem fnd_le (F : Nat → List Int) : ∀ k, (fnd F k).length ≤ k
  | 0 => Nat.le_refl _
  | k + 1 => by
    have := fnd_le F k
    simp only [fnd]; split
    · omega
    · simp; omega
theorem fnd_mem {F : Nat → List Int} {x : List Int} : ∀ k, x ∈ fnd F k ↔ ∃ j, j < k ∧ F j = x
  | 0 => by simp [fnd]
  | k + 1 => by
    have ih := fnd_mem (F := F) (x := x) k
    have hx : (∃ j, j < k + 1 ∧ F j = x) ↔ (∃ j, j < k ∧ F j = x) ∨ F k = x :=
      ⟨fun ⟨j, hj, e⟩ => by
        by_cases q : j = k
        · subst q; exact .inr e
        · exact .inl ⟨j, by omega, e⟩, fun h => by
        rcases h with ⟨j, hj, e⟩ | e
        · exact ⟨j, by omega, e⟩
        · exact ⟨k, by omega, e⟩⟩
    rw [hx, ← ih]
    simp only [fnd]
    split
    · next h => exact ⟨fun q => .inl q, fun q => by rcases q with q | q; exact q; rw [← q]; exact h⟩
    · simp [eq_comm]
theorem fnd_nodup {F : Nat → List Int} : ∀ k, (fnd F k).Nodup
  | 0 => List.nodup_nil
  | k + 1 => by
    simp only [fnd]
    split
    · exact fnd_nodup k
    · next h =>
      rw [List.nodup_append]
      exact ⟨fnd_nodup k, by simp, fun a ha b hb e => by simp at hb; subst hb; subst e; exact h ha⟩
def noneOf (Ls : List (List Int)) (x : List Int) (j : Nat) : Bool := (List.range j).all fun i => !same (gat Ls i) x
theorem noneOf_succ (Ls : List (List Int)) (x : List Int) (j : Nat) : noneOf Ls x (j + 1) = (noneOf Ls x j && !same (gat Ls j) x) := by simp [noneOf, List.range_succ, List.all_append]
theorem noneOf_all {Ls : List (List Int)} {x : List Int} : noneOf Ls x Ls.length = decide (x ∉ Ls) := by
  rw [Bool.eq_iff_iff]
  simp only [noneOf, List.all_eq_true, List.mem_range, Bool.not_eq_true', decide_eq_true_eq, same, decide_eq_false_iff_not]
  refine ⟨fun h hx => ?_, fun h i hi e => h ?_⟩
  · obtain ⟨i, hi, e⟩ := List.getElem_of_mem hx
    exact h i hi (by simp [gat, List.getD_eq_getElem?_getD, hi, e])
  · rw [← e]
    simp only [gat, List.getD_eq_getElem?_getD, List.getElem?_eq_getElem hi, Option.getD_some]
    exact List.getElem_mem hi
set_option maxHeartbeats 4000000 in
theorem specFormCount (A : Option Addr) (c n B : Nat) (xs : List Int) (size : Int) (w : World) (h : Rd w B A n xs) (hB : B ≤ w.heap.size) (hm : n ≤ 1099511627776) :
    Calls Try.prog 30 #[.slice A n c, .int .i64 size] w fun e w' => e = .returned (.int .i64 (fcI xs size n)) ∧ Below w.heap.size w w' := by
  have hlen := Lib.hid h.1
  have hb0 : Below w.heap.size w (w.alloc (.cells #[] 23)) := (Below.refl _ _).alloc (Nat.le_refl _) _
  have hs0 : (w.alloc (.cells #[] 23)).heap.size = w.heap.size + 1 := by simp
  have h1 := h.alloc hB (.cells #[] 23)
  have G0 : Gs (w.alloc (.cells #[] 23)) w.heap.size (.slice (some ⟨w.heap.size, 0, none⟩) 0 0) [] := Gs.made0 (Nat.le_refl _)
  have HF := Lib.hid (specGridForms A c n B xs size _ h1 (Nat.le_trans hB hb0.size) hm)
  cases hg : gv xs size
  · have HL := Lib.hid (show fcI xs size n = -1 by simp [fcI, hg])
    have HG := Lib.hid (gfL_f (n := n) hg)
    go_enter Try.func30, Try.ntmps30
    go_wp2_with (go_at_call 23; refine HF.out.mono ?_; rintro e w1 ⟨A1, c1, d, rfl, hd, hG, hb1⟩; rw [HG.out, show ([] : List (List Int)).length = 0 from rfl])
    go_loopw [5, 7] (fun v i wr => v = .slice (some ⟨w.heap.size, 0, none⟩) 0 0 ∧ i = .int .i64 0 ∧ wr = w1) (fun _ _ _ => 0)
    case atStart => exact ⟨rfl, rfl, rfl⟩
    case round =>
      obtain ⟨rfl, rfl, rfl⟩ := hrel
      go_wp2
      go_ret
      rw [HL.out]
      exact ⟨rfl, hb0.trans (hb1.mono hb0.size)⟩
  · obtain ⟨s, rfl, hs, hls⟩ := size_nat hg
    have hn : n = s * s := by have := hlen.out; omega
    have HL := Lib.hid (show fcI xs s n = ((fnd (rf xs s n) 8).length : Nat) by simp [fcI, hg])
    have HG := Lib.hid (gfL_t (n := n) hg)
    have hn4 := Lib.hid (gv_n hg hlen.out)
    have HN : Hid (∀ k W A' c', Rd W W.heap.size A' n (frm s n xs k) → Calls Try.prog 46 #[.slice A' n c', .int .i64 s] W (RetN W n (rf xs s n k))) := Lib.hid fun k W A' c' hr => by
      obtain ⟨h2, h4⟩ := gv_size hg
      exact specNames A' c' n _ _ s W hr (Nat.le_refl _) hm h2 h4 (fun j hj => gv_nth (frm_gv hs hn hlen.out hg k) (by rw [frm_len hlen.out]; exact hj))
    have HX := Lib.hid (fun k => frm_len (s := (s : Int)) hlen.out k)
    have HRl := Lib.hid (fun k => rf_len xs (s : Int) n k)
    have HFl := Lib.hid (fun (k j : Nat) (hj : j < (fnd (rf xs (s : Int) n) k).length) => (show (gat (fnd (rf xs (s : Int) n) k) j).length = n by
      have hmem : gat (fnd (rf xs (s : Int) n) k) j ∈ fnd (rf xs (s : Int) n) k := by
        simp only [gat, List.getD_eq_getElem?_getD, List.getElem?_eq_getElem hj, Option.getD_some]
        exact List.getElem_mem hj
      obtain ⟨i, _, e⟩ := (fnd_mem k).1 hmem
      rw [← e]; exact rf_len _ _ _ _))
    clear hn
    go_enter Try.func30, Try.ntmps30
    go_wp2_with (go_at_call 23; refine HF.out.mono ?_; rintro e w1 ⟨A1, c1, d, rfl, hd, hG, hb1⟩; rw [HG.out] at hd hG ⊢; rw [List.length_map, List.length_range] at hG ⊢)
    have hdl : d.length = 8 := by rw [← cnt_len, hd]; simp
    have HC := Lib.hid hd
    have hb1' := hb0.trans (hb1.mono hb0.size)
    have G1 := G0.below hb1
    have HH := Lib.hid (show (∀ g, (Value.slice A1 8 c1).ownBlock = some g → g < w1.heap.size) ∧ ∀ x ∈ d, ∀ g, x.1.ownBlock = some g → g < w1.heap.size from ⟨hG.vhi, fun x hx => hG.hi hx⟩)
    rw [hs0] at hG
    clear hd hg
    go_loopw [5, 7] (fun v i wr => ∃ (k : Nat) (A' : Option Addr) (m c' : Nat) (d' : List GV), k ≤ 8 ∧ i = .int .i64 k ∧ v = .slice A' m c' ∧ d'.length = m ∧ Hid (cnt d' = fnd (rf xs s n) k) ∧ Gs wr w.heap.size (.slice A' m c') d' ∧ Gs wr (w.heap.size + 1) (.slice A1 8 c1) d ∧ Hid (∀ b, (Value.slice A' m c').ownBlock = some b → b < w.heap.size + 1 ∨ w1.heap.size ≤ b) ∧ w1.heap.size ≤ wr.heap.size ∧ Below w.heap.size w wr) (fun _ i _ => 8 - (intOf i).toNat)
    case atStart => exact ⟨0, _, _, _, [], Nat.zero_le _, rfl, rfl, rfl, Lib.hid rfl, G1, hG, Lib.hid (fun b hb => by simp [Value.ownBlock] at hb; omega), Nat.le_refl _, hb1'⟩
    case round =>
      obtain ⟨k, A', m, c', d', hk, rfl, rfl, hd'l, HC', hG', hG, HS, hsz, hb⟩ := hrel
      have hmk : m = (fnd (rf xs s n) k).length := by rw [← HC'.out, cnt_len, hd'l]
      have hm8 : m ≤ 8 := by have := fnd_le (rf xs s n) k; omega
      by_cases hlt : k < 8
      · have hlt' : (k : Int) < 8 := by omega
        obtain ⟨g, A3, c3, rfl, -, -, hgw, hck, hfk, ho3, -, -⟩ := hG.at_ (show k < d.length by omega)
        rw [HC.out, gat_map hlt, HX.out] at hck ho3
        have hcall := Lib.hid (HN.out k wr A3 c3 ho3.rd)
        have Hmk := Lib.hid hmk
        clear hmk
        go_wp2_with (go_at_call 46; refine hcall.out.mono ?_; rintro e w2 ⟨A2, c2, rfl, ho2, hb2⟩)
        have hG2' := hG'.below hb2
        have hG2 := hG.below hb2
        have hbw2 := step hb hb2
        have hsz2 := Nat.le_trans hsz hb2.size
        have HS2 := Lib.hid (show (∀ x ∈ d', ∀ g, x.1.ownBlock = some g → (Value.slice A2 n c2).ownBlock ≠ some g) ∧ ∀ g, (Value.slice A2 n c2).ownBlock = some g → (Value.slice A' m c').ownBlock ≠ some g from ⟨fun y hy g hg q => by (have := hG'.hi hy g hg); (have := ho2.own_lo g q); omega, fun g hg q => by (have := hG'.vhi g q); (have := ho2.own_lo g hg); omega⟩)
        obtain ⟨wo, rfl⟩ : ∃ wo : World, wo = wr := ⟨_, rfl⟩
        go_loopw [9, 10] (fun fr j wr => ∃ (q : Nat), q ≤ m ∧ j = .int .i64 q ∧ fr = .bool (noneOf (fnd (rf xs s n) k) (rf xs s n k) q) ∧ Below w2.heap.size w2 wr) (fun _ j _ => m - (intOf j).toNat)
        case atStart => exact ⟨0, Nat.zero_le _, rfl, rfl, Below.refl _ _⟩
        case round =>
          obtain ⟨q, hq, rfl, rfl, hbi⟩ := hrel
          by_cases hqm : q < m
          · have hqm' : (q : Int) < (m : Int) := by omega
            obtain ⟨g4, A4, c4, rfl, -, -, -, hck4, -, ho4, -, -⟩ := (hG2'.below hbi).at_ (show q < d'.length by omega)
            rw [HC'.out, HFl.out k q (by have := Hmk.out; omega)] at hck4 ho4
            have HE := Lib.hid (noneOf_succ (fnd (rf xs s n) k) (rf xs s n k) q)
            have ho2i := (ho2.below hbi).rd
            cases hno : noneOf (fnd (rf xs s n) k) (rf xs s n k) q
            · have HE2 := Lib.hid (show noneOf (fnd (rf xs s n) k) (rf xs s n k) (q + 1) = false by rw [HE.out, hno]; rfl)
              go_wp2
              go_roundw
              case rel => exact ⟨q + 1, by omega, by go_num, by rw [HE2.out], hbi⟩
              case measure => simp [intOf]; omega
            · have hsame := Lib.hid (fun W (hW : Below wr.heap.size wr W) => specL8Same A4 A2 c4 c2 n n _ _ _ _ W ((ho4.below hW).rd) (((ho2.below hbi).below hW).rd) hm)
              have HE2 := Lib.hid (show noneOf (fnd (rf xs s n) k) (rf xs s n k) (q + 1) = !same (gat (fnd (rf xs s n) k) q) (rf xs s n k) by rw [HE.out, hno]; rfl)
              go_wp2_with (go_at_call 61; refine (hsame.out _ (Below.refl _ _)).mono ?_; rintro e w5 ⟨rfl, hb5⟩)
              go_roundw
              case rel => exact ⟨q + 1, by omega, by go_num, by rw [HE2.out], step hbi hb5⟩
              case measure => simp [intOf]; omega
          · obtain rfl : q = m := by omega
            have HNo := Lib.hid (show noneOf (fnd (rf xs s n) k) (rf xs s n k) q = decide (rf xs s n k ∉ fnd (rf xs s n) k) by rw [Hmk.out]; exact noneOf_all)
            have hGi' := hG2'.below hbi
            have hGi := hG2.below hbi
            have hoi := ho2.below hbi
            have hbwi := step hbw2 hbi
            have hszi := Nat.le_trans hsz2 hbi.size
            have hlow : w.heap.size ≤ wo.heap.size := hb.size
            cases hin : noneOf (fnd (rf xs s n) k) (rf xs s n k) q
            · have HE2 := Lib.hid (show fnd (rf xs s n) (k + 1) = fnd (rf xs s n) k by
                simp only [fnd]; rw [if_pos]
                have := HNo.out
                rw [hin] at this
                simpa using this.symm)
              clear hin
              go_wp2
              go_roundw
              case rel => exact ⟨k + 1, _, _, _, d', by omega, by go_num, rfl, hd'l, Lib.hid (by rw [HE2.out]; exact HC'.out), hGi', hGi, HS, hszi, hbwi⟩
              case measure => simp [intOf]; omega
            · have HE2 := Lib.hid (show fnd (rf xs s n) (k + 1) = fnd (rf xs s n) k ++ [rf xs s n k] by
                simp only [fnd]; rw [if_neg]
                have := HNo.out
                rw [hin] at this
                simpa using this.symm)
              clear hin
              have hq40 : q ≤ 1099511627776 := by omega
              have hOut := hGi'.1
              rw [hd'l] at hOut
              have hRl := HRl.out k
              go_wp2_with (at_builtin; (refine push_sl rfl (.tmp 44) (.tmp 46) rfl w.heap.size (.slice A' q c') q (d'.map Prod.fst) wr.heap.size A2 n c2 rfl rfl (World.ownsRow.alloc hOut _) (heap_alloc_new wr _) hq40 (by have := hbwi.size; simp; omega) ?_); intro g5 cap5 w5 ho5 hg5 hl5)
              have hP := Gs.push (xs := rf xs s n k) (A3 := A2) (c3 := c2) (o := .cells #[.slice A2 n c2] 23) (g' := g5) (cap := cap5) (w5 := w5) hGi' (by rw [hRl]; exact hoi) hlow (by rw [hRl]; exact HS2.out.1) (by rw [hRl]; exact HS2.out.2) (by rw [hRl, hd'l]; exact ho5) hg5 hl5
              rw [hRl, hd'l] at hP
              have hGn := Gs.off (hGi.below ((Below.refl _ _).alloc (Nat.le_refl _) (.cells #[.slice A2 n c2] 23))) hg5 HS.out HH.out.1 HH.out.2
              have hbn : Below w.heap.size w w5 := (hbwi.alloc hbwi.size _).grown hg5 (by have := hbwi.size; simp; omega) (fun g hg => hG'.vlo g hg)
              have hszn : w1.heap.size ≤ w5.heap.size := Nat.le_trans hszi (Nat.le_trans (by simp) hg5.size)
              go_roundw
              case rel =>
                refine ⟨k + 1, _, _, _, _, by omega, by go_num, rfl, by simp [hd'l], Lib.hid ?_, hP, hGn, Lib.hid (fun b hb => ?_), hszn, hbn⟩
                · rw [HE2.out, ← HC'.out]; simp [cnt]
                · have e : g5 = b := by simpa [Value.ownBlock] using hb
                  subst e
                  rcases hl5 with q5 | q5
                  · exact HS.out _ q5
                  · right; rw [q5]; simp; omega
              case measure => simp [intOf]; omega
      · obtain rfl : k = 8 := by omega
        have Hmk := Lib.hid hmk
        go_wp2
        go_ret
        rw [HL.out, ← Hmk.out]
        exact ⟨rfl, hb⟩
end Go.Proofs.Ytlnmioijgclndaa
