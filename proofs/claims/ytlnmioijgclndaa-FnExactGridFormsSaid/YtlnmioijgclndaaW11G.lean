import Derived.Test.YtlnmioijgclndaaW11E
set_option maxRecDepth 8000
namespace Go.Proofs.Ytlnmioijgclndaa
open Go.ChangeShapes Go.WideShapes Go.ChangeAt Go.RowKit
/-! exact GridForms: slices of slices compared, marked and found again. -/
theorem eqIntSS_any (A A' : Option Addr) (c c' m lo lo' : Nat) (d d' : List GV) (w : World) (h : Gs w lo (.slice A m c) d) (h' : Gs w lo' (.slice A' m c') d') (hm : d.length = m) (hm' : d'.length = m) (he : cnt d = cnt d') (h8 : m ≤ 8) (hl : ∀ k, (gat (cnt d) k).length ≤ 16) :
    Calls Try.prog 36 #[.slice A m c, .slice A' m c'] w fun e w' => e = .returned (.bool true) ∧ Below w.heap.size w w' := by
  have HE := Lib.hid he
  have Hl := Lib.hid hl
  clear he hl
  go_enter Try.func36, Try.ntmps36
  go_wp2
  go_loopw [5] (fun i wr => ∃ k : Nat, k ≤ m ∧ i = .int .i64 k ∧ Below w.heap.size w wr) (fun i _ => m - (intOf i).toNat)
  case atStart => exact ⟨0, Nat.zero_le _, rfl, Below.refl _ _⟩
  case round =>
    obtain ⟨k, hk, rfl, hb⟩ := hrel
    by_cases hlt : k < m
    · have hltI : (k : Int) < (m : Int) := by omega
      obtain ⟨g, A3, c3, rfl, -, -, hgw, hck, hfk, ho3, -, -⟩ := (h.below hb).at_ (show k < d.length by omega)
      obtain ⟨g', A4, c4, rfl, -, -, hgw', hck', hfk', ho4, -, -⟩ := (h'.below hb).at_ (show k < d'.length by omega)
      rw [← HE.out] at hck' ho4
      have h16 := Hl.out k
      obtain ⟨L, hL⟩ : ∃ L, gat (cnt d) k = L := ⟨_, rfl⟩
      rw [hL] at hck ho3 hck' ho4 h16
      have hs := same_refl L
      obtain ⟨q, hq⟩ : ∃ q, L.length = q := ⟨_, rfl⟩
      rw [hq] at hck ho3 hck' ho4 h16
      clear hL hq
      have O3 := Lib.hid ho3
      have O4 := Lib.hid ho4
      clear ho3 ho4
      go_wp2_with fail
      go_region_with (go_at_call 37; refine (eqIntS_any _ _ _ _ _ _ _ _ _ _ _ (O3.out.below (by first | exact Below.refl _ _ | exact (Below.refl _ _).drew)).rd (O4.out.below (by first | exact Below.refl _ _ | exact (Below.refl _ _).drew)).rd (by omega)).mono ?_; rintro e w3 ⟨rfl, hb3⟩; rw [hs])
      all_goals
        have hb3' := of_drew_below hb3
        go_wp2
        go_roundw
        case rel => exact ⟨k + 1, by omega, by go_num, step hb hb3'⟩
        case measure => simp [intOf]; omega
    · obtain rfl : k = m := by omega
      go_wp2
      go_ret
      exact ⟨rfl, hb⟩
/-- one element's cells are written anew. -/
theorem Gs.mark {w w' : World} {lo k n c : Nat} {v : Value} {d : List GV} {A : Option Addr} {ys : List Int} (h : Gs w lo v d) (hk : k < d.length) (he : d[k].1 = .slice A n c) (hy : ys.length = n) (ho : Ow w' lo A n c ys) (hg : w.grownBy w' (Value.slice A n c).ownBlock) : Gs w' lo v (d.set k (.slice A n c, ys)) := by
  have hne : ∀ {x : GV}, x ∈ d → ∀ b, x.1.ownBlock = some b → v.ownBlock ≠ some b := fun hx b hb => (h.2.1 _ hx).2 b hb
  have hp := List.pairwise_iff_getElem.1 h.2.2
  refine ⟨?_, fun x hx => ?_, ?_⟩
  · rw [List.length_set, List.map_set]
    have e2 : (d.map Prod.fst).set k (.slice A n c) = d.map Prod.fst := by
      apply List.ext_getElem (by simp)
      intro i h1 h2
      rw [List.getElem_set]
      split
      · next e => subst e; rw [List.getElem_map, he]
      · rfl
    show w'.ownsRow lo _ 1 v d.length ((d.map Prod.fst).set k (.slice A n c))
    rw [e2]
    refine World.ownsRow.kept h.1 hg ?_
    cases e : v.ownBlock with
    | none => exact .inl rfl
    | some b => exact .inr (fun q => hne (List.getElem_mem hk) b (by rw [he]; exact q.symm) e)
  · rcases List.mem_iff_getElem.1 hx with ⟨i, hi, e⟩
    rw [List.length_set] at hi
    rw [List.getElem_set] at e
    by_cases hik : k = i
    · rw [if_pos hik] at e
      subst e
      refine ⟨⟨A, c, by rw [hy], by rw [hy]; exact ho⟩, fun b hb => hne (List.getElem_mem hk) b (by rw [he]; exact hb)⟩
    · rw [if_neg hik] at e
      subst e
      obtain ⟨⟨A', c', e', ho'⟩, hs'⟩ := h.2.1 d[i] (List.getElem_mem hi)
      refine ⟨⟨A', c', e', Ow.off ho' hg (fun b hb q => ?_)⟩, hs'⟩
      have h1 : d[i].1.ownBlock = some b := by rw [e']; exact hb
      have h2 : d[k].1.ownBlock = some b := by rw [he]; exact q
      rcases Nat.lt_or_gt_of_ne hik with hlt | hlt
      · exact hp k i hk hi hlt b h2 h1
      · exact hp i k hi hk hlt b h1 h2
  · rw [List.pairwise_iff_getElem]
    intro i j hi hj hij b hb
    rw [List.length_set] at hi hj
    have key : ∀ i (hi : i < d.length), ((d.set k (.slice A n c, ys))[i]'(by rw [List.length_set]; exact hi)).1 = d[i].1 := fun i hi => by
      rw [List.getElem_set]
      split
      · next e => subst e; exact he.symm
      · rfl
    rw [key i hi] at hb
    rw [key j hj]
    exact hp i j hi hj hij b hb
theorem markIntSS_any (A : Option Addr) (c m lo n : Nat) (d : List GV) (w : World) (h : Gs w lo (.slice A m c) d) (hm : d.length = m) (h8 : m ≤ 8) (hl : ∀ k, k < m → (gat (cnt d) k).length = n) (hn : n ≤ 16) (hlo : lo ≤ w.heap.size) :
    Calls Try.prog 39 #[.slice A m c, .int .i64 1] w fun e w' => ∃ d', e = .returned (.int .i64 (1 + m * n)) ∧ d'.length = m ∧ (∀ j, j < m → gat (cnt d') j = seqI (1 + j * n) n) ∧ Gs w' lo (.slice A m c) d' ∧ Below lo w w' := by
  have Hl := Lib.hid hl
  clear hl
  go_enter Try.func39, Try.ntmps39
  go_wp2
  go_loopw [1, 5] (fun x i wr => ∃ (k : Nat) (d' : List GV) (X : Nat), k ≤ m ∧ i = .int .i64 k ∧ x = .int .i64 X ∧ Hid (X = 1 + k * n) ∧ d'.length = m ∧ Hid (∀ j, j < m → gat (cnt d') j = if j < k then seqI (1 + j * n) n else gat (cnt d) j) ∧ Gs wr lo (.slice A m c) d' ∧ Below lo w wr) (fun _ i _ => m - (intOf i).toNat)
  case atStart => exact ⟨0, d, 1, Nat.zero_le _, rfl, rfl, Lib.hid (by omega), hm, Lib.hid (fun j hj => by rw [if_neg (by omega)]), h, Below.refl _ _⟩
  case round =>
    obtain ⟨k, d', X, hk, rfl, rfl, HX, hdl, HK, hG, hb⟩ := hrel
    by_cases hlt : k < m
    · have hltI : (k : Int) < (m : Int) := by omega
      have hkd : k < d'.length := by omega
      obtain ⟨g, A3, c3, rfl, -, -, hgw, hck, hfk, ho3, hne3, he3⟩ := hG.at_ hkd
      have hgl : (gat (cnt d') k).length = n := by rw [HK.out k hlt, if_neg (by omega)]; exact Hl.out k hlt
      rw [hgl] at hck ho3 he3
      have hX16 : X ≤ 1 + 8 * 16 := by
        rw [HX.out]
        have : k * n ≤ 8 * 16 := Nat.mul_le_mul (by omega) hn
        omega
      have HGk := Lib.hid (fun (w3 : World) (ho : Ow w3 lo A3 n c3 (seqI (X : Int) n)) (hg : wr.grownBy w3 (Value.slice A3 n c3).ownBlock) => hG.mark hkd he3 (seqI_length _ _) ho hg)
      have O3 := Lib.hid ho3
      have HKd := Lib.hid hkd
      clear he3 hgl hkd
      go_wp2_with (go_at_call 38; refine (markIntS_any _ _ _ _ _ _ _ O3.out (by omega) (by omega) (by omega)).mono ?_; rintro e w3 ⟨rfl, ho4, hg4⟩)
      rw [marked_all] at ho4
      have hGn := HGk.out w3 ho4 hg4
      have hbn : Below lo w w3 := hb.grown hg4 (Nat.le_trans hlo hb.size) (fun b hbb => O3.out.own_lo b hbb)
      have HGn := Lib.hid hGn
      have HXn := Lib.hid (show X + n = 1 + (k + 1) * n by rw [HX.out, Nat.succ_mul]; omega)
      have HKn := Lib.hid (show ∀ j, j < m → gat (cnt (d'.set k (.slice A3 n c3, seqI (X : Int) n))) j = if j < k + 1 then seqI (1 + j * n) n else gat (cnt d) j from fun j hj => by
        rw [cnt_set, gat_set (by rw [cnt_len]; exact HKd.out), HK.out j hj]
        by_cases e : j = k
        · subst e
          rw [if_pos rfl, if_pos (by omega), HX.out]
          push_cast
          rfl
        · rw [if_neg e]
          by_cases e2 : j < k
          · rw [if_pos e2, if_pos (by omega)]
          · rw [if_neg e2, if_neg (by omega)])
      clear hGn ho4 hg4
      go_roundw
      case rel => exact ⟨k + 1, _, X + n, by omega, by go_num, by go_num, HXn, by simp [hdl], HKn, HGn.out, hbn⟩
      case measure => simp [intOf]; omega
    · obtain rfl : k = m := by omega
      go_wp2
      go_ret
      refine ⟨d', by rw [HX.out]; push_cast; rfl, hdl, fun j hj => by rw [HK.out j hj, if_pos hj], hG, hb⟩
theorem heldIntSS_any (A : Option Addr) (c m lo n : Nat) (d : List GV) (w : World) (h : Gs w lo (.slice A m c) d) (hm : d.length = m) (h8 : m ≤ 8) (hl : ∀ j, j < m → gat (cnt d) j = seqI (1 + j * n) n) (hn : n ≤ 16) :
    Calls Try.prog 40 #[.slice A m c, .int .i64 1] w fun e w' => e = .returned (.int .i64 (1 + m * n)) ∧ w = w' := by
  have Hl := Lib.hid hl
  clear hl
  go_enter Try.func40, Try.ntmps40
  go_wp2
  go_loop [1, 5] (fun x i => ∃ (k X : Nat), k ≤ m ∧ i = .int .i64 k ∧ x = .int .i64 X ∧ Hid (X = 1 + k * n)) (fun _ i => m - (intOf i).toNat)
  case atStart => exact ⟨0, 1, Nat.zero_le _, rfl, rfl, Lib.hid (by omega)⟩
  case round =>
    obtain ⟨k, X, hk, rfl, rfl, HX⟩ := hrel
    by_cases hlt : k < m
    · have hltI : (k : Int) < (m : Int) := by omega
      obtain ⟨g, A3, c3, rfl, -, -, hgw, hck, hfk, ho3, -, -⟩ := h.at_ (show k < d.length by omega)
      rw [Hl.out k hlt, seqI_length, show (1 + (k : Int) * n) = (X : Int) by rw [HX.out]; push_cast; rfl] at ho3
      rw [Hl.out k hlt, seqI_length] at hck
      have hX16 : X ≤ 1 + 8 * 16 := by
        rw [HX.out]
        have : k * n ≤ 8 * 16 := Nat.mul_le_mul (by omega) hn
        omega
      have HXn := Lib.hid (show X + n = 1 + (k + 1) * n by rw [HX.out, Nat.succ_mul]; omega)
      have hXn0 : ¬ ((X : Int) + (n : Int) < 0) := by omega
      have O3 := Lib.hid ho3
      clear ho3
      go_wp2_with (go_at_call 41; refine (heldIntS_seq _ _ _ _ _ _ O3.out.rd (by omega) (by omega) (by omega)).mono ?_; rintro e w3 ⟨rfl, rfl⟩)
      go_round
      case rel => exact ⟨k + 1, X + n, by omega, by go_num, by go_num, HXn⟩
      case measure => simp [intOf]; omega
    · obtain rfl : k = m := by omega
      go_wp2
      go_ret
      exact ⟨by rw [HX.out]; push_cast; rfl, rfl⟩
end Go.Proofs.Ytlnmioijgclndaa
