import Derived.Test.YtgeedgljabdllaaIl
set_option maxRecDepth 8000
namespace Go.Proofs.Ytgeedgljabdllaa
open Go.ChangeShapes Go.WideShapes Go.ChangeAt Go.RowKit
theorem cl_t0 {M : List Bool} (h : tr M = 0) : cl (M ++ [true]) = cl M ++ [1] := cl_rep (r := 1) h (by omega)
theorem cl_tS {M : List Bool} (h : tr M ≠ 0) : ∃ X, cl M = X ++ [(tr M : Int)] ∧ cl (M ++ [true]) = X ++ [(tr M : Int) + 1] := by
  obtain ⟨A, hA, e⟩ := tr_split M
  refine ⟨cl A, ?_, ?_⟩
  · conv => lhs; rw [e]
    exact cl_rep hA (by omega)
  · conv => lhs; rw [e, List.append_assoc, ← List.replicate_succ']
    rw [cl_rep hA (by omega)]
    simp
theorem tr_take {L : List Bool} {m : Nat} (h : m < L.length) : tr (L.take (m + 1)) = if nb L m then tr (L.take m) + 1 else 0 := by
  rw [take_nb h]
  cases nb L m
  · simp [tr_f]
  · simp [tr_t]
theorem B64.vals_set_last {xs : List Int} (v u : Int) : (vals (xs ++ [v])).set xs.length (.int .i64 u) = vals (xs ++ [u]) := by
  simp [vals]
set_option maxHeartbeats 1000000 in
theorem implClueOf (A : Option Addr) (n c B : Nat) (L : List Bool) (w : World) (h : RdF w B A n L) (hB : B ≤ w.heap.size) (hm : n ≤ 1099511627776) :
    Calls Try.prog 53 #[.slice A n c] w (RetSl w (clueL L)) := by
  have hlen := Lib.hid h.1
  by_cases h8 : n ≤ 8
  · have Hfin := Lib.hid (show cl (L.take n) = clueL L by rw [← hlen.out, List.take_length]; simp [clueL, hlen.out, h8])
    have h8I : (n : Int) ≤ 8 := by omega
    go_enter Try.func53, Try.ntmps53
    go_wp2
    go_loopw [3, 11] (fun v i wr => ∃ (k q : Nat) (A' : Option Addr) (c' : Nat), k ≤ n ∧ q ≤ 8 ∧ i = .int .i64 k ∧ v = .slice A' q c' ∧ Ow wr w.heap.size A' q c' (cl (L.take k)) ∧ Below w.heap.size w wr) (fun _ i _ => n - (intOf i).toNat)
    case atStart => exact ⟨0, 0, none, 0, by omega, by omega, rfl, rfl, Ow.nil_ _ _, Below.refl _ _⟩
    case round =>
      obtain ⟨k, q, A', c', hk, hq8, rfl, rfl, ho, hb⟩ := hrel
      have hq := Lib.hid ho.len
      by_cases hlt : k < n
      · obtain ⟨b, off, rfl, hbB, hck⟩ := (h.below (hb.mono hB)).at_ hlt
        have hkI : (k : Int) < (n : Int) := by omega
        have hkL : k < L.length := by rw [hlen.out]; exact hlt
        have Ht := Lib.hid (take_nb hkL)
        cases hbit : nb L k
        · rw [hbit] at hck
          have He := Lib.hid (show cl (L.take (k + 1)) = cl (L.take k) by rw [Ht.out, hbit, cl_f])
          clear hbit
          go_wp2
          go_roundw
          case rel => exact ⟨k + 1, q, A', c', by omega, by omega, by go_num, rfl, by rw [He.out]; exact ho, hb⟩
          case measure => simp [intOf]; omega
        · rw [hbit] at hck
          have Hl8 := Lib.hid (show (cl (L.take (k + 1))).length ≤ 8 by
            have h1 := cl_fits (L.take (k + 1))
            have h2 := cl_pos (L.take (k + 1))
            have h3 : ((cl (L.take (k + 1))).length : Int) ≤ (cl (L.take (k + 1))).sum := by
              generalize cl (L.take (k + 1)) = xs at *
              clear h1
              induction xs with
              | nil => simp
              | cons a t ih =>
                have := (h2 a (by simp)).1
                have := ih (fun v hv => h2 v (by simp [hv]))
                simp; omega
            rw [List.length_take] at h1
            omega)
          by_cases ht : tr (L.take k) = 0
          · have He := Lib.hid (show cl (L.take (k + 1)) = cl (L.take k) ++ [1] by rw [Ht.out, hbit, cl_t0 ht])
            have hq40 : q ≤ 1099511627776 := by omega
            have Hq1 := Lib.hid (show q + 1 ≤ 8 by have := Hl8.out; rw [He.out, List.length_append, hq.out] at this; simpa using this)
            have Hset := Lib.hid (B64.vals_set_last (xs := cl (L.take k)) 0 1)
            by_cases hk0 : k = 0
            · have hk0I : ((k : Int) == 0) = true := by simp [hk0]
              clear hk0 ht hbit
              go_wp2_with (at_builtin; refine push_int rfl (.tmp 28) (.tmp 29) rfl w.heap.size A' _ c' _ _ rfl rfl ho hq40 hb.size ?_; intro A2 c2 w2 ho2 hg2; have hb2 := push_below hb ho (Nat.le_refl _) hb.size hg2; obtain ⟨g2, rfl, hlo2, hgs2⟩ := ho2.form (by omega); have hcl2 := (ho2.cell (show q < q + 1 by omega)); have hc2 := hcl2.1; have hf2 := hcl2.2; rw [show nth (cl (L.take k) ++ [0]) q = 0 by rw [← hq.out]; simp [nth, List.getD_eq_getElem?_getD]] at hc2; have hst := (ho2.stored q 1).2; rw [← hq.out, Hset.out, hq.out] at hst; have Hst := Lib.hid hst; clear hst hcl2)
              go_roundw
              case rel => exact ⟨k + 1, q + 1, _, c2, by omega, Hq1.out, by go_num, rfl, by rw [He.out]; exact Hst.out, hb2.setCell hlo2 _⟩
              case measure => simp [intOf]; omega
            · have hk0I : ((k : Int) == 0) = false := by simp; omega
              have hmn : k - 1 < n := by omega
              have hbm : nb L (k - 1) = false := by
                have e : L.take k = L.take (k - 1 + 1) := by congr 1; omega
                rw [e, tr_take (by omega)] at ht
                cases e : nb L (k - 1)
                · rfl
                · rw [e] at ht; simp at ht
              obtain ⟨b', off', e', hbB', hcm⟩ := (h.below (hb.mono hB)).at_ hmn
              cases e'
              rw [hbm] at hcm
              have hk1 : 1 ≤ k := by omega
              clear hk0 ht hbit hbm
              go_wp2_with (at_builtin; refine push_int rfl (.tmp 28) (.tmp 29) rfl w.heap.size A' _ c' _ _ rfl rfl ho hq40 hb.size ?_; intro A2 c2 w2 ho2 hg2; have hb2 := push_below hb ho (Nat.le_refl _) hb.size hg2; obtain ⟨g2, rfl, hlo2, hgs2⟩ := ho2.form (by omega); have hcl2 := (ho2.cell (show q < q + 1 by omega)); have hc2 := hcl2.1; have hf2 := hcl2.2; rw [show nth (cl (L.take k) ++ [0]) q = 0 by rw [← hq.out]; simp [nth, List.getD_eq_getElem?_getD]] at hc2; have hst := (ho2.stored q 1).2; rw [← hq.out, Hset.out, hq.out] at hst; have Hst := Lib.hid hst; clear hst hcl2)
              go_roundw
              case rel => exact ⟨k + 1, q + 1, _, c2, by omega, Hq1.out, by go_num, rfl, by rw [He.out]; exact Hst.out, hb2.setCell hlo2 _⟩
              case measure => simp [intOf]; omega
          · obtain ⟨X, hX1, hX2⟩ := cl_tS ht
            have He := Lib.hid (show cl (L.take (k + 1)) = X ++ [(tr (L.take k) : Int) + 1] by rw [Ht.out, hbit, hX2])
            have hr8 : tr (L.take k) ≤ 8 := by have := tr_le (L.take k); rw [List.length_take] at this; omega
            have hk0 : k ≠ 0 := by
              intro e
              apply ht
              rw [e]
              rfl
            have hk0I : ((k : Int) == 0) = false := by simp; omega
            have hmn : k - 1 < n := by omega
            have hbm : nb L (k - 1) = true := by
              have e : L.take k = L.take (k - 1 + 1) := by congr 1; omega
              rw [e, tr_take (by omega)] at ht
              cases e : nb L (k - 1)
              · rw [e] at ht; simp at ht
              · rfl
            obtain ⟨b', off', e', hbB', hcm⟩ := (h.below (hb.mono hB)).at_ hmn
            cases e'
            rw [hbm] at hcm
            have hk1 : 1 ≤ k := by omega
            generalize tr (L.take k) = r at *
            rw [hX1] at ho hq
            obtain ⟨p, rfl⟩ : ∃ p, q = p + 1 := ⟨X.length, by have := hq.out; simpa using this.symm⟩
            have hXp : X.length = p := by have := hq.out; simpa using this
            obtain ⟨g2, rfl, hlo2, hgs2⟩ := ho.form (by omega)
            have hcl2 := (ho.cell (show p < p + 1 by omega))
            have hc2 := hcl2.1
            have hf2 := hcl2.2
            rw [show nth (X ++ [(r : Int)]) p = (r : Int) by rw [← hXp]; simp [nth, List.getD_eq_getElem?_getD]] at hc2
            have Hset := Lib.hid (B64.vals_set_last (xs := X) (r : Int) ((r : Int) + 1))
            have hst := (ho.stored p ((r : Int) + 1)).2
            rw [← hXp, Hset.out, hXp] at hst
            have Hst := Lib.hid hst
            clear hk0 ht hbit hbm hcl2 hst hX1 hX2 hXp ho
            go_wp2
            go_roundw
            case rel => exact ⟨k + 1, p + 1, _, c', by omega, by omega, by go_num, rfl, by rw [He.out]; exact Hst.out, hb.setCell hlo2 _⟩
            case measure => simp [intOf]; omega
      · have hkn : k = n := by omega
        rw [hkn, Hfin.out] at ho
        have hkI : ¬ ((k : Int) < (n : Int)) := by omega
        clear hkn
        go_wp2
        go_ret
        exact retSl_mk ho hb
  · have HL := Lib.hid (show clueL L = [] by simp [clueL, hlen.out, h8])
    have h8I : ¬ ((n : Int) ≤ 8) := by omega
    go_enter Try.func53, Try.ntmps53
    go_wp2
    go_ret
    rw [HL.out]
    exact ⟨_, _, rfl, Ow.nil_ _ _, Below.refl _ _⟩
/-! a line by value. -/
def lcells (A : Option Addr) (m c : Nat) (A' : Option Addr) (n c' : Nat) : Array Value := #[.slice A m c, .slice A' n c']
theorem lbox_new (w : World) (A : Option Addr) (m c : Nat) (A' : Option Addr) (n c' : Nat) : (w.alloc (.cells #[.slice A m c, .slice A' n c'] 124)).heap[w.heap.size]? = some (.cells #[.slice A m c, .slice A' n c'] 124) := heap_alloc_new w _
theorem canBeEmpty_any (A : Option Addr) (m c : Nat) (A' : Option Addr) (n c' B' : Nat) (ks : List Int) (k : Nat) (w : World) (h' : Rd w B' A' n ks) (hB' : B' ≤ w.heap.size) (hk : k ≤ n) :
    Calls Try.prog 118 #[.agg #[.slice A m c, .slice A' n c'], .int .i64 k] w fun e w' => e = .returned (.bool (kk ks k false)) ∧ Below w.heap.size w w' := by
  have hl := Lib.hid h'.1
  have hb0 : Below w.heap.size w (w.alloc (.cells #[.slice A m c, .slice A' n c'] 124)) := (Below.refl _ _).alloc (Nat.le_refl _) _
  by_cases hkn : k = n
  · have He := Lib.hid (show kk ks k false = true by simp [kk, hl.out, hkn])
    have hI : ((k : Int) == (n : Int)) = true := by simp [hkn]
    clear hkn
    go_enter Try.func118, Try.ntmps118
    go_wp2
    go_ret
    exact ⟨by rw [He.out]; rfl, hb0⟩
  · have hlt : k < n := by omega
    have hI : ((k : Int) == (n : Int)) = false := by simp; omega
    have hkI : (k : Int) < (n : Int) := by omega
    obtain ⟨b, off, rfl, hbB, hck⟩ := (h'.below (hb0.mono hB')).at_ hlt
    have He := Lib.hid (show kk ks k false = (nth ks k != 1) by simp [kk, hl.out, hlt])
    cases e1 : (nth ks k != 1)
    · have H1 := Lib.hid e1
      go_enter Try.func118, Try.ntmps118
      go_wp2
      go_ret
      exact ⟨by rw [He.out, H1.out]; rfl, hb0⟩
    · have H1 := Lib.hid e1
      go_enter Try.func118, Try.ntmps118
      go_wp2
      go_ret
      exact ⟨by rw [He.out, H1.out]; rfl, hb0⟩
theorem nth_sub {xs : List Int} {s k d : Nat} (h : k < d) : nth ((xs.drop s).take d) k = nth xs (s + k) := by
  simp [nth, List.getD_eq_getElem?_getD, h]
theorem Rd.sub {w : World} {B b off n : Nat} {xs : List Int} (h : Rd w B (some ⟨b, off, none⟩) n xs) {s e : Nat} (hs : s ≤ e) (he : e ≤ n) : Rd w B (some ⟨b, off + s, none⟩) (e - s) ((xs.drop s).take (e - s)) := by
  refine ⟨by rw [List.length_take, List.length_drop, h.1]; omega, fun h0 => ?_⟩
  obtain ⟨b', off', e', hb, hc⟩ := h.2 (by omega)
  cases e'
  refine ⟨b, off + s, rfl, hb, fun k hk => ?_⟩
  rw [nth_sub hk, ← hc (s + k) (by omega), Nat.add_assoc]
theorem memTo_none {xs : List Int} {v : Int} {n : Nat} : memTo xs v n = false ↔ ∀ k, k < n → nth xs k ≠ v := by
  induction n with
  | zero => simp [memTo]
  | succ n ih =>
    simp only [memTo, Bool.or_eq_false_iff, ih, beq_eq_false_iff_ne, ne_eq]
    constructor
    · rintro ⟨h1, h2⟩ k hk
      by_cases e : k = n
      · subst e; exact h2
      · exact h1 k (by omega)
    · intro h
      exact ⟨fun k hk => h k (by omega), h n (by omega)⟩
theorem allK_mem {ks : List Int} {s e : Nat} (hs : s ≤ e) (he : e ≤ ks.length) : allK (kk ks) s e = !memTo ((ks.drop s).take (e - s)) 0 (e - s) := by
  rw [Bool.eq_iff_iff, Bool.not_eq_true', memTo_none]
  unfold allK
  rw [ft_iff]
  simp only [List.length_replicate]
  constructor
  · intro h k hk
    have := h k hk
    rw [nth_sub hk]
    simp only [nb, List.getD_eq_getElem?_getD, List.getElem?_replicate, hk, if_true, Option.getD_some, kk, if_pos (show s + k < ks.length by omega)] at this
    simpa using this
  · intro h k hk
    have := h k hk
    rw [nth_sub hk] at this
    simp only [nb, List.getD_eq_getElem?_getD, List.getElem?_replicate, hk, if_true, Option.getD_some, kk, if_pos (show s + k < ks.length by omega)]
    simpa using this
theorem canBeRun_any (A : Option Addr) (m c : Nat) (A' : Option Addr) (n c' B' : Nat) (ks : List Int) (s e : Nat) (w : World) (h' : Rd w B' A' n ks) (hB' : B' ≤ w.heap.size) (hn : n ≤ 8) (hc : n ≤ c') (hc2 : c' ≤ 9223372036854775807) (hs : s < e) (he : e ≤ n) :
    Calls Try.prog 119 #[.agg #[.slice A m c, .slice A' n c'], .int .i64 s, .int .i64 e] w fun e' w' => e' = .returned (.bool (allK (kk ks) s e)) ∧ Below w.heap.size w w' := by
  have hl := Lib.hid h'.1
  have hb0 : Below w.heap.size w (w.alloc (.cells #[.slice A m c, .slice A' n c'] 124)) := (Below.refl _ _).alloc (Nat.le_refl _) _
  have He := Lib.hid (allK_mem (ks := ks) (s := s) (e := e) (by omega) (by rw [hl.out]; exact he))
  have hr := h'.below (hb0.mono hB')
  obtain ⟨b, off, rfl, hbB, hck⟩ := hr.at_ (show s < n by omega)
  have hrs := hr.sub (s := s) (e := e) (by omega) he
  have hsI : (s : Int) ≤ (e : Int) := by omega
  have heI : (e : Int) ≤ (c' : Int) := by omega
  have hc2I : (c' : Int) ≤ 9223372036854775807 := by omega
  go_enter Try.func119, Try.ntmps119
  go_wp2_with fail
  refine (contains_any _ _ _ _ _ _ _ hrs (by omega)).mono ?_
  rintro e' w' ⟨rfl, rfl⟩
  go_wp2
  go_ret
  exact ⟨by rw [He.out]; rfl, hb0⟩
theorem valid_any (A : Option Addr) (m c B : Nat) (cs : List Int) (A' : Option Addr) (n c' B' : Nat) (ks : List Int) (w : World) (h : Rd w B A m cs) (hB : B ≤ w.heap.size) (hm : m ≤ 1099511627776) (hx : B64 cs) (h' : Rd w B' A' n ks) (hB' : B' ≤ w.heap.size) (hn : n ≤ 1099511627776) :
    Calls Try.prog 112 #[.agg #[.slice A m c, .slice A' n c']] w fun e w' => e = .returned (.bool (okK ks cs n)) ∧ Below w.heap.size w w' := by
  have hb0 : Below w.heap.size w (w.alloc (.cells #[.slice A m c, .slice A' n c'] 124)) := (Below.refl _ _).alloc (Nat.le_refl _) _
  have hr := h.below (hb0.mono hB)
  have hr' := h'.below (hb0.mono hB')
  cases hk : kvB ks
  · have He := Lib.hid (show okK ks cs n = false by simp [okK, hk])
    go_enter Try.func112, Try.ntmps112
    go_wp2_with (go_at_call 115; refine (implKnownValid _ _ _ _ _ _ hr' hn).mono ?_; rintro e w' ⟨rfl, rfl⟩; rw [hk])
    go_ret
    exact ⟨by rw [He.out]; rfl, hb0⟩
  · have He := Lib.hid (show okK ks cs n = cvB cs (n : Int) by simp [okK, hk])
    go_enter Try.func112, Try.ntmps112
    go_wp2_with (first | (go_at_call 115; refine (implKnownValid _ _ _ _ _ _ hr' hn).mono ?_; rintro e w' ⟨rfl, rfl⟩; rw [hk]) | (go_at_call 100; refine (implClueValid _ _ _ _ _ _ _ hr hm hx).mono ?_; rintro e w' ⟨rfl, rfl⟩))
    go_ret
    exact ⟨by rw [He.out]; rfl, hb0⟩
/-- a line in block g. -/
def LBox (w : World) (g : Nat) (A : Option Addr) (m c : Nat) (A' : Option Addr) (n c' : Nat) : Prop := w.heap[g]? = some (.cells #[.slice A m c, .slice A' n c'] 124)
theorem line_info (A : Option Addr) (m c : Nat) (A' : Option Addr) (n c' : Nat) : (Try.prog.info? 124).map (·.size) = some (#[Value.slice A m c, .slice A' n c'] : Array Value).size := by
  show _ = some 2
  kernel_rfl
end Go.Proofs.Ytgeedgljabdllaa
