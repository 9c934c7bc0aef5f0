import Derived.Test.YtoejpodchlepiaaVI6M
import Derived.Test.YtoejpodchlepiaaVSol
import Derived.Test.YtoejpodchlepiaaVNr
import Derived.Test.YtoejpodchlepiaaVLM
import Derived.OwnWalk
import Derived.Deep.CutRange
import Derived.Deep.CutBlock
set_option maxRecDepth 8000
namespace Go.Proofs.Ytoejpodchlepiaa
open Go.ChangeShapes Go.WideShapes Go.ChangeAt Go.RowKit
/-- what a draw of masks and a grid hands back. -/
def DrawnH (w : World) (e : Ending) (w' : World) : Prop := ∃ s A n c xs Ag ng cg g, e = .returned (.tuple #[.slice A n c, .int .i64 s, .slice Ag ng cg]) ∧ -1 ≤ s ∧ s ≤ 5 ∧ n ≤ 16 ∧ Rd w' w'.heap.size A n xs ∧ Hid (B64 xs) ∧ Rd w' w'.heap.size Ag ng g ∧ ng ≤ 16 ∧ Hid (sqSolved g (max 2 (min 4 s)) = true) ∧ Below w.heap.size w w'
/-- 'append' to one of two slices of the call's own. -/
theorem push_int2 {w : World} {ops : Array Oper} {rest : List Oper} {o : Oper} {a : Act} {Q : Exit → Act → World → Prop} (hgd : o.guard = none) (s x : Operand)
    (ho : o.op = .call { callee := .builtin .append, args := #[s, x], argTypes := #[23, 23] })
    (lo : Nat) (A : Option Addr) (n c : Nat) (xs : List Int) (v : Int) (hs : a.eval s = .slice A n c) (hx : a.eval x = .slice (some ⟨w.heap.size, 0, none⟩) 1 1) (hown : Ow w lo A n c xs) (hn : n ≤ 1099511627776) (hlo : lo ≤ w.heap.size)
    (A5 : Option Addr) (m5 c5 : Nat) (zs : List Int) (hown5 : Ow w lo A5 m5 c5 zs) (hsep : ∀ g, (Value.slice A n c).ownBlock = some g → (Value.slice A5 m5 c5).ownBlock ≠ some g)
    (h : ∀ A' c' w', Ow w' lo A' (n + 1) c' (xs ++ [v]) → Ow w' lo A5 m5 c5 zs → (∀ g, (Value.slice A' (n + 1) c').ownBlock = some g → (Value.slice A5 m5 c5).ownBlock ≠ some g) → (w.alloc (.cells #[.int .i64 v] 3)).grownBy w' (Value.slice A n c).ownBlock → wpList Try.prog ops Q rest (a.put o.dst (.slice A' (n + 1) c')) w') :
    wpList Try.prog ops Q (o :: rest) a (w.alloc (.cells #[.int .i64 v] 3)) := by
  refine wpList_plain hgd fun K hK => ?_
  have hr : Rd (w.alloc (.cells #[.int .i64 v] 3)) (w.heap.size + 1) (some ⟨w.heap.size, 0, none⟩) 1 [v] := by
    refine ⟨rfl, fun _ => ⟨_, _, rfl, by omega, fun k hk => ?_⟩⟩
    obtain rfl : k = 0 := by omega
    exact cell_of_row _ _ 0 _ _ (0, 0) (heap_alloc_new w _)
  obtain ⟨A', c', w', hrun, h1, h2, h3⟩ := run_push_all o.type lo A n c xs (some ⟨w.heap.size, 0, none⟩) 1 1 _ [v] (World.ownsRow.alloc hown _) hr (.inl (by omega)) hn (by omega) (by rw [World.size_alloc]; omega)
  unfold Oper.wp
  simp [execOp, ho, resolve, invoke, builtin, hs, hx, hrun, Result.andThen]
  refine hK _ _ (h A' c' w' h1 ?_ ?_ h2)
  · refine World.ownsRow.kept (World.ownsRow.alloc hown5 _) h2 ?_
    cases e : (Value.slice A5 m5 c5).ownBlock with
    | none => exact .inl rfl
    | some g => exact .inr (fun he => hsep g he.symm e)
  · intro g hg e
    rcases h3 g hg with h4 | h4
    · exact hsep g h4 e
    · have := hown5.own_hi g e
      rw [World.size_alloc] at h4
      omega
def oF (g : List Int) (k : Nat) : Int := bits .andNot .i64 (wrap64 (2 ^ (nth g k).toNat)) 1
def mF (xs : List Int) (k : Nat) : Int := bits .or .i64 (nth xs k) 2
def oB (s v : Nat) : Bool := !(Nat.ble 2 s && Nat.ble 1 v && Nat.ble v s) || (mkOk (2 ^ (s + 1) - 2) (bits .andNot .i64 (wrap64 (2 ^ v)) 1) && (bits .andNot .i64 (wrap64 (2 ^ v)) 1).toNat.testBit v)
theorem oB_key : ∀ s, s < 5 → ∀ v, v < 5 → oB s v = true := by decide +kernel
theorem oF_key (s : Nat) (hs : s < 5) (v : Nat) (hv : v < 5) (h2 : 2 ≤ s) (h1 : 1 ≤ v) (hvs : v ≤ s) : mkOk (2 ^ (s + 1) - 2) (bits .andNot .i64 (wrap64 (2 ^ v)) 1) = true ∧ (bits .andNot .i64 (wrap64 (2 ^ v)) 1).toNat.testBit v = true := by
  have := oB_key s hs v hv
  rw [oB, show Nat.ble 2 s = true from Nat.ble_eq_true_of_le h2, show Nat.ble 1 v = true from Nat.ble_eq_true_of_le h1, show Nat.ble v s = true from Nat.ble_eq_true_of_le hvs] at this
  simpa using this
def mB (s x v : Nat) : Bool := !(Nat.ble 2 s && mkOk (2 ^ (s + 1) - 2) (x : Int)) || (mkOk (2 ^ (s + 1) - 2) (bits .or .i64 (x : Int) 2) && (!x.testBit v || (bits .or .i64 (x : Int) 2).toNat.testBit v))
theorem mB_key : ∀ s, s < 5 → ∀ x, x < 32 → ∀ v, v < 5 → mB s x v = true := by decide +kernel
theorem mF_key (s : Nat) (hs : s < 5) (x : Nat) (hx : x < 32) (v : Nat) (hv : v < 5) (h2 : 2 ≤ s) (hm : mkOk (2 ^ (s + 1) - 2) (x : Int) = true) : mkOk (2 ^ (s + 1) - 2) (bits .or .i64 (x : Int) 2) = true ∧ (x.testBit v = true → (bits .or .i64 (x : Int) 2).toNat.testBit v = true) := by
  have := mB_key s hs x hx v hv
  rw [mB, show Nat.ble 2 s = true from Nat.ble_eq_true_of_le h2, hm] at this
  simp only [Bool.and_self, Bool.not_true, Bool.false_or, Bool.and_eq_true, Bool.or_eq_true, Bool.not_eq_true'] at this
  exact ⟨this.1, fun h => by rcases this.2 with h2 | h2; (rw [h] at h2; cases h2); exact h2⟩
theorem mvd_mapTo {f : Nat → Int} {s n : Nat} (hs : s ∈ [2, 3, 4]) (hn : n = s * s) (h : ∀ k, k < n → mkOk (2 ^ (s + 1) - 2) (f k) = true) : mvd (mapTo f n) s = true := by
  have h1 : inr (s : Int) 2 4 = true := by simp at hs; simp only [inr, decide_eq_true_eq]; omega
  simp only [mvd, Bool.and_eq_true, beq_iff_eq]
  refine ⟨⟨h1, by rw [mapTo_length, hn]; simp⟩, allTo_all (n := n) (fun k hk => ?_) (mapTo_length _ _)⟩
  rw [mapTo_nth hk, Int.toNat_natCast]
  exact h k hk
theorem mh_own {g : List Int} {s n : Nat} (hs : s ∈ [2, 3, 4]) (hn : n = s * s) (hl : g.length = n) (hgv : gv g s = true) (h1 : ∀ k, k < n → 1 ≤ nth g k ∧ nth g k ≤ s) : mhB (mapTo (oF g) n) s g = true := by
  have hs4 : 2 ≤ s ∧ s ≤ 4 := by simp at hs; omega
  have key : ∀ k, k < n → mkOk (2 ^ (s + 1) - 2) (oF g k) = true ∧ (oF g k).toNat.testBit (nth g k).toNat = true := fun k hk => by
    have := h1 k hk
    exact oF_key s (by omega) (nth g k).toNat (by omega) (by omega) (by omega) (by omega)
  simp only [mhB, Bool.and_eq_true, List.all_eq_true, List.mem_range]
  refine ⟨⟨mvd_mapTo hs hn fun k hk => (key k hk).1, hgv⟩, fun k hk => ?_⟩
  rw [hl] at hk
  unfold inMask
  rw [mapTo_nth hk]
  exact (key k hk).2
theorem mh_more {g xs : List Int} {s n : Nat} (hs : s ∈ [2, 3, 4]) (hn : n = s * s) (hl : g.length = n) (hx : xs.length = n) (h : mhB xs s g = true) : mhB (mapTo (mF xs) n) s g = true := by
  have hs4 : 2 ≤ s ∧ s ≤ 4 := by simp at hs; omega
  simp only [mhB, Bool.and_eq_true, List.all_eq_true, List.mem_range] at h ⊢
  obtain ⟨⟨hm, hgv⟩, hin⟩ := h
  have key : ∀ k, k < n → mkOk (2 ^ (s + 1) - 2) (mF xs k) = true ∧ (mF xs k).toNat.testBit (nth g k).toNat = true := fun k hk => by
    obtain ⟨x0, x1, _⟩ := mvd_nth hm k
    obtain ⟨g0, g1⟩ := gv_nth hgv (k := k) (by omega)
    have hmk : mkOk (2 ^ (s + 1) - 2) (nth xs k) = true := by
      simp only [mvd, Bool.and_eq_true, List.all_eq_true] at hm
      have hkx : k < xs.length := by omega
      have := hm.2 xs[k] (List.getElem_mem hkx)
      rw [Int.toNat_natCast] at this
      rwa [show nth xs k = xs[k] by simp [nth, List.getD_eq_getElem?_getD, hkx]]
    obtain ⟨x, hxx⟩ := Int.eq_ofNat_of_zero_le x0
    have hi := hin k (by omega)
    unfold inMask at hi
    unfold mF
    rw [hxx] at hmk hi ⊢
    obtain ⟨q1, q2⟩ := mF_key s (by omega) x (by omega) (nth g k).toNat (by omega) (by omega) hmk
    exact ⟨q1, q2 hi⟩
  refine ⟨⟨mvd_mapTo hs hn fun k hk => (key k hk).1, hgv⟩, fun k hk => ?_⟩
  rw [hl] at hk
  unfold inMask
  rw [mapTo_nth hk]
  exact (key k hk).2
theorem b64_mvd {m : List Int} {s : Int} (h : mvd m s = true) : B64 m := fun k => by have := mvd_nth h k; omega
theorem mh_mvd {m g : List Int} {s : Int} (h : mhB m s g = true) : mvd m s = true := by
  simp only [mhB, Bool.and_eq_true] at h; exact h.1.1
set_option maxHeartbeats 4000000 in
theorem masksHave_walk (hd : ∀ (A : Option Addr) (n c : Nat) (bs : List Int) (w : World), Code_ w A n c bs → Calls Try.prog 69 #[.slice A n c] w (DrawnH w)) (A : Option Addr) (c n : Nat) (bs : List Int) (w : World) (h : Code_ w A n c bs) :
    Calls Try.prog 18 #[.slice A n c] w fun e w' => e = .returned (.bool true) ∧ Below w.heap.size w w' := by
  by_cases hn : n ≤ 1048576
  · go_enter Try.func18, Try.ntmps18
    go_wp2_with fail
    refine (hd _ _ _ _ _ h).mono ?_
    rintro e w1 ⟨s, A1, n1, c1, xs, Ag, ng, cg, g, rfl, s1, s5, n16, hrd, h64, hrg, ng16, hsv, hb1⟩
    have hsb : -9223372036854775808 ≤ s ∧ s ≤ 9223372036854775807 := by omega
    go_wp2_with fail
    refine (implMasksHave A1 c1 n1 _ xs s Ag cg ng _ g w1 hrd h64.out (Nat.le_refl _) (by omega) hrg (Nat.le_refl _) (by omega) hsb).mono ?_
    rintro e w2 ⟨rfl, hb2⟩
    obtain ⟨ok, hok⟩ : ∃ ok, mhB xs s g = ok := ⟨_, rfl⟩
    rw [hok]
    have h02 := step hb1 hb2
    go_wp2_with fail
    refine (specMasksHave A1 c1 n1 _ xs s Ag cg ng _ g w2 (hrd.below hb2) hb2.size (by omega) (hrg.below hb2) hb2.size (by omega) hsb).mono ?_
    rintro e w3 ⟨rfl, hb3⟩
    rw [hok]
    have hne : (ok != ok) = false := by simp
    have h03 := step h02 hb3
    have h13 := step hb2 hb3
    have hr3 := hrd.below h13
    have hg3 := hrg.below h13
    have hB3 := h13.size
    have HV := Lib.hid (specMasksValid A1 c1 n1 _ xs s w3 hr3 hB3 (by omega) hsb)
    have HG := Lib.hid (fun w' (hb : Below w3.heap.size w3 w') => specGridValid Ag cg ng _ g s w' (hg3.below (hb.mono hB3)) (by omega))
    cases hv : mvd xs s
    · have hokf : ok = false := by rw [← hok]; simp [mhB, hv]
      subst hokf
      clear hok
      go_wp2_with (first
        | (go_at_call 63; refine HV.out.mono ?_; rintro e w5 ⟨rfl, hb5⟩; rw [hv]; have h05 := step h03 hb5)
        | (go_at_call 24; (with_reducible refine (alive_any _).mono ?_); rintro e w6 ⟨rfl, hb6⟩))
      go_ret
      exact ⟨rfl, step h05 hb6⟩
    · cases hgv : gv g s
      · have hokf : ok = false := by rw [← hok]; simp [mhB, hgv]
        subst hokf
        clear hok
        go_wp2_with (first
          | (go_at_call 63; refine HV.out.mono ?_; rintro e w5 ⟨rfl, hb5⟩; rw [hv]; have h05 := step h03 hb5)
          | (go_at_call 23; refine (HG.out _ hb5).mono ?_; rintro e w6 ⟨rfl, rfl⟩; rw [hgv])
          | (go_at_call 24; (with_reducible refine (alive_any _).mono ?_); rintro e w6 ⟨rfl, hb6⟩))
        go_ret
        exact ⟨rfl, step h05 hb6⟩
      · obtain ⟨s2, s4⟩ := gv_size hgv
        have hsv' := hsv.out
        rw [show max 2 (min 4 s) = s by omega] at hsv'
        obtain ⟨t, rfl⟩ : ∃ t : Nat, s = t := ⟨s.toNat, by omega⟩
        have hs : t ∈ [2, 3, 4] := by simp; omega
        have hlx := (mvd_at hv).2.1
        have hlg := gv_len hgv
        have e1 := hrd.1
        have e2 := hrg.1
        have hnt : ng = t * t := by
          simp at hs
          rcases hs with rfl | rfl | rfl <;> omega
        obtain rfl : n1 = ng := by
          simp at hs
          rcases hs with rfl | rfl | rfl <;> omega
        have hn4 : 4 ≤ n1 := by
          simp at hs
          rcases hs with rfl | rfl | rfl <;> omega
        have hg1 : ∀ k, k < n1 → 1 ≤ nth g k ∧ nth g k ≤ t := fun k hk => by
          obtain ⟨q0, q1⟩ := gv_nth hgv (k := k) (by omega)
          have := ((solved_iff e2).1 hsv').2.2 k hk
          omega
        have Hg := Lib.hid hg1
        have Hown := Lib.hid (mh_own hs hnt e2 hgv hg1)
        have h64o := Lib.hid (b64_mvd (mh_mvd Hown.out))
        have hgf : gf g t = n1 := by
          have := hsv'
          simp only [sqSolved, Bool.and_eq_true, beq_iff_eq] at this
          rw [this.2, hnt]; simp
        have Hgf := Lib.hid hgf
        have hnn : ((n1 : Int) == (n1 : Int)) = true := by simp
        have Hmore := Lib.hid (fun (hh : mhB xs t g = true) => mh_more hs hnt e2 e1 hh)
        clear hsv hsv' hlx hlg e1 e2 hg1 hgf hs hnt
        go_wp2_with (first
          | (go_at_call 63; refine HV.out.mono ?_; rintro e w5 ⟨rfl, hb5⟩; rw [hv]; have h05 := step h03 hb5; have h15 := step h13 hb5)
          | (go_at_call 23; refine (HG.out _ hb5).mono ?_; rintro e w6 ⟨rfl, rfl⟩; rw [hgv]))
        have hr5 := hrd.below h15
        have hg5 := hrg.below h15
        have hB5 := h15.size
        have o1 : Ow ((w5.alloc (.cells #[] 3)).alloc (.cells #[] 3)) w5.heap.size (some ⟨w5.heap.size, 0, none⟩) 0 0 [] := World.ownsRow.alloc (Ow.made0 _ _ (Nat.le_refl _)) _
        have o2 : Ow ((w5.alloc (.cells #[] 3)).alloc (.cells #[] 3)) w5.heap.size (some ⟨w5.heap.size + 1, 0, none⟩) 0 0 [] := by
          have := Ow.made0 (w5.alloc (.cells #[] 3)) w5.heap.size (by simp)
          rw [World.size_alloc] at this
          exact this
        have hb0 : Below w5.heap.size w5 ((w5.alloc (.cells #[] 3)).alloc (.cells #[] 3)) := ((Below.refl _ _).alloc (Nat.le_refl _) _).alloc (by simp) _
        go_loopw [7, 8, 9] (fun ov mv iv wr => ∃ (k : Nat) (A4 : Option Addr) (c4 : Nat) (A5 : Option Addr) (c5 : Nat), k ≤ n1 ∧ iv = .int .i64 k ∧ ov = .slice A4 k c4 ∧ mv = .slice A5 k c5 ∧ Ow wr w5.heap.size A4 k c4 (mapTo (oF g) k) ∧ Ow wr w5.heap.size A5 k c5 (mapTo (mF xs) k) ∧ (∀ b, (Value.slice A4 k c4).ownBlock = some b → (Value.slice A5 k c5).ownBlock ≠ some b) ∧ Below w5.heap.size w5 wr) (fun _ _ iv _ => n1 - (intOf iv).toNat)
        case atStart => exact ⟨0, _, 0, _, 0, Nat.zero_le _, rfl, rfl, rfl, o1, o2, fun b e1 e2 => by simp [Value.ownBlock] at e1 e2; omega, hb0⟩
        case round =>
          obtain ⟨k, A4, c4, A5, c5, hk, rfl, rfl, rfl, ho4, ho5, hsep, hb⟩ := hrel
          by_cases hlt : k < n1
          · obtain ⟨b, off, rfl, hbB, hck0⟩ := hr5.at_ hlt
            obtain ⟨b', off', rfl, hbB', hckg0⟩ := hg5.at_ hlt
            obtain ⟨y0, y1⟩ := Hg.out k hlt
            obtain ⟨v, hv'⟩ := Int.eq_ofNat_of_zero_le (show 0 ≤ nth g k by omega)
            have hvs : v < 64 := by omega
            have e1 := Lib.hid (show mapTo (oF g) (k + 1) = mapTo (oF g) k ++ [bits .andNot .i64 (wrap64 (2 ^ v)) 1] by rw [mapTo_succ]; simp only [oF, hv', Int.toNat_natCast])
            have e2 := Lib.hid (show mapTo (mF xs) (k + 1) = mapTo (mF xs) k ++ [bits .or .i64 (nth xs k) 2] by rw [mapTo_succ]; rfl)
            rw [hv'] at hckg0
            have hckg : wr.cell? ⟨b', off' + k, none⟩ = some (.int .i64 (v : Int)) := (hb.cell (p := ⟨b', off' + k, none⟩) (show b' < _ by omega)).trans hckg0
            have hck : wr.cell? ⟨b, off + k, none⟩ = some (.int .i64 (nth xs k)) := (hb.cell (p := ⟨b, off + k, none⟩) (show b < _ by omega)).trans hck0
            have hltI : (k : Int) < (n1 : Int) := by omega
            have hbI : b < w5.heap.size := by omega
            have hz := hb.size
            have hk40 : k ≤ 1099511627776 := by omega
            clear y0 y1 hv' hckg0
            go_wp2_with (first
              | (at_builtin; refine push_int2 rfl (.tmp 52) (.tmp 59) rfl w5.heap.size A4 k c4 (mapTo (oF g) k) _ rfl rfl ho4 hk40 hz A5 k c5 _ ho5 hsep ?_; intro A6 c6 w6 ho6 ho7 hsep6 hg6; have hb6 : Below w5.heap.size w5 w6 := (hb.alloc hz _).grown hg6 (by rw [World.size_alloc]; omega) (fun j hj => ho4.own_lo j hj); have hck6 := (hb6.cell (p := ⟨b, off + k, none⟩) hbI).trans hck0; have hz6 := hb6.size)
              | (at_builtin; refine push_int2 rfl (.tmp 61) (.tmp 67) rfl w5.heap.size A5 k c5 (mapTo (mF xs) k) _ rfl rfl ho7 hk40 hz6 A6 (k + 1) c6 _ ho6 (fun j j1 j2 => hsep6 j j2 j1) ?_; intro A8 c8 w8 ho8 ho9 hsep8 hg8; have hb8 : Below w5.heap.size w5 w8 := (hb6.alloc hz6 _).grown hg8 (by rw [World.size_alloc]; omega) (fun j hj => ho7.own_lo j hj)))
            go_roundw
            case rel => exact ⟨k + 1, A6, c6, A8, c8, by omega, by go_num, rfl, rfl, by rw [e1.out]; exact ho9, by rw [e2.out]; exact ho8, fun j j1 j2 => hsep8 j j2 j1, hb8⟩
            case measure => simp [intOf]; omega
          · obtain rfl : k = n1 := by omega
            have hro := ho4.rd
            have hrm := ho5.rd
            have hgr := hg5.below (hb.mono hB5)
            have hBg := Nat.le_trans hB5 hb.size
            have h0r := step h05 hb
            have HO := Lib.hid (implMasksHave A4 c4 k _ (mapTo (oF g) k) t Ag cg k _ g wr hro h64o.out (Nat.le_refl _) (by omega) hgr hBg (by omega) hsb)
            cases ok
            · go_wp2_with (first
                | (go_at_call 51; refine HO.out.mono ?_; rintro e w7 ⟨rfl, hb7⟩; rw [Hown.out]; have h07 := step h0r hb7; have hg7 := hgr.below (hb7.mono hBg); have hB7 := Nat.le_trans hBg hb7.size)
                | (go_at_call 26; refine (implGridFilled Ag cg k _ g t _ hg7 hB7 (by omega)).mono ?_; rintro e w8 ⟨rfl, hb8⟩; rw [Hgf.out]; have h08 := step h07 hb8))
              go_ret
              exact ⟨rfl, h08⟩
            · have Hmr := Lib.hid (Hmore.out hok)
              have h64m := Lib.hid (b64_mvd (mh_mvd Hmr.out))
              have HM := Lib.hid (fun w' (hb' : Below wr.heap.size wr w') => implMasksHave A5 c5 k _ (mapTo (mF xs) k) t Ag cg k _ g w' (hrm.below hb') h64m.out hb'.size (by omega) (hgr.below (hb'.mono hBg)) (Nat.le_trans hBg hb'.size) (by omega) hsb)
              clear hok
              go_wp2_with (first
                | (go_at_call 51; refine (HM.out _ h78).mono ?_; rintro e w9 ⟨rfl, hb9⟩; rw [Hmr.out]; have h09 := step h08 hb9)
                | (go_at_call 51; (with_reducible refine HO.out.mono ?_); rintro e w7 ⟨rfl, hb7⟩; rw [Hown.out]; have h07 := step h0r hb7; have hg7 := hgr.below (hb7.mono hBg); have hB7 := Nat.le_trans hBg hb7.size)
                | (go_at_call 26; refine (implGridFilled Ag cg k _ g t _ hg7 hB7 (by omega)).mono ?_; rintro e w8 ⟨rfl, hb8⟩; rw [Hgf.out]; have h08 := step h07 hb8; have h78 := step hb7 hb8))
              go_ret
              exact ⟨rfl, h09⟩
  · go_enter Try.func18, Try.ntmps18
    go_wp2
    go_ret
    exact ⟨rfl, Below.refl _ _⟩
end Go.Proofs.Ytoejpodchlepiaa
set_option maxRecDepth 8000
namespace Go.Proofs.Ytoejpodchlepiaa
open Go.ChangeShapes Go.WideShapes Go.ChangeAt Go.RowKit
theorem rd_set {w : World} {B b off n : Nat} {xs : List Int} (h : Rd w B (some ⟨b, off, none⟩) n xs) {k : Nat} (hk : k < n) (v : Int) : Rd (w.setCell ⟨b, off + k, none⟩ (.int .i64 v)) B (some ⟨b, off, none⟩) n (xs.set k v) := by
  refine ⟨by rw [List.length_set, h.1], fun hn => ?_⟩
  obtain ⟨b', off', e, hlt, hc⟩ := h.2 hn
  injection e with e
  injection e with e1 e2 _
  subst e1 e2
  refine ⟨_, _, rfl, hlt, fun j hj => ?_⟩
  rw [nth_set (by rw [h.1]; exact hk)]
  by_cases e : k = j
  · subst e; rw [if_pos rfl]; exact World.cell?_setCell_same w _ _ (hc k hk)
  · rw [if_neg e, World.cell?_setCell_other _ _ _ _ (fun e' => by injection e' with _ e2 _; omega)]; exact hc j hj
theorem rd_far {w : World} {B b bg j og n : Nat} {xs : List Int} (h : Rd w B (some ⟨bg, og, none⟩) n xs) (hne : b ≠ bg) (v : Value) : Rd (w.setCell ⟨b, j, none⟩ v) B (some ⟨bg, og, none⟩) n xs := by
  refine ⟨h.1, fun hn => ?_⟩
  obtain ⟨b', off', e, hlt, hc⟩ := h.2 hn
  injection e with e
  injection e with e1 e2 _
  subst e1 e2
  refine ⟨_, _, rfl, hlt, fun j hj => ?_⟩
  rw [World.cell?_setCell_other _ _ _ _ (fun e' => by injection e' with e1 _ _; omega)]; exact hc j hj
theorem fz_set {w : World} {A : Option Addr} {n : Nat} {p : Addr} {v : Value} (h : Hid (Fz w A n)) : Hid (Fz (w.setCell p v) A n) := Lib.hid (fun b off e k hk => (World.frozen?_setCell w p _ v).trans (h.out b off e k hk))
theorem fz_draw {w : World} {A : Option Addr} {n q : Nat} (h : Hid (Fz w A n)) : Hid (Fz (w.drewN q) A n) := Lib.hid (fun b off e k hk => h.out b off e k hk)
theorem rd_draw {w : World} {B n q : Nat} {A : Option Addr} {xs : List Int} (h : Rd w B A n xs) : Rd (w.drewN q) B A n xs := h.below (below_drewN (Below.refl _ _) q)
theorem rd_keep {w w' : World} {G B n : Nat} {A : Option Addr} {xs : List Int} (h : Rd w B A n xs) (hB : B ≤ w.heap.size) (hg : w.grownBy w' (some G)) (hne : ∀ b off, A = some ⟨b, off, none⟩ → G < b) : Rd w' B A n xs := by
  refine ⟨h.1, fun hn => ?_⟩
  obtain ⟨b, off, e, hlt, hc⟩ := h.2 hn
  exact ⟨b, off, e, hlt, fun k hk => (grown_at hg _ _ (hne b off e) (by omega)).trans (hc k hk)⟩
theorem fz_keep {w w' : World} {G B n : Nat} {A : Option Addr} {xs : List Int} (hf : Hid (Fz w A n)) (h : Rd w B A n xs) (hB : B ≤ w.heap.size) (hg : w.grownBy w' (some G)) (hne : ∀ b off, A = some ⟨b, off, none⟩ → G < b) : Hid (Fz w' A n) := Lib.hid (fun b off e k hk => by
  obtain ⟨b', off', e', hlt, _⟩ := h.2 (by omega)
  have he := hne b off e
  rw [e] at e'
  injection e' with e'
  injection e' with e1 _ _
  have hb : b < w.heap.size := by omega
  rw [← hf.out b off e k hk]
  unfold World.frozen?
  rw [hg.block b hb (fun e => by injection e with e; omega)])
theorem or_key : ∀ x, x < 69 → ∀ v, v < 5 → (-4 ≤ bits .or .i64 ((x : Nat) - 4 : Int) (wrap64 (2 ^ v)) ∧ bits .or .i64 ((x : Nat) - 4 : Int) (wrap64 (2 ^ v)) ≤ 127) := by decide +kernel
theorem or_small {x : Int} (h : -4 ≤ x ∧ x ≤ 64) {v : Nat} (hv : v < 5) : -4 ≤ bits .or .i64 x (wrap64 (2 ^ v)) ∧ bits .or .i64 x (wrap64 (2 ^ v)) ≤ 127 := by
  obtain ⟨y, hy⟩ := Int.eq_ofNat_of_zero_le (show 0 ≤ x + 4 by omega)
  have := or_key y (by omega) v hv
  rw [show ((y : Nat) - 4 : Int) = x by omega] at this
  exact this
set_option maxHeartbeats 4000000 in
theorem draw_DrawMasksHave (A : Option Addr) (n c : Nat) (bs : List Int) (w : World) (h : Code_ w A n c bs) : Calls Try.prog 69 #[.slice A n c] w (DrawnH w) := by
  go_enter Try.func69, Try.ntmps69
  go_wp2_with fail
  refine (specOpen A c n bs w h.1 h.2.1 h.2.2).mono ?_
  rintro e w1 ⟨rfl, hr, hb⟩
  go_wp2_with fail
  refine (l20Masks_any w.heap.size w.heap.size 0 12 w1 hr (Nat.le_refl _) (by omega) (by omega)).mono ?_
  rintro e w2 ⟨s, A2, n2, c2, xs, rfl, s1, s5, n16, hnc, hcm, hrd, hsm, hlo, hr2, hg, hfz⟩
  have hb2 : Below w.heap.size w w2 := hb.grown hg hb.size (fun k hk => by injection hk with hk; omega)
  obtain ⟨t, ht⟩ : ∃ t, max 2 (min 4 s) = t := ⟨_, rfl⟩
  have t2 : 2 ≤ t := by omega
  have t4 : t ≤ 4 := by omega
  have Ht := Lib.hid ht
  go_upto_region 3 with fail
  go_cut [8] from 11 (fun tv wx => tv = .int .i64 t ∧ w2 = wx)
  case first =>
    go_wp2
    all_goals go_meet
    all_goals (first | exact ⟨rfl, rfl⟩ | exact ⟨by congr 1; omega, rfl⟩)
  case rest =>
  obtain ⟨rfl, rfl⟩ := hcut
  clear ht
  go_wp2_with fail
  refine (l20Solved_any w.heap.size w.heap.size _ t w2 hr2 (Nat.le_refl _) (by omega) t2 t4).mono ?_
  rintro e w3 ⟨Ag, ng, cg, g, rfl, hog, hng, hmem, hr3, hg3⟩
  obtain ⟨q4, q16⟩ := sq_bd t2 t4
  have hng4 : 4 ≤ ng := by omega
  have hng16 : ng ≤ 16 := by omega
  have hok : okAll g t ng := sols_ok (by omega) ng ng (zeros ng) 0 (fun k hk => by rw [show nth (zeros ng) k = 0 by simp [nth, zeros, List.getD_eq_getElem?_getD, hk]]; omega) g hmem
  have Hsv := Lib.hid (show sqSolved g (max 2 (min 4 s)) = true by rw [Ht.out]; exact (sols_solved t2 t4 hng hmem).2)
  have hsz2 : w.heap.size ≤ w2.heap.size := hb2.size
  have hb3 : Below w.heap.size w w3 := hb2.grown hg3 hb2.size (fun k hk => by injection hk with hk; omega)
  obtain ⟨bg, rfl, hbg1, hbg2⟩ := hog.form (by omega)
  have hw1 : w.heap.size < w1.heap.size := hr.lt
  have hw12 := hg.size
  have hlo2 : ∀ b off, A2 = some ⟨b, off, none⟩ → w.heap.size < b := fun b off e => by have := hlo b off e; omega
  have hrg3 := hog.rd
  have hrm3 := rd_keep hrd (Nat.le_refl _) hg3 hlo2
  have hfz3 := fz_keep hfz hrd (Nat.le_refl _) hg3 hlo2
  have h23 := hg3.size
  clear hmem
  go_wp2_with fail
  refine (pick_any w.heap.size w.heap.size _ 2 w3 hr3 (Nat.le_refl _) (by omega)).mono ?_
  rintro e w4 ⟨pv, rfl, ⟨p0, p1, _⟩, hr4, hg4⟩
  have hb4 : Below w.heap.size w w4 := hb3.grown hg4 hb3.size (fun k hk => by injection hk with hk; omega)
  have hrg4 := rd_keep hrg3 (Nat.le_refl _) hg4 (fun b off e => by injection e with e; injection e with e _ _; omega)
  have hrm4 := rd_keep hrm3 h23 hg4 hlo2
  have hfz4 := fz_keep hfz3 hrm3 h23 hg4 hlo2
  have h34 := hg4.size
  have Hlo := Lib.hid hlo2
  have Hok := Lib.hid hok
  have h64 := Lib.hid (smallM_b64 hsm.out hrd.1)
  clear hlo hlo2 hrd hrm3 hrg3 hfz hfz3 hog hok hb hb2 hb3 hr hr2 hr3 hr4 hg hg3 hg4 hw1
  by_cases hp : pv = 0
  · subst hp
    go_wp2
    go_loopw [10] (fun i wr => ∃ (k : Nat) (ys : List Int), k ≤ n2 ∧ k ≤ ng ∧ i = .int .i64 k ∧ Hid (B64 ys) ∧ Hid (∀ j, k ≤ j → nth ys j = nth xs j) ∧ Rd wr w2.heap.size A2 n2 ys ∧ Rd wr w3.heap.size (some ⟨bg, 0, none⟩) ng g ∧ Hid (Fz wr A2 n2) ∧ Below w.heap.size w wr ∧ w4.heap.size ≤ wr.heap.size) (fun i _ => n2 - (intOf i).toNat)
    case atStart => exact ⟨0, xs, Nat.zero_le _, Nat.zero_le _, rfl, h64, Lib.hid (fun j _ => rfl), hrm4, hrg4, hfz4, hb4, Nat.le_refl _⟩
    case round =>
      obtain ⟨k, ys, hk, hkg, rfl, hy64, hys, hry, hrg, hfz, hbw, hsz⟩ := hrel
      by_cases hlt : k < n2
      · by_cases hltg : k < ng
        · obtain ⟨b, off, rfl, hbB, hck⟩ := hry.at_ hlt
          obtain ⟨b', off', hbe, hbB', hck'⟩ := hrg.at_ hltg
          injection hbe with hbe
          injection hbe with hb1 hb2 _
          subst hb1 hb2
          have hfr := hfz.out b off rfl k hlt
          have hltI : (k : Int) < (n2 : Int) := by omega
          have hltgI : (k : Int) < (ng : Int) := by omega
          obtain ⟨y0, y1⟩ := Hok.out k hltg
          obtain ⟨v, hv⟩ := Int.eq_ofNat_of_zero_le y0
          have hvs : v < 64 := by omega
          have hv5 : v < 5 := by omega
          rw [hv, Nat.zero_add] at hck'
          have hsmx := hsm.out k hlt
          obtain ⟨z, hz⟩ : ∃ z, bits .or .i64 (nth ys k) (wrap64 (2 ^ v)) = z := ⟨_, rfl⟩
          have hzb := or_small (x := nth xs k) (by omega) hv5
          rw [← hys.out k (Nat.le_refl _), hz] at hzb
          have Hz := Lib.hid hz
          have hset := Lib.hid (rd_set hry hlt z)
          have hsetg := Lib.hid (rd_far (j := off + k) hrg (show b ≠ bg by omega) (.int .i64 z))
          have hfz5 := fz_set (p := (⟨b, off + k, none⟩ : Addr)) (v := (.int .i64 z)) hfz
          have hbs := Lib.hid (Below.setCell (p := (⟨b, off + k, none⟩ : Addr)) hbw (show w.heap.size ≤ b from Nat.le_of_lt (Hlo.out b off rfl)) (.int .i64 z))
          have hys5 : Hid (∀ j, k + 1 ≤ j → nth (ys.set k z) j = nth xs j) := Lib.hid (fun j hj => by
            rw [nth_set (by rw [hry.1]; exact hlt), if_neg (by omega)]; exact hys.out j (by omega))
          have hy5 : Hid (B64 (ys.set k z)) := Lib.hid (fun j => by
            rw [nth_set (by rw [hry.1]; exact hlt)]
            split
            · omega
            · exact hy64.out j)
          have hs5 : w4.heap.size ≤ (wr.setCell ⟨b, off + k, none⟩ (.int .i64 z)).heap.size := by simpa [World.setCell] using hsz
          clear hz hv hsmx hzb y0 y1 hbB hbB'
          go_wp2
          go_region
          rw [Hz.out]
          go_wp2
          go_roundw
          case rel => exact ⟨k + 1, ys.set k z, by omega, by omega, by go_num, hy5, hys5, rd_draw hset.out, rd_draw hsetg.out, fz_draw hfz5, below_drewN hbs.out _, hs5⟩
          case measure => simp [intOf]; omega
        · obtain rfl : k = ng := by omega
          have hltI : (k : Int) < (n2 : Int) := by omega
          go_wp2
          go_ret3
          exact ⟨s, A2, n2, c2, ys, _, _, _, g, rfl, s1, s5, n16, hry.more (by omega), hy64, hrg.more (by omega), hng16, Hsv, hbw⟩
      · obtain rfl : k = n2 := by omega
        go_wp2
        go_ret3
        exact ⟨s, A2, _, c2, ys, _, _, _, g, rfl, s1, s5, n16, hry.more (by omega), hy64, hrg.more (by omega), hng16, Hsv, hbw⟩
  · have hpb : (pv == 0) = false := by simpa using hp
    go_wp2
    go_ret3
    exact ⟨s, A2, n2, c2, xs, _, _, _, g, rfl, s1, s5, n16, hrm4.more (by omega), h64, hrg4.more (by omega), hng16, Hsv, hb4⟩
end Go.Proofs.Ytoejpodchlepiaa
