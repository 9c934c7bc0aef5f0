import Derived.Test.YtgeedgljabdllaaPp
import Derived.Test.YtgeedgljabdllaaXSzi
set_option maxRecDepth 8000
namespace Go.Proofs.Ytgeedgljabdllaa
open Go.ChangeShapes Go.WideShapes Go.ChangeAt Go.RowKit
/-! slices of slices of numbers: counted, copied, compared. -/
/-- numbers of any kind that came in. -/
def Rdx (w : World) (B : Nat) (A : Option Addr) (n : Nat) (xs : List Int) : Prop := Rd w B A n xs ∧ n ≤ 9223372036854775807 ∧ B64 xs
abbrev Rrx (w : World) (B : Nat) (A : Option Addr) (n : Nat) (Ls : List (List Int)) : Prop := Rr Rdx w B A n Ls
theorem Rrx.below {w w' : World} {B : Nat} {A : Option Addr} {n : Nat} {Ls : List (List Int)} (h : Rrx w B A n Ls) (hb : Below B w w') : Rrx w' B A n Ls :=
  h.map (Nat.le_refl _) (fun b i hlt => hb.cell (p := ⟨b, i, none⟩) hlt) fun _ _ _ hr => ⟨hr.1.below hb, hr.2⟩
theorem Rrx.lns {w : World} {B : Nat} {A : Option Addr} {n : Nat} {Ls : List (List Int)} (h : Rrx w B A n Ls) (hn : n ≤ 1099511627776) (hs : ∀ k, k < n → (gtl Ls k).length ≤ 1099511627776) : Lns w B A n Ls :=
  ⟨h.map (Nat.le_refl _) (fun _ _ _ => rfl) fun _ _ _ hr => hr.1, hn, hs, fun k hk => by
    obtain ⟨_, _, _, _, _, _, _, hr⟩ := h.at_ hk
    exact hr.2.2⟩
theorem Gs.lns {w : World} {lo m cap : Nat} {A : Option Addr} {d : List GV} (h : Gs w lo (.slice A m cap) d) (hm : d.length = m) (hn : m ≤ 1099511627776) (hs : ∀ k, k < m → (gtl (gsC d) k).length ≤ 1099511627776) (hb : ∀ k, k < m → B64 (gtl (gsC d) k)) : Lns w w.heap.size A m (gsC d) := by
  refine ⟨⟨by rw [cnt_len, hm], fun h0 => ?_⟩, hn, hs, hb⟩
  obtain ⟨g, A', c', rfl, _, _, hg, _⟩ := h.at_ (show 0 < d.length by omega)
  refine ⟨g, 0, rfl, hg, fun k hk => ?_⟩
  obtain ⟨g1, A1, c1, e1, _, _, _, hc, _, ho, _⟩ := h.at_ (show k < d.length by omega)
  cases e1
  exact ⟨A1, c1, by rw [Nat.zero_add]; exact hc, ho.rd⟩
/-- one element put, in a block of its own. -/
theorem Gs.put13 {w w3 : World} {lo g m cap k c3 : Nat} {d : List GV} {A3 : Option Addr} {xs : List Int} (h : Gs w lo (.slice (some ⟨g, 0, none⟩) m cap) d) (hm : d.length = m) (hk : k < d.length) (hb : Below w.heap.size w w3) (ho : Ow w3 w.heap.size A3 xs.length c3 xs) :
    Gs (w3.setCell ⟨g, k, none⟩ (.slice A3 xs.length c3)) lo (.slice (some ⟨g, 0, none⟩) m cap) (d.set k (.slice A3 xs.length c3, xs)) := by
  subst hm
  obtain ⟨g', A', c', e, -, hlo, hgw, -⟩ := h.at_ hk
  cases e
  have h3 := h.below hb
  obtain ⟨hst, hgr⟩ := World.ownsRow.stored h3.1 k (.slice A3 xs.length c3)
  have hnew : ∀ b, (Value.slice A3 xs.length c3).ownBlock = some b → w.heap.size ≤ b := ho.own_lo
  have hvb : (Value.slice (some ⟨g, 0, none⟩) d.length cap).ownBlock = some g := rfl
  have hold : ∀ x ∈ d, ∀ b, x.1.ownBlock = some b → b < w.heap.size := fun x hx => h.hi hx
  refine ⟨by rw [List.length_set, List.map_set]; exact hst, fun x hx => ?_, ?_⟩
  · rcases List.mem_or_eq_of_mem_set hx with hx | rfl
    · obtain ⟨⟨A, c, e, hx1⟩, hx2⟩ := h3.2.1 x hx
      exact ⟨⟨A, c, e, hx1.off hgr (fun b hb2 q => hx2 b (by rw [e]; exact hb2) (by rw [hvb]; exact q))⟩, hx2⟩
    · refine ⟨⟨A3, c3, rfl, (ho.off hgr (fun b hb2 q => ?_)).mono (by omega)⟩, fun b hb2 q => ?_⟩
      · have := hnew b hb2
        injection q with q
        omega
      · have := hnew b hb2
        rw [hvb] at q
        injection q with q
        omega
  · rw [List.pairwise_iff_getElem]
    have hp := List.pairwise_iff_getElem.1 h.2.2
    intro i j hi hj hij b h1 h2
    rw [List.length_set] at hi hj
    rw [List.getElem_set] at h1 h2
    by_cases e1 : k = i
    · rw [if_pos e1] at h1
      rw [if_neg (by omega)] at h2
      have := hnew b h1
      have := hold _ (List.getElem_mem hj) b h2
      omega
    · rw [if_neg e1] at h1
      by_cases e2 : k = j
      · rw [if_pos e2] at h2
        have := hnew b h2
        have := hold _ (List.getElem_mem hi) b h1
        omega
      · rw [if_neg e2] at h2
        exact hp i j hi hj hij b h1 h2
theorem Gs.zeros {w : World} {lo m : Nat} {A : Option Addr} (h : w.ownsRow lo 28 1 (.slice A m m) m (List.replicate m (.slice none 0 0))) : Gs w lo (.slice A m m) (List.replicate m (.slice none 0 0, [])) := by
  refine ⟨by rw [List.length_replicate, List.map_replicate]; exact h, fun x hx => ?_, ?_⟩
  · obtain ⟨_, rfl⟩ := List.mem_replicate.1 hx
    exact ⟨⟨none, 0, rfl, Ow.nil_ _ _⟩, fun g hg => by simp [Value.ownBlock] at hg⟩
  · rw [List.pairwise_iff_getElem]
    intro i j hi hj hij b h1
    rw [List.getElem_replicate] at h1
    simp [Value.ownBlock] at h1
theorem gtl_set {d : List GV} {k : Nat} {v : Value} {xs : List Int} (hk : k < d.length) (j : Nat) : gtl (gsC (d.set k (v, xs))) j = if j = k then xs else gtl (gsC d) j := by
  unfold gtl gsC
  rw [List.map_set, List.getD_eq_getElem?_getD, List.getD_eq_getElem?_getD, List.getElem?_set]
  by_cases e : k = j
  · subst e; simp [hk]
  · rw [if_neg e, if_neg (fun q => e q.symm)]
theorem gsC_all {d : List GV} {Ls : List (List Int)} {m : Nat} (hd : d.length = m) (hl : Ls.length = m) (h : ∀ j, j < m → gtl (gsC d) j = gtl Ls j) : gsC d = Ls := by
  apply List.ext_getElem (by rw [cnt_len, hd, hl])
  intro i h1 h2
  have := h i (by omega)
  simpa [gtl, List.getD_eq_getElem?_getD, h1, h2] using this
set_option maxHeartbeats 1000000 in
theorem szIntSS_any (A : Option Addr) (c n B : Nat) (Ls : List (List Int)) (l : Int) (w : World) (h : Rrx w B A n Ls) (hB : B ≤ w.heap.size) (hm : n ≤ 9223372036854775807) (h0 : 0 ≤ l) (h1 : l ≤ 1099511627776) :
    Calls Try.prog 69 #[.slice A n c, .int .i64 l] w fun e w' => ∃ r : Int, e = .returned (.int .i64 r) ∧ Below w.heap.size w w' ∧ (r = -1 ∨ (0 ≤ r ∧ r ≤ l ∧ (n : Int) ≤ l ∧ ∀ i, i < n → ((gtl Ls i).length : Int) ≤ l)) := by
  have HR := Lib.hid (fun (w' : World) (hb : Below w.heap.size w w') => Rrx.below h (hb.mono hB))
  have e1 : wrap64 (l - n) = l - n := IntWalk.wrap64_in _ ⟨by omega, by omega⟩
  by_cases hn : (n : Int) ≤ l
  · have hq4 : ¬ l - (n : Int) < 0 := by omega
    have HQ := Lib.hid (show 0 ≤ l - (n : Int) ∧ l - (n : Int) ≤ l by omega)
    have HN := Lib.hid hn
    clear hn
    go_enter Try.func69, Try.ntmps69
    go_wp2
    go_loopw [1, 5] (fun lv i wr => ∃ (u : Nat) (q : Int), u ≤ n ∧ 0 ≤ q ∧ q ≤ l ∧ lv = .int .i64 q ∧ i = .int .i64 u ∧ Hid (∀ j, j < u → ((gtl Ls j).length : Int) ≤ l) ∧ Below w.heap.size w wr) (fun _ i _ => n - (intOf i).toNat)
    case atStart => exact ⟨0, _, Nat.zero_le _, HQ.out.1, HQ.out.2, rfl, rfl, Lib.hid (fun j hj => absurd hj (by omega)), Below.refl _ _⟩
    case round =>
      obtain ⟨u, q, hu, hq0', hq1', rfl, rfl, hall, hb⟩ := hrel
      by_cases hlt : u < n
      · obtain ⟨b, off, A', c', rfl, hbB, r1, r3⟩ := (HR.out _ hb).at_ hlt
        obtain ⟨rx, hrx⟩ : ∃ x, x = (gtl Ls u).length := ⟨_, rfl⟩
        rw [← hrx] at r1
        have r4 : rx ≤ 9223372036854775807 := by rw [hrx]; exact r3.2.1
        have HC := Lib.hid (szIntS_any A' c' rx q wr r4 hq0' (by omega))
        have hin : (u : Int) < (n : Int) := by omega
        clear r3
        by_cases hfit : (rx : Int) ≤ q
        · obtain ⟨q2, hq2⟩ : ∃ z, q - (rx : Int) = z := ⟨_, rfl⟩
          rw [if_pos hfit, hq2] at HC
          have hq5 : ¬ q2 < 0 := by omega
          have Hall2 := Lib.hid (show ∀ j, j < u + 1 → ((gtl Ls j).length : Int) ≤ l from fun j hj => by
            by_cases e : j = u
            · subst e; rw [← hrx]; omega
            · exact hall.out j (by omega))
          have HQ := Lib.hid (show 0 ≤ q2 ∧ q2 ≤ l by omega)
          clear hq2 hfit hrx
          go_wp2_with (go_at_call 98; refine HC.out.mono ?_; rintro e w4 ⟨rfl, rfl⟩)
          go_roundw
          case rel => exact ⟨u + 1, q2, by omega, HQ.out.1, HQ.out.2, rfl, by go_num, Hall2, hb⟩
          case measure => simp [intOf]; omega
        · rw [if_neg hfit] at HC
          clear hrx
          go_wp2_with (go_at_call 98; refine HC.out.mono ?_; rintro e w4 ⟨rfl, rfl⟩)
          go_ret
          exact ⟨-1, rfl, hb, .inl rfl⟩
      · obtain rfl : u = n := by omega
        go_wp2
        go_ret
        exact ⟨q, rfl, hb, .inr ⟨hq0', hq1', HN.out, hall.out⟩⟩
  · have hq4 : l - (n : Int) < 0 := by omega
    go_enter Try.func69, Try.ntmps69
    go_wp2
    go_ret
    exact ⟨-1, rfl, Below.refl _ _, .inl rfl⟩
set_option maxHeartbeats 1000000 in
theorem toIntSS_any (A : Option Addr) (c m B : Nat) (Ls : List (List Int)) (w : World) (h : Lns w B A m Ls) (hB : B ≤ w.heap.size) :
    Calls Try.prog 70 #[.slice A m c] w fun e w' => ∃ d, e = .returned (.slice (some ⟨w.heap.size, 0, none⟩) m m) ∧ Gs w' w.heap.size (.slice (some ⟨w.heap.size, 0, none⟩) m m) d ∧ d.length = m ∧ gsC d = Ls ∧ Below w.heap.size w w' := by
  obtain ⟨i0, hi, hz0, hz1, hz2⟩ := info_parts sl_info
  have hm := h.m
  have HR := Lib.hid (fun (w' : World) (hb : Below w.heap.size w w') => h.below (hb.mono hB))
  have HT := Lib.hid (fun (w' : World) (A' : Option Addr) (c' n : Nat) (xs : List Int) => toIntS_any A' c' n B xs w')
  have Hlen := Lib.hid h.len
  have Hms := Lib.hid h.ms
  clear h
  go_enter Try.func70, Try.ntmps70
  go_wp2_with (refine wpList_make_full _ rfl (.tmp 6) (.tmp 6) 23 rfl w.heap.size 28 i0 (.slice none 0 0) 1 Try.underlying23 hi hz0 hz1 .i64 .i64 m m m rfl rfl rfl rfl ?_ ?_ (Nat.le_refl _) ?_)
  · rw [hz2]; omega
  · simp only [maxLen]; omega
  · intro w1 hown hgr
    have hG1 : Gs w1 w.heap.size (.slice (some ⟨w.heap.size, 0, none⟩) m m) (List.replicate m (.slice none 0 0, [])) := Gs.zeros (by rw [← toList_madeCells_one]; exact hown)
    have hb1 : Below w.heap.size w w1 := (Below.refl _ _).grown hgr (Nat.le_refl _) (fun k hk => by cases hk)
    clear hown hgr
    go_wp2
    go_loopw [4] (fun i wr => ∃ (k : Nat) (d : List GV), k ≤ m ∧ i = .int .i64 k ∧ Hid (d.length = m) ∧ Hid (Gs wr w.heap.size (.slice (some ⟨w.heap.size, 0, none⟩) m m) d) ∧ Hid (∀ j, j < k → gtl (gsC d) j = gtl Ls j) ∧ Below w.heap.size w wr) (fun i _ => m - (intOf i).toNat)
    case atStart => exact ⟨0, _, Nat.zero_le _, rfl, Lib.hid (by simp), Lib.hid hG1, Lib.hid (fun j hj => absurd hj (by omega)), hb1⟩
    case round =>
      obtain ⟨k, d, hk, rfl, Hd, HG, Ha, hb⟩ := hrel
      by_cases hlt : k < m
      · obtain ⟨b, off, A', c', rfl, hbB, r1, r3⟩ := (HR.out _ hb).r.at_ hlt
        have hwB : B ≤ wr.heap.size := Nat.le_trans hB hb.size
        have HC := Lib.hid (HT.out wr A' c' _ _ r3 hwB (Hms.out k hlt))
        obtain ⟨q, hq⟩ : ∃ q, q = (gtl Ls k).length := ⟨_, rfl⟩
        rw [← hq] at r1 HC
        have Hq := Lib.hid hq
        have hG5 := HG.out
        obtain ⟨g', A5, c5, e5, -, hlo5, hgw5, -⟩ := HG.out.at_ (show k < d.length by rw [Hd.out]; exact hlt)
        have HP : Hid (∀ w3, Below wr.heap.size wr w3 → (∃ v, w3.cell? ⟨w.heap.size, k, none⟩ = some v) ∧ w3.frozen? ⟨w.heap.size, k, none⟩ = false) := Lib.hid fun w3 hb3 => by
          obtain ⟨g6, A6, c6, e6, -, -, -, hc6, hf6, -⟩ := (hG5.below hb3).at_ (show k < d.length by rw [Hd.out]; exact hlt)
          cases e6
          exact ⟨⟨_, hc6⟩, hf6⟩
        clear hq r3 hG5 e5
        go_wp2_with (go_at_call 99; refine HC.out.mono ?_; rintro e w3 ⟨rfl, ho3, hb3⟩; obtain ⟨⟨v3, hc3⟩, hf3⟩ := HP.out w3 hb3)
        have hG6 := HG.out.put13 Hd.out (show k < d.length by rw [Hd.out]; exact hlt) hb3 (A3 := some ⟨wr.heap.size, 0, none⟩) (c3 := q) (xs := gtl Ls k) (by rw [← Hq.out]; exact ho3)
        rw [← Hq.out] at hG6
        go_roundw
        case rel => exact ⟨k + 1, _, by omega, by go_num, Lib.hid (by rw [List.length_set, Hd.out]), Lib.hid hG6, Lib.hid (fun j hj => by
          rw [gtl_set (by rw [Hd.out]; exact hlt)]
          by_cases e : j = k
          · rw [if_pos e, e]
          · rw [if_neg e]; exact Ha.out j (by omega)), (step hb hb3).setCell (Nat.le_refl _) _⟩
        case measure => simp [intOf]; omega
      · obtain rfl : k = m := by omega
        go_wp2
        go_ret
        exact ⟨d, rfl, HG.out, Hd.out, gsC_all Hd.out Hlen.out Ha.out, hb⟩
/-- two that read the same. -/
theorem eqIntSS_rd (A A' : Option Addr) (c c' m B B' : Nat) (Ls : List (List Int)) (w : World) (h : Lns w B A m Ls) (h' : Lns w B' A' m Ls) (hB : B ≤ w.heap.size) (hB' : B' ≤ w.heap.size) :
    Calls Try.prog 41 #[.slice A m c, .slice A' m c'] w fun e w' => e = .returned (.bool true) ∧ Below w.heap.size w w' := by
  have hm := h.m
  have H1 := Lib.hid (fun (w' : World) (hb : Below w.heap.size w w') => h.below (hb.mono hB))
  have H2 := Lib.hid (fun (w' : World) (hb : Below w.heap.size w w') => h'.below (hb.mono hB'))
  have Hms := Lib.hid h.ms
  clear h h'
  go_enter Try.func41, Try.ntmps41
  go_wp2
  go_loopw [5] (fun i wr => ∃ k : Nat, k ≤ m ∧ i = .int .i64 k ∧ Below w.heap.size w wr) (fun i _ => m - (intOf i).toNat)
  case atStart => exact ⟨0, Nat.zero_le _, rfl, Below.refl _ _⟩
  case round =>
    obtain ⟨k, hk, rfl, hb⟩ := hrel
    by_cases hlt : k < m
    · have hltI : (k : Int) < (m : Int) := by omega
      obtain ⟨b, off, A3, c3, rfl, hbB, hck, ho3⟩ := (H1.out _ hb).r.at_ hlt
      obtain ⟨b', off', A4, c4, rfl, hbB', hck', ho4⟩ := (H2.out _ hb).r.at_ hlt
      have h16 := Hms.out k hlt
      obtain ⟨L, hL⟩ : ∃ L, gtl Ls k = L := ⟨_, rfl⟩
      rw [hL] at hck ho3 hck' ho4 h16
      have hs := same_refl L
      obtain ⟨q, hq⟩ : ∃ q, L.length = q := ⟨_, rfl⟩
      rw [hq] at hck ho3 hck' ho4 h16
      clear hL hq
      have O3 := Lib.hid ho3
      have O4 := Lib.hid ho4
      clear ho3 ho4
      go_wp2_with fail
      go_region_with (go_at_call 75; refine (eqIntS_any _ _ _ _ _ _ _ _ _ _ _ (O3.out.below (by first | exact Below.refl _ _ | exact (Below.refl _ _).drew)) (O4.out.below (by first | exact Below.refl _ _ | exact (Below.refl _ _).drew)) (by omega)).mono ?_; rintro e w3 ⟨rfl, hb3⟩; rw [hs])
      all_goals
        have hb3' := of_drew_below hb3
        go_wp2
        go_roundw
        case rel => exact ⟨k + 1, by omega, by go_num, step hb hb3'⟩
        case measure => simp [intOf]; omega
    · obtain rfl : k = m := by omega
      go_wp2
      go_ret
      exact ⟨rfl, hb⟩
end Go.Proofs.Ytgeedgljabdllaa
