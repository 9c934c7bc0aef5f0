import Derived.Test.YtcjdjcpappfkgaaQ4R
import Derived.Test.YtcjdjcpappfkgaaR4M
import Derived.Test.YtcjdjcpappfkgaaC1
set_option maxRecDepth 8000
namespace Go.Proofs.Ytcjdjcpappfkgaa
open Go.ChangeShapes Go.WideShapes Go.ChangeAt Go.RowKit

/-- the elements with the given numbers. -/
def pks (g xs : List Int) (n : Nat) : List Int := mapTo (fun k => nth g (nth xs k).toNat) n
theorem pks_length (g xs : List Int) (n : Nat) : (pks g xs n).length = n := mapTo_length _ _
theorem pks_nth {g xs : List Int} {n k : Nat} (h : k < n) : nth (pks g xs n) k = nth g (nth xs k).toNat := mapTo_nth h
/-- whether a rule holds for a grid. -/
def rhB (k : Int) (xs : List Int) (v : Int) (g : List Int) (s : Int) : Bool := rv k xs v s && gv g s && !(memTo (pks g xs xs.length) 0 xs.length) && holdsB k v (pks g xs xs.length)
set_option maxHeartbeats 1000000 in
theorem implPick (Ag : Option Addr) (cg ng Bg : Nat) (g : List Int) (A : Option Addr) (c n B : Nat) (xs : List Int) (w : World) (hg : Rd w Bg Ag ng g) (h : Rd w B A n xs) (hBg : Bg ≤ w.heap.size) (hB : B ≤ w.heap.size) (hm : n ≤ 1099511627776) (hx : ∀ i, i < n → 0 ≤ nth xs i ∧ nth xs i < ng) :
    Calls Try.prog 55 #[.slice Ag ng cg, .slice A n c] w (RetSl w (pks g xs n)) := by
  obtain ⟨i0, hi, hz0, hz1, hz2⟩ := info_parts int_info
  have hpl := Lib.hid (pks_length g xs n)
  have Hx := Lib.hid hx; clear hx
  go_enter Try.func55, Try.ntmps55
  go_wp2_with (refine wpList_make_full _ rfl (.tmp 9) (.tmp 9) 22 rfl w.heap.size 3 i0 (.int .i64 0) 1 Try.underlying22 hi hz0 hz1 .i64 .i64 n n n rfl rfl rfl rfl ?_ ?_ (Nat.le_refl _) ?_)
  · rw [hz2]; omega
  · simp only [maxLen]; omega
  · intro w1 hown hgr
    have hown1 : Ow w1 w.heap.size (some ⟨w.heap.size, 0, none⟩) n n (part (pks g xs n) 0 n) := by
      unfold Ow; rw [part_zero, ← toList_madeCells_one]; exact hown
    have hb1 : Below w.heap.size w w1 := (Below.refl _ _).grown hgr (Nat.le_refl _) (fun k hk => by cases hk)
    clear hown hgr
    go_wp2
    go_loopw [13] (fun i wr => ∃ k : Nat, k ≤ n ∧ i = .int .i64 k ∧ Ow wr w.heap.size (some ⟨w.heap.size, 0, none⟩) n n (part (pks g xs n) k n) ∧ Below w.heap.size w wr) (fun i _ => n - (intOf i).toNat)
    case atStart => exact ⟨0, Nat.zero_le _, rfl, hown1, hb1⟩
    case round =>
      obtain ⟨k, hk, rfl, ho, hb⟩ := hrel
      by_cases hlt : k < n
      · obtain ⟨b, off, rfl, hbB, hck⟩ := (h.below (hb.mono hB)).at_ hlt
        obtain ⟨x0, x1⟩ := Hx.out k hlt
        obtain ⟨x, hxv⟩ := Int.eq_ofNat_of_zero_le x0
        rw [hxv] at hck x1
        have hxn : x < ng := by omega
        obtain ⟨bg, og, rfl, hbBg, hcg⟩ := (hg.below (hb.mono hBg)).at_ hxn
        have hp := pks_nth (g := g) (xs := xs) hlt
        rw [hxv, Int.toNat_natCast] at hp
        rw [← hp] at hcg
        have hold := World.ownsRow.cellAt ho k (by omega)
        rw [vals_get (by rw [part_length]; exact hlt)] at hold
        have hfr := World.ownsRow.frozenAt ho k
        have hst := World.ownsRow.stored ho k (.int .i64 (nth (pks g xs n) k))
        rw [part_set] at hst
        have Hst := Lib.hid hst; clear hst hp hxv
        go_wp2
        go_roundw
        case rel => exact ⟨k + 1, by omega, by go_num, Hst.out.1, hb.setCell (Nat.le_refl _) _⟩
        case measure => simp [intOf]; omega
      · obtain rfl : k = n := by omega
        go_wp2
        go_ret
        have e := part_all (pks g xs k)
        rw [hpl.out] at e
        rw [e] at ho
        exact retSl_mk ho hb
theorem Ow.le_cap {w : World} {lo : Nat} {A : Option Addr} {n c : Nat} {xs : List Int} (h : Ow w lo A n c xs) : n ≤ c := by
  rcases h.2 with ⟨_, hn⟩ | ⟨g, cap, cur, hv, _, _, hle, _⟩
  · omega
  · injection hv with _ _ hc
    omega
theorem rv_kind {k v s : Int} {xs : List Int} (h : rv k xs v s = true) : k = 1 ∨ k = 2 ∨ k = 3 ∨ k = 4 ∨ k = 5 := by
  simp only [rv, Bool.and_eq_true] at h
  have h4 := h.2
  unfold kindOk at h4
  by_cases h1 : k = 1
  · exact .inl h1
  · by_cases h2 : k = 2
    · exact .inr (.inl h2)
    · by_cases h3 : k = 3
      · exact .inr (.inr (.inl h3))
      · by_cases h5 : k = 4
        · exact .inr (.inr (.inr (.inl h5)))
        · by_cases h6 : k = 5
          · exact .inr (.inr (.inr (.inr h6)))
          · rw [if_neg h1, if_neg h2, if_neg h3, if_neg h5, if_neg h6] at h4
            cases h4
/-- the facts on the values of a rule's cells. -/
theorem pks_small {k v s : Int} {xs g : List Int} {n : Nat} (hl : xs.length = n) (hv : rv k xs v s = true) (hg : gv g s = true) : small4 (pks g xs n) n ∧ ∀ i, i < n → 0 ≤ nth xs i ∧ nth xs i < g.length := by
  obtain ⟨hs, _, _, hx⟩ := rv_facts hl hv
  have hgl := gv_len hg
  have hin : ∀ i, i < n → 0 ≤ nth xs i ∧ nth xs i < g.length := fun i hi => by
    obtain ⟨a, b⟩ := hx i hi
    exact ⟨a, by omega⟩
  refine ⟨fun i hi => ?_, hin⟩
  rw [pks_nth hi]
  obtain ⟨a, b⟩ := hin i hi
  obtain ⟨c, d⟩ := gv_nth hg (show (nth xs i).toNat < g.length by omega)
  exact ⟨c, by omega⟩
theorem hold1 (A : Option Addr) (c n : Nat) (A2 : Option Addr) (c2 n2 B : Nat) (vs : List Int) (v : Int) (w : World) (h : Rd w B A2 n2 vs) (hB : B ≤ w.heap.size) (h4 : n2 ≤ 4) (hcap : n2 ≤ c2) (_hv : Hid (small4 vs n2)) (_h2 : 4 ≤ 1 → 2 ≤ n2) :
    Calls Try.prog 89 #[.agg #[.int .i64 1, .slice A n c, .int .i64 v], .slice A2 n2 c2] w fun e w' => e = .returned (.bool (holdsB 1 v vs)) ∧ Below w.heap.size w w' :=
  (differentHolds A c n A2 c2 n2 B vs 1 v w h hB h4 hcap).mono fun _ _ ⟨e, b⟩ => ⟨e.trans (by rw [← h.1]; rfl), b⟩
theorem hold2 (A : Option Addr) (c n : Nat) (A2 : Option Addr) (c2 n2 B : Nat) (vs : List Int) (v : Int) (w : World) (h : Rd w B A2 n2 vs) (hB : B ≤ w.heap.size) (h4 : n2 ≤ 4) (_hcap : n2 ≤ c2) (hv : Hid (small4 vs n2)) (_h2 : 4 ≤ 2 → 2 ≤ n2) :
    Calls Try.prog 91 #[.agg #[.int .i64 2, .slice A n c, .int .i64 v], .slice A2 n2 c2] w fun e w' => e = .returned (.bool (holdsB 2 v vs)) ∧ Below w.heap.size w w' :=
  (sumHolds A c n A2 c2 n2 B vs 2 v w h hB h4 hv).mono fun _ _ ⟨e, b⟩ => ⟨e.trans (by rw [← h.1]; rfl), b⟩
theorem hold3 (A : Option Addr) (c n : Nat) (A2 : Option Addr) (c2 n2 B : Nat) (vs : List Int) (v : Int) (w : World) (h : Rd w B A2 n2 vs) (hB : B ≤ w.heap.size) (h4 : n2 ≤ 4) (_hcap : n2 ≤ c2) (hv : Hid (small4 vs n2)) (_h2 : 4 ≤ 3 → 2 ≤ n2) :
    Calls Try.prog 94 #[.agg #[.int .i64 3, .slice A n c, .int .i64 v], .slice A2 n2 c2] w fun e w' => e = .returned (.bool (holdsB 3 v vs)) ∧ Below w.heap.size w w' :=
  (productHolds A c n A2 c2 n2 B vs 3 v w h hB h4 hv).mono fun _ _ ⟨e, b⟩ => ⟨e.trans (by rw [← h.1]; rfl), b⟩
theorem hold4 (A : Option Addr) (c n : Nat) (A2 : Option Addr) (c2 n2 B : Nat) (vs : List Int) (v : Int) (w : World) (h : Rd w B A2 n2 vs) (hB : B ≤ w.heap.size) (_h4 : n2 ≤ 4) (_hcap : n2 ≤ c2) (_hv : Hid (small4 vs n2)) (h2 : 4 ≤ 4 → 2 ≤ n2) :
    Calls Try.prog 96 #[.agg #[.int .i64 4, .slice A n c, .int .i64 v], .slice A2 n2 c2] w fun e w' => e = .returned (.bool (holdsB 4 v vs)) ∧ Below w.heap.size w w' :=
  (lessHolds A c n A2 c2 n2 B vs 4 v w h hB (h2 (Nat.le_refl _))).mono fun _ _ ⟨e, b⟩ => ⟨e.trans rfl, b⟩
theorem hold5 (A : Option Addr) (c n : Nat) (A2 : Option Addr) (c2 n2 B : Nat) (vs : List Int) (v : Int) (w : World) (h : Rd w B A2 n2 vs) (hB : B ≤ w.heap.size) (_h4 : n2 ≤ 4) (_hcap : n2 ≤ c2) (hv : Hid (small4 vs n2)) (h2 : 4 ≤ 5 → 2 ≤ n2) :
    Calls Try.prog 98 #[.agg #[.int .i64 5, .slice A n c, .int .i64 v], .slice A2 n2 c2] w fun e w' => e = .returned (.bool (holdsB 5 v vs)) ∧ Below w.heap.size w w' :=
  (apartHolds A c n A2 c2 n2 B vs 5 v w h hB (h2 (by omega)) hv).mono fun _ _ ⟨e, b⟩ => ⟨e.trans rfl, b⟩
end Go.Proofs.Ytcjdjcpappfkgaa
