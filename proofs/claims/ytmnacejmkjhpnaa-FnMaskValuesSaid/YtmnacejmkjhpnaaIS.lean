import Derived.Test.YtmnacejmkjhpnaaIF
import Derived.Test.YtmnacejmkjhpnaaVl
namespace Go.Proofs.Ytmnacejmkjhpnaa
open Go.ChangeShapes Go.WideShapes Go.ChangeAt Go.RowKit

theorem implSolved (A : Option Addr) (c n B s : Nat) (xs : List Int) (w : World) (h : Rd w B A n xs) (hB : B ≤ w.heap.size) (hs : s ∈ [2, 3, 4]) (hn : n = s * s) (hg : gv xs s = true) :
    Calls Try.prog 68 #[.agg #[.slice A n c, .int .i64 s]] w fun e w' => e = .returned (.bool (sqSolved xs s)) ∧ Below w.heap.size w w' := by
  have hlen := Lib.hid h.1
  have hok := Lib.hid (gv_okAll hg hlen.out)
  have hs2 : 2 ≤ s := by simp at hs; omega
  have hs4 : s ≤ 4 := by simp at hs; omega
  have hS := solved_masks hs hn hlen.out hg hok.out
  have Hm := Lib.hid (lmask_lt (xs := xs) (by omega : (s : Int) ≤ 4) hok.out n (Nat.le_refl _))
  have Hn := Lib.hid hn; clear hn
  have h1 := h.alloc hB (.cells #[.slice A n c, .int .i64 s] 51)
  have hB1 : B ≤ (w.alloc (.cells #[.slice A n c, .int .i64 s] 51)).heap.size := by simp; omega
  have hB0 : Below w.heap.size w (w.alloc (.cells #[.slice A n c, .int .i64 s] 51)) := (Below.refl _ _).alloc (Nat.le_refl _) _
  have hz0 : ∀ u : World, MBox (u.alloc (.cells #[.int .i64 0, .int .i64 0, .int .i64 0, .int .i64 0, .int .i64 0, .int .i64 0, .int .i64 0, .int .i64 0, .int .i64 0] 54)) u.heap.size (fun _ => 0) 0 := fun u => heap_alloc_new u _
  have Hz0 := Lib.hid hz0; clear hz0
  have Hi9 := Lib.hid (show (Try.prog.info? 54).map (·.size) = some (mcells (lmask xs s n) s).size by rw [mcells_size]; kernel_rfl)
  have Hone := Lib.hid (mone (lmask xs s n) s)
  have key : ∀ w2 : World, Below (w.alloc (.cells #[.slice A n c, .int .i64 s] 51)).heap.size (w.alloc (.cells #[.slice A n c, .int .i64 s] 51)) w2 →
      ((w2.alloc (.cells #[.int .i64 0, .int .i64 0, .int .i64 0, .int .i64 0, .int .i64 0, .int .i64 0, .int .i64 0, .int .i64 0, .int .i64 0] 54)).setRow w2.heap.size (mcells (lmask xs s n) s)).cell? ⟨w.heap.size, 1, none⟩ = some (.int .i64 s) ∧ Hid (MBox ((w2.alloc (.cells #[.int .i64 0, .int .i64 0, .int .i64 0, .int .i64 0, .int .i64 0, .int .i64 0, .int .i64 0, .int .i64 0, .int .i64 0] 54)).setRow w2.heap.size (mcells (lmask xs s n) s)) w2.heap.size (lmask xs s n) s) ∧ Below w.heap.size w ((w2.alloc (.cells #[.int .i64 0, .int .i64 0, .int .i64 0, .int .i64 0, .int .i64 0, .int .i64 0, .int .i64 0, .int .i64 0, .int .i64 0] 54)).setRow w2.heap.size (mcells (lmask xs s n) s)) := by
    intro w2 hb2
    have hlt : w.heap.size < w2.heap.size := by have := hb2.size; rw [World.size_alloc] at this; omega
    have hB3 := step hB0 hb2
    exact ⟨((setRow_below ((Below.refl _ _).alloc (Nat.le_refl _) _) (Nat.le_refl _)).cell (p := ⟨w.heap.size, 1, none⟩) hlt).trans (box_cell hb2 1), Lib.hid (MBox.stored (Hz0.out w2)), setRow_below (hB3.alloc hB3.size _) hB3.size⟩
  have Key := Lib.hid key; clear key
  obtain ⟨m, hm⟩ : ∃ m, 2 ^ (s + 1) - 2 = m := ⟨_, rfl⟩
  simp only [hm] at hS
  have HS := Lib.hid hS; clear hS
  have Hav := Lib.hid (fun w => allValues_any s hs w)
  simp only [hm] at Hav
  have hsl : ∀ (g : Nat) (W : World), (Instr.sliceAt 52 (.pointer (some ⟨g, 0, none⟩)) none (some (.int .i64 (2 * (s : Int)))) none).run Try.prog W = .ok (.slice (some ⟨g, 0, none⟩) (2 * s) 8) W := by
    intro g W
    simp at hs
    rcases hs with rfl | rfl | rfl
    · kernel_rfl
    · kernel_rfl
    · kernel_rfl
  go_enter Try.func68, Try.ntmps68
  go_wp2_with (first | (go_at_call 60; refine (lines_any _ _ _ _ _ _ _ h1 hB1 hs Hn.out hok).mono ?_; rintro e w2 ⟨rfl, hb2⟩; obtain ⟨c1, hx3, hB4⟩ := Key.out w2 hb2; clear hb2) | (refine wpList_store_row rfl 54 _ _ rfl w2.heap.size (mcells (lmask xs s n) s) rfl rfl 54 (mcells (fun _ => 0) 0) (Hz0.out w2) Hi9.out rfl Hone.out ?_))
  go_loop [18] (fun i => ∃ l : Nat, l ≤ 2 * s ∧ i = .int .i64 l ∧ Hid (∀ j, j < l → lmask xs s n j = m)) (fun i => 2 * s - (intOf i).toNat)
  case atStart => exact ⟨0, Nat.zero_le _, rfl, Lib.hid (fun j hj => absurd hj (by omega))⟩
  case round =>
    obtain ⟨l, hl, rfl, hall⟩ := hrel
    by_cases hlt : l < 2 * s
    · have hk := hx3.out.cell (l := l) (by omega)
      by_cases he : lmask xs s n l = m
      · have hcmp : (((lmask xs s n l : Nat) : Int) != (m : Int)) = false := by rw [he]; simp
        have hn2 := Lib.hid (show ∀ j, j < l + 1 → lmask xs s n j = m from fun j hj => by
          by_cases e : j = l
          · rw [e]; exact he
          · exact hall.out j (by omega))
        clear he
        go_wp2_with (go_at_call 72; refine (Hav.out _).mono ?_; rintro e w' ⟨rfl, rfl⟩)
        go_round
        case rel => exact ⟨l + 1, by omega, by go_num, hn2⟩
        case measure => simp [intOf]; omega
      · have hcmp : (((lmask xs s n l : Nat) : Int) != (m : Int)) = true := by simp; omega
        have HL := Lib.hid (show sqSolved xs s = false by
          cases h : sqSolved xs s
          · rfl
          · exact absurd (HS.out.1 h l hlt) he)
        clear he
        go_wp2_with (go_at_call 72; refine (Hav.out _).mono ?_; rintro e w' ⟨rfl, rfl⟩)
        go_ret
        exact ⟨by rw [HL.out]; rfl, hB4⟩
    · have HL := Lib.hid (show sqSolved xs s = true from HS.out.2 (fun j hj => hall.out j (by omega)))
      go_wp2
      go_ret
      exact ⟨by rw [HL.out]; rfl, hB4⟩
end Go.Proofs.Ytmnacejmkjhpnaa
