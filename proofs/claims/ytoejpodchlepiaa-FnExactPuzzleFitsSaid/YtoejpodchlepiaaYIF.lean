import Derived.Test.YtoejpodchlepiaaYC2
import Derived.Test.YtoejpodchlepiaaInts
import Derived.Test.YtoejpodchlepiaaYLn
namespace Go.Proofs.Ytoejpodchlepiaa
open Go.ChangeShapes Go.WideShapes Go.ChangeAt Go.RowKit

/- what the program's own functions of chapter 2 must be shown to do. -/
def ISquareFits : Prop := ∀ (A : Option Addr) (c n B : Nat) (xs : List Int) (size : Int) (w : World), Rd w B A n xs → B ≤ w.heap.size → n ≤ 1099511627776 →
    Calls Try.prog 56 #[.slice A n c, .int .i64 size] w fun e w' => e = .returned (.bool (sqFits xs size)) ∧ Below w.heap.size w w'
def ISquareSolved : Prop := ∀ (A : Option Addr) (c n B : Nat) (xs : List Int) (size : Int) (w : World), Rd w B A n xs → B ≤ w.heap.size → n ≤ 1099511627776 →
    Calls Try.prog 58 #[.slice A n c, .int .i64 size] w fun e w' => e = .returned (.bool (sqSolved xs size)) ∧ Below w.heap.size w w'
theorem sqOfL_length (size : Int) : (sqOfL size).length ≤ 16 := by
  unfold sqOfL
  split
  · next h =>
    obtain ⟨h2, h4⟩ := inr_t h
    have := sq_bd h2 h4
    rw [mapTo_length]; omega
  · simp
end Go.Proofs.Ytoejpodchlepiaa
namespace Go.Proofs.Ytoejpodchlepiaa
open Go.ChangeShapes Go.WideShapes Go.ChangeAt Go.RowKit

theorem implSquareFits : ISquareFits := by
  intro A c n B xs size w h hB hm
  have hlen := Lib.hid h.1
  cases hg : gv xs size
  · have HL := Lib.hid (show sqFits xs size = false by simp [sqFits, hg])
    have h1 := h.alloc hB (.cells #[.slice A n c, .int .i64 size] 79)
    have hB1 : B ≤ (w.alloc (.cells #[.slice A n c, .int .i64 size] 79)).heap.size := by simp; omega
    have hB0 : Below w.heap.size w (w.alloc (.cells #[.slice A n c, .int .i64 size] 79)) := (Below.refl _ _).alloc (Nat.le_refl _) _
    go_enter Try.func56, Try.ntmps56
    go_wp2_with (go_at_call 81; refine (implValid _ _ _ _ _ _ _ h1 hB1 hm).mono ?_; rintro e w1 ⟨rfl, hb1⟩; rw [hg])
    go_ret
    exact ⟨by rw [HL.out]; rfl, step hB0 hb1⟩
  · obtain ⟨s, rfl, hs, hls⟩ := size_nat hg
    have hn : n = s * s := by have := hlen.out; omega
    have hok := Lib.hid (gv_okAll hg hlen.out)
    have HL := Lib.hid (show sqFits xs s = !(twice xs s n) by rw [twice_clash hs hn hok.out, sqFits, hg]; rfl)
    have Hn := Lib.hid hn; clear hn hls
    have h1 := h.alloc hB (.cells #[.slice A n c, .int .i64 s] 79)
    have hB1 : B ≤ (w.alloc (.cells #[.slice A n c, .int .i64 s] 79)).heap.size := by simp; omega
    have hB0 : Below w.heap.size w (w.alloc (.cells #[.slice A n c, .int .i64 s] 79)) := (Below.refl _ _).alloc (Nat.le_refl _) _
    have hz0 : ∀ u : World, MBox (u.alloc (.cells #[.int .i64 0, .int .i64 0, .int .i64 0, .int .i64 0, .int .i64 0, .int .i64 0, .int .i64 0, .int .i64 0, .int .i64 0] 98)) u.heap.size (fun _ => 0) 0 := fun u => heap_alloc_new u _
    have Hz0 := Lib.hid hz0; clear hz0
    have Hi9 := Lib.hid (show (Try.prog.info? 98).map (·.size) = some (mcells (lmask xs s n) s).size by rw [mcells_size]; kernel_rfl)
    have Hone := Lib.hid (mone (lmask xs s n) s)
    go_enter Try.func56, Try.ntmps56
    go_wp2_with (go_at_call 81; refine (implValid _ _ _ _ _ _ _ h1 hB1 hm).mono ?_; rintro e w1 ⟨rfl, hb1⟩; rw [hg]; have hr1 := (h1.below (hb1.mono (Nat.le_trans hB1 (Nat.le_refl _)))); have hbox := box_cell hb1; have hB2 := step hB0 hb1)
    have c0 := hbox 0
    have c1 := hbox 1
    simp at c0 c1
    clear hbox
    have hBw : B ≤ w1.heap.size := Nat.le_trans hB hB2.size
    go_wp2_with (first | (go_at_call 101; refine (lines_any _ _ _ _ _ _ _ hr1 hBw hs Hn.out hok).mono ?_; rintro e w2 ⟨rfl, hb2⟩; have hB3 := step hB2 hb2) | (refine wpList_store_row rfl 98 _ _ rfl w2.heap.size (mcells (lmask xs s n) s) rfl rfl 98 (mcells (fun _ => 0) 0) (Hz0.out w2) Hi9.out rfl Hone.out ?_))
    go_ret
    exact ⟨by rw [HL.out]; rfl, setRow_below (hB3.alloc hB3.size _) hB3.size⟩
end Go.Proofs.Ytoejpodchlepiaa
