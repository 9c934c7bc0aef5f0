import Derived.Test.YtlnmioijgclndaaLn
import Derived.Test.YtlnmioijgclndaaW2E
namespace Go.Proofs.Ytlnmioijgclndaa
open Go.ChangeShapes Go.WideShapes Go.ChangeAt Go.RowKit

theorem implSquareFits : ISquareFits := by
  intro A c n B xs size w h hB hm
  have hlen := Lib.hid h.1
  cases hg : gv xs size
  · have HL := Lib.hid (show sqFits xs size = false by simp [sqFits, hg])
    have h1 := h.alloc hB (.cells #[.slice A n c, .int .i64 size] 45)
    have hB1 : B ≤ (w.alloc (.cells #[.slice A n c, .int .i64 size] 45)).heap.size := by simp; omega
    have hB0 : Below w.heap.size w (w.alloc (.cells #[.slice A n c, .int .i64 size] 45)) := (Below.refl _ _).alloc (Nat.le_refl _) _
    go_enter Try.func24, Try.ntmps24
    go_wp2_with (go_at_call 44; refine (implValid _ _ _ _ _ _ _ h1 hB1 hm).mono ?_; rintro e w1 ⟨rfl, hb1⟩; rw [hg])
    go_ret
    exact ⟨by rw [HL.out]; rfl, step hB0 hb1⟩
  · obtain ⟨s, rfl, hs, hls⟩ := size_nat hg
    have hn : n = s * s := by have := hlen.out; omega
    have hok := Lib.hid (gv_okAll hg hlen.out)
    have HL := Lib.hid (show sqFits xs s = !(twice xs s n) by rw [twice_clash hs hn hok.out, sqFits, hg]; rfl)
    have Hn := Lib.hid hn; clear hn hls
    have h1 := h.alloc hB (.cells #[.slice A n c, .int .i64 s] 45)
    have hB1 : B ≤ (w.alloc (.cells #[.slice A n c, .int .i64 s] 45)).heap.size := by simp; omega
    have hB0 : Below w.heap.size w (w.alloc (.cells #[.slice A n c, .int .i64 s] 45)) := (Below.refl _ _).alloc (Nat.le_refl _) _
    have hz0 : ∀ u : World, MBox (u.alloc (.cells #[.int .i64 0, .int .i64 0, .int .i64 0, .int .i64 0, .int .i64 0, .int .i64 0, .int .i64 0, .int .i64 0, .int .i64 0] 51)) u.heap.size (fun _ => 0) 0 := fun u => heap_alloc_new u _
    have Hz0 := Lib.hid hz0; clear hz0
    have Hi9 := Lib.hid (show (Try.prog.info? 51).map (·.size) = some (mcells (lmask xs s n) s).size by rw [mcells_size]; kernel_rfl)
    have Hone := Lib.hid (mone (lmask xs s n) s)
    go_enter Try.func24, Try.ntmps24
    go_wp2_with (go_at_call 44; refine (implValid _ _ _ _ _ _ _ h1 hB1 hm).mono ?_; rintro e w1 ⟨rfl, hb1⟩; rw [hg]; have hr1 := (h1.below (hb1.mono (Nat.le_trans hB1 (Nat.le_refl _)))); have hbox := box_cell hb1; have hB2 := step hB0 hb1)
    have c0 := hbox 0
    have c1 := hbox 1
    simp at c0 c1
    clear hbox
    have hBw : B ≤ w1.heap.size := Nat.le_trans hB hB2.size
    go_wp2_with (first | (go_at_call 57; refine (lines_any _ _ _ _ _ _ _ hr1 hBw hs Hn.out hok).mono ?_; rintro e w2 ⟨rfl, hb2⟩; have hB3 := step hB2 hb2) | (refine wpList_store_row rfl 51 _ _ rfl w2.heap.size (mcells (lmask xs s n) s) rfl rfl 51 (mcells (fun _ => 0) 0) (Hz0.out w2) Hi9.out rfl Hone.out ?_))
    go_ret
    exact ⟨by rw [HL.out]; rfl, setRow_below (hB3.alloc hB3.size _) hB3.size⟩
end Go.Proofs.Ytlnmioijgclndaa
