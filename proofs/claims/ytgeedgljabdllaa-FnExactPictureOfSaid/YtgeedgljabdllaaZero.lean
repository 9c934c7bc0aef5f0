import Derived.Test.YtgeedgljabdllaaSq
set_option maxRecDepth 8000
namespace Go.Proofs.Ytgeedgljabdllaa
open Go.ChangeShapes Go.WideShapes Go.ChangeAt Go.RowKit

def zeroArr (n : Nat) : Array Value := madeCells #[.int .i64 0] n
theorem make_ints {n : Nat} (hn : n ≤ 1099511627776) (w : World) : (Instr.makeSlice 28 (.int .i64 (n : Int)) (.int .i64 (n : Int))).run Try.prog w = .ok (.slice (some ⟨w.heap.size, 0, none⟩) n n) (w.alloc (.cells (zeroArr n) 3)) := by
  obtain ⟨i0, hi, hz0, hz1, hz2⟩ := info_parts int_info
  have hr := run_make (P := Try.prog) w 28 3 i0 (.int .i64 0) Try.underlying28 hi hz0 .i64 .i64 (n : Int) (n : Int) (by omega) (Int.le_refl _) (by rw [hz2]; omega) (by omega)
  rw [hz1, Int.toNat_natCast, Nat.mul_one] at hr
  exact hr
theorem zeroArr_ow {n lo : Nat} (hn : n ≤ 1099511627776) (w : World) (hlo : lo ≤ w.heap.size) : Ow (w.alloc (.cells (zeroArr n) 3)) lo (some ⟨w.heap.size, 0, none⟩) n n (zeros n) := by
  have hs : (zeroArr n).size = n * 1 := by simp [zeroArr, madeCells]
  have h := World.ownsRow_lit (e := 3) (size := 1) w (zeroArr n) n hlo (by simp only [maxLen]; omega) hs
  unfold Ow
  have e : (zeroArr n).toList = vals (zeros n) := by
    rw [zeroArr, toList_madeCells_one]
    simp [vals, zeros]
  rw [← e]
  exact h
end Go.Proofs.Ytgeedgljabdllaa
