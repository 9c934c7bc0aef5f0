import Derived.Test.YtlnmioijgclndaaDrawL
import Derived.Test.YtlnmioijgclndaaSol
namespace Go.Proofs.Ytlnmioijgclndaa
open Go.ChangeShapes Go.WideShapes Go.ChangeAt Go.RowKit

theorem results4 {fn : Func} {t u v x : Tmp} (h : fn.results = #[.tmp t, .tmp u, .tmp v, .tmp x]) (tmps : Array Value) (P : Program) (w : World) :
    (results fn tmps).run P w = .ok (.tuple #[tmps.getD t undef, tmps.getD u undef, tmps.getD v undef, tmps.getD x undef]) w := by simp [results, h]

theorem rd_keptG {w w' : World} {G n : Nat} {A : Option Addr} {xs : List Int} (h : Rd w w.heap.size A n xs) (hg : w.grownBy w' (some G)) (hne : ∀ a, A = some a → a.block ≠ G) : Rd w' w'.heap.size A n xs := by
  refine ⟨h.1, fun hn => ?_⟩
  obtain ⟨b, off, he, hb, hc⟩ := h.2 hn
  have hbG := hne _ he
  exact ⟨b, off, he, Nat.lt_of_lt_of_le hb hg.size, fun k hk => (World.cell?_of_block (a := ⟨b, off + k, none⟩) (hg.block b hb (fun e => hbG (by injection e)))).trans (hc k hk)⟩
end Go.Proofs.Ytlnmioijgclndaa
