import Derived.Test.YtkeoflnmbcdmfaaGreatDoorQ4R
import Derived.Test.YtkeoflnmbcdmfaaGreatDoorR4M
import Derived.Test.YtkeoflnmbcdmfaaGreatDoorC1
import Derived.Test.YtkeoflnmbcdmfaaGreatDoorPk
set_option maxRecDepth 8000
namespace Go.Proofs.YtkeoflnmbcdmfaaGreatDoor
open Go.ChangeShapes Go.WideShapes Go.ChangeAt Go.RowKit
def rhB (k:Int) (xs:List Int) (v:Int) (g:List Int) (s:Int):Bool:=rv k xs v s&&gv g s&& !(memTo (pks g xs xs.length) 0 xs.length)&&holdsB k v (pks g xs xs.length)
theorem Ow.le_cap {w:World} {lo:Nat} {A:Option Addr} {n c:Nat} {xs:List Int} (h:Ow w lo A n c xs):n<=c:=by
 rcases h.2 with ⟨_,hn⟩|⟨g,cap,cur,hv,_,_,hle,_⟩
 ·omega
 ·injection hv with _ _ hc
  omega
theorem rv_kind {k v s:Int} {xs:List Int} (h:rv k xs v s=true):k=1\/k=2\/k=3\/k=4\/k=5:=by
 simp only [rv,Bool.and_eq_true] at h;have h4:=h.2;unfold kindOk at h4
 by_cases h1:k=1
 ·exact .inl h1
 ·by_cases h2:k=2
  ·exact .inr (.inl h2)
  ·by_cases h3:k=3
   ·exact .inr (.inr (.inl h3))
   ·by_cases h5:k=4
    ·exact .inr (.inr (.inr (.inl h5)))
    ·by_cases h6:k=5
     ·exact .inr (.inr (.inr (.inr h6)))
     ·rw [if_neg h1,if_neg h2,if_neg h3,if_neg h5,if_neg h6] at h4;cases h4
theorem pks_small {k v s:Int} {xs g:List Int} {n:Nat} (hl:xs.length=n) (hv:rv k xs v s=true) (hg:gv g s=true):small4 (pks g xs n) n/\∀ i,i<n->0<=nth xs i/\nth xs i<g.length:=by
 obtain ⟨hs,_,_,hx⟩:=rv_facts hl hv;have hgl:=gv_len hg
 have hin:∀ i,i<n->0<=nth xs i/\nth xs i<g.length:=fun i hi=>by
  obtain ⟨a,b⟩:=hx i hi;exact ⟨a,by omega⟩
 refine ⟨fun i hi=>?_,hin⟩;rw [pks_nth hi];obtain ⟨a,b⟩:=hin i hi;obtain ⟨c,d⟩:=gv_nth hg (show (nth xs i).toNat<g.length by omega);exact ⟨c,by omega⟩
theorem hold1 (A:Option Addr) (c n:Nat) (A2:Option Addr) (c2 n2 B:Nat) (vs:List Int) (v:Int) (w:World) (h:Rd w B A2 n2 vs) (hB:B<=w.heap.size) (h4:n2<=4) (hcap:n2<=c2) (_hv:Hid (small4 vs n2)) (_h2:4<=1->2<=n2):
 Calls Tryz.prog 220 #[.agg #[.int .i64 1,.slice A n c,.int .i64 v],.slice A2 n2 c2] w fun e w'=>e=.returned (.bool (holdsB 1 v vs))/\Below w.heap.size w w':=
 (differentHolds A c n A2 c2 n2 B vs 1 v w h hB h4 hcap).mono fun _ _ ⟨e,b⟩=>⟨e.trans (by rw [<- h.1];rfl),b⟩
theorem hold2 (A:Option Addr) (c n:Nat) (A2:Option Addr) (c2 n2 B:Nat) (vs:List Int) (v:Int) (w:World) (h:Rd w B A2 n2 vs) (hB:B<=w.heap.size) (h4:n2<=4) (_hcap:n2<=c2) (hv:Hid (small4 vs n2)) (_h2:4<=2->2<=n2):
 Calls Tryz.prog 222 #[.agg #[.int .i64 2,.slice A n c,.int .i64 v],.slice A2 n2 c2] w fun e w'=>e=.returned (.bool (holdsB 2 v vs))/\Below w.heap.size w w':=
 (sumHolds A c n A2 c2 n2 B vs 2 v w h hB h4 hv).mono fun _ _ ⟨e,b⟩=>⟨e.trans (by rw [<- h.1];rfl),b⟩
theorem hold3 (A:Option Addr) (c n:Nat) (A2:Option Addr) (c2 n2 B:Nat) (vs:List Int) (v:Int) (w:World) (h:Rd w B A2 n2 vs) (hB:B<=w.heap.size) (h4:n2<=4) (_hcap:n2<=c2) (hv:Hid (small4 vs n2)) (_h2:4<=3->2<=n2):
 Calls Tryz.prog 225 #[.agg #[.int .i64 3,.slice A n c,.int .i64 v],.slice A2 n2 c2] w fun e w'=>e=.returned (.bool (holdsB 3 v vs))/\Below w.heap.size w w':=
 (productHolds A c n A2 c2 n2 B vs 3 v w h hB h4 hv).mono fun _ _ ⟨e,b⟩=>⟨e.trans (by rw [<- h.1];rfl),b⟩
theorem hold4 (A:Option Addr) (c n:Nat) (A2:Option Addr) (c2 n2 B:Nat) (vs:List Int) (v:Int) (w:World) (h:Rd w B A2 n2 vs) (hB:B<=w.heap.size) (_h4:n2<=4) (_hcap:n2<=c2) (_hv:Hid (small4 vs n2)) (h2:4<=4->2<=n2):
 Calls Tryz.prog 227 #[.agg #[.int .i64 4,.slice A n c,.int .i64 v],.slice A2 n2 c2] w fun e w'=>e=.returned (.bool (holdsB 4 v vs))/\Below w.heap.size w w':=
 (lessHolds A c n A2 c2 n2 B vs 4 v w h hB (h2 (Nat.le_refl _))).mono fun _ _ ⟨e,b⟩=>⟨e.trans rfl,b⟩
theorem hold5 (A:Option Addr) (c n:Nat) (A2:Option Addr) (c2 n2 B:Nat) (vs:List Int) (v:Int) (w:World) (h:Rd w B A2 n2 vs) (hB:B<=w.heap.size) (_h4:n2<=4) (_hcap:n2<=c2) (hv:Hid (small4 vs n2)) (h2:4<=5->2<=n2):
 Calls Tryz.prog 229 #[.agg #[.int .i64 5,.slice A n c,.int .i64 v],.slice A2 n2 c2] w fun e w'=>e=.returned (.bool (holdsB 5 v vs))/\Below w.heap.size w w':=
 (apartHolds A c n A2 c2 n2 B vs 5 v w h hB (h2 (by omega)) hv).mono fun _ _ ⟨e,b⟩=>⟨e.trans rfl,b⟩
end Go.Proofs.YtkeoflnmbcdmfaaGreatDoor
