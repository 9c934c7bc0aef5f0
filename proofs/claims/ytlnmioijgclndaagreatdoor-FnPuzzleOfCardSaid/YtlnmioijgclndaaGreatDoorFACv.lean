import Derived.Test.YtlnmioijgclndaaGreatDoorFATW
import Derived.RangeFuncBound
import Derived.Shelf.RegionOpen
import Derived.OwnWalkIn
import Derived.LoopNIn
import Derived.LoopIn
set_option maxRecDepth 8000
namespace Go.Proofs.YtlnmioijgclndaaGreatDoor
open Go.ChangeShapes Go.WideShapes Go.ChangeAt Go.RowKit Go.Shelf
attribute [local go_sem] Oper.semAt_some
def CbPost (k v:Int) (ys:List Int) (X:World) (R:World->Bool->World->Prop) (e:Ending) (Y:World):Prop:=
 (holdsB k v ys=false/\e=.returned (.bool true)/\Below X.heap.size X Y)\/(holdsB k v ys=true/\∃ X' bb,Below X.heap.size X X'/\e=.returned (.bool bb)/\R X' bb Y)
set_option maxHeartbeats 1000000 in
theorem wayCb1 (l:Nat) (A:Option Addr) (c n:Nat) (v:Int) (V n2 c2 RB VB YB:Nat) (ys:List Int) (X:World) (R:World->Bool->World->Prop)
 (hr:X.cell? ⟨RB,0,none⟩=some (.iface 172 (.agg #[.int .i64 1,.slice A n c,.int .i64 v]))) (hv:X.cell? ⟨VB,0,none⟩=some (.slice (some ⟨V,0,none⟩) n2 c2)) (hy:X.cell? ⟨YB,0,none⟩=some (.func (.yield l) #[] #[]))
 (hrd:Rd X X.heap.size (some ⟨V,0,none⟩) n2 ys) (h4:n2<=4) (hcap:n2<=c2) (hsm:Hid (small4 ys n2)) (h2:4<=1->2<=n2)
 (hY:holdsB 1 v ys=true->∀ X',Below X.heap.size X X'->YieldAt Fence.wide 0 Tryz.prog l #[.slice (some ⟨V,0,none⟩) n2 c2] X' fun e Y=>∃ bb,e=.returned (.bool bb)/\R X' bb Y):
 Calls Tryz.prog 169 #[.pointer (some ⟨RB,0,none⟩),.pointer (some ⟨VB,0,none⟩),.pointer (some ⟨YB,0,none⟩)] X (CbPost 1 v ys X R):=by
 have M:∀ w,(method 318 172 (.agg #[.int .i64 1,.slice A n c,.int .i64 v]) "loop.example/gridpuzzles/impl.holdsWith").run Tryz.prog w=.ok (212,.agg #[.int .i64 1,.slice A n c,.int .i64 v]) w:=fun w=>mHolds1 _ _ _ _ _ w
 have HH:=Lib.hid (hold1 A c n (some ⟨V,0,none⟩) c2 n2 X.heap.size ys v X hrd (Nat.le_refl _) h4 hcap hsm h2);have hRB:=cell_lt hr;have hVB:=cell_lt hv;have hYB:=cell_lt hy;refine (callsIn_wide (n:=9)).1 ?_;refine callsIn_of_wp Tryz.func169 rfl trivial ?_ rfl;simp only [Tryz.ntmps169,List.size_toArray,List.length_cons,List.length_nil,Nat.reduceAdd,Nat.reduceSub,Array.replicate_succ,Array.replicate_zero,List.push_toArray,List.append_toArray,List.nil_append,List.cons_append];cases hh:holdsB 1 v ys
 ·gi_wp2_with (refine ⟨trivial,?_⟩;gi_at_call 212;refine (callsIn_wide.2 HH.out).mono ?_;rintro e w1 ⟨rfl,hb1⟩;rw [hh];have hv1:=(hb1.cell (p:=⟨VB,0,none⟩) hVB).trans hv;have hy1:=(hb1.cell (p:=⟨YB,0,none⟩) hYB).trans hy)
  refine ⟨fun _ h=>(by cases h),?_⟩
  gi_wp2
  go_ret
  exact .inl ⟨hh,rfl,hb1⟩
 ·gi_wp2_with (refine ⟨trivial,?_⟩;gi_at_call 212;refine (callsIn_wide.2 HH.out).mono ?_;rintro e w1 ⟨rfl,hb1⟩;rw [hh];have hv1:=(hb1.cell (p:=⟨VB,0,none⟩) hVB).trans hv;have hy1:=(hb1.cell (p:=⟨YB,0,none⟩) hYB).trans hy;obtain ⟨fn,tmps,assign,body,hyy,hR⟩:=hY hh w1 hb1)
  refine (roundIn_any hR).mono ?_;rintro e Y ⟨bb,rfl,hR'⟩
  gi_wp2
  go_ret
  exact .inr ⟨hh,w1,bb,hb1,rfl,hR'⟩
set_option maxHeartbeats 1000000 in
theorem wayCb2 (l:Nat) (A:Option Addr) (c n:Nat) (v:Int) (V n2 c2 RB VB YB:Nat) (ys:List Int) (X:World) (R:World->Bool->World->Prop)
 (hr:X.cell? ⟨RB,0,none⟩=some (.iface 173 (.agg #[.int .i64 2,.slice A n c,.int .i64 v]))) (hv:X.cell? ⟨VB,0,none⟩=some (.slice (some ⟨V,0,none⟩) n2 c2)) (hy:X.cell? ⟨YB,0,none⟩=some (.func (.yield l) #[] #[]))
 (hrd:Rd X X.heap.size (some ⟨V,0,none⟩) n2 ys) (h4:n2<=4) (hcap:n2<=c2) (hsm:Hid (small4 ys n2)) (h2:4<=2->2<=n2)
 (hY:holdsB 2 v ys=true->∀ X',Below X.heap.size X X'->YieldAt Fence.wide 0 Tryz.prog l #[.slice (some ⟨V,0,none⟩) n2 c2] X' fun e Y=>∃ bb,e=.returned (.bool bb)/\R X' bb Y):
 Calls Tryz.prog 169 #[.pointer (some ⟨RB,0,none⟩),.pointer (some ⟨VB,0,none⟩),.pointer (some ⟨YB,0,none⟩)] X (CbPost 2 v ys X R):=by
 have M:∀ w,(method 318 173 (.agg #[.int .i64 2,.slice A n c,.int .i64 v]) "loop.example/gridpuzzles/impl.holdsWith").run Tryz.prog w=.ok (214,.agg #[.int .i64 2,.slice A n c,.int .i64 v]) w:=fun w=>mHolds2 _ _ _ _ _ w
 have HH:=Lib.hid (hold2 A c n (some ⟨V,0,none⟩) c2 n2 X.heap.size ys v X hrd (Nat.le_refl _) h4 hcap hsm h2);have hRB:=cell_lt hr;have hVB:=cell_lt hv;have hYB:=cell_lt hy;refine (callsIn_wide (n:=9)).1 ?_;refine callsIn_of_wp Tryz.func169 rfl trivial ?_ rfl;simp only [Tryz.ntmps169,List.size_toArray,List.length_cons,List.length_nil,Nat.reduceAdd,Nat.reduceSub,Array.replicate_succ,Array.replicate_zero,List.push_toArray,List.append_toArray,List.nil_append,List.cons_append];cases hh:holdsB 2 v ys
 ·gi_wp2_with (refine ⟨trivial,?_⟩;gi_at_call 214;refine (callsIn_wide.2 HH.out).mono ?_;rintro e w1 ⟨rfl,hb1⟩;rw [hh];have hv1:=(hb1.cell (p:=⟨VB,0,none⟩) hVB).trans hv;have hy1:=(hb1.cell (p:=⟨YB,0,none⟩) hYB).trans hy)
  refine ⟨fun _ h=>(by cases h),?_⟩
  gi_wp2
  go_ret
  exact .inl ⟨hh,rfl,hb1⟩
 ·gi_wp2_with (refine ⟨trivial,?_⟩;gi_at_call 214;refine (callsIn_wide.2 HH.out).mono ?_;rintro e w1 ⟨rfl,hb1⟩;rw [hh];have hv1:=(hb1.cell (p:=⟨VB,0,none⟩) hVB).trans hv;have hy1:=(hb1.cell (p:=⟨YB,0,none⟩) hYB).trans hy;obtain ⟨fn,tmps,assign,body,hyy,hR⟩:=hY hh w1 hb1)
  refine (roundIn_any hR).mono ?_;rintro e Y ⟨bb,rfl,hR'⟩
  gi_wp2
  go_ret
  exact .inr ⟨hh,w1,bb,hb1,rfl,hR'⟩
set_option maxHeartbeats 1000000 in
theorem wayCb3 (l:Nat) (A:Option Addr) (c n:Nat) (v:Int) (V n2 c2 RB VB YB:Nat) (ys:List Int) (X:World) (R:World->Bool->World->Prop)
 (hr:X.cell? ⟨RB,0,none⟩=some (.iface 174 (.agg #[.int .i64 3,.slice A n c,.int .i64 v]))) (hv:X.cell? ⟨VB,0,none⟩=some (.slice (some ⟨V,0,none⟩) n2 c2)) (hy:X.cell? ⟨YB,0,none⟩=some (.func (.yield l) #[] #[]))
 (hrd:Rd X X.heap.size (some ⟨V,0,none⟩) n2 ys) (h4:n2<=4) (hcap:n2<=c2) (hsm:Hid (small4 ys n2)) (h2:4<=3->2<=n2)
 (hY:holdsB 3 v ys=true->∀ X',Below X.heap.size X X'->YieldAt Fence.wide 0 Tryz.prog l #[.slice (some ⟨V,0,none⟩) n2 c2] X' fun e Y=>∃ bb,e=.returned (.bool bb)/\R X' bb Y):
 Calls Tryz.prog 169 #[.pointer (some ⟨RB,0,none⟩),.pointer (some ⟨VB,0,none⟩),.pointer (some ⟨YB,0,none⟩)] X (CbPost 3 v ys X R):=by
 have M:∀ w,(method 318 174 (.agg #[.int .i64 3,.slice A n c,.int .i64 v]) "loop.example/gridpuzzles/impl.holdsWith").run Tryz.prog w=.ok (217,.agg #[.int .i64 3,.slice A n c,.int .i64 v]) w:=fun w=>mHolds3 _ _ _ _ _ w
 have HH:=Lib.hid (hold3 A c n (some ⟨V,0,none⟩) c2 n2 X.heap.size ys v X hrd (Nat.le_refl _) h4 hcap hsm h2);have hRB:=cell_lt hr;have hVB:=cell_lt hv;have hYB:=cell_lt hy;refine (callsIn_wide (n:=9)).1 ?_;refine callsIn_of_wp Tryz.func169 rfl trivial ?_ rfl;simp only [Tryz.ntmps169,List.size_toArray,List.length_cons,List.length_nil,Nat.reduceAdd,Nat.reduceSub,Array.replicate_succ,Array.replicate_zero,List.push_toArray,List.append_toArray,List.nil_append,List.cons_append];cases hh:holdsB 3 v ys
 ·gi_wp2_with (refine ⟨trivial,?_⟩;gi_at_call 217;refine (callsIn_wide.2 HH.out).mono ?_;rintro e w1 ⟨rfl,hb1⟩;rw [hh];have hv1:=(hb1.cell (p:=⟨VB,0,none⟩) hVB).trans hv;have hy1:=(hb1.cell (p:=⟨YB,0,none⟩) hYB).trans hy)
  refine ⟨fun _ h=>(by cases h),?_⟩
  gi_wp2
  go_ret
  exact .inl ⟨hh,rfl,hb1⟩
 ·gi_wp2_with (refine ⟨trivial,?_⟩;gi_at_call 217;refine (callsIn_wide.2 HH.out).mono ?_;rintro e w1 ⟨rfl,hb1⟩;rw [hh];have hv1:=(hb1.cell (p:=⟨VB,0,none⟩) hVB).trans hv;have hy1:=(hb1.cell (p:=⟨YB,0,none⟩) hYB).trans hy;obtain ⟨fn,tmps,assign,body,hyy,hR⟩:=hY hh w1 hb1)
  refine (roundIn_any hR).mono ?_;rintro e Y ⟨bb,rfl,hR'⟩
  gi_wp2
  go_ret
  exact .inr ⟨hh,w1,bb,hb1,rfl,hR'⟩
set_option maxHeartbeats 1000000 in
theorem wayCb4 (l:Nat) (A:Option Addr) (c n:Nat) (v:Int) (V n2 c2 RB VB YB:Nat) (ys:List Int) (X:World) (R:World->Bool->World->Prop)
 (hr:X.cell? ⟨RB,0,none⟩=some (.iface 175 (.agg #[.int .i64 4,.slice A n c,.int .i64 v]))) (hv:X.cell? ⟨VB,0,none⟩=some (.slice (some ⟨V,0,none⟩) n2 c2)) (hy:X.cell? ⟨YB,0,none⟩=some (.func (.yield l) #[] #[]))
 (hrd:Rd X X.heap.size (some ⟨V,0,none⟩) n2 ys) (h4:n2<=4) (hcap:n2<=c2) (hsm:Hid (small4 ys n2)) (h2:4<=4->2<=n2)
 (hY:holdsB 4 v ys=true->∀ X',Below X.heap.size X X'->YieldAt Fence.wide 0 Tryz.prog l #[.slice (some ⟨V,0,none⟩) n2 c2] X' fun e Y=>∃ bb,e=.returned (.bool bb)/\R X' bb Y):
 Calls Tryz.prog 169 #[.pointer (some ⟨RB,0,none⟩),.pointer (some ⟨VB,0,none⟩),.pointer (some ⟨YB,0,none⟩)] X (CbPost 4 v ys X R):=by
 have M:∀ w,(method 318 175 (.agg #[.int .i64 4,.slice A n c,.int .i64 v]) "loop.example/gridpuzzles/impl.holdsWith").run Tryz.prog w=.ok (219,.agg #[.int .i64 4,.slice A n c,.int .i64 v]) w:=fun w=>mHolds4 _ _ _ _ _ w
 have HH:=Lib.hid (hold4 A c n (some ⟨V,0,none⟩) c2 n2 X.heap.size ys v X hrd (Nat.le_refl _) h4 hcap hsm h2);have hRB:=cell_lt hr;have hVB:=cell_lt hv;have hYB:=cell_lt hy;refine (callsIn_wide (n:=9)).1 ?_;refine callsIn_of_wp Tryz.func169 rfl trivial ?_ rfl;simp only [Tryz.ntmps169,List.size_toArray,List.length_cons,List.length_nil,Nat.reduceAdd,Nat.reduceSub,Array.replicate_succ,Array.replicate_zero,List.push_toArray,List.append_toArray,List.nil_append,List.cons_append];cases hh:holdsB 4 v ys
 ·gi_wp2_with (refine ⟨trivial,?_⟩;gi_at_call 219;refine (callsIn_wide.2 HH.out).mono ?_;rintro e w1 ⟨rfl,hb1⟩;rw [hh];have hv1:=(hb1.cell (p:=⟨VB,0,none⟩) hVB).trans hv;have hy1:=(hb1.cell (p:=⟨YB,0,none⟩) hYB).trans hy)
  refine ⟨fun _ h=>(by cases h),?_⟩
  gi_wp2
  go_ret
  exact .inl ⟨hh,rfl,hb1⟩
 ·gi_wp2_with (refine ⟨trivial,?_⟩;gi_at_call 219;refine (callsIn_wide.2 HH.out).mono ?_;rintro e w1 ⟨rfl,hb1⟩;rw [hh];have hv1:=(hb1.cell (p:=⟨VB,0,none⟩) hVB).trans hv;have hy1:=(hb1.cell (p:=⟨YB,0,none⟩) hYB).trans hy;obtain ⟨fn,tmps,assign,body,hyy,hR⟩:=hY hh w1 hb1)
  refine (roundIn_any hR).mono ?_;rintro e Y ⟨bb,rfl,hR'⟩
  gi_wp2
  go_ret
  exact .inr ⟨hh,w1,bb,hb1,rfl,hR'⟩
set_option maxHeartbeats 1000000 in
theorem wayCb5 (l:Nat) (A:Option Addr) (c n:Nat) (v:Int) (V n2 c2 RB VB YB:Nat) (ys:List Int) (X:World) (R:World->Bool->World->Prop)
 (hr:X.cell? ⟨RB,0,none⟩=some (.iface 176 (.agg #[.int .i64 5,.slice A n c,.int .i64 v]))) (hv:X.cell? ⟨VB,0,none⟩=some (.slice (some ⟨V,0,none⟩) n2 c2)) (hy:X.cell? ⟨YB,0,none⟩=some (.func (.yield l) #[] #[]))
 (hrd:Rd X X.heap.size (some ⟨V,0,none⟩) n2 ys) (h4:n2<=4) (hcap:n2<=c2) (hsm:Hid (small4 ys n2)) (h2:4<=5->2<=n2)
 (hY:holdsB 5 v ys=true->∀ X',Below X.heap.size X X'->YieldAt Fence.wide 0 Tryz.prog l #[.slice (some ⟨V,0,none⟩) n2 c2] X' fun e Y=>∃ bb,e=.returned (.bool bb)/\R X' bb Y):
 Calls Tryz.prog 169 #[.pointer (some ⟨RB,0,none⟩),.pointer (some ⟨VB,0,none⟩),.pointer (some ⟨YB,0,none⟩)] X (CbPost 5 v ys X R):=by
 have M:∀ w,(method 318 176 (.agg #[.int .i64 5,.slice A n c,.int .i64 v]) "loop.example/gridpuzzles/impl.holdsWith").run Tryz.prog w=.ok (221,.agg #[.int .i64 5,.slice A n c,.int .i64 v]) w:=fun w=>mHolds5 _ _ _ _ _ w
 have HH:=Lib.hid (hold5 A c n (some ⟨V,0,none⟩) c2 n2 X.heap.size ys v X hrd (Nat.le_refl _) h4 hcap hsm h2);have hRB:=cell_lt hr;have hVB:=cell_lt hv;have hYB:=cell_lt hy;refine (callsIn_wide (n:=9)).1 ?_;refine callsIn_of_wp Tryz.func169 rfl trivial ?_ rfl;simp only [Tryz.ntmps169,List.size_toArray,List.length_cons,List.length_nil,Nat.reduceAdd,Nat.reduceSub,Array.replicate_succ,Array.replicate_zero,List.push_toArray,List.append_toArray,List.nil_append,List.cons_append];cases hh:holdsB 5 v ys
 ·gi_wp2_with (refine ⟨trivial,?_⟩;gi_at_call 221;refine (callsIn_wide.2 HH.out).mono ?_;rintro e w1 ⟨rfl,hb1⟩;rw [hh];have hv1:=(hb1.cell (p:=⟨VB,0,none⟩) hVB).trans hv;have hy1:=(hb1.cell (p:=⟨YB,0,none⟩) hYB).trans hy)
  refine ⟨fun _ h=>(by cases h),?_⟩
  gi_wp2
  go_ret
  exact .inl ⟨hh,rfl,hb1⟩
 ·gi_wp2_with (refine ⟨trivial,?_⟩;gi_at_call 221;refine (callsIn_wide.2 HH.out).mono ?_;rintro e w1 ⟨rfl,hb1⟩;rw [hh];have hv1:=(hb1.cell (p:=⟨VB,0,none⟩) hVB).trans hv;have hy1:=(hb1.cell (p:=⟨YB,0,none⟩) hYB).trans hy;obtain ⟨fn,tmps,assign,body,hyy,hR⟩:=hY hh w1 hb1)
  refine (roundIn_any hR).mono ?_;rintro e Y ⟨bb,rfl,hR'⟩
  gi_wp2
  go_ret
  exact .inr ⟨hh,w1,bb,hb1,rfl,hR'⟩
theorem wayCb (l:Nat) (A:Option Addr) (c n:Nat) (k v:Int) (V n2 c2 RB VB YB:Nat) (ys:List Int) (X:World) (R:World->Bool->World->Prop) (hk:k=1\/k=2\/k=3\/k=4\/k=5)
 (hr:X.cell? ⟨RB,0,none⟩=some (ofk k (rval k A n c v))) (hv:X.cell? ⟨VB,0,none⟩=some (.slice (some ⟨V,0,none⟩) n2 c2)) (hy:X.cell? ⟨YB,0,none⟩=some (.func (.yield l) #[] #[]))
 (hrd:Rd X X.heap.size (some ⟨V,0,none⟩) n2 ys) (h4:n2<=4) (hcap:n2<=c2) (hsm:Hid (small4 ys n2)) (h2:k=1\/k=2\/k=3\/2<=n2)
 (hY:holdsB k v ys=true->∀ X',Below X.heap.size X X'->YieldAt Fence.wide 0 Tryz.prog l #[.slice (some ⟨V,0,none⟩) n2 c2] X' fun e Y=>∃ bb,e=.returned (.bool bb)/\R X' bb Y):
 Calls Tryz.prog 169 #[.pointer (some ⟨RB,0,none⟩),.pointer (some ⟨VB,0,none⟩),.pointer (some ⟨YB,0,none⟩)] X (CbPost k v ys X R):=by
 rcases hk with rfl|rfl|rfl|rfl|rfl
 ·exact wayCb1 l A c n v V n2 c2 RB VB YB ys X R hr hv hy hrd h4 hcap hsm (by omega) hY
 ·exact wayCb2 l A c n v V n2 c2 RB VB YB ys X R hr hv hy hrd h4 hcap hsm (by omega) hY
 ·exact wayCb3 l A c n v V n2 c2 RB VB YB ys X R hr hv hy hrd h4 hcap hsm (by omega) hY
 ·exact wayCb4 l A c n v V n2 c2 RB VB YB ys X R hr hv hy hrd h4 hcap hsm (by omega) hY
 ·exact wayCb5 l A c n v V n2 c2 RB VB YB ys X R hr hv hy hrd h4 hcap hsm (by omega) hY
end Go.Proofs.YtlnmioijgclndaaGreatDoor
namespace Go.Proofs.YtlnmioijgclndaaGreatDoor
open Go.ChangeShapes Go.WideShapes Go.ChangeAt Go.RowKit
def zeroArr (n:Nat):Array Value:=madeCells #[.int .i64 0] n
theorem make_ints {n:Nat} (hn:n<=1099511627776) (w:World):(Instr.makeSlice 23 (.int .i64 (n:Int)) (.int .i64 (n:Int))).run Tryz.prog w=.ok (.slice (some ⟨w.heap.size,0,none⟩) n n) (w.alloc (.cells (zeroArr n) 3)):=by
 obtain ⟨i0,hi,hz0,hz1,hz2⟩:=info_parts int_info;have hr:=run_make (P:=Tryz.prog) w 23 3 i0 (.int .i64 0) Tryz.underlying23 hi hz0 .i64 .i64 (n:Int) (n:Int) (by omega) (Int.le_refl _) (by rw [hz2];omega) (by omega);rw [hz1,Int.toNat_natCast,Nat.mul_one] at hr;exact hr
theorem zeroArr_ow {n lo:Nat} (hn:n<=1099511627776) (w:World) (hlo:lo<=w.heap.size):Ow (w.alloc (.cells (zeroArr n) 3)) lo (some ⟨w.heap.size,0,none⟩) n n (zeros n):=by
 have hs:(zeroArr n).size=n*1:=by simp [zeroArr,madeCells]
 have h:=World.ownsRow_lit (e:=3) (size:=1) w (zeroArr n) n hlo (by simp only [maxLen];omega) hs;unfold Ow
 have e:(zeroArr n).toList=vals (zeros n):=by
  rw [zeroArr,toList_madeCells_one]
  simp [vals,zeros]
 rw [<- e];exact h
theorem Ow.same {w w':World} {lo g n c:Nat} {xs:List Int} (h:Ow w lo (some ⟨g,0,none⟩) n c xs) (e:w'.heap[g]? =w.heap[g]?):Ow w' lo (some ⟨g,0,none⟩) n c xs:=by
 obtain ⟨h0,h1⟩:=h;refine ⟨h0,?_⟩
 rcases h1 with ⟨h1,_⟩|⟨g',cap,cur,hv,h2,h3,h4⟩
 ·cases h1
 ·injection hv with e1 _ e2
  injection e1 with e1
  injection e1 with e1 _ _
  subst e1 e2;exact .inr ⟨g,c,cur,rfl,h2,e.trans h3,h4⟩
theorem Rd.up {w:World} {B B' n:Nat} {A:Option Addr} {xs:List Int} (h:Rd w B A n xs) (hB:B<=B'):Rd w B' A n xs:=
 ⟨h.1,fun hn=>by
   obtain ⟨b,off,e,hl,hc⟩:=h.2 hn
   exact ⟨b,off,e,by omega,hc⟩⟩
theorem Below.of_grown {N V:Nat} {X Y:World} (h:X.grownBy Y (some V)) (hN:N<=X.heap.size) (hV:N<=V):Below N X Y:=
 (Below.refl N X).grown h hN (fun k e=>by cases e;exact hV)
theorem yieldAt_mono {F:Fence} {m:Nat} {P:Program} {l:Nat} {args:Array Value} {w:World} {R R':Ending->World->Prop} (h:YieldAt F m P l args w R) (hr:∀ e w',R e w'->R' e w'):YieldAt F m P l args w R':=by
 obtain ⟨fn,tmps,assign,body,hy,hR⟩:=h;exact ⟨fn,tmps,assign,body,hy,hR.mono hr⟩
def WBase (MB RB B:Nat) (k:Int) (A:Option Addr) (nc c:Nat) (v:Int) (Am:Option Addr) (n cm:Nat) (ms:List Int) (X:World):Prop:=
 X.cell? ⟨MB,0,none⟩=some (.slice Am n cm)/\X.cell? ⟨RB,0,none⟩=some (ofk k (rval k A nc c v))/\Rd X B Am n ms/\B<=X.heap.size
theorem WBase.below {N MB RB B:Nat} {k:Int} {A:Option Addr} {nc c:Nat} {v:Int} {Am:Option Addr} {n cm:Nat} {ms:List Int} {X Y:World} (h:WBase MB RB B k A nc c v Am n cm ms X) (hb:Below N X Y) (h1:MB<N) (h2:RB<N) (h3:B<=N):WBase MB RB B k A nc c v Am n cm ms Y:=
 ⟨(hb.cell (p:=⟨MB,0,none⟩) h1).trans h.1,(hb.cell (p:=⟨RB,0,none⟩) h2).trans h.2.1,h.2.2.1.below (hb.mono h3),Nat.le_trans h.2.2.2 hb.size⟩
set_option maxHeartbeats 1000000 in
theorem ways_seq (MB RB B:Nat) (k:Int) (A:Option Addr) (nc c:Nat) (v:Int) (Am:Option Addr) (n cm:Nat) (ms:List Int) (hn1:1<=n) (hn4:n<=4) (hms:∀ i,i<n->0<=nth ms i/\nth ms i<32)
 (hk:k=1\/k=2\/k=3\/k=4\/k=5) (h2:k=1\/k=2\/k=3\/2<=n):
 SeqC Tryz.prog 167 #[.pointer (some ⟨MB,0,none⟩),.pointer (some ⟨RB,0,none⟩)] (WBase MB RB B k A nc c v Am n cm ms) ((allW ms n []).filter (holdsB k v)):=by
 intro l J Jx W hJb hJs hY h0;obtain ⟨w0,w1,w2,w3⟩:=hJb _ _ h0;have hMB:MB<W.heap.size:=cell_lt w0;have hRB:RB<W.heap.size:=cell_lt w1
 have hsml:∀ ys∈allW ms n [],ys.length=n/\small4 ys n:=fun ys hy=>by
  have h1:=allW_len hy
  simp at h1
  refine ⟨h1,fun i hi=>?_⟩;have:=allW_small (vs:=[]) (by intro i hi;simp at hi) hy i (by simpa using hi);omega
 have HT:∀ (V VB cv:Nat) (X:World),W.heap.size<V->V<VB->n<=cv->Below W.heap.size W X->X.cell? ⟨W.heap.size,0,none⟩=some (.func (.yield l) #[] #[])->X.cell? ⟨VB,0,none⟩=some (.slice (some ⟨V,0,none⟩) n cv)->
     (∃ ys0,Ow X W.heap.size (some ⟨V,0,none⟩) n cv ys0)->
     Calls Tryz.prog 168 #[.slice Am n cm,.slice (some ⟨V,0,none⟩) n cv,.int .i64 (0:Nat),.func (.func 169) #[] #[.pointer (some ⟨RB,0,none⟩),.pointer (some ⟨VB,0,none⟩),.pointer (some ⟨W.heap.size,0,none⟩)]] X
      fun e Y=>∃ bb:Bool,e=.returned (.bool bb)/\(J ((allW ms n []).filter (holdsB k v)) Y\/Jx Y):=by
  intro V VB cv X hV hVB hcv hbX hyb hvb hys0;obtain ⟨ys0,hys0⟩:=hys0
  let J':List (List Int)->World->Prop:=fun pre X=>J (pre.filter (holdsB k v)) X/\X.cell? ⟨W.heap.size,0,none⟩=some (.func (.yield l) #[] #[])/\X.cell? ⟨VB,0,none⟩=some (.slice (some ⟨V,0,none⟩) n cv)
  have hsz:∀ pre X,J' pre X->W.heap.size<X.heap.size/\VB<X.heap.size:=fun pre X h=>⟨cell_lt h.2.1,cell_lt h.2.2⟩
  have stab:∀ pre X Y,J' pre X->Below X.heap.size X Y->J' pre Y:=fun pre X Y h hb=>by
   obtain ⟨s1,s2⟩:=hsz pre X h;exact ⟨hJs _ _ _ h.1 (hb.mono (by omega)),(hb.cell (p:=⟨W.heap.size,0,none⟩) s1).trans h.2.1,(hb.cell (p:=⟨VB,0,none⟩) s2).trans h.2.2⟩
  refine (tryWays_any (J:=J') (Jx:=Jx) (ms:=ms) (n:=n) (c:=cv) (lo:=W.heap.size) (V:=V) (cm:=cm) (Am:=Am) ?hM hms hn4 ?hJ ?hcb n 0 [] ys0 [] X (by omega) rfl ⟨hJs _ _ _ h0 hbX,hyb,hvb⟩ hys0 (fun i hi=>absurd hi (by omega)) (fun ys h=>h)).mono ?_
  case hM=>
   intro pre X h;obtain ⟨_,_,b2,_⟩:=hJb _ _ h.1;exact b2.up (by omega)
  case hJ=>
   intro pre X Y h hg;obtain ⟨s1,s2⟩:=hsz pre X h;exact ⟨hJs _ _ _ h.1 (Below.of_grown hg (by omega) (by omega)),(hg.cell_far ⟨W.heap.size,0,none⟩ s1 (fun e=>by injection e with e;dsimp only at e;omega)).trans h.2.1,(hg.cell_far ⟨VB,0,none⟩ s2 (fun e=>by injection e with e;dsimp only at e;omega)).trans h.2.2⟩
  case hcb=>
   intro pre ys X hmem h ho;obtain ⟨s1,s2⟩:=hsz pre X h;obtain ⟨hyl,hsm⟩:=hsml ys hmem;obtain ⟨_,b1,_,_⟩:=hJb _ _ h.1;have hVX:V<X.heap.size:=(by obtain ⟨g,e,_,hg⟩:=ho.form (by omega);cases e;exact hg);refine (wayCb l A c nc k v V n cv RB VB W.heap.size ys X (fun X' bb Y=>Mid W.heap.size X' Y/\((bb=true/\J (pre.filter (holdsB k v)++[ys]) Y)\/(bb=false/\Jx Y))) hk b1 h.2.2 h.2.1 ho.rd hn4 hcv (Lib.hid hsm) h2 ?_).mono ?_
   ·intro hh X' hb;have h':=stab _ _ _ h hb;refine yieldAt_mono (hY _ ys X' V n cv h'.1 (List.mem_filter.2 ⟨hmem,hh⟩) (by omega) ((ho.below hb).rd)) ?_;rintro e Y ⟨hm,(⟨rfl,hj⟩|⟨rfl,hx⟩)⟩
    ·exact ⟨true,rfl,hm,.inl ⟨rfl,hj⟩⟩
    ·exact ⟨false,rfl,hm,.inr ⟨rfl,hx⟩⟩
   ·rintro e Y (⟨hh,rfl,hb⟩|⟨hh,X',bb,hb,rfl,hm,hR⟩)
    ·have h':=stab _ _ _ h hb;refine .inl ⟨rfl,⟨?_,h'.2⟩,ho.below hb⟩;rw [List.filter_append,List.filter_cons_of_neg (by rw [hh];simp),List.filter_nil,List.append_nil];exact h'.1
    ·have h':=stab _ _ _ h hb;obtain ⟨t1,t2⟩:=hsz _ _ h'
     rcases hR with ⟨rfl,hj⟩|⟨rfl,hx⟩
     ·refine .inl ⟨rfl,⟨?_,?_,?_⟩,(ho.below hb).same (hm.same V (by omega) (Nat.lt_of_lt_of_le hVX hb.size))⟩
      ·rw [List.filter_append,List.filter_cons_of_pos hh,List.filter_nil];exact hj
      ·exact (World.cell?_of_block (a:=⟨W.heap.size,0,none⟩) (hm.same _ (Nat.le_refl _) t1)).trans h'.2.1
      ·exact (World.cell?_of_block (a:=⟨VB,0,none⟩) (hm.same _ (by show W.heap.size<=VB;omega) t2)).trans h'.2.2
     ·exact .inr ⟨rfl,hx⟩
  ·rintro e Y (⟨rfl,hj,_⟩|⟨rfl,hx⟩)
   ·exact ⟨true,rfl,.inl (by simpa using hj.1)⟩
   ·exact ⟨false,rfl,.inr hx⟩
 show Calls Tryz.prog 167 #[.func (.yield l) #[] #[],.pointer (some ⟨MB,0,none⟩),.pointer (some ⟨RB,0,none⟩)] W _
 obtain ⟨W1,hW1⟩:∃ W1,W.alloc (.cells #[.func (.yield l) #[] #[]] 115)=W1:=⟨_,rfl⟩
 have hbW:Below W.heap.size W W1:=by rw [<- hW1];exact (Below.refl _ _).alloc (Nat.le_refl _) _
 have hs1:W1.heap.size=W.heap.size+1:=by rw [<- hW1];simp
 have hy1:W1.cell? ⟨W.heap.size,0,none⟩=some (.func (.yield l) #[] #[]):=by rw [<- hW1];exact cell_of_row _ _ 0 _ _ (0,0) (heap_alloc_new W _)
 obtain ⟨W2,hW2⟩:∃ W2,W1.alloc (.cells (zeroArr n) 3)=W2:=⟨_,rfl⟩
 have hb2:Below W1.heap.size W1 W2:=by rw [<- hW2];exact (Below.refl _ _).alloc (Nat.le_refl _) _
 have hs2:W2.heap.size=W.heap.size+1+1:=by rw [<- hW2];simp [hs1]
 have ho2:Ow W2 W.heap.size (some ⟨W.heap.size+1,0,none⟩) n n (zeros n):=by
  have:=zeroArr_ow (n:=n) (lo:=W.heap.size) (by omega) W1 (by omega);rw [hW2,hs1] at this;exact this
 have m1:=(hbW.cell (p:=⟨MB,0,none⟩) hMB).trans w0;have m2:=(hb2.cell (p:=⟨MB,0,none⟩) (show MB<W1.heap.size by omega)).trans m1;obtain ⟨W3,hW3⟩:∃ W3,W2.alloc (.cells #[.slice (some ⟨W.heap.size+1,0,none⟩) n n] 23)=W3:=⟨_,rfl⟩
 have hb3:Below W2.heap.size W2 W3:=by rw [<- hW3];exact (Below.refl _ _).alloc (Nat.le_refl _) _
 have m3:=(hb3.cell (p:=⟨MB,0,none⟩) (show MB<W2.heap.size by omega)).trans m2
 have hv3:W3.cell? ⟨W.heap.size+1+1,0,none⟩=some (.slice (some ⟨W.heap.size+1,0,none⟩) n n):=by
  rw [<- hW3,<-hs2];exact cell_of_row _ _ 0 _ _ (0,0) (heap_alloc_new W2 _)
 have hbW3:Below W.heap.size W W3:=(hbW.trans (hb2.mono (by omega))).trans (hb3.mono (by omega));have hy3:=(hb3.cell (p:=⟨W.heap.size,0,none⟩) (show W.heap.size<W2.heap.size by omega)).trans ((hb2.cell (p:=⟨W.heap.size,0,none⟩) (show W.heap.size<W1.heap.size by omega)).trans hy1);have HC:=Lib.hid (HT (W.heap.size+1) (W.heap.size+1+1) n W3 (by omega) (by omega) (Nat.le_refl _) hbW3 hy3 hv3 ⟨_,ho2.below hb3⟩)
 have hmk:(Instr.makeSlice 23 (.int .i64 (n:Int)) (.int .i64 (n:Int))).run Tryz.prog W1=.ok (.slice (some ⟨W.heap.size+1,0,none⟩) n n) W2:=by rw [make_ints (by omega),hW2,hs1]
 clear HT hJb hJs hY hb2 hb3 hbW hbW3 hy3 ho2 hsml m2 w0 w1 w2 w3 hy1
 go_enter Tryz.func167,Tryz.ntmps167
 go_wp2_with (go_at_call 168;refine HC.out.mono ?_;rintro e Y ⟨bb,rfl,hYY⟩)
 go_end0
 exact ⟨⟨_,rfl⟩,hYY⟩
theorem waysToHold_any (A:Option Addr) (c n:Nat) (k v:Int) (Am:Option Addr) (n2 cm:Nat) (w:World) (hk:k=1\/k=2\/k=3\/k=4\/k=5):
 Calls Tryz.prog 152 #[.agg #[.int .i64 k,.slice A n c,.int .i64 v],.slice Am n2 cm] w fun e w'=>
  ∃ MB RB,e=.returned (.func (.func 167) #[] #[.pointer (some ⟨MB,0,none⟩),.pointer (some ⟨RB,0,none⟩)])/\w'.cell? ⟨MB,0,none⟩=some (.slice Am n2 cm)/\w'.cell? ⟨RB,0,none⟩=some (ofk k (rval k A n c v))/\Below w.heap.size w w':=by
 have hx0:=rbox_new w k A n c v 84;have hb0:Below w.heap.size w (w.alloc (.cells #[.int .i64 k,.slice A n c,.int .i64 v] 84)):=(Below.refl _ _).alloc (Nat.le_refl _) _
 have hs0:(w.alloc (.cells #[.int .i64 k,.slice A n c,.int .i64 v] 84)).heap.size=w.heap.size+1:=by simp
 obtain ⟨W1,hW1⟩:∃ W1,(w.alloc (.cells #[.int .i64 k,.slice A n c,.int .i64 v] 84)).alloc (.cells #[.slice Am n2 cm] 23)=W1:=⟨_,rfl⟩
 have hb1:Below w.heap.size w W1:=by rw [<- hW1];exact hb0.alloc hb0.size _
 have hs1:W1.heap.size=w.heap.size+1+1:=by rw [<- hW1];simp
 have hx1:RBox W1 w.heap.size k A n c v:=by
  rw [<- hW1];exact hx0.below (by simp) ((Below.refl _ _).alloc (Nat.le_refl _) _)
 have hm1:W1.cell? ⟨w.heap.size+1,0,none⟩=some (.slice Am n2 cm):=by
  rw [<- hW1,<-hs0];exact cell_of_row _ _ 0 _ _ (0,0) (heap_alloc_new _ _)
 obtain ⟨a0,a1,a2⟩:=id hx1;obtain ⟨x,hx⟩:∃ x,rval k A n c v=x:=⟨_,rfl⟩
 obtain ⟨T,hT⟩:∃ T,ofk k (rval k A n c v)=.iface T x:=by
  rw [hx]
  rcases hk with rfl|rfl|rfl|rfl|rfl<;>exact ⟨_,rfl⟩
 have HK:=ofKind_any A c n k v W1;rw [hT] at HK ⊢;have HK:=Lib.hid HK;clear hx hT;have Hs:=Lib.hid hs1;clear hs1 hs0 hb0
 go_enter Tryz.func152,Tryz.ntmps152
 go_wp2_with (go_at_call 160;refine HK.out.mono ?_;rintro e w3 ⟨rfl,hb3⟩;have hm3:=(hb3.cell (p:=⟨w.heap.size+1,0,none⟩) (show w.heap.size+1<_ by rw [Hs.out];omega)).trans hm1)
 go_ret
 have hb4:Below w3.heap.size w3 (w3.alloc (.cells #[.iface T x] 163)):=(Below.refl _ _).alloc (Nat.le_refl _) _;exact ⟨w.heap.size+1,w3.heap.size,rfl,(hb4.cell (p:=⟨w.heap.size+1,0,none⟩) (cell_lt hm3)).trans hm3,cell_of_row _ _ 0 _ _ (0,0) (heap_alloc_new _ _),step (step hb1 hb3) hb4⟩
theorem range_skip {P:Program} (m:Nat) {g:Operand} {p:Nat} {body:Code} {Q:Exit->Act->World->Prop} {a:Act} {w:World}
 {gf:Nat} {lb:Array Value} (hg:a.eval g=.func (.func gf) #[] lb) (eg:∀ args w,(callFunc gf args).run P w=.ok (.enter gf args) w)
 {Base:World->Prop} {ways:List (List Int)} (hseq:SeqC P gf lb Base ways)
 (I:List (List Int)->World->Prop) (Ix:Code->World->Prop) (hIb:∀ pre X,I pre X->Base X)
 (hI:∀ pre X Y,I pre X->Below w.heap.size X Y->I pre Y) (hIx:∀ c X Y,Ix c X->Below w.heap.size X Y->Ix c Y) (h0:I [] w)
 (hbody:∀ (l:Nat) (pre:List (List Int)) (x:List Int) (X:World) (b n c:Nat),I pre X->x∈ways->w.heap.size<=b->Rd X X.heap.size (some ⟨b,0,none⟩) n x->
   body.wpIn (Fence.wide.inRound l) m P (midPost w.heap.size I Ix (pre++[x]) X) { tmps:=a.tmps.setIfInBounds p (.slice (some ⟨b,0,none⟩) n c),defers:=[] } X)
 (hdone:∀ (D:Nat) (W:World),w.heap.size<=D->I ways W->W.heap[D]? =some (.deferred (some []))->Q .normal { a with defers:={ target:=.collected D,args:= #[] }::a.defers } W)
 (hstop:∀ (D:Nat) (c:Code) (W:World),w.heap.size<=D->Ix c W->W.heap[D]? =some (.deferred (some []))->c.wpIn Fence.wide m P Q { a with defers:={ target:=.collected D,args:= #[] }::a.defers } W):
 (Code.rangeFunc g #[p] .skip body).wpIn Fence.wide m P Q a w:=
 range_own m hg eg rfl hseq I Ix hIb hI hIx h0 (fun v=>{ tmps:=a.tmps.setIfInBounds p v,defers:=[] }) (fun l v W K hK=>by
  refine wpIn_skip ?_
  simpa [Exit.then] using hK) hbody hdone hstop
theorem range_two {P:Program} (m:Nat) {g:Operand} {p q:Nat} {assign body:Code} {Q:Exit->Act->World->Prop} {a:Act} {w:World}
 {gf:Nat} {lb:Array Value} (hg:a.eval g=.func (.func gf) #[] lb) (eg:∀ args w,(callFunc gf args).run P w=.ok (.enter gf args) w)
 {Base:World->Prop} {ways:List (List Int)} (hseq:SeqC P gf lb Base ways)
 (I:List (List Int)->World->Prop) (Ix:Code->World->Prop) (hIb:∀ pre X,I pre X->Base X)
 (hI:∀ pre X Y,I pre X->Below w.heap.size X Y->I pre Y) (hIx:∀ c X Y,Ix c X->Below w.heap.size X Y->Ix c Y) (h0:I [] w)
 (hassign:∀ (l:Nat) (v:Value) (W:World) (K:Act->World->Prop),K { tmps:=(a.tmps.setIfInBounds p v).setIfInBounds q v,defers:=[] } W->
   assign.wpIn (Fence.wide.inRound l) m P (Exit.then K (fun _ _ _=>False)) { tmps:=a.tmps.setIfInBounds p v,defers:=[] } W)
 (hbody:∀ (l:Nat) (pre:List (List Int)) (x:List Int) (X:World) (b n c:Nat),I pre X->x∈ways->w.heap.size<=b->Rd X X.heap.size (some ⟨b,0,none⟩) n x->
   body.wpIn (Fence.wide.inRound l) m P (midPost w.heap.size I Ix (pre++[x]) X) { tmps:=(a.tmps.setIfInBounds p (.slice (some ⟨b,0,none⟩) n c)).setIfInBounds q (.slice (some ⟨b,0,none⟩) n c),defers:=[] } X)
 (hdone:∀ (D:Nat) (W:World),w.heap.size<=D->I ways W->W.heap[D]? =some (.deferred (some []))->Q .normal { a with defers:={ target:=.collected D,args:= #[] }::a.defers } W)
 (hstop:∀ (D:Nat) (c:Code) (W:World),w.heap.size<=D->Ix c W->W.heap[D]? =some (.deferred (some []))->c.wpIn Fence.wide m P Q { a with defers:={ target:=.collected D,args:= #[] }::a.defers } W):
 (Code.rangeFunc g #[p] assign body).wpIn Fence.wide m P Q a w:=
 range_own m hg eg rfl hseq I Ix hIb hI hIx h0 (fun v=>{ tmps:=(a.tmps.setIfInBounds p v).setIfInBounds q v,defers:=[] }) (fun l v W K hK=>by
  simpa using hassign l v W K hK) hbody hdone hstop
end Go.Proofs.YtlnmioijgclndaaGreatDoor
namespace Go.Proofs.YtlnmioijgclndaaGreatDoor
open Go.ChangeShapes Go.WideShapes Go.ChangeAt Go.RowKit Go.Shelf
attribute [local go_sem] Oper.semAt_some
theorem ways_small {k v:Int} {ms:List Int} {n:Nat} {x:List Int} (h:x∈waysN k v ms n):x.length=n/\small4 x n:=by
 have hy:=(List.mem_filter.1 h).1;have h1:=allW_len hy
 simp at h1
 refine ⟨h1,fun i hi=>?_⟩;have:=allW_small (vs:=[]) (by intro i hi;simp at hi) hy i (by simpa using hi);omega
attribute [local go_sem] Oper.semAt_some
set_option maxHeartbeats 1000000 in
theorem possible_any (A:Option Addr) (c nc:Nat) (k v:Int) (Av:Option Addr) (cv n B:Nat) (vs:List Int) (s:Nat) (w:World) (hv:Rd w B Av n vs) (hB:B<=w.heap.size) (n1:1<=n) (n4:n<=4) (hs:s∈[2,3,4]) (hsm:∀ i,i<n->0<=nth vs i/\nth vs i<=4)
 (hk:k=1\/k=2\/k=3\/k=4\/k=5) (h2:k=1\/k=2\/k=3\/2<=n):
 Calls Tryz.prog 188 #[.agg #[.int .i64 k,.slice A nc c,.int .i64 v],.slice Av n cv,.int .i64 s] w fun e w'=>e=.returned (.bool (!((allW (emL vs s) n []).filter (holdsB k v)).isEmpty))/\Below w.heap.size w w':=by
 have hlen:=hv.1
 have hpm:∀ i,i<n->nth (emL vs s) i=((emN vs s i:Nat):Int):=fun i hi=>by
  unfold emL;rw [mapTo_nth (by omega)]
  simp [emG]
 have hms:∀ i,i<n->0<=nth (emL vs s) i/\nth (emL vs s) i<32:=fun i hi=>by
  have:=emN_lt (j:=i) hs (hsm i hi).1 (hsm i hi).2;rw [hpm i hi];omega
 obtain ⟨W1,hW1⟩:∃ W1,w.alloc (.cells #[.int .i64 k,.slice A nc c,.int .i64 v] 84)=W1:=⟨_,rfl⟩;have hx1:=rbox_new w k A nc c v 84;rw [hW1] at hx1
 have hb1:Below w.heap.size w W1:=by rw [<- hW1];exact (Below.refl _ _).alloc (Nat.le_refl _) _
 have hs1:W1.heap.size=w.heap.size+1:=by rw [<- hW1];simp
 obtain ⟨W2,hW2⟩:∃ W2,W1.alloc (.cells #[.bool false] 4)=W2:=⟨_,rfl⟩
 have hb2:Below W1.heap.size W1 W2:=by rw [<- hW2];exact (Below.refl _ _).alloc (Nat.le_refl _) _
 have hs2:W2.heap.size=w.heap.size+1+1:=by rw [<- hW2];simp [hs1]
 have hx2:=hx1.below (by omega) hb2
 have hc2:W2.heap[w.heap.size+1]? =some (.cells #[.bool false] 4):=by rw [<- hW2,<-hs1];exact heap_alloc_new _ _
 have hbW2:Below w.heap.size w W2:=hb1.trans (hb2.mono (by omega));have HB2:=Lib.hid hbW2;have HX2:=Lib.hid hx2;have HC2:=Lib.hid hc2;have HOM:=Lib.hid (fun (w':World) (hb:Below w.heap.size w w')=>openMasks_any Av cv n B vs s w' (hv.below (hb.mono hB)) (Nat.le_trans hB hb.size) (by omega) hs hsm);have Hel:=Lib.hid (emL_len_ (s:=s) hlen);have HV:=Lib.hid (fun (w':World) (hb:Below w.heap.size w w')=>hv.below (hb.mono hB));have HPM:=Lib.hid hpm;have HMS:=Lib.hid hms;have HLEN:=Lib.hid hlen;have HSM:=Lib.hid hsm;have HS2:=Lib.hid hs2;clear hbW2 hx2 hc2 hx1 hb1 hb2 hpm hms hlen hsm
 refine (callsIn_wide (n:=9)).1 ?_;refine callsIn_of_wp_marks Tryz.func188 rfl trivial ?_ rfl;simp only [Tryz.ntmps188,List.size_toArray,List.length_cons,List.length_nil,Nat.reduceAdd,Nat.reduceSub,Array.replicate_succ,Array.replicate_zero,List.push_toArray,List.append_toArray,List.nil_append,List.cons_append]
 have hmx:Tryz.prog.follows .mixedOrders=true:=by kernel_rfl
 obtain ⟨x0,x1,x2⟩:=id HX2.out
 gi_wp2
 first|(gi_region_with_o (first
  |((try refine ⟨trivial,?_⟩);gi_at_call 63;refine (callsIn_wide.2 (HOM.out _ (by first|exact HB2.out|exact HB2.out.drew))).mono ?_;rintro e w3 ⟨A3,c3,rfl,ho3,hb3⟩;rw [Hel.out] at ho3 ⊢;have hb3':Below W2.heap.size W2 w3:=(by first|exact hb3|exact ((Below.refl _ _).drew).trans hb3);obtain ⟨y0,y1,y2⟩:=HX2.out.below (by rw [HS2.out];omega) hb3')
  |((try refine ⟨trivial,?_⟩);gi_at_call 152;refine (callsIn_wide.2 (waysToHold_any A c nc k v A3 n c3 _ hk)).mono ?_;rintro e w5 ⟨MB,RB,rfl,hmb,hrb,hb5⟩)))|fail
 all_goals
  gi_wp2
  have hbw:Below w.heap.size w w3:=step HB2.out hb3'
  have hl5:w.heap.size+1<w5.heap.size:=by have:=hb5.size;have:=hb3'.size;omega
  have hrow5:w5.heap[w.heap.size+1]? =some (.cells #[.bool false] 4):=(hb5.block _ (by have:=hb3'.size;omega)).trans ((hb3'.block _ (by omega)).trans HC2.out);have hbase:WBase MB RB w5.heap.size k A nc c v A3 n c3 (emL vs s) w5:=⟨hmb,hrb,?mask,Nat.le_refl _⟩
  case mask=>
   have h5:=(ho3.below hb5).rd
   exact ⟨emL_len_ HLEN.out,fun hn=>by
    obtain ⟨b,off,e,hl,hc⟩:=h5.2 hn
    exact ⟨b,off,e,cell_lt (hc 0 hn),hc⟩⟩
  have hMB:=cell_lt hmb;have hRB:=cell_lt hrb;have HBW:=Lib.hid (hbw.trans (hb5.mono (by have:=hbw.size;omega)))
  refine range_skip 9 (by rfl) (enters_of Tryz.func167 (by kernel_rfl) rfl) (ways_seq MB RB w5.heap.size k A nc c v A3 n c3 (emL vs s) n1 n4 HMS.out hk h2)
   (fun pre X=>pre=[]/\WBase MB RB w5.heap.size k A nc c v A3 n c3 (emL vs s) X/\X.heap[w.heap.size+1]? =some (.cells #[.bool false] 4)/\Below w.heap.size w X)
   (fun cc X=>cc=.ret/\((allW (emL vs s) n []).filter (holdsB k v)).isEmpty=false/\X.heap[w.heap.size+1]? =some (.cells #[.bool true] 4)/\Below w.heap.size w X)
   (fun pre X h=>h.2.1)
   (fun pre X Y h hb=>⟨h.1,h.2.1.below hb (by omega) (by omega) (by omega),(hb.block _ hl5).trans h.2.2.1,h.2.2.2.trans (hb.mono (by omega))⟩)
   (fun cc X Y h hb=>⟨h.1,h.2.1,(hb.block _ hl5).trans h.2.2.1,h.2.2.2.trans (hb.mono (by omega))⟩)
   ⟨rfl,hbase,hrow5,HBW.out⟩ ?body ?done ?stop
  case body=>
   rintro l pre x X b n' c' ⟨rfl,hbX,hrX,hBX⟩ hx hbb hrd
   have hne:((allW (emL vs s) n []).filter (holdsB k v)).isEmpty=false:=by
    cases e:(allW (emL vs s) n []).filter (holdsB k v)
    ·rw [e] at hx;cases hx
    ·rfl
   clear hx;simp only [List.setIfInBounds_toArray,List.set_cons_zero,List.set_cons_succ];have hcX:=cell_of_row _ _ 0 _ _ (0,0) hrX;have hfX:=frozen_of_row _ _ 0 _ _ hrX
   gi_wp2
   exact ⟨Mid.setCell _ _ _ _ _ hl5,rfl,heap_setCell_same X (w.heap.size+1) 0 _ _ (.bool true) hrX,hBX.setCell (p:=⟨w.heap.size+1,0,none⟩) (by show w.heap.size<=w.heap.size+1;omega) _⟩
  case done=>
   rintro D W hD ⟨he,hbX,hrX,hBX⟩ hK;have hcX:=cell_of_row _ _ 0 _ _ (0,0) hrX;have hfX:=frozen_of_row _ _ 0 _ _ hrX
   gi_wp2
   have hK2:(W.setCell ⟨w.heap.size+1,0,none⟩ (.bool false)).heap[D]? =some (.deferred (some [])):=(heap_setCell_other W ⟨w.heap.size+1,0,none⟩ D _ (fun e=>by dsimp only at e;omega)).trans hK;refine ⟨by simp,.inl ⟨_,_,rfl,run_takeDeferred hK2,?_⟩⟩;have hrow6:=(World.putObj_heap_other (o:=.deferred none) (by omega:w.heap.size+1≠D)).trans (heap_setCell_same W (w.heap.size+1) 0 _ _ (.bool false) hrX);have hc6:=cell_of_row _ _ 0 _ _ (0,0) hrow6;refine ⟨.bool false,?_,rfl,(hBX.setCell (p:=⟨w.heap.size+1,0,none⟩) (by show w.heap.size<=w.heap.size+1;omega) _).trans (below_put _ (by omega) hK2)⟩
   simp at hc6
   simp [results,Tryz.f188,go_sem,hc6]
  case stop=>
   rintro D cc W hD ⟨rfl,hne,hrX,hBX⟩ hK
   gi_wp2
   refine ⟨by simp,.inl ⟨_,_,rfl,run_takeDeferred hK,?_⟩⟩;have hrow6:=(World.putObj_heap_other (o:=.deferred none) (by omega:w.heap.size+1≠D)).trans hrX;have hc6:=cell_of_row _ _ 0 _ _ (0,0) hrow6;refine ⟨.bool true,?_,rfl,hBX.trans (below_put _ (by omega) hK)⟩
   simp at hc6
   simp [results,Tryz.f188,go_sem,hc6]
attribute [local go_sem] Oper.semAt_some
def tcells (F:Nat->Nat) (A:Option Addr) (n c:Nat):Array Value:= #[.slice A n c,.int .u64 (F 0),.int .u64 (F 1),.int .u64 (F 2),.int .u64 (F 3),.int .u64 (F 4),.int .u64 (F 5),.int .u64 (F 6),.int .u64 (F 7),.int .u64 (F 8),.int .u64 (F 9),.int .u64 (F 10),.int .u64 (F 11),.int .u64 (F 12),.int .u64 (F 13),.int .u64 (F 14),.int .u64 (F 15),.int .u64 (F 16),.int .u64 (F 17),.int .u64 (F 18),.int .u64 (F 19)]
theorem tcell_at (F:Nat->Nat) (A:Option Addr) (n c:Nat) {i:Nat} (hi:i<20):(tcells F A n c)[1+i]? =some (.int .u64 (F i)):=by
 have:i=0\/i=1\/i=2\/i=3\/i=4\/i=5\/i=6\/i=7\/i=8\/i=9\/i=10\/i=11\/i=12\/i=13\/i=14\/i=15\/i=16\/i=17\/i=18\/i=19:=by omega
 rcases this with rfl|rfl|rfl|rfl|rfl|rfl|rfl|rfl|rfl|rfl|rfl|rfl|rfl|rfl|rfl|rfl|rfl|rfl|rfl|rfl<;>rfl
def tput (F:Nat->Nat) (i x:Nat):Nat->Nat:=fun j=>if j=i then x else F j
theorem tcells_set (F:Nat->Nat) (A:Option Addr) (n c:Nat) {i:Nat} (hi:i<20) (x:Nat):(tcells F A n c).setIfInBounds (1+i) (.int .u64 (x:Nat))=tcells (tput F i x) A n c:=by
 have:i=0\/i=1\/i=2\/i=3\/i=4\/i=5\/i=6\/i=7\/i=8\/i=9\/i=10\/i=11\/i=12\/i=13\/i=14\/i=15\/i=16\/i=17\/i=18\/i=19:=by omega
 rcases this with rfl|rfl|rfl|rfl|rfl|rfl|rfl|rfl|rfl|rfl|rfl|rfl|rfl|rfl|rfl|rfl|rfl|rfl|rfl|rfl<;>rfl
def TBox (w:World) (g:Nat) (F:Nat->Nat) (A:Option Addr) (n c:Nat):Prop:=w.heap[g]? =some (.cells (tcells F A n c) 131)
theorem TBox.lt {w:World} {g:Nat} {F:Nat->Nat} {A:Option Addr} {n c:Nat} (h:TBox w g F A n c):g<w.heap.size:=(Array.getElem?_eq_some_iff.1 h).1
theorem TBox.cell {w:World} {g:Nat} {F:Nat->Nat} {A:Option Addr} {n c:Nat} (h:TBox w g F A n c) {i:Nat} (hi:i<20):w.cell? ⟨g,1+i,none⟩=some (.int .u64 (F i)):=
 (cell_of_row _ _ (1+i) _ _ (0,0) h).trans (tcell_at F A n c hi)
theorem TBox.cell0 {w:World} {g:Nat} {F:Nat->Nat} {A:Option Addr} {n c:Nat} (h:TBox w g F A n c):w.cell? ⟨g,0,none⟩=some (.slice A n c):=
 (cell_of_row _ _ 0 _ _ (0,0) h).trans rfl
theorem TBox.frozen {w:World} {g:Nat} {F:Nat->Nat} {A:Option Addr} {n c:Nat} (h:TBox w g F A n c) (l:Nat):w.frozen? ⟨g,l,none⟩=false:=by
 unfold World.frozen?;rw [show w.heap[g]? =_ from h]
 simp
theorem TBox.set {w:World} {g:Nat} {F:Nat->Nat} {A:Option Addr} {n c:Nat} (h:TBox w g F A n c) {i:Nat} (hi:i<20) (x:Nat):TBox (w.setCell ⟨g,1+i,none⟩ (.int .u64 (x:Nat))) g (tput F i x) A n c:=by
 unfold TBox;rw [heap_setCell_same w g (1+i) _ _ _ h,<-tcells_set F A n c hi x]
theorem TBox.kept {w w':World} {g:Nat} {F:Nat->Nat} {A:Option Addr} {n c:Nat} (h:TBox w g F A n c) (e:w'.heap[g]? =w.heap[g]?):TBox w' g F A n c:=e.trans h
def wsM (L:List (List Int)) (j u:Nat):Nat:=wsT L j u (min L.length 64)
def wyV (m:Nat):Nat:=if m<64 then 2^m else 0
theorem wsM_lt (L:List (List Int)) (j u:Nat):wsM L j u<2^64:=Nat.lt_of_lt_of_le (wsT_lt _) (Nat.pow_le_pow_right (by omega) (by omega))
theorem wsM_is {L:List (List Int)} (h:L.length<=64) (j u:Nat):wsM L j u=wsP L j u:=by
 unfold wsM wsP;rw [Nat.min_eq_left h]
theorem wsM_push (L:List (List Int)) (x:List Int) (j u:Nat):wsM (L++[x]) j u=wsM L j u|||(if (nth x j).toNat=u then wyV L.length else 0):=by
 unfold wsM wyV;rw [List.length_append,List.length_singleton]
 by_cases h:L.length<64
 ·rw [if_pos h,Nat.min_eq_left (show L.length+1<=64 by omega),Nat.min_eq_left (show L.length<=64 by omega)];simp only [wsT];rw [wsT_app _ (Nat.le_refl _),show (L++[x]).getD L.length []=x by simp [List.getD_eq_getElem?_getD]]
 ·rw [if_neg h,Nat.min_eq_right (show 64<=L.length+1 by omega),Nat.min_eq_right (show 64<=L.length by omega),wsT_app _ (show 64<=L.length by omega)]
  split<;>rw [Nat.or_zero]
theorem wyV_lt (m:Nat):wyV m<2^64:=by
 unfold wyV
 split
 ·exact Nat.pow_lt_pow_right (by omega) (by assumption)
 ·exact Nat.two_pow_pos _
theorem wyV_next (m:Nat):IntKind.u64.wrap (((wyV m:Nat):Int)*2)=((wyV (m+1):Nat):Int):=by
 rw [IntKind.wrap_u64];unfold wyV
 by_cases h:m<63
 ·rw [if_pos (by omega),if_pos (by omega),Nat.pow_succ];have:2^m<2^63:=Nat.pow_lt_pow_right (by omega) h
  generalize 2^m=p at*
  omega
 ·by_cases h2:m=63
  ·subst h2;decide
  ·rw [if_neg (by omega),if_neg (by omega)];rfl
def tG (L:List (List Int)) (x:List Int) (n t:Nat):Nat->Nat:=fun i=>if i/5<t then wsM (L++[x]) (i/5) (i%5) else if i/5<n then wsM L (i/5) (i%5) else 0
def tF (L:List (List Int)) (n:Nat):Nat->Nat:=fun i=>if i/5<n then wsM L (i/5) (i%5) else 0
theorem tG_zero (L:List (List Int)) (x:List Int) (n:Nat):tG L x n 0=tF L n:=by
 funext i
 unfold tG tF;rw [if_neg (by omega)]
theorem tG_all (L:List (List Int)) (x:List Int) (n:Nat):tG L x n n=tF (L++[x]) n:=by
 funext i
 unfold tG tF
 by_cases h:i/5<n
 ·rw [if_pos h,if_pos h]
 ·rw [if_neg h,if_neg h,if_neg h]
theorem tF_nil (n:Nat):tF [] n=fun _=>0:=by
 funext i
 unfold tF
 split<;>rfl
theorem tG_lt (L:List (List Int)) (x:List Int) (n t i:Nat):tG L x n t i<2^64:=by
 unfold tG
 split
 ·exact wsM_lt _ _ _
 ·split
  ·exact wsM_lt _ _ _
  ·exact Nat.two_pow_pos _
theorem tF_lt (L:List (List Int)) (n i:Nat):tF L n i<2^64:=by
 rw [<- tG_zero L []];exact tG_lt _ _ _ _ _
theorem tG_step (L:List (List Int)) (x:List Int) {n t z:Nat} (ht:t<n) (hz:z<5) (hx:(nth x t).toNat=z):tput (tG L x n t) (t*5+z) (tG L x n t (t*5+z)|||wyV L.length)=tG L x n (t+1):=by
 funext i
 unfold tput
 have e1:(t*5+z)/5=t:=by omega
 have e2:(t*5+z)%5=z:=by omega
 by_cases e:i=t*5+z
 ·subst e;rw [if_pos rfl];unfold tG;rw [e1,e2,if_neg (Nat.lt_irrefl t),if_pos ht,if_pos (Nat.lt_succ_self t),wsM_push,if_pos hx]
 ·rw [if_neg e];unfold tG
  by_cases h1:i/5<t
  ·rw [if_pos h1,if_pos (by omega)]
  ·rw [if_neg h1]
   by_cases h2:i/5<t+1
   ·have h3:i/5=t:=(by omega);rw [if_pos (by omega),if_pos h2,wsM_push,h3,if_neg (by omega),Nat.or_zero]
   ·rw [if_neg h2]
theorem tF_at {L:List (List Int)} {n j u:Nat} (hL:L.length<=64) (hj:j<n) (hu:u<5):tF L n (j*5+u)=wsP L j u:=by
 unfold tF;rw [show (j*5+u)/5=j by omega,show (j*5+u)%5=u by omega,if_pos hj,wsM_is hL]
theorem opN_lt {s n:Nat} (hs:s∈[2,3,4]):∀ i,i<n->0<=nth (opN n s) i/\nth (opN n s) i<32:=fun i hi=>by
 unfold opN;rw [emL_at (n:=n) (by simp [zeros]) hi];have:=emN_lt (vs:=zeros n) (j:=i) hs (by rw [zeros_nth];omega) (by rw [zeros_nth];omega);omega
theorem opN_len (n s:Nat):(opN n s).length=n:=by unfold opN;exact emL_len_ (by simp [zeros])
end Go.Proofs.YtlnmioijgclndaaGreatDoor
namespace Go.Proofs.YtlnmioijgclndaaGreatDoor
open Go.ChangeShapes Go.WideShapes Go.ChangeAt Go.RowKit
def turnIx (size:Int) (k:Nat):Nat:=((size-1-(k:Int)%size)*size+(k:Int)/size).toNat
def turnG (xs:List Int) (size:Int) (k:Nat):Int:=nth xs (turnIx size k)
def turnL (xs:List Int) (size:Int):List Int:=if gv xs size=true then mapTo (turnG xs size) xs.length else []
def mirIx (size:Int) (k:Nat):Nat:=((k:Int)/size*size+size-1-(k:Int)%size).toNat
def mirG (xs:List Int) (size:Int) (k:Nat):Int:=nth xs (mirIx size k)
def mirL (xs:List Int) (size:Int):List Int:=if gv xs size=true then mapTo (mirG xs size) xs.length else []
def pm (xs:List Int) (P:Nat->Nat) (n:Nat):List Int:=mapTo (fun k=>nth xs (P k)) n
theorem size_nat {xs:List Int} {size:Int} (hg:gv xs size=true):∃ s:Nat,size=s/\s∈[2,3,4]/\xs.length=s*s:=by
 obtain ⟨h2,h4⟩:=gv_size hg;obtain ⟨s,rfl⟩:=Int.eq_ofNat_of_zero_le (by omega:0<=size);refine ⟨s,rfl,by simp;omega,?_⟩;have:=gv_len hg;rw [<- Int.natCast_mul] at this;omega
structure TurnFacts (xs:List Int) (size:Int) (n:Nat):Prop where
 len:(turnL xs size).length=n
 valid:gv (turnL xs size) size=true
 four:turnL (turnL (turnL (turnL xs size) size) size) size=xs
 filled:gf (turnL xs size) size=gf xs size
 edge:∀ k:Nat,(k:Int)<size->nth (turnL xs size) ((k:Int)*size+size-1).toNat=nth xs k
structure MirFacts (xs:List Int) (size:Int) (n:Nat):Prop where
 len:(mirL xs size).length=n
 valid:gv (mirL xs size) size=true
 two:mirL (mirL xs size) size=xs
 turned:turnL (mirL xs size) size=mirL (turnL (turnL (turnL xs size) size) size) size
theorem hasTo_iff {f:Nat->Int} {k:Nat} {v:Int}:hasTo f k v=true↔∃ i,i<k/\f i=v:=by
 simp [hasTo]
theorem dupTo_iff {f:Nat->Int} {n:Nat}:dupTo f n=true↔∃ i j,i<j/\j<n/\f i=f j/\0<f j:=by
 induction n with
 |zero=>simp [dupTo]
 |succ n ih=>
  rw [dupTo,Bool.or_eq_true,ih,Bool.and_eq_true,hasTo_iff,decide_eq_true_eq]
  constructor
  ·rintro (⟨i,j,h1,h2,h3⟩|⟨h0,i,hi,he⟩)
   ·exact ⟨i,j,h1,by omega,h3⟩
   ·exact ⟨i,n,hi,by omega,he,h0⟩
  ·rintro ⟨i,j,h1,h2,h3,h4⟩
   by_cases e:j=n
   ·subst e;exact .inr ⟨h4,i,h1,h3⟩
   ·exact .inl ⟨i,j,h1,by omega,h3,h4⟩
theorem clashTo_iff {xs:List Int} {size:Int} {n:Nat}:clashTo xs size n=true↔∃ l,l<n/\dupTo (lineV xs size (l:Nat)) size.toNat=true:=by
 induction n with
 |zero=>simp [clashTo]
 |succ n ih=>
  rw [clashTo,Bool.or_eq_true,ih]
  constructor
  ·rintro (⟨l,h1,h2⟩|h)
   ·exact ⟨l,by omega,h2⟩
   ·exact ⟨n,by omega,h⟩
  ·rintro ⟨l,h1,h2⟩
   by_cases e:l=n
   ·subst e;exact .inr h2
   ·exact .inl ⟨l,by omega,h2⟩
def adj (s i j:Nat):Bool:=i != j&&(i/s==j/s||i%s==j%s)
def adjLine (s i j:Nat):Bool:=(List.range (2*s)).any fun l=>(List.range s).any fun a=>(List.range s).any fun b=>a != b&&((lineAt (s:Nat) (l:Nat) a).toNat==i&&(lineAt (s:Nat) (l:Nat) b).toNat==j)
theorem adj_line0:∀ s∈[2,3,4],∀ i,i<s*s->∀ j,j<s*s->adj s i j=true->adjLine s i j=true:=by decide +kernel
theorem adj_line (s:Nat) (hs:s∈[2,3,4]) (i:Nat) (hi:i<s*s) (j:Nat) (hj:j<s*s) (h:adj s i j=true):∃ l,l<2*s/\∃ a,a<s/\∃ b,b<s/\a≠b/\(lineAt (s:Nat) (l:Nat) a).toNat=i/\(lineAt (s:Nat) (l:Nat) b).toNat=j:=by
 have:=adj_line0 s hs i hi j hj h;simp only [adjLine,List.any_eq_true,List.mem_range,Bool.and_eq_true,bne_iff_ne,beq_iff_eq] at this;obtain ⟨l,hl,a,ha,b,hb,hab,e1,e2⟩:=this;exact ⟨l,hl,a,ha,b,hb,hab,e1,e2⟩
def lineAdj (s l a b:Nat):Bool:=a==b||(adj s (lineAt (s:Nat) (l:Nat) a).toNat (lineAt (s:Nat) (l:Nat) b).toNat&&(Nat.blt (lineAt (s:Nat) (l:Nat) a).toNat (s*s)&&Nat.blt (lineAt (s:Nat) (l:Nat) b).toNat (s*s)))
theorem line_adj0:∀ s∈[2,3,4],∀ l,l<2*s->∀ a,a<s->∀ b,b<s->lineAdj s l a b=true:=by decide +kernel
theorem line_adj (s:Nat) (hs:s∈[2,3,4]) (l:Nat) (hl:l<2*s) (a:Nat) (ha:a<s) (b:Nat) (hb:b<s) (hab:a≠b):adj s (lineAt (s:Nat) (l:Nat) a).toNat (lineAt (s:Nat) (l:Nat) b).toNat=true/\(lineAt (s:Nat) (l:Nat) a).toNat<s*s/\(lineAt (s:Nat) (l:Nat) b).toNat<s*s:=by
 have:=line_adj0 s hs l hl a ha b hb;simp only [lineAdj,Bool.or_eq_true,beq_iff_eq,Bool.and_eq_true,Nat.blt_eq] at this
 rcases this with h|h
 ·exact absurd h hab
 ·exact h
theorem clash_iff {xs:List Int} {s:Nat} (hs:s∈[2,3,4]):clash xs s=true↔∃ i j,i<s*s/\j<s*s/\adj s i j=true/\nth xs i=nth xs j/\0<nth xs j:=by
 have e2:(2*(s:Int)).toNat=2*s:=by omega
 rw [clash,clashTo_iff,e2]
 constructor
 ·rintro ⟨l,hl,h⟩;rw [dupTo_iff,Int.toNat_natCast] at h;obtain ⟨a,b,h1,h2,h3,h4⟩:=h;obtain ⟨p,q,r⟩:=line_adj s hs l hl a (by omega) b h2 (by omega);exact ⟨_,_,q,r,p,h3,h4⟩
 ·rintro ⟨i,j,hi,hj,ha,he,hp⟩;obtain ⟨l,hl,a,ha',b,hb,hab,ei,ej⟩:=adj_line s hs i hi j hj ha;refine ⟨l,hl,?_⟩;rw [dupTo_iff,Int.toNat_natCast]
  rcases Nat.lt_or_ge a b with h|h
  ·exact ⟨a,b,h,hb,by unfold lineV;rw [ei,ej];exact he,by unfold lineV;rw [ej];exact hp⟩
  ·exact ⟨b,a,by omega,ha',by unfold lineV;rw [ei,ej];exact he.symm,by unfold lineV;rw [ei,he];exact hp⟩
theorem wpList_load_row_w {P:Program} {ops:Array Oper} {rest:List Oper} {o:Oper} {a:Act} {w:World} {Q:Exit->Act->World->Prop} (hw:Region.wanted o (yielded ops a.tmps)=true) (ty:TypeId) (x:Operand) (ho:o.op=.load ty x)
 (g:Nat) (hx:a.eval x=.pointer (some ⟨g,0,none⟩)) (t:TypeId) (cs:Array Value) (fr:Nat×Nat) (d:TypeDesc) (hg:w.heap[g]? =some (.cells cs t fr))
 (hu:P.underlying ty=some d) (hd:(match d with|.struct _|.array _ _=>true|_=>false)=true) (hi:(P.info? ty).map (·.size)=some cs.size)
 (h:wpList P ops Q rest (a.put o.dst (.agg cs)) w):wpList P ops Q (o::rest) a w:=
 wpList_step fun K hK=>by simp only [hw,if_true];exact wp_load_row ty x ho g hx t cs fr d hg hu hd hi (hK _ _ h)
def mcells (M:Nat->Nat) (s:Int):Array Value:= #[.int .i64 (M 0),.int .i64 (M 1),.int .i64 (M 2),.int .i64 (M 3),.int .i64 (M 4),.int .i64 (M 5),.int .i64 (M 6),.int .i64 (M 7),.int .i64 s]
theorem mcells_size (M:Nat->Nat) (s:Int):(mcells M s).size=9:=rfl
theorem mcell_at (M:Nat->Nat) (s:Int) {l:Nat} (hl:l<8):(mcells M s)[l]? =some (.int .i64 (M l)):=by
 have:l=0\/l=1\/l=2\/l=3\/l=4\/l=5\/l=6\/l=7:=by omega
 rcases this with rfl|rfl|rfl|rfl|rfl|rfl|rfl|rfl<;>rfl
theorem mbox_cell (M:Nat->Nat) (s:Int) (w:World) {l:Nat} (hl:l<8):(w.alloc (.cells (mcells M s) 195)).cell? ⟨w.heap.size,l,none⟩=some (.int .i64 (M l)):=
 (cell_of_row _ _ l _ _ (0,0) (heap_alloc_new w _)).trans (mcell_at M s hl)
theorem linesThrough_any (s cell:Int) (w:World) (h2:2<=s) (h4:s<=4) (c0:0<=cell) (c1:cell<16):
 Calls Tryz.prog 165 #[.int .i64 s,.int .i64 cell] w fun e w'=>e=.returned (.tuple #[.int .i64 (cell/s),.int .i64 (s+cell%s)])/\Below w.heap.size w w':=by
 have q0:0<=cell/s:=Int.ediv_nonneg c0 (by omega);have q1:cell/s<=cell:=Int.ediv_le_self _ c0;have r0:0<=cell%s:=Int.emod_nonneg _ (by omega);have r1:cell%s<s:=Int.emod_lt_of_pos _ (by omega);have e1:cell.tmod s=cell%s:=Int.tmod_eq_emod_of_nonneg c0;have e2:cell.tdiv s=cell/s:=Int.tdiv_eq_ediv_of_nonneg c0;have e3:IntKind.i64.wrap (cell/s)=cell/s:=IntWalk.i64_in _ (by omega);have e4:IntKind.i64.wrap (s+cell%s)=s+cell%s:=IntWalk.i64_in _ (by omega)
 have hz:(s==0)=false:=by simp;omega
 go_enter Tryz.func165,Tryz.ntmps165
 go_wp2
 go_quiet (fail)
 go_wp2
 go_ret2
 exact ⟨rfl,below_drewN (Below.refl _ _) _⟩
theorem or_pow (a v:Nat) (ha:a<32) (hv:v<=4):bits .or .i64 (a:Int) (wrap64 (2^v))=((a|||2^v:Nat):Int):=by
 have hlt:2^v<2^5:=Nat.pow_lt_pow_right (by omega) (by omega);rw [pow_int]
 generalize 2^v=p at*
 rw [IntWalk.wrap64_in _ ⟨by omega,by omega⟩,i64_or_nat _ _ (by omega) (by omega)]
theorem or_lt (a v:Nat) (ha:a<32) (hv:v<=4):a|||2^v<32:=
 Nat.or_lt_two_pow (n:=5) ha (Nat.pow_lt_pow_right (by omega) (by omega))
theorem has_any (M:Nat->Nat) (s:Int) (l v:Nat) (w:World) (hl:l<8) (v4:v<=4) (hm:M l<32):
 Calls Tryz.prog 196 #[.agg (mcells M s),.int .i64 l,.int .i64 v] w fun e w'=>e=.returned (.bool ((M l).testBit v))/\Below w.heap.size w w':=by
 have hc:=mbox_cell M s w hl
 have hl8:(l:Int)<8:=by omega
 have ha:=Lib.hid (and_pow (M l) v hm v4)
 go_enter Tryz.func196,Tryz.ntmps196
 go_wp2
 go_quiet (fail)
 go_wp2
 go_ret
 exact ⟨by rw [<- ha.out];rfl,below_drewN ((Below.refl _ _).alloc (Nat.le_refl _) _) _⟩
def mput (M:Nat->Nat) (l v:Nat):Nat->Nat:=fun j=>if j=l then M j|||2^v else M j
theorem mput_lt {M:Nat->Nat} {l v:Nat} (hm:∀ l,l<8->M l<32) (hv:v<=4):∀ j,j<8->mput M l v j<32:=fun j hj=>by
 unfold mput
 split
 ·exact or_lt _ _ (hm j hj) hv
 ·exact hm j hj
theorem mcells_set (M:Nat->Nat) (s:Int) {l v:Nat} (hl:l<8):(mcells M s).setIfInBounds l (.int .i64 ((M l|||2^v:Nat):Int))=mcells (mput M l v) s:=by
 have:l=0\/l=1\/l=2\/l=3\/l=4\/l=5\/l=6\/l=7:=by omega
 rcases this with rfl|rfl|rfl|rfl|rfl|rfl|rfl|rfl<;>rfl
def MBox (w:World) (g:Nat) (M:Nat->Nat) (s:Int):Prop:=w.heap[g]? =some (.cells (mcells M s) 195)
theorem MBox.cell {w:World} {g:Nat} {M:Nat->Nat} {s:Int} (h:MBox w g M s) {l:Nat} (hl:l<8):w.cell? ⟨g,l,none⟩=some (.int .i64 (M l)):=
 (cell_of_row _ _ l _ _ (0,0) h).trans (mcell_at M s hl)
theorem MBox.size_ {w:World} {g:Nat} {M:Nat->Nat} {s:Int} (h:MBox w g M s):w.cell? ⟨g,8,none⟩=some (.int .i64 s):=
 (cell_of_row _ _ 8 _ _ (0,0) h).trans rfl
theorem MBox.frozen {w:World} {g:Nat} {M:Nat->Nat} {s:Int} (h:MBox w g M s) (l:Nat):w.frozen? ⟨g,l,none⟩=false:=by
 unfold World.frozen?;rw [show w.heap[g]? =_ from h]
 simp
theorem MBox.set {w:World} {g:Nat} {M:Nat->Nat} {s:Int} (h:MBox w g M s) {l v:Nat} (hl:l<8):MBox (w.setCell ⟨g,l,none⟩ (.int .i64 ((M l|||2^v:Nat):Int))) g (mput M l v) s:=by
 unfold MBox;rw [heap_setCell_same w g l _ _ _ h,<-mcells_set M s hl]
theorem MBox.below {w w':World} {g B:Nat} {M:Nat->Nat} {s:Int} (h:MBox w g M s) (hg:g<B) (hb:Below B w w'):MBox w' g M s:=(hb.block g hg).trans h
theorem MBox.other {w:World} {g g' k:Nat} {v:Value} {M:Nat->Nat} {s:Int} (h:MBox w g M s) (hne:g≠g'):MBox (w.setCell ⟨g',k,none⟩ v) g M s:=(heap_setCell_other w _ g v hne).trans h
theorem MBox.stored {w:World} {g:Nat} {M M':Nat->Nat} {s s':Int} (h:MBox w g M s):MBox (w.setRow g (mcells M' s')) g M' s':=setRow_heap w g _ _ _ _ h
theorem setRow_below {B g:Nat} {w w':World} {cs:Array Value} (h:Below B w w') (hg:B<=g):Below B w (w'.setRow g cs):=
 h.trans ⟨rfl,rfl,rfl,by simp,fun k hk=>by unfold World.setRow;simp only [Array.getElem?_modify];rw [if_neg (by omega)]⟩
theorem mone (M:Nat->Nat) (s:Int):(mcells M s).all (·.oneCell')=true:=by simp [mcells,Value.oneCell']
theorem linesThrough_rc (s:Int) (cell r c:Nat) (w:World) (h2:2<=s) (h4:s<=4) (c1:cell<16) (hr:(cell:Int)/s=(r:Int)) (hc:s+(cell:Int)%s=(c:Int)):
 Calls Tryz.prog 165 #[.int .i64 s,.int .i64 cell] w fun e w'=>e=.returned (.tuple #[.int .i64 r,.int .i64 c])/\Below w.heap.size w w':=by
 rw [<- hr,<-hc];exact linesThrough_any s cell w h2 h4 (by omega) (by omega)
theorem with_any (M:Nat->Nat) (s:Int) (cell r c v:Nat) (w:World) (h2:2<=s) (h4:s<=4) (hr:(cell:Int)/s=(r:Int)) (hc:s+(cell:Int)%s=(c:Int)) (r8:r<8) (c8:c<8) (c2:cell<16) (v4:v<=4) (hm:∀ l,l<8->M l<32):
 Calls Tryz.prog 195 #[.agg (mcells M s),.int .i64 cell,.int .i64 v] w fun e w'=>e=.returned (.agg (mcells (mput (mput M r v) c v) s))/\Below w.heap.size w w':=by
 have hg0:∀ o,((w.alloc (.cells (mcells M s) 195)).alloc o).heap[w.heap.size]? =some (.cells (mcells M s) 195):=fun o=>by rw [heap_alloc_old _ _ (by simp)];exact heap_alloc_new w _
 have hz0:∀ u:World,MBox (u.alloc (.cells #[.int .i64 0,.int .i64 0,.int .i64 0,.int .i64 0,.int .i64 0,.int .i64 0,.int .i64 0,.int .i64 0,.int .i64 0] 195)) u.heap.size (fun _=>0) 0:=fun u=>heap_alloc_new u _
 have Hz0:=Lib.hid hz0;clear hz0
 have hi9:(Tryz.prog.info? 195).map (·.size)=some (mcells M s).size:=by rw [mcells_size];kernel_rfl
 have Hg0:=Lib.hid hg0;clear hg0;have Hi9:=Lib.hid hi9;clear hi9;have Hr:=Lib.hid hr;clear hr;have Hc:=Lib.hid hc;clear hc
 go_enter Tryz.func195,Tryz.ntmps195
 have hs8:∀ o,((w.alloc (.cells (mcells M s) 195)).alloc o).cell? ⟨w.heap.size,8,none⟩=some (.int .i64 s):=fun o=>MBox.size_ (Hg0.out o)
 go_wp2_with (go_at_call 165;refine (linesThrough_rc s cell r c _ h2 h4 c2 Hr.out Hc.out).mono ?_;rintro e w1 ⟨rfl,hb1⟩)
 have hx1:MBox w1 w.heap.size M s:=MBox.below (Hg0.out _) (by simp;omega) hb1;have hy1:MBox w1 (w.heap.size+1) (fun _=>0) 0:=MBox.below (by have:=Hz0.out (w.alloc (.cells (mcells M s) 195));rwa [World.size_alloc] at this) (by simp) hb1
 have hsz1:w.heap.size+2<=w1.heap.size:=by have:=hb1.size;simp at this;omega
 have hB1:Below w.heap.size w w1:=(((Below.refl _ _).alloc (Nat.le_refl _) _).alloc (by simp) _).trans (hb1.mono (by simp;omega));have hk1:=hx1.cell r8;have hf1:=hx1.frozen r
 have hr8:(r:Int)<8:=by omega
 have hc8:(c:Int)<8:=by omega
 have ho1:=or_pow (M r) v (hm r r8) v4
 go_region
 go_wp2
 obtain ⟨w2,hw2⟩:∃ w2,w2=(w1.setCell ⟨w.heap.size,r,none⟩ (.int .i64 ((M r|||2^v:Nat):Int))).drew:=⟨_,rfl⟩;rw [<- hw2]
 have hx2:MBox w2 w.heap.size (mput M r v) s:=by rw [hw2];exact hx1.set r8
 have hy2:MBox w2 (w.heap.size+1) (fun _=>0) 0:=by rw [hw2];exact hy1.other (by omega)
 have hsz2:w.heap.size+2<=w2.heap.size:=by rw [hw2];simp;omega
 have hB2:Below w.heap.size w w2:=by rw [hw2];exact below_drewN (hB1.setCell (Nat.le_refl _) _) 1
 clear hw2 hk1 hf1 ho1;have hk2:=hx2.cell c8;have hf2:=hx2.frozen c;have ho2:=or_pow (mput M r v c) v (mput_lt hm v4 c c8) v4;have hx3:=hx2.set (v:=v) c8
 have hsz3:w.heap.size+1<((w2.setCell ⟨w.heap.size,c,none⟩ (.int .i64 ((mput M r v c|||2^v:Nat):Int))).drew).heap.size:=by simp;omega
 have hB3:=below_drewN (Below.setCell (p:=(⟨w.heap.size,c,none⟩:Addr)) hB2 (Nat.le_refl _) (.int .i64 ((mput M r v c|||2^v:Nat):Int))) 1;have Hx3:=Lib.hid hx3;clear hx3;have hy3:=hy2.other (k:=c) (v:=(.int .i64 ((mput M r v c|||2^v:Nat):Int))) (show w.heap.size+1≠w.heap.size by omega);have Hy3:=Lib.hid hy3;clear hy3;have Hi9':Hid ((Tryz.prog.info? 195).map (·.size)=some (mcells (mput (mput M r v) c v) s).size):=Hi9
 go_region
 go_wp2_with (first|(refine wpList_load_row rfl 195 _ rfl w.heap.size rfl 195 (mcells (mput (mput M r v) c v) s) (0,0) _ Hx3.out Tryz.underlying195 rfl Hi9'.out ?_)|(refine wpList_store_row rfl 195 _ _ rfl (w.heap.size+1) (mcells (mput (mput M r v) c v) s) rfl rfl 195 (mcells (fun _=>0) 0) Hy3.out Hi9'.out rfl (mone _ _) ?_))
 refine bodyPost_ret (v:=.agg (mcells (mput (mput M r v) c v) s)) (results_cell_row (by rfl) _ _ (w.heap.size+1) 195 _ (0,0) _ rfl (MBox.stored Hy3.out) Tryz.underlying195 rfl Hi9'.out) rfl ⟨rfl,setRow_below hB3 (by omega)⟩
theorem meets_any (M:Nat->Nat) (s:Int) (cell r c v:Nat) (w:World) (h2:2<=s) (h4:s<=4) (hr:(cell:Int)/s=(r:Int)) (hc:s+(cell:Int)%s=(c:Int)) (r8:r<8) (c8:c<8) (c2:cell<16) (v4:v<=4) (hm:∀ l,l<8->M l<32):
 Calls Tryz.prog 194 #[.agg (mcells M s),.int .i64 cell,.int .i64 v] w fun e w'=>e=.returned (.bool ((M r).testBit v||(M c).testBit v))/\Below w.heap.size w w':=by
 have hi9:(Tryz.prog.info? 195).map (·.size)=some (mcells M s).size:=by rw [mcells_size];kernel_rfl
 have Hi9:=Lib.hid hi9;clear hi9;have Hr:=Lib.hid hr;clear hr;have Hc:=Lib.hid hc;clear hc;have Hm1:=Lib.hid (hm r r8);have Hm2:=Lib.hid (hm c c8);have Hg0:=Lib.hid (heap_alloc_new w (.cells (mcells M s) 195));have hB0:Below w.heap.size w (w.alloc (.cells (mcells M s) 195)):=(Below.refl _ _).alloc (Nat.le_refl _) _;have hs8:=MBox.size_ Hg0.out;cases hbr:(M r).testBit v
 all_goals
  go_enter Tryz.func194,Tryz.ntmps194
  go_wp2_with (first|(refine wpList_load_row rfl 195 _ rfl w.heap.size rfl 195 (mcells M s) (0,0) _ hx1.out Tryz.underlying195 rfl Hi9.out ?_)|(go_at_call 165;refine (linesThrough_rc s cell r c _ h2 h4 c2 Hr.out Hc.out).mono ?_;rintro e w1 ⟨rfl,hb1⟩;have hx1:=Lib.hid (MBox.below Hg0.out (by simp) hb1);have hB1:=step hB0 hb1;clear hb1))
  refine (has_any M s r v _ r8 v4 Hm1.out).mono ?_;rintro e w2 ⟨rfl,hb2⟩;have hx2:=Lib.hid (MBox.below hx1.out (by have:=hB1.size;have:=hx1.out;exact (Array.getElem?_eq_some_iff.1 this).1) hb2);have hB2:=step hB1 hb2;clear hb2
  go_wp2_with (first|(refine wpList_load_row_w rfl 195 _ rfl w.heap.size rfl 195 (mcells M s) (0,0) _ hx2.out Tryz.underlying195 rfl Hi9.out ?_)|(go_at_call 196;refine (has_any M s c v _ c8 v4 Hm2.out).mono ?_;rintro e w3 ⟨rfl,hb3⟩;have hB3:=step hB2 hb3;clear hb3))
  go_ret
  exact ⟨rfl,by assumption⟩
def sqFits (xs:List Int) (size:Int):Bool:=gv xs size&& !clash xs size
def sqSolved (xs:List Int) (size:Int):Bool:=sqFits xs size&&(gf xs size==size*size)
theorem cnz_full {xs:List Int} {n:Nat}:cnz xs n=n↔∀ k,k<n->nth xs k≠0:=by
 induction n with
 |zero=>simp [cnz]
 |succ n ih=>
  have hle:=cnz_le xs n
  constructor
  ·intro h
   by_cases e:nth xs n=0
   ·rw [cnz_z e] at h;omega
   ·rw [cnz_nz e] at h;have h':=ih.1 (by omega);intro k hk
    by_cases ek:k=n
    ·subst ek;exact e
    ·exact h' k (by omega)
  ·intro h;rw [cnz_nz (h n (by omega)),ih.2 (fun k hk=>h k (by omega))]
theorem solved_iff {xs:List Int} {size:Int} {n:Nat} (hl:xs.length=n):sqSolved xs size=true↔gv xs size=true/\clash xs size=false/\∀ k,k<n->nth xs k≠0:=by
 subst hl;unfold sqSolved sqFits;simp only [Bool.and_eq_true,Bool.not_eq_true',beq_iff_eq]
 constructor
 ·rintro ⟨⟨h1,h2⟩,h3⟩;refine ⟨h1,h2,?_⟩;have:=gv_len h1;unfold gf at h3;rw [if_pos h1] at h3;exact cnz_full.1 (by omega)
 ·rintro ⟨h1,h2,h3⟩;refine ⟨⟨h1,h2⟩,?_⟩;have:=gv_len h1;unfold gf;rw [if_pos h1,cnz_full.2 h3];omega
def pigB2 (a b v:Nat):Bool:=(a==0||b==0||v==0)||((a==b)||(a==v||b==v))
theorem pig2:∀ a,a<3->∀ b,b<3->∀ v,v<3->pigB2 a b v=true:=by decide +kernel
def pigB3 (a b c v:Nat):Bool:=(a==0||b==0||c==0||v==0)||((a==b||a==c||b==c)||(a==v||b==v||c==v))
theorem pig3:∀ a,a<4->∀ b,b<4->∀ c,c<4->∀ v,v<4->pigB3 a b c v=true:=by decide +kernel
def pigB4 (a b c d v:Nat):Bool:=(a==0||b==0||c==0||d==0||v==0)||((a==b||a==c||a==d||b==c||b==d||c==d)||(a==v||b==v||c==v||d==v))
theorem pig4:∀ a,a<5->∀ b,b<5->∀ c,c<5->∀ d,d<5->∀ v,v<5->pigB4 a b c d v=true:=by decide +kernel
theorem pig {f:Nat->Int} {s:Nat} (hs:s∈[2,3,4]) (hf:∀ i,i<s->1<=f i/\f i<=s) (hd:dupTo f s=false) {v:Int} (v1:1<=v) (v2:v<=s):hasTo f s v=true:=by
 have hne:∀ i j,i<j->j<s->f i≠f j:=by
  intro i j hij hj he;have:dupTo f s=true:=dupTo_iff.2 ⟨i,j,hij,hj,he,by have:=hf j hj;omega⟩;rw [hd] at this;cases this
 have hT:∀ i,i<s->((f i).toNat:Int)=f i:=fun i hi=>Int.toNat_of_nonneg (by have:=hf i hi;omega)
 simp at hs
 rw [hasTo_iff]
 rcases hs with rfl|rfl|rfl
 ·have b0:=hf 0 (by omega);have b1:=hf 1 (by omega);have n01:=hne 0 1 (by omega) (by omega);have hp:=pig2 (f 0).toNat (by omega) (f 1).toNat (by omega) v.toNat (by omega);simp only [pigB2,Bool.or_eq_true,beq_iff_eq] at hp
  have hp':(f 0).toNat=v.toNat\/(f 1).toNat=v.toNat:=by omega
  clear hp
  rcases hp' with h|h
  ·exact ⟨0,by omega,by omega⟩
  ·exact ⟨1,by omega,by omega⟩
 ·have b0:=hf 0 (by omega);have b1:=hf 1 (by omega);have b2:=hf 2 (by omega);have n01:=hne 0 1 (by omega) (by omega);have n02:=hne 0 2 (by omega) (by omega);have n12:=hne 1 2 (by omega) (by omega);have hp:=pig3 (f 0).toNat (by omega) (f 1).toNat (by omega) (f 2).toNat (by omega) v.toNat (by omega);simp only [pigB3,Bool.or_eq_true,beq_iff_eq] at hp
  have hp':(f 0).toNat=v.toNat\/(f 1).toNat=v.toNat\/(f 2).toNat=v.toNat:=by omega
  clear hp
  rcases hp' with h|h|h
  ·exact ⟨0,by omega,by omega⟩
  ·exact ⟨1,by omega,by omega⟩
  ·exact ⟨2,by omega,by omega⟩
 ·have b0:=hf 0 (by omega);have b1:=hf 1 (by omega);have b2:=hf 2 (by omega);have b3:=hf 3 (by omega);have n01:=hne 0 1 (by omega) (by omega);have n02:=hne 0 2 (by omega) (by omega);have n03:=hne 0 3 (by omega) (by omega);have n12:=hne 1 2 (by omega) (by omega);have n13:=hne 1 3 (by omega) (by omega);have n23:=hne 2 3 (by omega) (by omega);have hp:=pig4 (f 0).toNat (by omega) (f 1).toNat (by omega) (f 2).toNat (by omega) (f 3).toNat (by omega) v.toNat (by omega);simp only [pigB4,Bool.or_eq_true,beq_iff_eq] at hp
  have hp':(f 0).toNat=v.toNat\/(f 1).toNat=v.toNat\/(f 2).toNat=v.toNat\/(f 3).toNat=v.toNat:=by omega
  clear hp
  rcases hp' with h|h|h|h
  ·exact ⟨0,by omega,by omega⟩
  ·exact ⟨1,by omega,by omega⟩
  ·exact ⟨2,by omega,by omega⟩
  ·exact ⟨3,by omega,by omega⟩
def lexlt (n:Nat) (xs ys:List Int):Prop:=∃ k,k<n/\(∀ j,j<k->nth xs j=nth ys j)/\nth xs k<nth ys k
theorem sols_prefix {size:Int}:∀ (f:Nat) (xs:List Int) (p:Nat) (y:List Int),y∈sols size f xs p->p+f<=xs.length->∀ k,k<p->nth y k=nth xs k:=by
 intro f
 induction f with
 |zero=>intro xs p y hy _ k _;simp [sols] at hy;subst hy;rfl
 |succ f ih=>
  intro xs p y hy hl;refine solsFrom_all (P:=fun y=>∀ k,k<p->nth y k=nth xs k) _ _ (fun u y _ _ hy k hk=>?_) y hy;rw [ih _ _ _ hy (by rw [List.length_set];omega) k (by omega),nth_set (by omega),if_neg (by omega)]
theorem sols_at {size:Int} {f:Nat} {xs:List Int} {p:Nat} {u:Int} {y:List Int} (hy:y∈sols size f (xs.set p u) (p+1)) (hl:p+1+f<=xs.length):nth y p=u:=by
 rw [sols_prefix f _ _ y hy (by rw [List.length_set];omega) p (by omega),nth_set (by omega),if_pos rfl]
theorem sols_sorted {size:Int} (n:Nat):∀ (f:Nat) (xs:List Int) (p:Nat),p+f=n->xs.length=n->List.Pairwise (lexlt n) (sols size f xs p):=by
 intro f
 induction f with
 |zero=>intro xs p _ _;simp [sols]
 |succ f ih=>
  intro xs p hp hl;simp only [sols]
  have key:∀ (r v:Nat),List.Pairwise (lexlt n) (solsFrom (fun ys=>sols size f ys (p+1)) xs size p r v):=by
   intro r
   induction r with
   |zero=>intro v;simp [solsFrom]
   |succ r ihr=>
    intro v;simp only [solsFrom];rw [List.pairwise_append];refine ⟨?_,ihr (v+1),?_⟩
    ·split
     ·exact List.Pairwise.nil
     ·exact ih _ _ (by omega) (by rw [List.length_set];exact hl)
    ·intro a ha b hb
     have ha':a∈sols size f (xs.set p (v:Int)) (p+1):=by
      split at ha
      ·simp at ha
      ·exact ha
     refine solsFrom_all (P:=fun b=>lexlt n a b) _ _ (fun u b h1 _ hb=>?_) b hb;refine ⟨p,by omega,fun j hj=>?_,?_⟩
     ·rw [sols_prefix f _ _ a ha' (by rw [List.length_set];omega) j (by omega),sols_prefix f _ _ b hb (by rw [List.length_set];omega) j (by omega),nth_set (by omega),nth_set (by omega),if_neg (by omega),if_neg (by omega)]
     ·rw [sols_at ha' (by omega),sols_at hb (by omega)];omega
  exact key _ _
theorem sols_clash {size:Int}:∀ (f:Nat) (xs:List Int) (p:Nat) (y:List Int),y∈sols size (f+1) xs p->clash y size=false:=by
 intro f
 induction f with
 |zero=>
  intro xs p y hy;simp only [sols] at hy
  have key:∀ (r v:Nat),y∈solsFrom (fun ys=>[ys]) xs size p r v->clash y size=false:=by
   intro r
   induction r with
   |zero=>intro v h;simp [solsFrom] at h
   |succ r ihr=>
    intro v h;simp only [solsFrom,List.mem_append] at h
    rcases h with h|h
    ·by_cases hc:clash (xs.set p (v:Int)) size=true
     ·rw [if_pos hc] at h;simp at h
     ·rw [if_neg hc] at h
      simp at h
      subst h
      simpa using hc
    ·exact ihr _ h
  exact key _ _ hy
 |succ f ih=>
  intro xs p y hy;rw [sols] at hy;exact solsFrom_all (P:=fun y=>clash y size=false) _ _ (fun u y _ _ hy=>ih _ _ _ hy) y hy
theorem sols_pos {size:Int}:∀ (f:Nat) (xs:List Int) (p:Nat) (y:List Int),y∈sols size f xs p->p+f<=xs.length->(∀ k,k<p->1<=nth xs k)->∀ k,k<p+f->1<=nth y k:=by
 intro f
 induction f with
 |zero=>intro xs p y hy _ h k hk;simp [sols] at hy;subst hy;exact h k (by omega)
 |succ f ih=>
  intro xs p y hy hl h;refine solsFrom_all (P:=fun y=>∀ k,k<p+(f+1)->1<=nth y k) _ _ (fun u y h1 _ hy k hk=>?_) y hy;refine ih _ _ _ hy (by rw [List.length_set];omega) (fun j hj=>?_) k (by omega);rw [nth_set (by omega)]
  split
  ·omega
  ·exact h j (by omega)
theorem sols_solved {size:Int} {n:Nat} (h2:2<=size) (h4:size<=4) (hn:(n:Int)=size*size) {y:List Int} (hy:y∈sols size n (zeros n) 0):y.length=n/\sqSolved y size=true:=by
 have hl:y.length=n:=by rw [sols_length size _ _ _ _ hy,zeros_length]
 obtain ⟨q4,q16⟩:=sq_bd h2 h4;obtain ⟨m,rfl⟩:∃ m,n=m+1:=⟨n-1,by omega⟩;refine ⟨hl,(solved_iff hl).2 ⟨?_,sols_clash m _ _ _ hy,fun k hk=>?_⟩⟩
 ·exact okAll_gv hl hn h2 h4 (sols_ok (by omega) _ _ _ _ (okAll_zeros (by omega) _) _ hy)
 ·have:=sols_pos _ _ _ _ hy (by rw [zeros_length];omega) (fun k hk=>absurd hk (by omega)) k (by omega);omega
theorem okTo3_iff {xs:List Int} {s:Int} {k:Nat} {v:Int} (m:Nat):okTo3 xs s k v m=true↔∀ j,j<m->ok3 xs s k v j=true:=by
 induction m with
 |zero=>simp [okTo3]
 |succ m ih=>
  rw [okTo3,Bool.and_eq_true,ih]
  constructor
  ·rintro ⟨h1,h2⟩ j hj
   by_cases e:j=m
   ·subst e;exact h2
   ·exact h1 j (by omega)
  ·intro h;exact ⟨fun j hj=>h j (by omega),h m (by omega)⟩
def seen3 (s k i:Nat):Bool:=(List.range s).any fun j=>((rIx (s:Nat) k j).toNat==i)||((cIx (s:Nat) k j).toNat==i)
theorem seen_adj:∀ s∈[2,3,4],∀ k,k<s*s->∀ i,i<s*s->adj s i k=true->seen3 s k i=true:=by decide +kernel
def adjSeen (s k j:Nat):Bool:=((rIx (s:Nat) k j==(k:Int))||(adj s (rIx (s:Nat) k j).toNat k&&Nat.blt (rIx (s:Nat) k j).toNat (s*s)))&&((cIx (s:Nat) k j==(k:Int))||(adj s (cIx (s:Nat) k j).toNat k&&Nat.blt (cIx (s:Nat) k j).toNat (s*s)))
theorem adj_seen:∀ s∈[2,3,4],∀ k,k<s*s->∀ j,j<s->adjSeen s k j=true:=by decide +kernel
theorem ix_nn:∀ s∈[2,3,4],∀ k,k<s*s->∀ j,j<s->((rIx (s:Nat) k j).toNat:Int)=rIx (s:Nat) k j/\((cIx (s:Nat) k j).toNat:Int)=cIx (s:Nat) k j:=by decide +kernel
theorem adj_ne (s i j:Nat):(adj s i j=true->i≠j)/\True:=⟨fun h=>by simp only [adj,Bool.and_eq_true,bne_iff_ne] at h;exact h.1,trivial⟩
theorem adj_sym:∀ s∈[2,3,4],∀ i,i<s*s->∀ j,j<s*s->adj s i j=adj s j i:=by decide +kernel
theorem ok3_adj {xs:List Int} {s k:Nat} (hs:s∈[2,3,4]) (hk:k<s*s) (v:Int):okTo3 xs s k v s=true↔∀ i,i<s*s->adj s i k=true->nth xs i≠v:=by
 rw [okTo3_iff]
 constructor
 ·intro h i hi ha he;have:=seen_adj s hs k hk i hi ha;simp only [seen3,List.any_eq_true,List.mem_range,Bool.or_eq_true,beq_iff_eq] at this;obtain ⟨j,hj,hor⟩:=this;have ho:=h j hj;obtain ⟨n1,n2⟩:=ix_nn s hs k hk j hj;have hne:=((adj_ne s i k).1 ha);simp only [ok3,Bool.and_eq_true,Bool.or_eq_true,beq_iff_eq,bne_iff_ne] at ho
  rcases hor with e|e
  ·rcases ho.1 with h1|h1
   ·omega
   ·rw [e] at h1;exact h1 he
  ·rcases ho.2 with h1|h1
   ·omega
   ·rw [e] at h1;exact h1 he
 ·intro h j hj;have:=adj_seen s hs k hk j hj;simp only [adjSeen,Bool.and_eq_true,Bool.or_eq_true,beq_iff_eq,Nat.blt_eq] at this;simp only [ok3,Bool.and_eq_true,Bool.or_eq_true,beq_iff_eq,bne_iff_ne];refine ⟨?_,?_⟩
  ·rcases this.1 with e|⟨e1,e2⟩
   ·exact .inl e
   ·exact .inr (h _ e2 e1)
  ·rcases this.2 with e|⟨e1,e2⟩
   ·exact .inl e
   ·exact .inr (h _ e2 e1)
theorem candTo_test (xs:List Int) (s:Int) (k u:Nat):∀ v,(candTo xs s k v).testBit u=true↔1<=u/\u<=v/\okTo3 xs s k (u:Int) s.toNat=true:=by
 intro v
 induction v with
 |zero=>simp [candTo];omega
 |succ v ih=>
  have hc:((v:Int)+1)=((v+1:Nat):Int):=by omega
  simp only [candTo]
  split
  ·next h=>
   rw [hc] at h;rw [Nat.testBit_or,Bool.or_eq_true,ih,Nat.testBit_two_pow,decide_eq_true_eq]
   constructor
   ·rintro (⟨h1,h2,h3⟩|rfl)
    ·exact ⟨h1,by omega,h3⟩
    ·exact ⟨by omega,Nat.le_refl _,h⟩
   ·rintro ⟨h1,h2,h3⟩
    by_cases e:u=v+1
    ·exact .inr e.symm
    ·exact .inl ⟨h1,by omega,h3⟩
  ·next h=>
   rw [hc] at h;rw [ih]
   constructor
   ·rintro ⟨h1,h2,h3⟩;exact ⟨h1,by omega,h3⟩
   ·rintro ⟨h1,h2,h3⟩;refine ⟨h1,?_,h3⟩
    by_cases e:u=v+1
    ·subst e;exact absurd h3 h
    ·omega
theorem candN_lt {xs:List Int} {s n:Nat} (hs4:s<=4) (hok:okAll xs s n) {k:Nat} (hk:k<n):candN xs s k<32:=by
 unfold candN
 split
 ·have:=hok k hk;exact Nat.pow_lt_pow_right (n:=5) (by omega) (by omega)
 ·exact candTo_lt _ _ _ _ (by omega)
def seqN (v:Nat):Nat->List Int
 |0=>[]
 |r+1=>(v:Int)::seqN (v+1) r
def rep (s:Nat):List Int:=seqN 1 s
theorem seqN_mem {x:Int}:∀ {r v:Nat},x∈seqN v r↔∃ u:Nat,x=u/\v<=u/\u<v+r:=by
 intro r
 induction r with
 |zero=>intro v;simp [seqN]
 |succ r ih=>
  intro v;simp only [seqN,List.mem_cons,ih]
  constructor
  ·rintro (rfl|⟨u,rfl,h1,h2⟩)
   ·exact ⟨v,rfl,by omega,by omega⟩
   ·exact ⟨u,rfl,by omega,by omega⟩
  ·rintro ⟨u,rfl,h1,h2⟩
   by_cases e:u=v
   ·subst e;exact .inl rfl
   ·exact .inr ⟨u,rfl,by omega,by omega⟩
theorem rep_mem {x:Int} {s:Nat}:x∈rep s↔∃ u:Nat,x=u/\1<=u/\u<=s:=by
 unfold rep;rw [seqN_mem]
 constructor
 ·rintro ⟨u,e,h1,h2⟩;exact ⟨u,e,h1,by omega⟩
 ·rintro ⟨u,e,h1,h2⟩;exact ⟨u,e,h1,by omega⟩
theorem seqN_snoc (v r:Nat):seqN v (r+1)=seqN v r++[((v+r:Nat):Int)]:=by
 induction r generalizing v with
 |zero=>rfl
 |succ r ih=>
  rw [seqN,ih (v+1),seqN];simp only [List.cons_append];rw [show v+1+r=v+(r+1) by omega]
def enS (s:Nat):Nat->List Int->Nat->List (List Int)
 |0,g,_=>[g]
 |f+1,g,p=>if 0<nth g p then enS s f g (p+1) else (rep s).flatMap fun x=>enS s f (g.set p x) (p+1)
theorem take_take {α:Type} (m:Nat) (X Y:List α):(X.take m++Y).take m=(X++Y).take m:=by
 by_cases h:X.length<=m
 ·rw [List.take_of_length_le h]
 ·have h1:(X.take m).length=m:=by rw [List.length_take];omega
  rw [List.take_append_of_le_length (by omega),List.take_append_of_le_length (by omega),List.take_take,Nat.min_self]
theorem take_self {α:Type} {m:Nat} {X:List α} (Y:List α) (h:X.length=m):(X++Y).take m=X:=by
 rw [List.take_append_of_le_length (by omega),List.take_of_length_le (by omega)]
theorem s5_is {fit:List Int->Bool} {s most:Nat} (In:Nat->List Int->Nat->Prop)
 (h1:∀ f g p,In (f+1) g p->0<nth g p->In f g (p+1)) (h2:∀ f g p x,In (f+1) g p->¬ 0<nth g p->x∈rep s->In f (g.set p x) (p+1))
 (hm:∀ f g p y,In f g p->y∈enS s f g p->fit y=true->fit g=true):
 ∀ f g p Ls,In f g p->fit g=true->Ls.length<most->s5 fit s most f g p Ls=(Ls++(enS s f g p).filter fit).take most:=by
 intro f
 induction f with
 |zero=>
  intro g p Ls _ hf hl;simp only [s5,enS];rw [List.filter_cons_of_pos hf,List.filter_nil,List.take_of_length_le (by simp;omega)]
 |succ f ih=>
  intro g p Ls hI hf hl;simp only [s5,enS]
  by_cases hp:0<nth g p
  ·rw [if_pos hp,if_pos hp];exact ih g (p+1) Ls (h1 f g p hI hp) hf hl
  ·rw [if_neg hp,if_neg hp]
   have key:∀ r v Ls,(∀ x∈seqN v r,x∈rep s)->Ls.length<=most->
       tryV fit (fun g' L'=>s5 fit s most f g' (p+1) L') g p most r v Ls=(Ls++((seqN v r).flatMap fun x=>enS s f (g.set p x) (p+1)).filter fit).take most:=by
    intro r
    induction r with
    |zero=>intro v Ls _ hle;simp only [tryV,seqN,List.flatMap_nil,List.filter_nil,List.append_nil];exact (List.take_of_length_le hle).symm
    |succ r ihr=>
     intro v Ls hin hle;simp only [tryV,seqN,List.flatMap_cons,List.filter_append]
     by_cases hlt:Ls.length<most
     ·rw [if_pos hlt];have hv:=hin (v:Int) (by simp [seqN]);have hIv:=h2 f g p v hI hp hv
      have e:(if fit (g.set p (v:Int))=true then s5 fit s most f (g.set p (v:Int)) (p+1) Ls else Ls)=(Ls++(enS s f (g.set p (v:Int)) (p+1)).filter fit).take most:=by
       by_cases hfit:fit (g.set p (v:Int))=true
       ·rw [if_pos hfit];exact ih _ _ _ hIv hfit hlt
       ·rw [if_neg hfit]
        have:(enS s f (g.set p (v:Int)) (p+1)).filter fit=[]:=by
         rw [List.filter_eq_nil_iff];intro y hy hfy;exact hfit (hm _ _ _ y hIv hy hfy)
        rw [this,List.append_nil,List.take_of_length_le hle]
      rw [e,ihr (v+1) _ (fun x hx=>hin x (by simp [seqN,hx])) (by rw [List.length_take];omega),take_take,List.append_assoc]
     ·rw [if_neg hlt];exact (take_self _ (by omega)).symm
   exact key s 1 Ls (fun x hx=>hx) (by omega)
theorem enS_in {s:Nat}:∀ f g p y,y∈enS s f g p->p+f=g.length->y.length=g.length/\(∀ i,i<p->nth y i=nth g i)/\∀ i,p<=i->i<g.length->(0<nth g i->nth y i=nth g i)/\(¬ 0<nth g i->nth y i∈rep s):=by
 intro f
 induction f with
 |zero=>
  intro g p y hy hl;simp only [enS,List.mem_singleton] at hy;subst hy;exact ⟨rfl,fun _ _=>rfl,fun i h1 h2=>absurd h2 (by omega)⟩
 |succ f ih=>
  intro g p y hy hl;simp only [enS] at hy
  split at hy
  ·next hp=>
   obtain ⟨a,b,c⟩:=ih g (p+1) y hy (by omega);refine ⟨a,fun i hi=>b i (by omega),fun i h1 h2=>?_⟩
   by_cases e:i=p
   ·subst e;exact ⟨fun _=>b i (by omega),fun h=>absurd hp h⟩
   ·exact c i (by omega) h2
  ·next hp=>
   obtain ⟨x,hx,hy⟩:=List.mem_flatMap.1 hy;obtain ⟨a,b,c⟩:=ih _ (p+1) y hy (by rw [List.length_set];omega);rw [List.length_set] at a c;refine ⟨a,fun i hi=>?_,fun i h1 h2=>?_⟩
   ·rw [b i (by omega),nth_set (by omega),if_neg (by omega)]
   ·by_cases e:i=p
    ·subst e;refine ⟨fun h=>absurd h hp,fun _=>?_⟩;rw [b i (by omega),nth_set (by omega),if_pos rfl];exact hx
    ·have:=c i (by omega) h2;rw [nth_set (by omega),if_neg (by omega)] at this;exact this
theorem fit_mono {s:Nat} {gi:List Int} {rs:List RuleM} {g y:List Int} (hs:s∈[2,3,4]) (hr:∀ i,i<rs.length->rvR s (rat rs i)=true) (hgy:gv y s=true) (hgg:gv g s=true) (hl:y.length=g.length) (h:∀ i,i<y.length->nth g i=nth y i\/nth g i=0) (hf:fitB s gi rs y=true):fitB s gi rs g=true:=by
 simp only [fitB,Bool.and_eq_true,List.all_eq_true,List.mem_range,Bool.not_eq_true'] at hf ⊢;obtain ⟨⟨f1,f2⟩,f3⟩:=hf
 have hln:y.length=s*s:=by
  have:=gv_len hgy
  simp at hs
  rcases hs with rfl|rfl|rfl<;>omega
 refine ⟨⟨fun i hi=>?_,fun i hi=>?_⟩,?_⟩
 ·rcases h i (by omega) with e|e
  ·have:=f1 i (by omega);unfold giveOk at this ⊢;rw [e];exact this
  ·unfold giveOk;rw [e]
   simp
 ·have h1:=f2 i hi;have h2:=hr i hi;unfold rpR at h1 ⊢;exact rp_mono h2 hgy hgg hs h h1
 ·cases hc:clash g s
  ·rfl
  ·obtain ⟨i,j,hi,hj,ha,e,h0⟩:=(clash_iff hs).1 hc;have ei:nth g i=nth y i:=(h i (by omega)).resolve_right (by omega);have ej:nth g j=nth y j:=(h j (by omega)).resolve_right (by omega);have:clash y s=true:=(clash_iff hs).2 ⟨i,j,hi,hj,ha,by rw [<- ei,<-ej,e],by rw [<- ej];exact h0⟩;rw [f3] at this;cases this
theorem okAll_gv' {s:Nat} {y:List Int} (hs:s∈[2,3,4]) (hl:y.length=s*s) (h:∀ i,i<s*s->0<=nth y i/\nth y i<=s):gv y s=true:=by
 simp at hs
 exact okAll_gv hl (by rcases hs with rfl|rfl|rfl<;>decide) (by omega) (by omega) h
def solL (s:Nat) (gi:List Int) (rs:List RuleM):List (List Int):=(enS s gi.length gi 0).filter (fitB s gi rs)
theorem enS_full {s:Nat} {y:List Int} (hs:s∈[2,3,4]) {f:Nat} {g:List Int} {p:Nat} (hp:p+f=g.length) (hlg:g.length=s*s) (hg:∀ i,i<s*s->0<=nth g i/\nth g i<=s) (hy:y∈enS s f g p):y.length=s*s/\gv y s=true/\∀ i,i<s*s->nth g i=nth y i\/nth g i=0:=by
 obtain ⟨a,b,c⟩:=enS_in f g p y hy hp
 have key:∀ i,i<s*s->(nth g i=nth y i\/nth g i=0)/\(0<=nth y i/\nth y i<=s):=fun i hi=>by
  have hgi:=hg i hi
  by_cases h1:i<p
  ·rw [b i h1];exact ⟨.inl rfl,hgi⟩
  ·obtain ⟨c1,c2⟩:=c i (by omega) (by omega)
   by_cases h0:0<nth g i
   ·rw [c1 h0];exact ⟨.inl rfl,hgi⟩
   ·obtain ⟨u,e,u1,u2⟩:=rep_mem.1 (c2 h0);exact ⟨.inr (by omega),by omega⟩
 exact ⟨a.trans hlg,okAll_gv' hs (a.trans hlg) (fun i hi=>(key i hi).2),fun i hi=>(key i hi).1⟩
theorem allS_is {s:Nat} {gi:List Int} {rs:List RuleM} {most n:Nat} (hl:gi.length=n) (hv:pvB s gi rs=true) (h0:0<most):allS s most n gi rs=(solL s gi rs).take most:=by
 obtain ⟨t,ht,hs,hn,_,hok⟩:=pv_grid hv hl
 obtain rfl:s=t:=by omega
 obtain ⟨hgi,_,hr⟩:=pv_gv hv
 have hn':n=s*s:=by
  simp at hs
  rcases hs with rfl|rfl|rfl<;>omega
 subst hn'
 let In:Nat->List Int->Nat->Prop:=fun f g p=>p+f=s*s/\g.length=s*s/\∀ i,i<s*s->0<=nth g i/\nth g i<=(s:Int)
 have hmono:∀ f g p y,In f g p->y∈enS s f g p->fitB s gi rs y=true->fitB s gi rs g=true:=by
  rintro f g p y ⟨i1,i2,i3⟩ hy hf;obtain ⟨q1,q2,q3⟩:=enS_full hs (by omega) i2 i3 hy;exact fit_mono hs hr q2 (okAll_gv' hs i2 i3) (by omega) (fun i hi=>q3 i (by omega)) hf
 have hI0:In (s*s) gi 0:=⟨by omega,hl,hok⟩;unfold allS solL;rw [hl]
 by_cases hf:fpB s gi rs gi=true
 ·have hfit:fitB s gi rs gi=true:=by simp only [fpB,Bool.and_eq_true] at hf;exact hf.2
  rw [if_pos hf,Int.toNat_natCast];have:=s5_is (fit:=fitB s gi rs) (s:=s) (most:=most) In ?_ ?_ hmono (s*s) gi 0 [] hI0 hfit (by simpa using h0)
  ·rw [this,List.nil_append]
  ·rintro f g p ⟨i1,i2,i3⟩ _;exact ⟨by omega,i2,i3⟩
  ·rintro f g p x ⟨i1,i2,i3⟩ _ hx;refine ⟨by omega,by rw [List.length_set];exact i2,fun i hi=>?_⟩;rw [nth_set (by omega)]
   split
   ·obtain ⟨u,e,u1,u2⟩:=rep_mem.1 hx;omega
   ·exact i3 i hi
 ·rw [if_neg hf]
  have:(enS s (s*s) gi 0).filter (fitB s gi rs)=[]:=by
   rw [List.filter_eq_nil_iff];intro y hy hfy
   apply hf
   have:=hmono _ _ _ y hI0 hy hfy;simp only [fpB,Bool.and_eq_true];exact ⟨⟨hv,hgi⟩,this⟩
  rw [this,List.take_nil]
def lastN (xs:List Int):Nat->Nat
 |0=>0
 |k+1=>max (lastN xs k) (nth xs k).toNat
theorem lastN_ge {xs:List Int}:∀ {n i:Nat},i<n->(nth xs i).toNat<=lastN xs n:=by
 intro n
 induction n with
 |zero=>intro i h;omega
 |succ n ih=>
  intro i h;simp only [lastN]
  by_cases e:i=n
  ·subst e;omega
  ·have:=ih (i:=i) (by omega);omega
theorem lastN_at {xs:List Int}:∀ {n:Nat},0<n->∃ i,i<n/\(nth xs i).toNat=lastN xs n:=by
 intro n
 induction n with
 |zero=>intro h;omega
 |succ n ih=>
  intro _;simp only [lastN]
  by_cases e:n=0
  ·subst e;exact ⟨0,by omega,by simp [lastN]⟩
  ·obtain ⟨i,h1,h2⟩:=ih (by omega)
   by_cases h:lastN xs n<=(nth xs n).toNat
   ·exact ⟨n,by omega,by omega⟩
   ·exact ⟨i,by omega,by omega⟩
def lastR (r:RuleM):Nat:=lastN r.xs r.xs.length
def rulesAt (rs:List RuleM) (p:Nat):List RuleM:=rs.filter fun r=>lastR r==p
def noConf (s:Nat) (us:List Int) (p:Nat):Bool:=(List.range p).all fun i=> !(adj s i p&&(nth us i==nth us p))
def rlOk (rs:List RuleM) (us:List Int) (p:Nat):Bool:=(rulesAt rs p).all fun r=>holdsB r.k r.v (pks us r.xs r.xs.length)
def stB (s:Nat) (rs:List RuleM) (us:List Int) (p:Nat):Bool:=noConf s us p&&rlOk rs us p
def cv (s:Nat) (gi:List Int) (rs:List RuleM):Nat->List Int->List (List Int)
 |0,vs=>[vs]
 |f+1,vs=>(bitsTo (candN gi s vs.length) 4).flatMap fun v=>if stB s rs (vs++[v]) vs.length=true then cv s gi rs f (vs++[v]) else []
theorem flat_none {α β:Type} {L:List α} {f:α->List β} (h:∀ x∈L,f x=[]):L.flatMap f=[]:=by
 induction L with
 |nil=>rfl
 |cons a L ih=>rw [List.flatMap_cons,h a (List.mem_cons_self ..),List.nil_append,ih (fun x hx=>h x (List.mem_cons_of_mem _ hx))]
theorem flat_congr {α β:Type} {L:List α} {f g:α->List β} (h:∀ x∈L,f x=g x):L.flatMap f=L.flatMap g:=by
 induction L with
 |nil=>rfl
 |cons a L ih=>rw [List.flatMap_cons,List.flatMap_cons,h a (List.mem_cons_self ..),ih (fun x hx=>h x (List.mem_cons_of_mem _ hx))]
theorem bits_rep {β:Type} {M s:Nat} (f:Int->List β) (hs:s<=4) (hM:∀ u,s<u->M.testBit u=false):(bitsTo M 4).flatMap f=(rep s).flatMap fun v=>if M.testBit v.toNat=true then f v else []:=by
 have h1:∀ u,(bitsTo M u).flatMap f=(rep u).flatMap fun v=>if M.testBit v.toNat=true then f v else []:=by
  intro u
  induction u with
  |zero=>rfl
  |succ u ih=>
   rw [bits_flat,ih];unfold rep;rw [seqN_snoc,List.flatMap_append];have e:((1+u:Nat):Int)=(u:Int)+1:=(by omega);have e2:((u:Int)+1).toNat=u+1:=(by omega);simp only [List.flatMap_cons,List.flatMap_nil,List.append_nil,e,e2]
 have h2:∀ d,(rep (s+d)).flatMap (fun v=>if M.testBit v.toNat=true then f v else [])=(rep s).flatMap fun v=>if M.testBit v.toNat=true then f v else []:=by
  intro d
  induction d with
  |zero=>rfl
  |succ d ih=>
   rw [<- ih];unfold rep;rw [show s+(d+1)=(s+d)+1 by omega,seqN_snoc,List.flatMap_append];simp only [List.flatMap_cons,List.flatMap_nil,List.append_nil];rw [show (((1+(s+d):Nat):Int)).toNat=1+(s+d) by omega,hM _ (by omega)]
   simp
 rw [h1,<-h2 (4-s),show s+(4-s)=4 by omega]
theorem pks_take {y xs:List Int} {m n p:Nat} (hx:∀ i,i<n->(nth xs i).toNat<p) (hp:p<=m):pks (y.take m) xs n=pks y xs n:=by
 unfold pks
 apply ext_nth (by rw [mapTo_length,mapTo_length])
 intro k hk;rw [mapTo_length] at hk;rw [mapTo_nth hk,mapTo_nth hk];have:=hx k hk;simp only [nth,List.getD_eq_getElem?_getD,List.getElem?_take];unfold nth at this;rw [List.getD_eq_getElem?_getD] at this;rw [if_pos (by omega)]
theorem rv_cells {s:Nat} {r:RuleM} (h:rvR s r=true):0<r.xs.length/\∀ i,i<r.xs.length->0<=nth r.xs i/\(nth r.xs i).toNat<s*s:=by
 obtain ⟨_,h2,_,h4⟩:=rv_facts rfl h;refine ⟨by omega,fun i hi=>?_⟩;obtain ⟨a,b⟩:=h4 i hi;refine ⟨a,?_⟩
 have e:((s*s:Nat):Int)=(s:Int)*s:=by simp
 omega
theorem last_lt {s:Nat} {r:RuleM} (h:rvR s r=true):lastR r<s*s:=by
 obtain ⟨h0,h1⟩:=rv_cells h;obtain ⟨i,hi,e⟩:=lastN_at (xs:=r.xs) h0;unfold lastR;rw [<- e];exact (h1 i hi).2
theorem rat_mem {rs:List RuleM} {r:RuleM} (h:r∈rs):∃ i,i<rs.length/\rat rs i=r:=by
 obtain ⟨i,hi,e⟩:=List.getElem_of_mem h;exact ⟨i,hi,by simp [rat,List.getD_eq_getElem?_getD,hi,e]⟩
theorem full_holds {s:Nat} {r:RuleM} {y:List Int} (hr:rvR s r=true) (hg:gv y s=true) (hf:∀ i,i<s*s->nth y i≠0):rpR s y r=holdsB r.k r.v (pks y r.xs r.xs.length):=by
 obtain ⟨_,h1⟩:=rv_cells hr;exact rp_full hr hg (fun i hi=>by unfold pks;rw [mapTo_nth hi];exact hf _ (h1 i hi).2)
theorem fit_st {s:Nat} {gi y:List Int} {rs:List RuleM} (hs:s∈[2,3,4]) (hr:∀ i,i<rs.length->rvR s (rat rs i)=true) (hl:y.length=s*s) (hg:gv y s=true) (hf:∀ i,i<s*s->nth y i≠0) (h:fitB s gi rs y=true) {p:Nat} (hp:p<s*s):stB s rs (y.take (p+1)) p=true:=by
 simp only [fitB,Bool.and_eq_true,List.all_eq_true,List.mem_range,Bool.not_eq_true'] at h;obtain ⟨⟨_,f2⟩,f3⟩:=h;simp only [stB,noConf,rlOk,Bool.and_eq_true,List.all_eq_true,List.mem_range,Bool.not_eq_true',Bool.and_eq_false_iff]
 constructor
 ·intro i hi;rw [nth_take (by omega),nth_take (by omega)];cases ha:adj s i p
  ·exact .inl rfl
  ·refine .inr ?_;rw [beq_eq_false_iff_ne];intro e;have h0:=hf p hp;have hgp:=gv_nth hg (k:=p) (by omega);have:clash y s=true:=(clash_iff hs).2 ⟨i,p,by omega,hp,ha,e,by omega⟩;rw [f3] at this;cases this
 ·intro r hrm;obtain ⟨hr1,hr2⟩:=List.mem_filter.1 hrm;rw [beq_iff_eq] at hr2;obtain ⟨i,hi,rfl⟩:=rat_mem hr1;rw [pks_take (p:=p+1) (fun j hj=>by have:=lastN_ge (xs:=(rat rs i).xs) hj;unfold lastR at hr2;omega) (Nat.le_refl _),<-full_holds (hr i hi) hg hf];exact f2 i hi
theorem st_fit {s:Nat} {gi y:List Int} {rs:List RuleM} (hs:s∈[2,3,4]) (hr:∀ i,i<rs.length->rvR s (rat rs i)=true) (hl:y.length=s*s) (hg:gv y s=true) (hf:∀ i,i<s*s->nth y i≠0) (hgi:∀ i,i<s*s->0<nth gi i->nth y i=nth gi i) (h:∀ p,p<s*s->stB s rs (y.take (p+1)) p=true):fitB s gi rs y=true:=by
 have hc:∀ i j,i<j->j<s*s->adj s i j=true->nth y i≠nth y j:=fun i j hij hj ha e=>by
  have:=h j hj;simp only [stB,noConf,Bool.and_eq_true,List.all_eq_true,List.mem_range,Bool.not_eq_true',Bool.and_eq_false_iff] at this
  rcases this.1 i hij with h1|h1
  ·rw [ha] at h1;cases h1
  ·rw [nth_take (by omega),nth_take (by omega),e] at h1
   simp at h1
 simp only [fitB,Bool.and_eq_true,List.all_eq_true,List.mem_range,Bool.not_eq_true'];refine ⟨⟨fun i hi=>?_,fun i hi=>?_⟩,?_⟩
 ·unfold giveOk
  by_cases h0:0<nth gi i
  ·rw [hgi i (by omega) h0];simp
  ·simp [h0]
 ·rw [full_holds (hr i hi) hg hf];have:=h (lastR (rat rs i)) (last_lt (hr i hi));simp only [stB,rlOk,Bool.and_eq_true,List.all_eq_true] at this
  have:=this.2 (rat rs i) (List.mem_filter.2 ⟨by
   have:rat rs i=rs[i]:=(by simp [rat,List.getD_eq_getElem?_getD,hi])
   rw [this];exact List.getElem_mem _,by simp⟩)
  rw [pks_take (p:=lastR (rat rs i)+1) (fun j hj=>by have:=lastN_ge (xs:=(rat rs i).xs) hj;unfold lastR;omega) (Nat.le_refl _)] at this;exact this
 ·cases e:clash y s
  ·rfl
  ·obtain ⟨i,j,hi,hj,ha,e1,_⟩:=(clash_iff hs).1 e;have hne:=(adj_ne s i j).1 ha
   rcases Nat.lt_or_gt_of_ne hne with hlt|hlt
   ·exact absurd e1 (hc i j hlt hj ha)
   ·exact absurd e1.symm (hc j i hlt hi (by rw [<- adj_sym s hs i hi j hj];exact ha))
theorem cv_is {s:Nat} {gi:List Int} {rs:List RuleM} (hv:pvB s gi rs=true):cv s gi rs gi.length []=solL s gi rs:=by
 obtain ⟨t,ht,hs,hn,_,hok⟩:=pv_grid hv rfl
 obtain rfl:s=t:=by omega
 obtain ⟨hgi,_,hr⟩:=pv_gv hv
 have hl:gi.length=s*s:=by
  simp at hs
  rcases hs with rfl|rfl|rfl<;>omega
 have hs4:s<=4:=by simp at hs;omega
 rw [hl] at hok;unfold solL;rw [hl]
 have key:∀ f vs,vs.length+f=s*s->(∀ i,i<vs.length->1<=nth vs i/\nth vs i<=(s:Int)/\(0<nth gi i->nth vs i=nth gi i))->(∀ p,p<vs.length->stB s rs (vs.take (p+1)) p=true)->
     cv s gi rs f vs=(enS s f (vs++gi.drop vs.length) vs.length).filter (fitB s gi rs):=by
  intro f
  induction f with
  |zero=>
   intro vs hf hvs hst;simp only [cv,enS];have hd:gi.drop vs.length=[]:=List.drop_of_length_le (by omega);rw [hd,List.append_nil];have hgv:gv vs s=true:=okAll_gv' hs (by omega) (fun i hi=>by have:=hvs i (by omega);omega);rw [List.filter_cons_of_pos (st_fit hs hr (by omega) hgv (fun i hi=>by have:=hvs i (by omega);omega) (fun i hi h0=>(hvs i (by omega)).2.2 h0) (fun p hp=>hst p (by omega))),List.filter_nil]
  |succ f ih=>
   intro vs hf hvs hst;have hpn:vs.length<s*s:=(by omega);have hlen:(vs++gi.drop vs.length).length=s*s:=(by rw [List.length_append,List.length_drop];omega)
   have hgp:nth (vs++gi.drop vs.length) vs.length=nth gi vs.length:=by
    simp only [nth,List.getD_eq_getElem?_getD];rw [List.getElem?_append_right (Nat.le_refl _),Nat.sub_self,List.getElem?_drop,Nat.add_zero]
   have hset:∀ x,(vs++gi.drop vs.length).set vs.length x=(vs++[x])++gi.drop (vs++[x]).length:=fun x=>by
    rw [List.length_append,List.length_singleton];have:gi.drop vs.length=gi[vs.length]'(by omega)::gi.drop (vs.length+1):=List.drop_eq_getElem_cons (by omega);rw [this,List.set_append_right _ _ (Nat.le_refl _),Nat.sub_self,List.set_cons_zero,List.append_assoc];rfl
   have hgrid:∀ i,i<s*s->0<=nth (vs++gi.drop vs.length) i/\nth (vs++gi.drop vs.length) i<=(s:Int):=fun i hi=>by
    by_cases h:i<vs.length
    ·have:nth (vs++gi.drop vs.length) i=nth vs i:=(by simp [nth,List.getD_eq_getElem?_getD,List.getElem?_append_left h]);rw [this];have:=hvs i h;omega
    ·have:nth (vs++gi.drop vs.length) i=nth gi i:=by
      simp [nth,List.getD_eq_getElem?_getD,List.getElem?_append_right (show vs.length<=i by omega),show vs.length+(i-vs.length)=i by omega]
     rw [this];exact hok i hi
   have one:∀ x,1<=x->x<=(s:Int)->(0<nth gi vs.length->x=nth gi vs.length)->(if stB s rs (vs++[x]) vs.length=true then cv s gi rs f (vs++[x]) else [])=(enS s f ((vs++[x])++gi.drop (vs++[x]).length) (vs.length+1)).filter (fitB s gi rs):=fun x x1 x2 xg=>by
    by_cases h:stB s rs (vs++[x]) vs.length=true
    ·rw [if_pos h,ih (vs++[x]) (by rw [List.length_append,List.length_singleton];omega) ?_ ?_]
     ·rw [List.length_append,List.length_singleton]
     ·intro i hi;rw [List.length_append,List.length_singleton] at hi;rw [nth_push rfl]
      by_cases e:i<vs.length
      ·rw [if_pos e];exact hvs i e
      ·obtain rfl:i=vs.length:=by omega
       rw [if_neg e,if_pos rfl];exact ⟨x1,x2,xg⟩
     ·intro p hp;rw [List.length_append,List.length_singleton] at hp
      by_cases e:p<vs.length
      ·rw [List.take_append_of_le_length (by omega)];exact hst p e
      ·obtain rfl:p=vs.length:=by omega
       rw [List.take_of_length_le (by simp)];exact h
    ·rw [if_neg h]
     symm
     rw [List.filter_eq_nil_iff];intro y hy hfy;rw [<- hset x] at hy;have hl2:((vs++gi.drop vs.length).set vs.length x).length=s*s:=(by rw [List.length_set];exact hlen)
     have hg2:∀ i,i<s*s->0<=nth ((vs++gi.drop vs.length).set vs.length x) i/\nth ((vs++gi.drop vs.length).set vs.length x) i<=(s:Int):=fun i hi=>by
      rw [nth_set (by omega)]
      split
      ·omega
      ·exact hgrid i hi
     obtain ⟨q1,q2,_⟩:=enS_full hs (by omega) hl2 hg2 hy;obtain ⟨_,b,c⟩:=enS_in f _ _ y hy (by omega)
     have hpre:∀ i,i<vs.length+1->nth y i=nth (vs++[x]) i:=fun i hi=>by
      rw [b i hi,nth_set (by omega),nth_push rfl]
      by_cases e:i<vs.length
      ·rw [if_neg (by omega),if_pos e]
       simp [nth,List.getD_eq_getElem?_getD,List.getElem?_append_left e]
      ·rw [if_pos (by omega),if_neg e,if_pos (by omega)]
     have hfull:∀ i,i<s*s->nth y i≠0:=fun i hi=>by
      by_cases e:i<vs.length+1
      ·rw [hpre i e,nth_push rfl]
       by_cases e2:i<vs.length
       ·rw [if_pos e2];have:=hvs i e2;omega
       ·rw [if_neg e2,if_pos (by omega)];omega
      ·obtain ⟨c1,c2⟩:=c i (by omega) (by omega)
       by_cases h0:0<nth ((vs++gi.drop vs.length).set vs.length x) i
       ·rw [c1 h0];omega
       ·obtain ⟨u,e3,u1,_⟩:=rep_mem.1 (c2 h0);omega
     have htake:y.take (vs.length+1)=vs++[x]:=by
      apply ext_nth (by rw [List.length_take,q1,List.length_append,List.length_singleton];omega)
      intro k hk;rw [List.length_take] at hk;rw [nth_take (by omega)];exact hpre k (by omega)
     have:=fit_st hs hr q1 q2 hfull hfy hpn;rw [htake] at this;exact h this
   simp only [cv,enS];rw [hgp]
   by_cases h0:0<nth gi vs.length
   ·rw [if_pos h0];have ho:=hok _ hpn;obtain ⟨u,hu⟩:=Int.eq_ofNat_of_zero_le (show 0<=nth gi vs.length by omega);have hc:candN gi s vs.length=2^u:=(by unfold candN;rw [if_pos h0,hu,Int.toNat_natCast]);rw [hc,bits_pow u (by omega) (by omega)];simp only [List.flatMap_cons,List.flatMap_nil,List.append_nil];rw [<- hu,one (nth gi vs.length) (by omega) (by omega) (fun _=>rfl),<-hset]
    have:(vs++gi.drop vs.length).set vs.length (nth gi vs.length)=vs++gi.drop vs.length:=by
     apply ext_nth (by rw [List.length_set])
     intro k hk;rw [List.length_set] at hk;rw [nth_set (by omega)]
     split
     ·next e=>subst e;exact hgp.symm
     ·rfl
    rw [this]
   ·rw [if_neg h0];have ho:=hok _ hpn;have hc:candN gi s vs.length=candTo gi s vs.length s:=(by unfold candN;rw [if_neg h0,Int.toNat_natCast])
    rw [hc,bits_rep _ hs4 (fun u hu=>by
      cases hb:(candTo gi s vs.length s).testBit u
      ·rfl
      ·have:=(candTo_test gi s vs.length u s).1 hb;omega),List.filter_flatMap]
    apply flat_congr
    intro x hx;obtain ⟨u,rfl,u1,u2⟩:=rep_mem.1 hx;rw [Int.toNat_natCast,hset,<-one u (by omega) (by omega) (fun h=>absurd h h0)]
    by_cases hb:(candTo gi s vs.length s).testBit u=true
    ·rw [if_pos hb]
    ·rw [if_neg hb]
     symm
     rw [one u (by omega) (by omega) (fun h=>absurd h h0),List.filter_eq_nil_iff];intro y hy hfy;rw [<- hset] at hy;have hl2:((vs++gi.drop vs.length).set vs.length (u:Int)).length=s*s:=(by rw [List.length_set];exact hlen)
     have hg2:∀ i,i<s*s->0<=nth ((vs++gi.drop vs.length).set vs.length (u:Int)) i/\nth ((vs++gi.drop vs.length).set vs.length (u:Int)) i<=(s:Int):=fun i hi=>by
      rw [nth_set (by omega)]
      split
      ·omega
      ·exact hgrid i hi
     obtain ⟨q1,q2,_⟩:=enS_full hs (by omega) hl2 hg2 hy;obtain ⟨_,b,c⟩:=enS_in f _ _ y hy (by omega)
     apply hb
     rw [candTo_test,Int.toNat_natCast];refine ⟨u1,u2,(ok3_adj hs hpn _).2 (fun i hi ha e=>?_)⟩;simp only [fitB,Bool.and_eq_true,List.all_eq_true,List.mem_range,Bool.not_eq_true'] at hfy;obtain ⟨⟨f1,_⟩,f3⟩:=hfy;have hyp:nth y vs.length=(u:Int):=(by rw [b _ (by omega),nth_set (by omega),if_pos rfl]);have hne:=(adj_ne s i vs.length).1 ha;have hgy:giveOk gi y i=true:=f1 i (by omega)
     have hy0:0<nth y i:=by
      by_cases e2:i<vs.length+1
      ·rw [b i e2,nth_set (by omega),if_neg (by omega)];have:nth (vs++gi.drop vs.length) i=nth vs i:=(by simp [nth,List.getD_eq_getElem?_getD,List.getElem?_append_left (show i<vs.length by omega)]);rw [this];have:=hvs i (by omega);omega
      ·obtain ⟨c1,c2⟩:=c i (by omega) (by omega)
       by_cases h3:0<nth ((vs++gi.drop vs.length).set vs.length (u:Int)) i
       ·rw [c1 h3];exact h3
       ·obtain ⟨u',e3,u1',_⟩:=rep_mem.1 (c2 h3);omega
     have hyi:nth y i=(u:Int):=by
      unfold giveOk at hgy;rw [e] at hgy
      simp [hy0] at hgy
      exact hgy.resolve_left (by omega)
     have:clash y s=true:=(clash_iff hs).2 ⟨i,vs.length,hi,hpn,ha,by rw [hyi,hyp],by omega⟩;rw [f3] at this;cases this
 have:=key (s*s) [] (by simp) (fun i hi=>absurd hi (by simp)) (fun p hp=>absurd hp (by simp))
 simpa using this
end Go.Proofs.YtlnmioijgclndaaGreatDoor
