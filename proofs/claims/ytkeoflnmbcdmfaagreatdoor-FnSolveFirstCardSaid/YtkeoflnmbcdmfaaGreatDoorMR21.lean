import Derived.Test.YtkeoflnmbcdmfaaGreatDoorMTenB
import Derived.Test.YtkeoflnmbcdmfaaGreatDoorMCt
import Derived.Deep.RegionHeld3
import Derived.Test.YtkeoflnmbcdmfaaGreatDoorC1
import Derived.Test.YtkeoflnmbcdmfaaGreatDoorMSe
import Derived.Test.YtkeoflnmbcdmfaaGreatDoorLR
import Derived.Deep.DeepCutAuto
set_option maxRecDepth 8000
namespace Go.Proofs.YtkeoflnmbcdmfaaGreatDoor
open Go.ChangeShapes Go.WideShapes Go.ChangeAt Go.RowKit
def minL (s:Int) (n:Nat) (rs:List RuleM) (gi:List Int):Nat->List Int
 |0=>gi
 |k+1=>if redB s n (minL s n rs gi k) rs k=true then (minL s n rs gi k).set k 0 else minL s n rs gi k
theorem minL_length (s:Int) (n:Nat) (rs:List RuleM) (gi:List Int) (k:Nat):(minL s n rs gi k).length=gi.length:=by
 induction k with
 |zero=>rfl
 |succ k ih=>unfold minL;split<;>simp [ih]
theorem OwR.past {w0 w w':World} {lo X k:Nat} {v:Value} {rs:List RuleM} (h:OwR w0 lo v rs k) (hb:Below w0.heap.size w0 w) (hg:w.grownBy w' (some X)) (hX:w0.heap.size<=X):OwR w' lo v rs k:=by
 obtain ⟨vs,hown,hin⟩:=id h;obtain ⟨vs',hown',hin'⟩:=h.below hb
 have hv:∀ b,v.ownBlock=some b->b≠X:=fun b hbb e=>by have:=(World.ownsRow.lt hown b hbb).2;omega
 refine ⟨vs,World.ownsRow.kept (World.ownsRow.kept hown (row:=none) ⟨hb.os,hb.tape,hb.output,hb.size,fun k hk _=>hb.block k hk⟩ (by cases e:v.ownBlock<;>simp)) hg (by
  cases e:v.ownBlock
  ·exact .inl rfl
  ·exact .inr (fun e2=>hv _ e (Option.some.inj e2))),fun i hi=>?_⟩
 obtain ⟨A',c',e0,e1,e2,e3,e4,e5⟩:=hin i hi;exact ⟨A',c',e0,e1,e2,Ow.far (Ow.below e3 hb) hg (fun b hbb e=>by have:=(World.ownsRow.lt e3 b hbb).2;have:=Option.some.inj e;omega),e4,e5⟩
theorem OwR.keptL {w w':World} {lo G k:Nat} {v:Value} {rs:List RuleM} (h:OwR w lo v rs k) (hg:w.grownBy w' (some G)) (hG:G<lo):OwR w' lo v rs k:=by
 obtain ⟨vs,hown,hin⟩:=h
 refine ⟨vs,World.ownsRow.kept hown hg (by
  cases e:v.ownBlock
  ·exact .inl rfl
  ·refine .inr (fun e2=>?_);have h1:=(World.ownsRow.lt hown _ e).1;have h2:=Option.some.inj e2
   omega),fun i hi=>?_⟩
 obtain ⟨A',c',e0,e1,e2,e3,e4,e5⟩:=hin i hi;exact ⟨A',c',e0,e1,e2,Ow.far e3 hg (fun g hgg e=>by have h1:=e3.own_lo g hgg;have h2:=Option.some.inj e;omega),e4,e5⟩
theorem grown_setRow5 {w:World} {g:Nat} {cs:Array Value}:w.grownBy (w.setRow g cs) (some g):=
 ⟨rfl,rfl,rfl,by simp,fun k hk hne=>by unfold World.setRow;simp only [Array.getElem?_modify];rw [if_neg (fun e=>hne (by rw [e]))]⟩
theorem ownsRow_setX {w:World} {lo sz n X:Nat} {e t:TypeId} {v:Value} {xs:List Value} {cs cs':Array Value} (h:w.ownsRow lo e sz v n xs) (hX:w.heap[X]? =some (.cells cs t)) (hne:t≠e):(w.setRow X cs').ownsRow lo e sz v n xs:=by
 refine World.ownsRow.kept h grown_setRow5 ?_
 rcases h.2 with ⟨rfl,_⟩|⟨g,cap,cur,rfl,hb,hg,_⟩
 ·exact .inl rfl
 ·refine .inr (fun e2=>?_)
  have e3:g=X:=by simpa [Value.ownBlock] using e2
  subst e3;rw [hX] at hg
  injection hg with hg
  injection hg with _ h2 _
  exact hne h2
theorem Ow.setX {w:World} {lo n c X:Nat} {A:Option Addr} {xs:List Int} {cs cs':Array Value} (h:Ow w lo A n c xs) (hX:w.heap[X]? =some (.cells cs 26)):Ow (w.setRow X cs') lo A n c xs:=ownsRow_setX h hX (by decide)
theorem OwR.setX {w:World} {lo k X:Nat} {v:Value} {rs:List RuleM} {cs cs':Array Value} (h:OwR w lo v rs k) (hX:w.heap[X]? =some (.cells cs 26)):OwR (w.setRow X cs') lo v rs k:=by
 obtain ⟨vs,hown,hin⟩:=h;refine ⟨vs,ownsRow_setX hown hX (by decide),fun i hi=>?_⟩;obtain ⟨A',c',e0,e1,e2,e3,e4,e5⟩:=hin i hi;exact ⟨A',c',e0,e1,e2,e3.setX hX,e4,e5⟩
theorem SpQ.setX {w:World} {lo k X:Nat} {v:Value} {Q:Nat->Prop} {cs cs':Array Value} (h:SpQ w lo v k Q) (hX:w.heap[X]? =some (.cells cs 26)):SpQ (w.setRow X cs') lo v k Q:=h.map fun _ hown=>ownsRow_setX hown hX (by decide)
theorem SpQ.mono {w:World} {lo lo' k:Nat} {v:Value} {Q:Nat->Prop} (h:SpQ w lo v k Q) (hl:lo'<=lo):SpQ w lo' v k Q:=by
 obtain ⟨vs,h1,h2⟩:=h;exact ⟨vs,World.ownsRow.mono h1 hl,h2⟩
theorem results_row_tmp {P:Program} {fn:Func} {p q:Tmp} {ty:TypeId} (h:fn.results= #[.cell p ty,.tmp q]) (tmps:Array Value) (w:World) (g:Nat) (t:TypeId) (cs:Array Value) (fr:Nat×Nat) (d:TypeDesc) (b:Value)
 (hp:tmps.getD p undef=.pointer (some ⟨g,0,none⟩)) (hq:tmps.getD q undef=b) (hg:w.heap[g]? =some (.cells cs t fr))
 (hu:P.underlying ty=some d) (hd:(match d with|.struct _|.array _ _=>true|_=>false)=true) (hi:(P.info? ty).map (·.size)=some cs.size):
 (results fn tmps).run P w=.ok (.tuple #[.agg cs,b]) w:=by
 have hp':tmps[p]?.getD undef=.pointer (some ⟨g,0,none⟩):=by simpa using hp
 have hq':tmps[q]?.getD undef=b:=by simpa using hq
 simp [results,h,hp',hq',asAddr,run_loadVar_row w g t ty cs fr d hg hu hd hi]
def MinPost (s:Int) (n:Nat) (gi:List Int) (nr:Nat) (rs:List RuleM) (w:World) (e:Ending) (w':World):Prop:=
 Below w.heap.size w w'/\((e=.returned (.tuple #[.agg #[.int .i64 0,.slice none 0 0,.slice none 0 0],.bool false])/\(pvB s gi rs&&oneB s n gi rs)=false)\/
  ((pvB s gi rs&&oneB s n gi rs)=true/\∃ A1 c1 A2 c2 K,e=.returned (.tuple #[.agg #[.int .i64 s,.slice A1 n c1,.slice A2 nr c2],.bool true])/\Ow w' K A1 n c1 (minL s n rs gi n)/\w.heap.size<=K/\OwR w' w.heap.size (.slice A2 nr c2) rs nr/\SpQ w' w.heap.size (.slice A2 nr c2) nr (fun g=>g<K)))
def MakeG (P lo K n:Nat) (s:Int) (A1:Option Addr) (c1:Nat) (A2:Option Addr) (nr c2:Nat) (gi:List Int) (rs:List RuleM):Nat->Value->World->Prop
 |0,v,_=>v=.pointer (some ⟨P,0,none⟩)
 |1,v,_=>v=.int .i64 s
 |2,v,_=>∃ b,v=.slice (some ⟨b,0,none⟩) 0 0
 |3,v,_=>v=.pointer (some ⟨P,1,none⟩)
 |4,v,_=>v=.slice A1 n c1
 |5,v,w=>∃ A' c',v=.slice A' n c'/\Ow w K A' n c' gi
 |6,v,w=>∃ b,v=.slice (some ⟨b,0,none⟩) 0 0/\w.heap[b]? =some (.cells #[] 88)/\lo<=b
 |7,v,_=>v=.pointer (some ⟨P,2,none⟩)
 |8,v,_=>v=.slice A2 nr c2
 |9,v,w=>∃ A' c',v=.slice A' nr c'/\OwR w lo (.slice A' nr c') rs nr/\SpQ w lo (.slice A' nr c') nr (fun g=>g<K)
 |10,v,w=>∃ A' c' A'' c'',v=.agg #[.int .i64 s,.slice A' n c',.slice A'' nr c'']/\Ow w K A' n c' gi/\OwR w lo (.slice A'' nr c'') rs nr/\SpQ w lo (.slice A'' nr c'') nr (fun g=>g<K)
 |11,v,w=>∃ X,v=.pointer (some ⟨X,0,none⟩)/\w.heap[X]? =some (.cells #[.int .i64 0,.slice none 0 0,.slice none 0 0] 26)/\lo<=X
 |_,_,_=>True
theorem makeG_below {P lo K n:Nat} {s:Int} {A1:Option Addr} {c1:Nat} {A2:Option Addr} {nr c2:Nat} {gi:List Int} {rs:List RuleM} (j:Nat) (v:Value) (w w':World) (hb:Below w.heap.size w w') (h:MakeG P lo K n s A1 c1 A2 nr c2 gi rs j v w):MakeG P lo K n s A1 c1 A2 nr c2 gi rs j v w':=by
 match j,h with
 |0,h=>exact h
 |1,h=>exact h
 |2,h=>exact h
 |3,h=>exact h
 |4,h=>exact h
 |5,⟨A',c',e,h⟩=>exact ⟨A',c',e,h.below hb⟩
 |6,⟨b,e,h,hl⟩=>exact ⟨b,e,(hb.block b (Array.getElem?_eq_some_iff.1 h).1).trans h,hl⟩
 |7,h=>exact h
 |8,h=>exact h
 |9,⟨A',c',e,h,h2⟩=>exact ⟨A',c',e,h.below hb,h2.below hb⟩
 |10,⟨A',c',A'',c'',e,h,h',h2⟩=>exact ⟨A',c',A'',c'',e,h.below hb,h'.below hb,h2.below hb⟩
 |11,⟨X,e,h,hl⟩=>exact ⟨X,e,(hb.block X (Array.getElem?_eq_some_iff.1 h).1).trans h,hl⟩
 |_+12,h=>exact h
set_option maxHeartbeats 2000000 in
theorem specMakeMinimal (s:Int) (Ag:Option Addr) (n cg Bg:Nat) (gi:List Int) (Ar:Option Addr) (nr cr Br:Nat) (rs:List RuleM) (w:World) (hp:PGs w s Ag n cg Bg gi Ar nr cr Br rs) (hm2:nr<=1099511627775):
 Calls Tryz.prog 110 #[.agg #[.int .i64 s,.slice Ag n cg,.slice Ar nr cr]] w (MinPost s n gi nr rs w):=by
 have Hone:=Lib.hid puz_one;have Hi:=Lib.hid puz_info;have hrl:=hp.r.1;obtain ⟨W0,hW0⟩:∃ W0,(w.alloc (.cells #[.int .i64 s,.slice Ag n cg,.slice Ar nr cr] 26)).alloc (.cells #[.int .i64 0,.slice none 0 0,.slice none 0 0] 26)=W0:=⟨_,rfl⟩
 have hb0:Below w.heap.size w W0:=by rw [<- hW0];exact ((Below.refl _ _).alloc (Nat.le_refl _) _).alloc (by simp) _
 have hs0:W0.heap.size=w.heap.size+1+1:=by rw [<- hW0];simp
 have hp0:W0.heap[w.heap.size]? =some (.cells #[.int .i64 s,.slice Ag n cg,.slice Ar nr cr] 26):=by
  rw [<- hW0];exact (Below.heap_alloc _ _ _ (by simp)).trans (heap_alloc_new w _)
 have hq0:W0.heap[w.heap.size+1]? =some (.cells #[.int .i64 0,.slice none 0 0,.slice none 0 0] 26):=by
  rw [<- hW0];have:=heap_alloc_new (w.alloc (.cells #[.int .i64 s,.slice Ag n cg,.slice Ar nr cr] 26)) (.cells #[.int .i64 0,.slice none 0 0,.slice none 0 0] 26);rwa [World.size_alloc] at this
 have hP0:=hp.below (hb0.mono (Nat.le_refl _));have HOP:=Lib.hid (specOwnPuzzle s Ag n cg Bg gi Ar nr cr Br rs W0 hP0.g hP0.gB hp.gm hP0.r hP0.rB hm2);obtain ⟨z0,z1,z2⟩:PBox W0 w.heap.size s Ag n cg Ar nr cr:=⟨cell_of_row _ _ 0 _ _ (0,0) hp0,cell_of_row _ _ 1 _ _ (0,0) hp0,cell_of_row _ _ 2 _ _ (0,0) hp0⟩;have HW0:=Lib.hid hW0;clear hW0 hP0
 go_enter Tryz.func110,Tryz.ntmps110
 go_wp2_with fail
 rw [HW0.out];refine HOP.out.mono ?_;rintro e w1 ⟨A1,c1,A2,c2,rfl,ho1,hor1,hb1⟩;have hp1:=(hb1.block w.heap.size (by omega)).trans hp0;have hq1:=(hb1.block (w.heap.size+1) (by omega)).trans hq0;obtain ⟨W2,hW2⟩:∃ W2,w1.setRow w.heap.size #[.int .i64 s,.slice A1 n c1,.slice A2 nr c2]=W2:=⟨_,rfl⟩
 have hb2:Below w.heap.size w W2:=by rw [<- hW2];exact setRow_below5 (hb0.trans (hb1.mono hb0.size)) (Nat.le_refl _)
 have hp2:W2.heap[w.heap.size]? =some (.cells #[.int .i64 s,.slice A1 n c1,.slice A2 nr c2] 26):=by rw [<- hW2];exact setRow_heap _ _ _ _ _ _ hp1
 have hq2:W2.heap[w.heap.size+1]? =some (.cells #[.int .i64 0,.slice none 0 0,.slice none 0 0] 26):=by
  rw [<- hW2];refine Eq.trans ?_ hq1;unfold World.setRow;simp only [Array.getElem?_modify];rw [if_neg (by omega)]
 have ho2:Ow W2 W0.heap.size A1 n c1 gi:=by rw [<- hW2];exact ho1.row5 (fun b hb=>by have:=ho1.own_lo b hb;omega)
 have hor2:OwR W2 W0.heap.size (.slice A2 nr c2) rs nr:=by rw [<- hW2];exact hor1.keptL grown_setRow5 (by omega)
 have hP2:PGs W2 s A1 n c1 W2.heap.size gi A2 nr c2 W2.heap.size rs:=⟨ho2.rd,Nat.le_refl _,hp.gm,hor2.rd hrl,Nat.le_refl _,hp.rm⟩;have hs2:w.heap.size+1<W2.heap.size:=(Array.getElem?_eq_some_iff.1 hq2).1;have HV:=Lib.hid (fun w' (hb:Below W2.heap.size W2 w')=>specPuzzleValid s A1 n c1 W2.heap.size gi A2 nr c2 W2.heap.size rs w' (hP2.below hb).g (hP2.below hb).gB hp.gm (hP2.below hb).r (hP2.below hb).rB hp.rm);have HO:=Lib.hid (fun w' (hb:Below W2.heap.size W2 w')=>specOne s A1 n c1 W2.heap.size gi A2 nr c2 W2.heap.size rs w' (hP2.below hb));obtain ⟨y0,y1,y2⟩:PBox W2 w.heap.size s A1 n c1 A2 nr c2:=⟨cell_of_row _ _ 0 _ _ (0,0) hp2,cell_of_row _ _ 1 _ _ (0,0) hp2,cell_of_row _ _ 2 _ _ (0,0) hp2⟩
 have HB2:=Lib.hid hb2;cases hv:pvB s gi rs
 ·have hf:(pvB s gi rs&&oneB s n gi rs)=false:=by rw [hv];rfl
  go_wp2_with (first|(refine wpList_store_row rfl 26 _ _ rfl w.heap.size #[.int .i64 s,.slice A1 n c1,.slice A2 nr c2] rfl rfl 26 #[.int .i64 s,.slice Ag n cg,.slice Ar nr cr] hp1 (Hi.out _ _ _ _ _ _ _) rfl (Hone.out _ _ _ _ _ _ _) ?_;rw [hW2])|(go_at_call 25;refine (HV.out _ (Below.refl _ _)).mono ?_;rintro e w3 ⟨rfl,hb3⟩;rw [hv];have hq3:=(hb3.block (w.heap.size+1) hs2).trans hq2)|(refine wpList_store_row rfl 26 _ _ rfl (w.heap.size+1) #[.int .i64 0,.slice none 0 0,.slice none 0 0] rfl rfl 26 #[.int .i64 0,.slice none 0 0,.slice none 0 0] hq3 (Hi.out _ _ _ _ _ _ _) rfl (Hone.out _ _ _ _ _ _ _) ?_))
  have hBe:Below w.heap.size w (w3.setRow (w.heap.size+1) #[.int .i64 0,.slice none 0 0,.slice none 0 0]):=setRow_below5 (HB2.out.trans (hb3.mono HB2.out.size)) (by omega);exact bodyPost_ret (v:=.tuple #[.agg #[.int .i64 0,.slice none 0 0,.slice none 0 0],.bool false]) (results_row_tmp (by rfl) _ _ (w.heap.size+1) 26 _ (0,0) _ _ rfl rfl (setRow_heap _ _ _ _ _ _ hq3) Tryz.underlying26 rfl (Hi.out _ _ _ _ _ _ _)) rfl ⟨hBe,.inl ⟨rfl,hf⟩⟩
 ·have hx2:PBox W2 w.heap.size s A1 n c1 A2 nr c2:=⟨y0,y1,y2⟩;cases ho:oneB s n gi rs
  ·have hf:(pvB s gi rs&&oneB s n gi rs)=false:=by rw [ho,Bool.and_false]
   go_wp2_with (first|(refine wpList_store_row rfl 26 _ _ rfl w.heap.size #[.int .i64 s,.slice A1 n c1,.slice A2 nr c2] rfl rfl 26 #[.int .i64 s,.slice Ag n cg,.slice Ar nr cr] hp1 (Hi.out _ _ _ _ _ _ _) rfl (Hone.out _ _ _ _ _ _ _) ?_;rw [hW2])|(go_at_call 25;refine (HV.out _ (Below.refl _ _)).mono ?_;rintro e w3 ⟨rfl,hb3⟩;rw [hv];obtain ⟨x0,x1,x2⟩:=hx2.below (by omega:w.heap.size<W2.heap.size) hb3)|(go_at_call 152;refine (HO.out _ hb3).mono ?_;rintro e w4 ⟨rfl,hb4'⟩;rw [ho];have hb4:=step hb3 hb4';have hq4:=(hb4.block (w.heap.size+1) hs2).trans hq2)|(refine wpList_store_row rfl 26 _ _ rfl (w.heap.size+1) #[.int .i64 0,.slice none 0 0,.slice none 0 0] rfl rfl 26 #[.int .i64 0,.slice none 0 0,.slice none 0 0] hq4 (Hi.out _ _ _ _ _ _ _) rfl (Hone.out _ _ _ _ _ _ _) ?_))
   have hBe:Below w.heap.size w (w4.setRow (w.heap.size+1) #[.int .i64 0,.slice none 0 0,.slice none 0 0]):=setRow_below5 (HB2.out.trans (hb4.mono HB2.out.size)) (by omega);exact bodyPost_ret (v:=.tuple #[.agg #[.int .i64 0,.slice none 0 0,.slice none 0 0],.bool false]) (results_row_tmp (by rfl) _ _ (w.heap.size+1) 26 _ (0,0) _ _ rfl rfl (setRow_heap _ _ _ _ _ _ hq4) Tryz.underlying26 rfl (Hi.out _ _ _ _ _ _ _)) rfl ⟨hBe,.inl ⟨rfl,hf⟩⟩
  ·have ht:(pvB s gi rs&&oneB s n gi rs)=true:=by rw [hv,ho];rfl
   go_wp2_with (first|(refine wpList_store_row rfl 26 _ _ rfl w.heap.size #[.int .i64 s,.slice A1 n c1,.slice A2 nr c2] rfl rfl 26 #[.int .i64 s,.slice Ag n cg,.slice Ar nr cr] hp1 (Hi.out _ _ _ _ _ _ _) rfl (Hone.out _ _ _ _ _ _ _) ?_;rw [hW2])|(go_at_call 25;refine (HV.out _ (Below.refl _ _)).mono ?_;rintro e w3 ⟨rfl,hb3⟩;rw [hv];obtain ⟨x0,x1,x2⟩:=hx2.below (by omega:w.heap.size<W2.heap.size) hb3)|(go_at_call 152;refine (HO.out _ hb3).mono ?_;rintro e w4 ⟨rfl,hb4'⟩;rw [ho];have hb4:=step hb3 hb4';obtain ⟨x0',x1',x2'⟩:=hx2.below (by omega:w.heap.size<W2.heap.size) hb4))
   obtain ⟨hgi,_,_⟩:=pv_gv hv
   have hn4:0<n:=by
    obtain ⟨q2,q4⟩:=gv_size hgi;have:=gv_len hgi;rw [hp.g.1] at this;have:=(sq_bd q2 q4).1;omega
   obtain ⟨vs2,hown2,hin2⟩:=id hor2;have HX:=Lib.hid (fun w' (hb:Below w4.heap.size w4 w')=>(hx2.below (by omega:w.heap.size<W2.heap.size) (hb4.trans (hb.mono hb4.size))));have HR1:=Lib.hid (fun w' (hb:Below w4.heap.size w4 w')=>(ho2.rd.below (hb4.trans (hb.mono hb4.size))))
   have HOW:=Lib.hid (fun w' (hb:Below w4.heap.size w4 w')=>(show w'.ownsRow W0.heap.size 88 3 (.slice A2 nr c2) nr vs2/\InR w' W0.heap.size (.slice none 0 0) rs vs2 nr from by
    have hbb:=hb4.trans (hb.mono hb4.size);refine ⟨World.ownsRow.kept hown2 (row:=none) ⟨hbb.os,hbb.tape,hbb.output,hbb.size,fun k hk _=>hbb.block k hk⟩ (by cases e:(Value.slice A2 nr c2).ownBlock<;>simp),fun i hi=>?_⟩;obtain ⟨A',c',e0,e1,e2,e3,e4,e5⟩:=hin2 i hi
    exact ⟨A',c',e0,e1,e2,Ow.below e3 hbb,e4,fun g hg e=>by simp [Value.ownBlock] at e⟩))
   have hlo4:W0.heap.size<=w4.heap.size:=by
    have q1:=hb1.size;have q2:=hb4.size;have q3:W2.heap.size=w1.heap.size:=(by rw [<- hW2];simp);omega
   have hlo2:W0.heap.size<=W2.heap.size:=by
    have q1:=hb1.size;have q3:W2.heap.size=w1.heap.size:=(by rw [<- hW2];simp);omega
   have hm1:=hp.gm;have hK4:W2.heap.size<=w4.heap.size:=hb4.size
   have hcb:CbV vs2 nr (fun g=>g<W2.heap.size):=fun i A' n' c' hi he g hg=>by
    obtain ⟨A2',c2',_,e1,_,ho',_⟩:=hin2 i hi;rw [he] at e1
    injection e1 with e1
    rw [e1] at hg;exact ho'.own_hi g hg
   refine wp_region_ds [17,18,19,20,21,22,23,24,25,26,27,4] (MakeG w.heap.size W0.heap.size W2.heap.size n s A1 c1 A2 nr c2 gi rs) (by kernel_rfl) (by kernel_rfl) (by simp) makeG_below ?step ?last
   case step=>
    intro i o a w' hi hoo hb hfr hpre;have e1:a.eval (.tmp 1)=.pointer (some ⟨w.heap.size,0,none⟩):=hfr 1 (by simp);obtain ⟨x0,x1,x2⟩:=HX.out w' hb;have hi12:i<12:=hi;have:i=0\/i=1\/i=2\/i=3\/i=4\/i=5\/i=6\/i=7\/i=8\/i=9\/i=10\/i=11:=(by omega)
    rcases this with rfl|rfl|rfl|rfl|rfl|rfl|rfl|rfl|rfl|rfl|rfl|rfl
    all_goals
     simp only [List.getElem?_toArray,List.getElem?_cons_zero,List.getElem?_cons_succ,Option.some.injEq] at hoo;subst hoo
    ·refine ⟨_,w',?_,Below.refl _ _,rfl⟩;unfold execOp;simp only [e1]
     go_simp
    ·have p0:=hpre ⟨0,.data⟩ (by simp) rfl;have p0':a.eval (.tmp 17)=.pointer (some ⟨w.heap.size,0,none⟩):=p0;refine ⟨_,w',?_,Below.refl _ _,rfl⟩;unfold execOp;simp only [p0']
     go_simp
    ·refine ⟨_,_,?_,(Below.refl _ _).alloc (Nat.le_refl _) (.cells #[] 3),⟨w'.heap.size,rfl⟩⟩;unfold execOp
     go_simp
    ·refine ⟨_,w',?_,Below.refl _ _,rfl⟩;unfold execOp;simp only [e1]
     go_simp
    ·have p0':a.eval (.tmp 20)=.pointer (some ⟨w.heap.size,1,none⟩):=hpre ⟨3,.data⟩ (by simp) rfl;refine ⟨_,w',?_,Below.refl _ _,rfl⟩;unfold execOp;simp only [p0']
     go_simp
    ·obtain ⟨b,hb19⟩:∃ b,a.eval (.tmp 19)=.slice (some ⟨b,0,none⟩) 0 0:=hpre ⟨2,.data⟩ (by simp) rfl;have p21:a.eval (.tmp 21)=.slice A1 n c1:=hpre ⟨4,.data⟩ (by simp) rfl;obtain ⟨A',c',w2,hrun,q1,q2⟩:=fresh_ints 23 b A1 n c1 _ gi (HR1.out w' hb) hn4 hm1;refine ⟨.slice A' n c',w2,?_,q2,A',c',rfl,q1.mono (Nat.le_trans hK4 hb.size)⟩;unfold execOp;simp only [resolve,invoke,builtin,Sem.run_bind,Sem.run_pure,Result.andThen_ok,List.map_toArray,List.map_cons,List.map_nil,hb19,p21,hrun]
    ·refine ⟨_,_,?_,(Below.refl _ _).alloc (Nat.le_refl _) (.cells #[] 88),⟨w'.heap.size,rfl,heap_alloc_new _ _,Nat.le_trans hlo4 hb.size⟩⟩;unfold execOp
     go_simp
    ·refine ⟨_,w',?_,Below.refl _ _,rfl⟩;unfold execOp;simp only [e1]
     go_simp
    ·have p0':a.eval (.tmp 24)=.pointer (some ⟨w.heap.size,2,none⟩):=hpre ⟨7,.data⟩ (by simp) rfl;refine ⟨_,w',?_,Below.refl _ _,rfl⟩;unfold execOp;simp only [p0']
     go_simp
    ·obtain ⟨b,hb23,hlit,hbl⟩:∃ b,a.eval (.tmp 23)=.slice (some ⟨b,0,none⟩) 0 0/\w'.heap[b]? =some (.cells #[] 88)/\W0.heap.size<=b:=hpre ⟨6,.data⟩ (by simp) rfl;have p25:a.eval (.tmp 25)=.slice A2 nr c2:=hpre ⟨8,.data⟩ (by simp) rfl;obtain ⟨hw1,hw2⟩:=HOW.out w' hb;obtain ⟨A',c',w2,hrun,⟨q1,q1'⟩,q2⟩:=fresh_rulesV 24 b A2 nr c2 W0.heap.size W0.heap.size rs vs2 hrl hw1 hw2 hlit hbl hp.rm (Nat.le_trans hlo4 hb.size);refine ⟨.slice A' nr c',w2,?_,q2,A',c',rfl,⟨vs2,q1,q1'⟩,⟨vs2,q1,hcb⟩⟩;unfold execOp;simp only [resolve,invoke,builtin,Sem.run_bind,Sem.run_pure,Result.andThen_ok,List.map_toArray,List.map_cons,List.map_nil,hb23,p25,hrun]
    ·have p18:a.eval (.tmp 18)=.int .i64 s:=hpre ⟨1,.data⟩ (by simp) rfl;obtain ⟨A',c',p22,q22⟩:∃ A' c',a.eval (.tmp 22)=.slice A' n c'/\Ow w' W2.heap.size A' n c' gi:=hpre ⟨5,.data⟩ (by simp) rfl;obtain ⟨A'',c'',p26,q26,q26'⟩:∃ A' c',a.eval (.tmp 26)=.slice A' nr c'/\OwR w' W0.heap.size (.slice A' nr c') rs nr/\SpQ w' W0.heap.size (.slice A' nr c') nr (fun g=>g<W2.heap.size):=hpre ⟨9,.data⟩ (by simp) rfl;refine ⟨.agg #[.int .i64 s,.slice A' n c',.slice A'' nr c''],w',?_,Below.refl _ _,A',c',A'',c'',rfl,q22,q26,q26'⟩;unfold execOp;simp only [List.map_toArray,List.map_cons,List.map_nil,p18,p22,p26]
     go_simp
    ·refine ⟨_,_,?_,(Below.refl _ _).alloc (Nat.le_refl _) (.cells #[.int .i64 0,.slice none 0 0,.slice none 0 0] 26),⟨w'.heap.size,rfl,heap_alloc_new _ _,Nat.le_trans hlo4 hb.size⟩⟩;unfold execOp
     go_simp
   case last=>
    intro o a w5 hoo hb5 hdef htm hfr hpre;simp only [List.length_cons,List.length_nil,Nat.reduceAdd,List.getElem?_toArray,List.getElem?_cons_zero,List.getElem?_cons_succ,Option.some.injEq] at hoo;subst hoo;have g17:a.tmps.getD 17 undef=.pointer (some ⟨w.heap.size,0,none⟩):=hpre 0 (by simp);have g18:a.tmps.getD 18 undef=.int .i64 s:=hpre 1 (by simp);obtain ⟨b19,g19⟩:∃ b,a.tmps.getD 19 undef=.slice (some ⟨b,0,none⟩) 0 0:=hpre 2 (by simp);have g20:a.tmps.getD 20 undef=.pointer (some ⟨w.heap.size,1,none⟩):=hpre 3 (by simp);have g21:a.tmps.getD 21 undef=.slice A1 n c1:=hpre 4 (by simp)
    obtain ⟨A22,c22,g22,_⟩:∃ A' c',a.tmps.getD 22 undef=.slice A' n c'/\_:=hpre 5 (by simp);obtain ⟨b23,g23,_⟩:∃ b,a.tmps.getD 23 undef=.slice (some ⟨b,0,none⟩) 0 0/\_:=hpre 6 (by simp);have g24:a.tmps.getD 24 undef=.pointer (some ⟨w.heap.size,2,none⟩):=hpre 7 (by simp);have g25:a.tmps.getD 25 undef=.slice A2 nr c2:=hpre 8 (by simp);obtain ⟨A26,c26,g26,_⟩:∃ A' c',a.tmps.getD 26 undef=.slice A' nr c'/\_:=hpre 9 (by simp);obtain ⟨A3,c3,A4,c4,g27,ho5,hor5,hsp5⟩:∃ A' c' A'' c'',a.tmps.getD 27 undef=.agg #[.int .i64 s,.slice A' n c',.slice A'' nr c'']/\Ow w5 W2.heap.size A' n c' gi/\OwR w5 W0.heap.size (.slice A'' nr c'') rs nr/\SpQ w5 W0.heap.size (.slice A'' nr c'') nr (fun g=>g<W2.heap.size):=hpre 10 (by simp)
    obtain ⟨X,g4,hrX,hloX⟩:∃ X,a.tmps.getD 4 undef=.pointer (some ⟨X,0,none⟩)/\w5.heap[X]? =some (.cells #[.int .i64 0,.slice none 0 0,.slice none 0 0] 26)/\W0.heap.size<=X:=hpre 11 (by simp);have h4:a.eval (.tmp 4)=.pointer (some ⟨X,0,none⟩):=g4;have h27:a.eval (.tmp 27)=.agg #[.int .i64 s,.slice A3 n c3,.slice A4 nr c4]:=g27;refine ⟨w5.setRow X #[.int .i64 s,.slice A3 n c3,.slice A4 nr c4],?_,?_⟩
    ·have hst:=run_storeVar_row (P:=Tryz.prog) w5 X 26 26 _ #[.int .i64 s,.slice A3 n c3,.slice A4 nr c4] hrX (Hi.out _ _ _ _ _ _ _) rfl (Hone.out _ _ _ _ _ _ _);unfold execOp;simp only [h4,h27,Instr.storeAt,Instr.sureAddr,Sem.run_bind,Sem.run_pure,Result.andThen_ok,hst]
    ·have key:=htm;simp only [List.foldl_cons,List.foldl_nil,g17,g18,g19,g20,g21,g22,g23,g24,g25,g26,g27,g4,List.setIfInBounds_toArray,List.set_cons_succ,List.set_cons_zero] at key;clear htm hfr hpre g17 g18 g19 g20 g21 g22 g23 g24 g25 g26 g27 g4 h4 h27;obtain ⟨tm,df⟩:=a
     dsimp only at key hdef
     subst key hdef;have hr5:=setRow_heap (w:=w5) X _ #[.int .i64 s,.slice A3 n c3,.slice A4 nr c4] 26 _ hrX;have ho6:=ho5.setX (cs':= #[.int .i64 s,.slice A3 n c3,.slice A4 nr c4]) hrX;have hor6:=hor5.setX (cs':= #[.int .i64 s,.slice A3 n c3,.slice A4 nr c4]) hrX;have hsp6:=hsp5.setX (cs':= #[.int .i64 s,.slice A3 n c3,.slice A4 nr c4]) hrX;have hB6:Below W0.heap.size W2 (w5.setRow X #[.int .i64 s,.slice A3 n c3,.slice A4 nr c4]):=setRow_below5 ((hb4.mono hlo2).trans (hb5.mono hlo4)) hloX;obtain ⟨w6,hw6⟩:∃ w6,w5.setRow X #[.int .i64 s,.slice A3 n c3,.slice A4 nr c4]=w6:=⟨_,rfl⟩
     rw [hw6] at hr5 ho6 hor6 hsp6 hB6 ⊢;clear hw6 ho5 hor5 hsp5 hrX;have HB6:=Lib.hid hB6
     go_wp2
     go_loopw [5] (fun i wr=>∃ (k:Nat) (A7 A8:Option Addr) (c7 c8:Nat),k<=n/\i=.int .i64 k/\wr.heap[X]? =some (.cells #[.int .i64 s,.slice A7 n c7,.slice A8 nr c8] 26)/\Ow wr W2.heap.size A7 n c7 (minL s n rs gi k)/\(OwR wr W0.heap.size (.slice A8 nr c8) rs nr/\SpQ wr W0.heap.size (.slice A8 nr c8) nr (fun g=>g<W2.heap.size))/\Below W0.heap.size W2 wr) (fun i _=>n-(intOf i).toNat)
     case atStart=>exact ⟨0,A3,A4,c3,c4,Nat.zero_le _,rfl,hr5,ho6,⟨hor6,hsp6⟩,hB6⟩
     case round=>
      obtain ⟨k,A7,A8,c7,c8,hk,rfl,hr7,ho7,⟨hor7,hsp7⟩,hb7⟩:=hrel;obtain ⟨x0,x1,x2⟩:PBox wr X s A7 n c7 A8 nr c8:=⟨cell_of_row _ _ 0 _ _ (0,0) hr7,cell_of_row _ _ 1 _ _ (0,0) hr7,cell_of_row _ _ 2 _ _ (0,0) hr7⟩
      by_cases hlt:k<n
      ·have hltI:(k:Int)<(n:Int):=(by omega);have hPk:PGs wr s A7 n c7 wr.heap.size (minL s n rs gi k) A8 nr c8 wr.heap.size rs:=⟨ho7.rd,Nat.le_refl _,hm1,hor7.rd hrl,Nat.le_refl _,hp.rm⟩;have hsX:=(Array.getElem?_eq_some_iff.1 hr7).1
       have hsW:W0.heap.size<=wr.heap.size:=by
        have q1:=hb7.size;omega
       have HRd:=Lib.hid (specIsRedundant s A7 n c7 wr.heap.size (minL s n rs gi k) A8 nr c8 wr.heap.size rs (k:Int) wr hPk);have HWo:=Lib.hid (fun w' (hb:Below wr.heap.size wr w')=>specWithout (Bg:=wr.heap.size) s A7 n c7 (minL s n rs gi k) A8 nr c8 k w' (hPk.below hb).g (hPk.below hb).gB hm1 hlt);have hb7':=hb7;cases hred:redB s n (minL s n rs gi k) rs k
       ·have hml:minL s n rs gi (k+1)=minL s n rs gi k:=(by rw [minL,hred];rfl);have Hml:=Lib.hid hml;clear hml
        go_wp2_with (go_at_call 153;refine HRd.out.mono ?_;rintro e w8 ⟨rfl,hb8⟩;rw [hred];have hr8:=(hb8.block X hsX).trans hr7;have ho8:=ho7.below hb8;have hor8:=hor7.below hb8;have hsp8:=hsp7.below hb8;have hB8:=hb7'.trans (hb8.mono hsW))
        refine ⟨⟨k+1,A7,A8,c7,c8,hlt,by simp,hr8,by rw [Hml.out];exact ho8,⟨hor8,hsp8⟩,hB8⟩,by simp [intOf];omega⟩
       ·have hml:minL s n rs gi (k+1)=(minL s n rs gi k).set k 0:=(by rw [minL,hred];rfl);have Hml:=Lib.hid hml;clear hml
        go_wp2_with (first|(go_at_call 153;refine HRd.out.mono ?_;rintro e w8 ⟨rfl,hb8⟩;rw [hred];have hr8:=(hb8.block X hsX).trans hr7;have ho8:=ho7.below hb8;have hor8:=hor7.below hb8;have hsp8:=hsp7.below hb8;have hB8:=hb7'.trans (hb8.mono hsW);obtain ⟨y0,y1,y2⟩:PBox w8 X s A7 n c7 A8 nr c8:=⟨cell_of_row _ _ 0 _ _ (0,0) hr8,cell_of_row _ _ 1 _ _ (0,0) hr8,cell_of_row _ _ 2 _ _ (0,0) hr8⟩)|(go_at_call 154;refine (HWo.out _ hb8).mono ?_;rintro e w9 ⟨A9,c9,rfl,ho9,hb9⟩;have hr9:=(hb9.block X (Nat.lt_of_lt_of_le hsX hb8.size)).trans hr8)|(refine wpList_store_row rfl 26 _ _ rfl X #[.int .i64 s,.slice A9 n c9,.slice A8 nr c8] rfl rfl 26 #[.int .i64 s,.slice A7 n c7,.slice A8 nr c8] hr9 (Hi.out _ _ _ _ _ _ _) rfl (Hone.out _ _ _ _ _ _ _) ?_))
        have ho10:Ow (w9.setRow X #[.int .i64 s,.slice A9 n c9,.slice A8 nr c8]) W2.heap.size A9 n c9 ((minL s n rs gi k).set k 0):=(ho9.mono (Nat.le_trans hb7.size hb8.size)).setX hr9;refine ⟨⟨k+1,A9,A8,c9,c8,hlt,by simp,setRow_heap _ _ _ _ _ _ hr9,by rw [Hml.out];exact ho10,⟨(hor8.below hb9).setX hr9,(hsp8.below hb9).setX hr9⟩,setRow_below5 (hB8.trans (hb9.mono (Nat.le_trans hsW hb8.size))) hloX⟩,by simp [intOf];omega⟩
      ·obtain rfl:k=n:=by omega
       have hq7:=(hb7.block (w.heap.size+1) (by omega)).trans hq2
       go_wp2_with (refine wpList_store_row rfl 26 _ _ rfl (w.heap.size+1) #[.int .i64 s,.slice A7 k c7,.slice A8 nr c8] rfl rfl 26 #[.int .i64 0,.slice none 0 0,.slice none 0 0] hq7 (Hi.out _ _ _ _ _ _ _) rfl (Hone.out _ _ _ _ _ _ _) ?_)
       have hBe:Below w.heap.size w (wr.setRow (w.heap.size+1) #[.int .i64 s,.slice A7 k c7,.slice A8 nr c8]):=setRow_below5 (HB2.out.trans (hb7.mono (by omega))) (by omega);exact bodyPost_ret (v:=.tuple #[.agg #[.int .i64 s,.slice A7 k c7,.slice A8 nr c8],.bool true]) (results_row_tmp (by rfl) _ _ (w.heap.size+1) 26 _ (0,0) _ _ rfl rfl (setRow_heap _ _ _ _ _ _ hq7) Tryz.underlying26 rfl (Hi.out _ _ _ _ _ _ _)) rfl ⟨hBe,.inr ⟨ht,A7,c7,A8,c8,W2.heap.size,rfl,ho7.setX hq7,by omega,(hor7.setX hq7).mono (by omega),(hsp7.setX hq7).mono (by omega)⟩⟩
end Go.Proofs.YtkeoflnmbcdmfaaGreatDoor
set_option maxRecDepth 8000
namespace Go.Proofs.YtkeoflnmbcdmfaaGreatDoor
open Go.ChangeShapes Go.WideShapes Go.ChangeAt Go.RowKit
theorem ow_any {w:World} {lo n c:Nat} {A:Option Addr} {xs:List Int} (h:Ow w lo A n c xs) (g j:Nat) (z:Int):∃ xs',xs'.length=xs.length/\Ow (w.setCell ⟨g,j,none⟩ (.int .i64 z)) lo A n c xs':=by
 by_cases e:(Value.slice A n c).ownBlock=some g
 ·obtain ⟨b,hA⟩:∃ b:Addr,A=some b:=by cases A with
   |none=>simp [Value.ownBlock] at e
   |some b=>exact ⟨b,rfl⟩
  have hg:A=some ⟨g,0,none⟩:=by
   rcases h.2 with ⟨h1,_⟩|⟨g',cap,cur,hv,_⟩
   ·rw [hA] at h1;cases h1
   ·injection hv with e1 _ _
    rw [e1] at e ⊢
    simp [Value.ownBlock] at e
    rw [e]
  subst hg;refine ⟨xs.set j z,by simp,?_⟩;have:=(World.ownsRow.stored h j (.int .i64 z)).1;unfold Ow;rwa [show vals (xs.set j z)=(vals xs).set j (.int .i64 z) by simp [vals,List.map_set]]
 ·exact ⟨xs,rfl,World.ownsRow.kept h (row:=some g) grown_set (.inr e)⟩
theorem owR_any {w:World} {lo k:Nat} {v:Value} {rs:List RuleM} (h:OwR w lo v rs k) (g j:Nat) (z:Int) {cs:Array Value} (hg:w.heap[g]? =some (.cells cs 3)):
 ∃ rs',rs'.length=k/\OwR (w.setCell ⟨g,j,none⟩ (.int .i64 z)) lo v rs' k:=by
 obtain ⟨vs,hown,hin⟩:=h
 have hx:∀ i,∃ xs':List Int,i<k->xs'.length=(rat rs i).xs.length/\∃ A' c',vs[i*3]? =some (.int .i64 (rat rs i).k)/\vs[i*3+1]? =some (.slice A' (rat rs i).xs.length c')/\vs[i*3+2]? =some (.int .i64 (rat rs i).v)/\Ow (w.setCell ⟨g,j,none⟩ (.int .i64 z)) lo A' (rat rs i).xs.length c' xs'/\(rat rs i).xs.length<=1099511627776/\∀ b,(Value.slice A' (rat rs i).xs.length c').ownBlock=some b->v.ownBlock≠some b:=by
  intro i
  by_cases hi:i<k
  ·obtain ⟨A',c',e0,e1,e2,e3,e4,e5⟩:=hin i hi;obtain ⟨xs',hl,ho⟩:=ow_any e3 g j z;exact ⟨xs',fun _=>⟨hl,A',c',e0,e1,e2,ho,e4,e5⟩⟩
  ·exact ⟨[],fun h=>absurd h hi⟩
 obtain ⟨f,hf⟩:=Classical.skolem.1 hx;refine ⟨(List.range k).map (fun i=>⟨(rat rs i).k,f i,(rat rs i).v⟩),by simp,vs,World.ownsRow.kept hown (row:=some g) grown_set ?_,fun i hi=>?_⟩
 ·rcases hown.2 with ⟨rfl,_⟩|⟨g',cap,cur,rfl,hb,hg',_⟩
  ·exact .inl rfl
  ·refine .inr (fun e2=>?_);have e3:g'=g:=(by simpa [Value.ownBlock] using e2);subst e3;rw [hg] at hg'
   injection hg' with hg'
   injection hg' with _ h2 _
   exact absurd h2 (by decide)
 ·have hr:rat ((List.range k).map (fun i=>(⟨(rat rs i).k,f i,(rat rs i).v⟩:RuleM))) i=⟨(rat rs i).k,f i,(rat rs i).v⟩:=by
   simp [rat,List.getD_eq_getElem?_getD,hi]
  obtain ⟨hl,A',c',e0,e1,e2,e3,e4,e5⟩:=hf i hi;rw [hr];simp only;rw [hl];exact ⟨A',c',e0,e1,e2,e3,e4,e5⟩
theorem run_push_oneV {w:World} (ty:TypeId) (lo:Nat) (A:Option Addr) (n c b:Nat) (rs:List RuleM) (k v:Int) (A3:Option Addr) (m c3:Nat) (xs:List Int) (hl:rs.length=n) (vs1:List Value) (hown:w.ownsRow lo 88 3 (.slice A n c) n vs1) (hin:InR w lo (.slice A n c) rs vs1 n) (ho:Ow w lo A3 m c3 xs)
 (hlit:w.heap[b]? =some (.cells #[.int .i64 k,.slice A3 m c3,.int .i64 v] 88)) (hn:n<=1099511627775) (hm:m<=1099511627776) (hlo:lo<=w.heap.size):
 ∃ A' c' w',(Builtin.append_ #[24,24] ty #[.slice A n c,.slice (some ⟨b,0,none⟩) 1 1]).run Tryz.prog w=.ok (.slice A' (n+1) c') w'/\(w'.ownsRow lo 88 3 (.slice A' (n+1) c') (n+1) (vs1++[.int .i64 k,.slice A3 m c3,.int .i64 v])/\InR w' lo (.slice A' (n+1) c') (rs++[⟨k,xs,v⟩]) (vs1++[.int .i64 k,.slice A3 m c3,.int .i64 v]) (n+1))/\w.grownBy w' (Value.slice A n c).ownBlock:=by
 have hxl:=ho.len;have hl2:w.ownsRow 0 88 3 (.slice (some ⟨b,0,none⟩) 1 1) 1 [.int .i64 k,.slice A3 m c3,.int .i64 v]:=⟨rfl,.inr ⟨b,1,_,rfl,Nat.zero_le _,hlit,Nat.le_refl _,by simp [maxLen],rfl,rfl⟩⟩
 have hin2:InR w lo (.slice A n c) [⟨k,xs,v⟩] [.int .i64 k,.slice A3 m c3,.int .i64 v] 1:=by
  intro i hi
  obtain rfl:i=0:=by omega
  refine ⟨A3,c3,rfl,by simp [rat,hxl],rfl,by simp only [rat,List.getD_cons_zero];rw [hxl];exact ho,by simp only [rat,List.getD_cons_zero];omega,fun g hg e=>?_⟩;simp only [rat,List.getD_cons_zero] at hg
  rcases hown.2 with ⟨e1,_⟩|⟨g1,cap1,cur1,e1,_,hr1,_⟩
  ·rw [e1] at e;simp [Value.ownBlock] at e
  ·rcases ho.2 with ⟨e2,_⟩|⟨g2,cap2,cur2,e2,_,hr2,_⟩
   ·injection e2 with e2 _ _
    rw [e2] at hg;simp [Value.ownBlock] at hg
   ·injection e2 with e2 _ _
    rw [e1] at e;rw [e2] at hg
    simp [Value.ownBlock] at e hg
    subst e;subst hg;rw [hr1] at hr2
    injection hr2 with hr2
    injection hr2 with _ h2 _
    exact absurd h2 (by decide)
 obtain ⟨A',c',w',hrun,h1,h2,_⟩:=run_push_rulesV ty lo A n c rs vs1 (some ⟨b,0,none⟩) 1 1 [⟨k,xs,v⟩] _ 0 hl hown hin hl2 hin2 (.inl (by omega)) (by omega) (by omega) hlo;exact ⟨A',c',w',hrun,h1,h2⟩
theorem run_push_one {w:World} (ty:TypeId) (lo:Nat) (A:Option Addr) (n c b:Nat) (rs:List RuleM) (k v:Int) (A3:Option Addr) (m c3:Nat) (xs:List Int) (hl:rs.length=n) (h:OwR w lo (.slice A n c) rs n) (ho:Ow w lo A3 m c3 xs)
 (hlit:w.heap[b]? =some (.cells #[.int .i64 k,.slice A3 m c3,.int .i64 v] 88)) (hn:n<=1099511627775) (hm:m<=1099511627776) (hlo:lo<=w.heap.size):
 ∃ A' c' w',(Builtin.append_ #[24,24] ty #[.slice A n c,.slice (some ⟨b,0,none⟩) 1 1]).run Tryz.prog w=.ok (.slice A' (n+1) c') w'/\OwR w' lo (.slice A' (n+1) c') (rs++[⟨k,xs,v⟩]) (n+1)/\w.grownBy w' (Value.slice A n c).ownBlock:=by
 obtain ⟨vs1,hown,hin⟩:=id h;obtain ⟨A',c',w',hrun,⟨k1,k2⟩,k3⟩:=run_push_oneV ty lo A n c b rs k v A3 m c3 xs hl vs1 hown hin ho hlit hn hm hlo;exact ⟨A',c',w',hrun,⟨_,k1,k2⟩,k3⟩
theorem step_push_one {w:World} {ops:Array Oper} {o:Oper} {a:Act} {K:Act->World->Prop} {Q:Exit->Act->World->Prop} {E:Prop} (hgd:o.guard=none) (s x:Operand)
 (ho':o.op=.call { callee:=.builtin .append,args:= #[s,x],argTypes:= #[24,24] })
 (lo:Nat) (A:Option Addr) (n c b:Nat) (rs:List RuleM) (k v:Int) (A3:Option Addr) (m c3:Nat) (xs:List Int) (hs:a.eval s=.slice A n c) (hx:a.eval x=.slice (some ⟨b,0,none⟩) 1 1) (hl:rs.length=n) (h:OwR w lo (.slice A n c) rs n) (ho:Ow w lo A3 m c3 xs)
 (hlit:w.heap[b]? =some (.cells #[.int .i64 k,.slice A3 m c3,.int .i64 v] 88)) (hn:n<=1099511627775) (hm:m<=1099511627776) (hlo:lo<=w.heap.size)
 (hK:∀ A' c' w',OwR w' lo (.slice A' (n+1) c') (rs++[⟨k,xs,v⟩]) (n+1)->w.grownBy w' (Value.slice A n c).ownBlock->K (a.put o.dst (.slice A' (n+1) c')) w'):
 if Region.wanted o (yielded ops a.tmps)=true then Oper.wp Tryz.prog o a w K Q else E:=by
 obtain ⟨A',c',w',hrun,h1,h2⟩:=run_push_one o.type lo A n c b rs k v A3 m c3 xs hl h ho hlit hn hm hlo
 have hw:Region.wanted o (yielded ops a.tmps)=true:=by simp [Region.wanted,hgd]
 rw [if_pos hw];unfold Oper.wp execOp;simp only [ho',resolve,invoke,builtin,Sem.run_bind,Sem.run_pure,Result.andThen_ok,List.map_toArray,List.map_cons,List.map_nil,hs,hx,hrun];exact hK A' c' w' h1 h2
theorem push_rules {w:World} {ops:Array Oper} {rest:List Oper} {o:Oper} {a:Act} {Q:Exit->Act->World->Prop} (hgd:o.guard=none) (s x:Operand)
 (ho:o.op=.call { callee:=.builtin .append,args:= #[s,x],argTypes:= #[24,24] })
 (lo:Nat) (A:Option Addr) (n c:Nat) (rs1:List RuleM) (vs1:List Value) (A2:Option Addr) (m c2:Nat) (rs2:List RuleM) (vs2:List Value) (lo2:Nat) (hs:a.eval s=.slice A n c) (hx:a.eval x=.slice A2 m c2) (l1:rs1.length=n)
 (hown:w.ownsRow lo 88 3 (.slice A n c) n vs1) (hin1:InR w lo (.slice A n c) rs1 vs1 n) (hown2:w.ownsRow lo2 88 3 (.slice A2 m c2) m vs2) (hin2:InR w lo (.slice A n c) rs2 vs2 m) (hmn:0<m\/n=0)
 (hn:n<=1099511627776) (hm:m<=1099511627776) (hlo:lo<=w.heap.size)
 (h:∀ A' c' w',OwR w' lo (.slice A' (n+m) c') (rs1++rs2) (n+m)->w.grownBy w' (Value.slice A n c).ownBlock->wpList Tryz.prog ops Q rest (a.put o.dst (.slice A' (n+m) c')) w'):
 wpList Tryz.prog ops Q (o::rest) a w:=by
 refine wpList_plain hgd fun K hK=>?_
 obtain ⟨A',c',w',hrun,h1,h2,h3⟩:=run_push_rules o.type lo A n c rs1 vs1 A2 m c2 rs2 vs2 lo2 l1 hown hin1 hown2 hin2 hmn hn hm hlo;unfold Oper.wp
 simp [execOp,ho,resolve,invoke,builtin,hs,hx,hrun,Result.andThen]
 exact hK _ _ (h A' c' w' h1 h2)
theorem push_rulesV {w:World} {ops:Array Oper} {rest:List Oper} {o:Oper} {a:Act} {Q:Exit->Act->World->Prop} (hgd:o.guard=none) (s x:Operand)
 (ho:o.op=.call { callee:=.builtin .append,args:= #[s,x],argTypes:= #[24,24] })
 (lo:Nat) (A:Option Addr) (n c:Nat) (rs1:List RuleM) (vs1:List Value) (A2:Option Addr) (m c2:Nat) (rs2:List RuleM) (vs2:List Value) (lo2:Nat) (hs:a.eval s=.slice A n c) (hx:a.eval x=.slice A2 m c2) (l1:rs1.length=n)
 (hown:w.ownsRow lo 88 3 (.slice A n c) n vs1) (hin1:InR w lo (.slice A n c) rs1 vs1 n) (hown2:w.ownsRow lo2 88 3 (.slice A2 m c2) m vs2) (hin2:InR w lo (.slice A n c) rs2 vs2 m) (hmn:0<m\/n=0)
 (hn:n<=1099511627776) (hm:m<=1099511627776) (hlo:lo<=w.heap.size)
 (h:∀ A' c' w',w'.ownsRow lo 88 3 (.slice A' (n+m) c') (n+m) (vs1++vs2)->InR w' lo (.slice A' (n+m) c') (rs1++rs2) (vs1++vs2) (n+m)->w.grownBy w' (Value.slice A n c).ownBlock->wpList Tryz.prog ops Q rest (a.put o.dst (.slice A' (n+m) c')) w'):
 wpList Tryz.prog ops Q (o::rest) a w:=by
 refine wpList_plain hgd fun K hK=>?_
 obtain ⟨A',c',w',hrun,⟨h1,h1'⟩,h2,h3⟩:=run_push_rulesV o.type lo A n c rs1 vs1 A2 m c2 rs2 vs2 lo2 l1 hown hin1 hown2 hin2 hmn hn hm hlo;unfold Oper.wp
 simp [execOp,ho,resolve,invoke,builtin,hs,hx,hrun,Result.andThen]
 exact hK _ _ (h A' c' w' h1 h1' h2)
theorem grown_own {w2 w w':World} {G lo:Nat} {v:Value} {e:TypeId} {sz n:Nat} {xs:List Value} (h:w2.grownBy w (some G)) (hown:w.ownsRow lo e sz v n xs) (hlo:w2.heap.size<=lo) (hg:w.grownBy w' v.ownBlock):w2.grownBy w' (some G):=
 ⟨hg.os.trans h.os,hg.tape.trans h.tape,hg.output.trans h.output,Nat.le_trans h.size hg.size,fun k hk hne=>(hg.block k (Nat.lt_of_lt_of_le hk h.size) (fun e=>by have:=(World.ownsRow.lt hown k e.symm).1;omega)).trans (h.block k hk hne)⟩
theorem row_own {w w':World} {lo X:Nat} {v:Value} {e t:TypeId} {sz n:Nat} {xs:List Value} {cs:Array Value} (hX:w.heap[X]? =some (.cells cs t)) (hown:w.ownsRow lo e sz v n xs) (hne:t≠e) (hg:w.grownBy w' v.ownBlock):w'.heap[X]? =some (.cells cs t):=by
 refine (hg.block X (Array.getElem?_eq_some_iff.1 hX).1 (fun e2=>?_)).trans hX
 rcases hown.2 with ⟨rfl,_⟩|⟨g,cap,cur,rfl,hb,hg',_⟩
 ·simp [Value.ownBlock] at e2
 ·have e3:X=g:=by simpa [Value.ownBlock] using e2
  subst e3;rw [hX] at hg'
  injection hg' with hg'
  injection hg' with _ h2 _
  exact hne h2
theorem ow_own {w w':World} {lo lo' A n c} {xs:List Int} {v:Value} {e:TypeId} {sz k:Nat} {vs:List Value} (h:Ow w lo A n c xs) (hown:w.ownsRow lo' e sz v k vs) (hne:3≠e) (hg:w.grownBy w' v.ownBlock):Ow w' lo A n c xs:=by
 refine World.ownsRow.kept h hg ?_
 rcases h.2 with ⟨e1,_⟩|⟨g1,cap1,cur1,e1,_,hr1,_⟩
 ·rw [e1];exact .inl rfl
 ·refine .inr (fun e2=>?_)
  rcases hown.2 with ⟨e3,_⟩|⟨g2,cap2,cur2,e3,_,hr2,_⟩
  ·rw [e1,e3] at e2;simp [Value.ownBlock] at e2
  ·rw [e1,e3] at e2
   simp [Value.ownBlock] at e2
   subst e2;rw [hr1] at hr2
   injection hr2 with hr2
   injection hr2 with _ h2 _
   exact hne h2
end Go.Proofs.YtkeoflnmbcdmfaaGreatDoor
set_option maxRecDepth 8000
namespace Go.Proofs.YtkeoflnmbcdmfaaGreatDoor
open Go.ChangeShapes Go.WideShapes Go.ChangeAt Go.RowKit
def boxC (k:Nat):Int:=((k/8*2+k%4/2:Nat):Int)
set_option maxHeartbeats 1000000 in
theorem specBoxRegions (w:World):Calls Tryz.prog 109 #[] w (RetSl w (mapTo boxC 16)):=by
 have hb0:Below w.heap.size w (w.alloc (.cells #[] 3)):=(Below.refl _ _).alloc (Nat.le_refl _) _
 go_enter Tryz.func109,Tryz.ntmps109
 go_wp2
 go_loopw [1,2] (fun v i wr=>∃ (u:Nat) (A':Option Addr) (c':Nat),u<=16/\i=.int .i64 u/\v=.slice A' u c'/\Ow wr w.heap.size A' u c' (mapTo boxC u)/\Below w.heap.size w wr) (fun _ i _=>16-(intOf i).toNat)
 case atStart=>exact ⟨0,_,_,Nat.zero_le _,rfl,rfl,Ow.made0 _ _ (Nat.le_refl _),hb0⟩
 case round=>
  obtain ⟨u,A',c',hu,rfl,rfl,ho,hb⟩:=hrel;have hs:=hb.size
  by_cases hlt:u<16
  ·have hlt':(u:Int)<16:=by omega
   have hu1:u<=1099511627776:=(by omega)
   go_wp2_with (at_builtin;refine push_int rfl (.tmp 8) (.tmp 16) rfl w.heap.size A' u c' (mapTo boxC u) _ rfl rfl ho hu1 hs ?_;intro A5 c5 w5 ho5 hg5)
   go_roundw
   case rel=>exact ⟨u+1,_,_,by omega,by go_num,rfl,by rw [mapTo_succ];exact ho5,push_below hb ho (Nat.le_refl _) hs hg5⟩
   case measure=>simp [intOf];omega
  ·obtain rfl:u=16:=by omega
   go_wp2
   go_ret
   exact retSl_mk ho hb
theorem all_f5 {xs:List Int} {p:Int->Bool} {k n:Nat} (hl:xs.length=n) (hk:k<n) (h:p (nth xs k)=false):xs.all p=false:=by
 refine List.all_eq_false.2 ⟨nth xs k,?_,by simp [h]⟩
 have hk':k<xs.length:=by omega
 have e:nth xs k=xs[k]:=by simp [nth,List.getD_eq_getElem?_getD,hk']
 rw [e];exact List.getElem_mem _
def regB (rg:List Int) (s:Int):Bool:=(rg.all fun x=>inr x 0 (s-1))&&inr s 2 4&&((rg.length:Int)==s*s)
set_option maxHeartbeats 1000000 in
theorem specRegionsValid (A:Option Addr) (c n B:Nat) (rg:List Int) (s:Int) (w:World) (h:Rd w B A n rg) (hm:n<=1099511627776):
 Calls Tryz.prog 149 #[.slice A n c,.int .i64 s] w fun e w'=>e=.returned (.bool (regB rg s))/\w=w':=by
 obtain ⟨q,hq⟩:∃ q,wrap64 (s-1)=q:=⟨_,rfl⟩
 have hreg:regB rg s=((rg.all fun x=>inr x 0 q)&&inr s 2 4&&((rg.length:Int)==s*s)):=by
  cases hs:inr s 2 4
  ·simp [regB,hs]
  ·obtain ⟨h2,h4⟩:=inr_t hs;rw [IntWalk.wrap64_in _ ⟨by omega,by omega⟩] at hq;subst hq;simp only [regB,hs]
 have Hreg:=Lib.hid hreg;clear hreg
 go_enter Tryz.func149,Tryz.ntmps149
 go_wp2
 go_loop [5] (fun i=>∃ k:Nat,k<=n/\i=.int .i64 k/\okTo rg q k) (fun i=>n-(intOf i).toNat)
 case atStart=>exact ⟨0,Nat.zero_le _,rfl,okTo_zero⟩
 case round=>
  obtain ⟨k,hk,rfl,hok⟩:=hrel
  by_cases hlt:k<n
  ·have hlen:=Lib.hid h.1;obtain ⟨b,off,rfl,hb,hck⟩:=h.at_ hlt;cases hv:inr (nth rg k) 0 q
   ·go_wp2_with (go_at_call 62;(try simp only [hq]);refine (l1In_any _ _ _ _).mono ?_;rintro e w' ⟨rfl,rfl⟩)
    go_ret
    exact ⟨by rw [Hreg.out,all_f5 hlen.out hlt (p:=fun x=>inr x 0 q) hv];rfl,rfl⟩
   ·go_wp2_with (go_at_call 62;(try simp only [hq]);refine (l1In_any _ _ _ _).mono ?_;rintro e w' ⟨rfl,rfl⟩)
    go_round
    case rel=>exact ⟨k+1,by omega,by go_num,okTo_succ hok hv⟩
    case measure=>simp [intOf];omega
  ·obtain rfl:k=n:=by omega
   have hall:=Lib.hid (okTo_all hok h.1);have hlen:=Lib.hid h.1;cases hs:inr s 2 4
   ·clear hq
    go_wp2_with (go_at_call 62;refine (l1In_any _ _ _ _).mono ?_;rintro e w' ⟨rfl,rfl⟩)
    go_ret
    exact ⟨by rw [Hreg.out,hs];simp,rfl⟩
   ·obtain ⟨h2,h4⟩:=inr_t hs;clear hq;have hsq:s=2\/s=3\/s=4:=(by omega)
    rcases hsq with rfl|rfl|rfl
    all_goals
     go_wp2_with (go_at_call 62;refine (l1In_any _ _ _ _).mono ?_;rintro e w' ⟨rfl,rfl⟩)
     go_ret
     exact ⟨by rw [Hreg.out,hs,hall.out,hlen.out];simp,rfl⟩
end Go.Proofs.YtkeoflnmbcdmfaaGreatDoor
set_option maxRecDepth 8000
namespace Go.Proofs.YtkeoflnmbcdmfaaGreatDoor
open Go.ChangeShapes Go.WideShapes Go.ChangeAt Go.RowKit
def pickTo (rg:List Int) (r:Int):Nat->List Int
 |0=>[]
 |u+1=>if nth rg u=r then pickTo rg r u++[(u:Int)] else pickTo rg r u
theorem pickTo_len (rg:List Int) (r:Int) (u:Nat):(pickTo rg r u).length<=u:=by
 induction u with
 |zero=>exact Nat.le_refl _
 |succ u ih=>
  simp only [pickTo]
  split
  ·simp;omega
  ·omega
def cellsL (rg:List Int) (s r:Int) (n:Nat):List Int:=if regB rg s=true then pickTo rg r n else []
set_option maxHeartbeats 1000000 in
theorem specRegionCells (A:Option Addr) (c n B:Nat) (rg:List Int) (s r:Int) (w:World) (h:Rd w B A n rg) (hB:B<=w.heap.size) (hm:n<=1099511627776):
 Calls Tryz.prog 150 #[.slice A n c,.int .i64 s,.int .i64 r] w (RetSl w (cellsL rg s r n)):=by
 have hb0:Below w.heap.size w (w.alloc (.cells #[] 3)):=(Below.refl _ _).alloc (Nat.le_refl _) _;have HV:=Lib.hid (fun w' (hb:Below w.heap.size w w')=>specRegionsValid A c n B rg s w' (h.below (hb.mono hB)) hm);cases hv:regB rg s
 ·have HL:=Lib.hid (show cellsL rg s r n=[] by simp [cellsL,hv])
  go_enter Tryz.func150,Tryz.ntmps150
  go_wp2
  go_loopw [7,8] (fun v i wr=>v=.slice (some ⟨w.heap.size,0,none⟩) 0 0/\i=.int .i64 0/\wr=w.alloc (.cells #[] 3)) (fun _ _ _=>0)
  case atStart=>exact ⟨rfl,rfl,rfl⟩
  case round=>
   obtain ⟨rfl,rfl,rfl⟩:=hrel
   by_cases hlt:0<n
   ·have hlt':(0:Int)<(n:Int):=(by omega)
    go_wp2_with (go_at_call 149;refine (HV.out _ hb0).mono ?_;rintro e w1 ⟨rfl,rfl⟩;rw [hv])
    go_ret
    rw [HL.out];exact ⟨_,_,rfl,Ow.made0 _ _ (Nat.le_refl _),hb0⟩
   ·obtain rfl:n=0:=by omega
    go_wp2
    go_ret
    rw [HL.out];exact ⟨_,_,rfl,Ow.made0 _ _ (Nat.le_refl _),hb0⟩
 ·have HL:=Lib.hid (show cellsL rg s r n=pickTo rg r n by simp [cellsL,hv])
  go_enter Tryz.func150,Tryz.ntmps150
  go_wp2
  go_loopw [7,8] (fun v i wr=>∃ (u m:Nat) (A':Option Addr) (c':Nat),u<=n/\i=.int .i64 u/\v=.slice A' m c'/\Hid ((pickTo rg r u).length=m)/\Ow wr w.heap.size A' m c' (pickTo rg r u)/\Below w.heap.size w wr) (fun _ i _=>n-(intOf i).toNat)
  case atStart=>exact ⟨0,0,_,_,Nat.zero_le _,rfl,rfl,Lib.hid rfl,Ow.made0 _ _ (Nat.le_refl _),hb0⟩
  case round=>
   obtain ⟨u,m,A',c',hu,rfl,rfl,hlen,ho,hb⟩:=hrel;have hs:=hb.size
   by_cases hlt:u<n
   ·obtain ⟨b,off,hA,hbB,hck⟩:=(h.below (hb.mono hB)).at_ hlt;subst hA;have hm1:m<=1099511627776:=(by have:=hlen.out;have:=pickTo_len rg r u;omega)
    by_cases e:nth rg u=r
    ·have hq:(nth rg u==r)=true:=(by simp [e]);have Hp:=Lib.hid (show pickTo rg r (u+1)=pickTo rg r u++[(u:Int)] by simp only [pickTo];rw [if_pos e]);have Hl:=Lib.hid (show (pickTo rg r (u+1)).length=m+1 by rw [Hp.out,List.length_append,hlen.out];rfl);clear e
     go_wp2_with (first
      |(go_at_call 149;refine (HV.out _ hb).mono ?_;rintro e w1 ⟨rfl,rfl⟩;rw [hv])
      |(at_builtin;refine push_int rfl (.tmp 27) (.tmp 29) rfl w.heap.size A' m c' (pickTo rg r u) _ rfl rfl ho hm1 hs ?_;intro A5 c5 w5 ho5 hg5))
     go_roundw
     case rel=>exact ⟨u+1,_,_,_,by omega,by go_num,rfl,Hl,by rw [Hp.out];exact ho5,push_below hb ho (Nat.le_refl _) hs hg5⟩
     case measure=>simp [intOf];omega
    ·have hq:(nth rg u==r)=false:=(by simp [e]);have Hp:=Lib.hid (show pickTo rg r (u+1)=pickTo rg r u by simp only [pickTo];rw [if_neg e]);clear e
     go_wp2_with (go_at_call 149;refine (HV.out _ hb).mono ?_;rintro e w1 ⟨rfl,rfl⟩;rw [hv])
     go_roundw
     case rel=>exact ⟨u+1,_,_,_,by omega,by go_num,rfl,Lib.hid (by rw [Hp.out];exact hlen.out),by rw [Hp.out];exact ho,hb⟩
     case measure=>simp [intOf];omega
   ·obtain rfl:u=n:=by omega
    go_wp2
    go_ret
    rw [HL.out];exact retSl_mk ho hb
end Go.Proofs.YtkeoflnmbcdmfaaGreatDoor
set_option maxRecDepth 8000
namespace Go.Proofs.YtkeoflnmbcdmfaaGreatDoor
open Go.ChangeShapes Go.WideShapes Go.ChangeAt Go.RowKit
theorem rat_app {rs:List RuleM} {r:RuleM} {i:Nat} (h:i<rs.length):rat (rs++[r]) i=rat rs i:=by
 simp [rat,List.getD_eq_getElem?_getD,List.getElem?_append_left h]
theorem rat_last {rs:List RuleM} {r:RuleM} {m:Nat} (h:rs.length=m):rat (rs++[r]) m=r:=by
 subst h
 simp [rat,List.getD_eq_getElem?_getD]
def rrTo (rg:List Int) (s:Int) (n:Nat):Nat->List RuleM
 |0=>[]
 |u+1=>if 2<=(cellsL rg s u n).length then rrTo rg s n u++[⟨1,cellsL rg s u n,0⟩] else rrTo rg s n u
theorem rrTo_len (rg:List Int) (s:Int) (n u:Nat):(rrTo rg s n u).length<=u:=by
 induction u with
 |zero=>exact Nat.le_refl _
 |succ u ih=>
  simp only [rrTo]
  split
  ·simp;omega
  ·omega
def rrFit (rg:List Int) (s:Int) (n:Nat):Bool:=(List.range s.toNat).all fun u=>decide ((cellsL rg s u n).length<=4)
def rrB (rg:List Int) (s:Int) (n:Nat):Bool:=regB rg s&&rrFit rg s n
def rrL (rg:List Int) (s:Int) (n:Nat):List RuleM:=if rrB rg s n=true then rrTo rg s n s.toNat else []
set_option maxHeartbeats 2000000 in
theorem specRegionRules (A:Option Addr) (c n B:Nat) (rg:List Int) (s:Int) (w:World) (h:Rd w B A n rg) (hB:B<=w.heap.size) (hm:n<=1099511627776):
 Calls Tryz.prog 108 #[.slice A n c,.int .i64 s] w fun e w'=>∃ A' c',e=.returned (.tuple #[.slice A' (rrL rg s n).length c',.bool (rrB rg s n)])/\OwR w' w.heap.size (.slice A' (rrL rg s n).length c') (rrL rg s n) (rrL rg s n).length/\Below w.heap.size w w':=by
 have hb0:Below w.heap.size w (w.alloc (.cells #[] 88)):=(Below.refl _ _).alloc (Nat.le_refl _) _
 have hr0:∀ rs,OwR (w.alloc (.cells #[] 88)) w.heap.size (.slice (some ⟨w.heap.size,0,none⟩) 0 0) rs 0:=fun rs=>⟨[],World.ownsRow_made _ #[] 0 (Nat.le_refl _) (by simp [maxLen]) rfl,fun i hi=>absurd hi (by omega)⟩
 have HV:=Lib.hid (fun w' (hb:Below w.heap.size w w')=>specRegionsValid A c n B rg s w' (h.below (hb.mono hB)) hm);cases hv:regB rg s
 ·have HL:=Lib.hid (show rrL rg s n=[] by simp [rrL,rrB,hv]);have HL2:=Lib.hid (show rrB rg s n=false by simp [rrB,hv])
  go_enter Tryz.func108,Tryz.ntmps108
  go_wp2_with (go_at_call 149;refine (HV.out _ hb0).mono ?_;rintro e w1 ⟨rfl,rfl⟩;rw [hv])
  go_ret2
  rw [HL.out,HL2.out];exact ⟨_,_,rfl,hr0 _,hb0⟩
 ·have hs24:inr s 2 4=true:=by
   simp only [regB,Bool.and_eq_true] at hv;exact hv.1.2
  obtain ⟨h2,h4⟩:=inr_t hs24;obtain ⟨t,rfl⟩:=Int.eq_ofNat_of_zero_le (show 0<=s by omega);have HC:=Lib.hid (fun (u:Nat) w' (hb:Below w.heap.size w w')=>specRegionCells A c n B rg t u w' (h.below (hb.mono hB)) (Nat.le_trans hB hb.size) hm);have hHV:=Lib.hid hv;clear hv hs24
  go_enter Tryz.func108,Tryz.ntmps108
  go_wp2_with (go_at_call 149;refine (HV.out _ hb0).mono ?_;rintro e w1 ⟨rfl,rfl⟩;rw [hHV.out])
  go_loopw [6,7] (fun v i wr=>∃ (u m:Nat) (A':Option Addr) (c':Nat),u<=t/\i=.int .i64 u/\v=.slice A' m c'/\Hid ((rrTo rg t n u).length=m)/\Hid (∀ j,j<u->(cellsL rg t j n).length<=4)/\OwR wr w.heap.size (.slice A' m c') (rrTo rg t n u) m/\Below w.heap.size w wr) (fun _ i _=>t-(intOf i).toNat)
  case atStart=>exact ⟨0,0,_,_,Nat.zero_le _,rfl,rfl,Lib.hid rfl,Lib.hid (fun j hj=>absurd hj (by omega)),hr0 _,hb0⟩
  case round=>
   obtain ⟨u,m,A',c',hu,rfl,rfl,hlen,hfit,hown,hb⟩:=hrel;have hsw:=hb.size
   by_cases hlt:u<t
   ·have hlt':(u:Int)<(t:Int):=(by omega);obtain ⟨q,hq⟩:∃ q,q=(cellsL rg t u n).length:=⟨_,rfl⟩;have Hq:=Lib.hid hq
    have HCu:Hid (∀ w',Below w.heap.size w w'->Calls Tryz.prog 150 #[.slice A n c,.int .i64 t,.int .i64 u] w' fun e w''=>∃ A3 c3,e=.returned (.slice A3 q c3)/\Ow w'' w'.heap.size A3 q c3 (cellsL rg t u n)/\Below w'.heap.size w' w''):=Lib.hid (fun w' hb=>by
     rw [hq]
     exact HC.out u w' hb)
    clear hq
    by_cases h5:4<q
    ·have h5':(4:Int)<(q:Int):=(by omega)
     have HL2:=Lib.hid (show rrB rg t n=false by
      have:rrFit rg t n=false:=by
       cases e:rrFit rg t n
       ·rfl
       ·simp only [rrFit,List.all_eq_true,List.mem_range,decide_eq_true_eq] at e;have:=e u (by simpa using hlt);have:=Hq.out;omega
      simp [rrB,this])
     have HL:=Lib.hid (show rrL rg t n=[] by simp [rrL,HL2.out]);have HM:=Lib.hid (fun w3 (hb3:Below wr.heap.size wr w3)=>(⟨⟨[],World.ownsRow_made w3 #[] 0 (Nat.le_trans hsw hb3.size) (by simp [maxLen]) rfl,fun i hi=>absurd hi (by omega)⟩,((hb.trans (hb3.mono hsw)).alloc (Nat.le_trans hsw hb3.size) _)⟩:OwR (w3.alloc (.cells #[] 88)) w.heap.size (.slice (some ⟨w3.heap.size,0,none⟩) 0 0) [] 0/\Below w.heap.size w (w3.alloc (.cells #[] 88))))
     go_wp2_with (go_at_call 150;refine (HCu.out _ hb).mono ?_;rintro e w3 ⟨A3,c3,rfl,ho3,hb3⟩)
     go_ret2
     rw [HL.out,HL2.out];exact ⟨_,_,rfl,(HM.out _ hb3).1,(HM.out _ hb3).2⟩
    ·have h5':¬ (4:Int)<(q:Int):=(by omega)
     have Hfit:=Lib.hid (show ∀ j,j<u+1->(cellsL rg t j n).length<=4 by
      intro j hj
      by_cases e:j=u
      ·subst e;have:=Hq.out;omega
      ·exact hfit.out j (by omega))
     by_cases h6:2<=q
     ·have h6':(2:Int)<=(q:Int):=(by omega);have Hp:=Lib.hid (show rrTo rg t n (u+1)=rrTo rg t n u++[⟨1,cellsL rg t u n,0⟩] by simp only [rrTo];rw [if_pos (by have:=Hq.out;omega)]);have Hl:=Lib.hid (show (rrTo rg t n (u+1)).length=m+1 by rw [Hp.out,List.length_append,hlen.out];rfl);obtain ⟨vs,hown,hin⟩:=hown
      have HK:Hid (∀ w',Below wr.heap.size wr w'->w'.ownsRow w.heap.size 88 3 (.slice A' m c') m vs):=Lib.hid (fun w' hb=>World.ownsRow.kept hown (row:=none) ⟨hb.os,hb.tape,hb.output,hb.size,fun k hk _=>hb.block k hk⟩ (by
       cases e:(Value.slice A' m c').ownBlock
       ·exact .inl rfl
       ·exact .inr (by simp)))
      have Hin:=Lib.hid hin;clear hin;have hm1:m<=1099511627776:=(by have:=hlen.out;have:=rrTo_len rg t n u;omega)
      go_wp2_with (first
       |(go_at_call 150;refine (HCu.out _ hb).mono ?_;rintro e w3 ⟨A3,c3,rfl,ho3,hb3⟩;have hlo3:=Nat.le_trans hsw hb3.size;have hown3:=World.ownsRow.alloc (HK.out _ hb3) (.cells #[.int .i64 1,.slice A3 q c3,.int .i64 0] 88))
       |(at_builtin;(refine push_rule rfl (.tmp 31) (.tmp 34) rfl w.heap.size (.slice A' m c') m vs w3.heap.size 1 A3 q c3 0 rfl rfl hown3 (heap_alloc_new w3 _) hm1 (le_alloc5 hlo3) ?_);intro g5 cap5 w5 ho5 hg5 hl5))
      have hR:=rat_last (r:=⟨1,cellsL rg t u n,0⟩) hlen.out
      have Hpush:OwR w5 w.heap.size (.slice (some ⟨g5,0,none⟩) (m+1) cap5) (rrTo rg t n u++[⟨1,cellsL rg t u n,0⟩]) (m+1):=by
       have hx:(rat (rrTo rg t n u++[⟨1,cellsL rg t u n,0⟩]) m).xs=cellsL rg t u n:=(by rw [hR]);refine OwR.push (c3:=c3) (A3:=A3) hown (fun i hi=>?_) hsw hb3 (by rw [hx,<-Hq.out];exact ho3) (by rw [hx,<-Hq.out];omega) (by rw [hx,<-Hq.out,hR];exact ho5) hg5 hl5;rw [rat_app (by rw [hlen.out];exact hi)];exact Hin.out i hi
      have hBe:Below w.heap.size w w5:=((hb.trans (hb3.mono hsw)).alloc hlo3 _).grown hg5 (le_alloc5 hlo3) (fun k hk=>(World.ownsRow.lt hown k hk).1);clear hR
      go_roundw
      case rel=>exact ⟨u+1,_,_,_,by omega,by go_num,rfl,Hl,Hfit,by rw [Hp.out];exact Hpush,hBe⟩
      case measure=>simp [intOf];omega
     ·have h6':¬ (2:Int)<=(q:Int):=(by omega);have Hp:=Lib.hid (show rrTo rg t n (u+1)=rrTo rg t n u by simp only [rrTo];rw [if_neg (by have:=Hq.out;omega)])
      go_wp2_with (go_at_call 150;refine (HCu.out _ hb).mono ?_;rintro e w3 ⟨A3,c3,rfl,ho3,hb3⟩)
      go_roundw
      case rel=>exact ⟨u+1,_,_,_,by omega,by go_num,rfl,Lib.hid (by rw [Hp.out];exact hlen.out),Hfit,by rw [Hp.out];exact hown.below hb3,hb.trans (hb3.mono hsw)⟩
      case measure=>simp [intOf];omega
   ·obtain rfl:u=t:=by omega
    have HL2:=Lib.hid (show rrB rg u n=true by
     have:rrFit rg u n=true:=by
      simp only [rrFit,List.all_eq_true,List.mem_range,decide_eq_true_eq];intro j hj;exact hfit.out j (by simpa using hj)
     simp [rrB,this,hHV.out])
    have HL:=Lib.hid (show rrL rg u n=rrTo rg u n u by simp [rrL,HL2.out])
    go_wp2
    go_ret2
    rw [HL.out,HL2.out,hlen.out];exact ⟨_,_,rfl,hown,hb⟩
end Go.Proofs.YtkeoflnmbcdmfaaGreatDoor
set_option maxRecDepth 8000
namespace Go.Proofs.YtkeoflnmbcdmfaaGreatDoor
open Go.ChangeShapes Go.WideShapes Go.ChangeAt Go.RowKit
theorem results_c2 {P:Program} {fn:Func} {p q r:Tmp} {ty:TypeId} (h:fn.results= #[.cell p ty,.tmp q,.tmp r]) (tmps:Array Value) (w:World) (g:Nat) (t:TypeId) (cs:Array Value) (fr:Nat×Nat) (d:TypeDesc) (b c:Value)
 (hp:tmps.getD p undef=.pointer (some ⟨g,0,none⟩)) (hq:tmps.getD q undef=b) (hr:tmps.getD r undef=c) (hg:w.heap[g]? =some (.cells cs t fr))
 (hu:P.underlying ty=some d) (hd:(match d with|.struct _|.array _ _=>true|_=>false)=true) (hi:(P.info? ty).map (·.size)=some cs.size):
 (results fn tmps).run P w=.ok (.tuple #[.agg cs,b,c]) w:=by
 have hp':tmps[p]?.getD undef=.pointer (some ⟨g,0,none⟩):=by simpa using hp
 have hq':tmps[q]?.getD undef=b:=by simpa using hq
 have hr':tmps[r]?.getD undef=c:=by simpa using hr
 simp [results,h,hp',hq',hr',asAddr,run_loadVar_row w g t ty cs fr d hg hu hd hi]
theorem solved_gv {s:Int} {n:Nat} {g:List Int} (h2:2<=s) (h4:s<=4) (hn:(n:Int)=s*s) (hm:g∈sols s n (zeros n) 0):gv g s=true:=
 okAll_gv (by have:=sols_length s _ _ _ _ hm;rw [zeros_length] at this;exact this) hn h2 h4 (sols_ok (by omega:0<=s) n _ _ _ (okAll_zeros (by omega) n) _ hm)
def CaseRel (w0:World) (B G P X:Nat) (k:Int) (A:Option Addr) (n c:Nat) (v:Int) (xs:List Int) (gv:Value) (wx:World):Prop:=
 wx.heap[X]? =some (.cells #[.int .i64 k,.slice A n c,.int .i64 v] 88)/\Ow wx w0.heap.size A n c xs/\(∀ b,(Value.slice A n c).ownBlock=some b->b≠X)/\
  (∃ (gb ng cg:Nat) (g:List Int),gv=.slice (some ⟨gb,0,none⟩) ng cg/\Ow wx w0.heap.size (some ⟨gb,0,none⟩) ng cg g/\4<=ng/\ng<=16/\gb≠X/\∀ b,(Value.slice A n c).ownBlock=some b->b≠gb)/\Rdr wx B G P/\w0.grownBy wx (some G)
theorem case_set {w0 wx:World} {B G P X:Nat} {k:Int} {A:Option Addr} {n c:Nat} {v:Int} {xs g:List Int} {gb ng cg:Nat} (hG:G<w0.heap.size) (hB:B<=w0.heap.size) (hrow:wx.heap[X]? =some (.cells #[.int .i64 k,.slice A n c,.int .i64 v] 88)) (ho:Ow wx w0.heap.size A n c xs) (hne:∀ b,(Value.slice A n c).ownBlock=some b->b≠X)
 (hog:Ow wx w0.heap.size (some ⟨gb,0,none⟩) ng cg g) (h4:4<=ng) (h16:ng<=16) (hgX:gb≠X) (hgA:∀ b,(Value.slice A n c).ownBlock=some b->b≠gb) (hr:Rdr wx B G P) (hg:w0.grownBy wx (some G)) (j:Nat) (z:Int):
 CaseRel w0 B G P X k A n c v xs (.slice (some ⟨gb,0,none⟩) ng cg) (wx.setCell ⟨gb,j,none⟩ (.int .i64 z)):=by
 have hlo:=hog.own_lo gb rfl;have hb:Below w0.heap.size wx (wx.setCell ⟨gb,j,none⟩ (.int .i64 z)):=(Below.refl _ _).setCell hlo _
 exact ⟨(heap_setCell_other wx ⟨gb,j,none⟩ X _ (fun e=>hgX e.symm)).trans hrow,ho.far (row:=some gb) grown_set (fun b hb' e=>hgA b hb' (by injection e with e;omega)),hne,
  ⟨gb,ng,cg,_,rfl,hog.put j z,h4,h16,hgX,hgA⟩,hr.belowN hb hG hB,grown_low hg hb⟩
theorem CaseRel.keep {w0 wx wy:World} {B G P P' X:Nat} {k:Int} {A:Option Addr} {n c:Nat} {v:Int} {xs:List Int} {gv:Value} (h:CaseRel w0 B G P X k A n c v xs gv wx) (hG:G<w0.heap.size) (hX:w0.heap.size<=X) (hg:wx.grownBy wy (some G)) (hr:Rdr wy B G P'):CaseRel w0 B G P' X k A n c v xs gv wy:=by
 obtain ⟨h1,h2,h3,⟨gb,ng,cg,g,h4,h5,h6,h7,h8,h9⟩,h10,h11⟩:=h;have hXl:X<wx.heap.size:=(Array.getElem?_eq_some_iff.1 h1).1;exact ⟨(hg.block X hXl (fun e=>by injection e with e;omega)).trans h1,h2.keptG hg hG,h3,⟨gb,ng,cg,g,h4,h5.keptG hg hG,h6,h7,h8,h9⟩,hr,h11.trans hg⟩
theorem CaseRel.alloc {w0 wx:World} {B G P X:Nat} {k:Int} {A:Option Addr} {n c:Nat} {v:Int} {xs:List Int} {gv:Value} (h:CaseRel w0 B G P X k A n c v xs gv wx) (hG:G<w0.heap.size) (hB:B<=w0.heap.size) (hX:w0.heap.size<=X) (o:Obj):CaseRel w0 B G P X k A n c v xs gv (wx.alloc o):=
 h.keep hG hX (only_alloc (World.grownBy.refl _ _) o) (h.2.2.2.2.1.alloc (Nat.le_trans hB h.2.2.2.2.2.size) o)
end Go.Proofs.YtkeoflnmbcdmfaaGreatDoor
set_option maxRecDepth 8000
namespace Go.Proofs.YtkeoflnmbcdmfaaGreatDoor
open Go.ChangeShapes Go.WideShapes Go.ChangeAt Go.RowKit
theorem own_ne_row {w:World} {lo X:Nat} {v:Value} {e t:TypeId} {sz n:Nat} {xs:List Value} {cs:Array Value} (hX:w.heap[X]? =some (.cells cs t)) (hown:w.ownsRow lo e sz v n xs) (hne:t≠e):v.ownBlock≠some X:=fun e2=>by
 rcases hown.2 with ⟨rfl,_⟩|⟨g,cap,cur,rfl,hb,hg',_⟩
 ·simp [Value.ownBlock] at e2
 ·have e3:X=g:=by have:=e2;simp [Value.ownBlock] at this;omega
  subst e3;rw [hX] at hg'
  injection hg' with hg'
  injection hg' with _ h2 _
  exact hne h2
theorem rd_drop_ {w:World} {B g n:Nat} {xs:List Int} (h:Rd w B (some ⟨g,0,none⟩) n xs) (hn:1<=n):Rd w B (some ⟨g,1,none⟩) (n-1) (xs.drop 1):=by
 refine ⟨by rw [List.length_drop,h.1],fun hn1=>?_⟩;obtain ⟨b,off,e,hlt,hc⟩:=h.2 (by omega)
 injection e with e
 injection e with e1 e2 _
 subst e1 e2;refine ⟨_,1,rfl,hlt,fun k hk=>?_⟩;have:=hc (k+1) (by omega);rw [show nth (xs.drop 1) k=nth xs (k+1) by simp [nth,List.getD_eq_getElem?_getD]];rw [<- this]
 congr 2
 omega
theorem make_rules21 (w:World):(Instr.makeSlice 24 (.int .i64 21) (.int .i64 21)).run Tryz.prog w=.ok (.slice (some ⟨w.heap.size,0,none⟩) 21 21) (w.alloc (.cells (madeCells #[.int .i64 0,.slice none 0 0,.int .i64 0] 63) 88)):=by
 obtain ⟨i0,hi,hz0,hz1,hz2⟩:=info_parts rule_parts;have hr:=run_make (P:=Tryz.prog) w 24 88 i0 (.agg #[.int .i64 0,.slice none 0 0,.int .i64 0]) Tryz.underlying24 hi hz0 .i64 .i64 21 21 (by omega) (Int.le_refl _) (by rw [hz2];decide) (by omega);rw [hz1] at hr;exact hr
theorem made_get (z:Array Value) {n j:Nat} (h:j<n):(madeCells z n).toList[j]? =some (z[j%z.size]!):=by simp [madeCells,h]
theorem rules21_own (w:World) {lo:Nat} (hlo:lo<=w.heap.size):(w.alloc (.cells (madeCells #[.int .i64 0,.slice none 0 0,.int .i64 0] 63) 88)).ownsRow lo 88 3 (.slice (some ⟨w.heap.size,0,none⟩) 21 21) 21 (madeCells #[.int .i64 0,.slice none 0 0,.int .i64 0] 63).toList/\
 InR (w.alloc (.cells (madeCells #[.int .i64 0,.slice none 0 0,.int .i64 0] 63) 88)) lo (.slice (some ⟨w.heap.size,0,none⟩) 21 21) (List.replicate 21 ⟨0,[],0⟩) (madeCells #[.int .i64 0,.slice none 0 0,.int .i64 0] 63).toList 21:=by
 refine ⟨World.ownsRow_lit (e:=88) (size:=3) w _ 21 hlo (by simp only [maxLen];omega) (by simp [size_madeCells]),fun i hi=>?_⟩
 have hr:rat (List.replicate 21 ⟨0,[],0⟩) i=⟨0,[],0⟩:=by
  simp only [rat,List.getD_eq_getElem?_getD];rw [List.getElem?_replicate,if_pos hi];rfl
 rw [hr];refine ⟨none,0,?_,?_,?_,Ow.nil_ _ _,by simp,fun g hg=>by simp [Value.ownBlock] at hg⟩
 ·rw [made_get _ (by omega)]
  show some (#[Value.int .i64 0,.slice none 0 0,.int .i64 0][i*3%3]!)=_
  rw [Nat.mul_mod_left];rfl
 ·rw [made_get _ (by omega)]
  show some (#[Value.int .i64 0,.slice none 0 0,.int .i64 0][(i*3+1)%3]!)=_
  rw [show (i*3+1)%3=1 by omega];rfl
 ·rw [made_get _ (by omega)]
  show some (#[Value.int .i64 0,.slice none 0 0,.int .i64 0][(i*3+2)%3]!)=_
  rw [show (i*3+2)%3=2 by omega];rfl
end Go.Proofs.YtkeoflnmbcdmfaaGreatDoor
