import Derived.Test.YtkeoflnmbcdmfaaGreatDoorOwn
import Derived.Test.YtkeoflnmbcdmfaaGreatDoorPut
import Derived.Deep.RegionLaw
import Derived.Test.YtkeoflnmbcdmfaaGreatDoorSearch
set_option maxRecDepth 8000
namespace Go.Proofs.YtkeoflnmbcdmfaaGreatDoor
open Go.ChangeShapes Go.WideShapes Go.ChangeAt Go.RowKit
theorem le_alloc5 {a:Nat} {w:World} {o:Obj} (h:a<=w.heap.size):a<=(w.alloc o).heap.size:=by rw [World.size_alloc];omega
theorem rule_parts:(Tryz.prog.info? 88).map (fun i=>(i.zero,i.size,i.bytes))=some (some (.agg #[.int .i64 0,.slice none 0 0,.int .i64 0]),3,40):=by kernel_rfl
theorem push_rule {w:World} {ops:Array Oper} {rest:List Oper} {o:Oper} {a:Act} {Q:Exit->Act->World->Prop} (hgd:o.guard=none) (s x:Operand)
 (ho:o.op=.call { callee:=.builtin .append,args:= #[s,x],argTypes:= #[24,24] })
 (lo:Nat) (v:Value) (n:Nat) (vs:List Value) (g:Nat) (k:Int) (A:Option Addr) (m c:Nat) (u:Int) (hs:a.eval s=v) (hx:a.eval x=.slice (some ⟨g,0,none⟩) 1 1)
 (hown:w.ownsRow lo 88 3 v n vs) (hrow:w.heap[g]? =some (.cells #[.int .i64 k,.slice A m c,.int .i64 u] 88)) (hn:n<=1099511627776) (hlo:lo<=w.heap.size)
 (h:∀ g' cap w',w'.ownsRow lo 88 3 (.slice (some ⟨g',0,none⟩) (n+1) cap) (n+1) (vs++[.int .i64 k,.slice A m c,.int .i64 u])->w.grownBy w' v.ownBlock->(v.ownBlock=some g'\/g'=w.heap.size)->wpList Tryz.prog ops Q rest (a.put o.dst (.slice (some ⟨g',0,none⟩) (n+1) cap)) w'):
 wpList Tryz.prog ops Q (o::rest) a w:=by
 refine wpList_plain hgd fun K hK=>?_
 obtain ⟨i0,hi,hz0,hz1,hz2⟩:=info_parts rule_parts;obtain ⟨g',cap,w',hrun,h1,h2,h3,h4⟩:=run_append_lies (P:=Tryz.prog) w 24 o.type lo 88 i0 (.agg #[.int .i64 0,.slice none 0 0,.int .i64 0]) 3 40 Tryz.underlying24 hi hz0 hz1 hz2 rfl (by decide) v n vs hown ⟨g,0,none⟩ 1 1 [.int .i64 k,.slice A m c,.int .i64 u] rfl (World.news_of_block (cs:= #[.int .i64 k,.slice A m c,.int .i64 u]) hrow) (by simp [Value.oneCell']) (by decide) (by simp only [maxLen];omega) (by omega) hlo _ rfl;unfold Oper.wp
 simp [execOp,ho,resolve,invoke,builtin,hs,hx,hrun,Result.andThen]
 exact hK _ _ (h g' cap w' h1 h2 h3)
def OwR (w:World) (lo:Nat) (v:Value) (rs:List RuleM) (k:Nat):Prop:=
 ∃ vs,w.ownsRow lo 88 3 v k vs/\∀ i,i<k->∃ A' c',vs[i*3]? =some (.int .i64 (rat rs i).k)/\vs[i*3+1]? =some (.slice A' (rat rs i).xs.length c')/\vs[i*3+2]? =some (.int .i64 (rat rs i).v)/\Ow w lo A' (rat rs i).xs.length c' (rat rs i).xs/\(rat rs i).xs.length<=1099511627776/\∀ g,(Value.slice A' (rat rs i).xs.length c').ownBlock=some g->v.ownBlock≠some g
theorem OwR.below {w w':World} {lo:Nat} {v:Value} {rs:List RuleM} {k:Nat} (h:OwR w lo v rs k) (hb:Below w.heap.size w w'):OwR w' lo v rs k:=by
 obtain ⟨vs,hown,hin⟩:=h
 refine ⟨vs,World.ownsRow.kept hown (row:=none) ⟨hb.os,hb.tape,hb.output,hb.size,fun k hk _=>hb.block k hk⟩ (by
  cases e:v.ownBlock
  ·exact .inl rfl
  ·exact .inr (by simp)),fun i hi=>?_⟩
 obtain ⟨A',c',e0,e1,e2,e3,e4,e5⟩:=hin i hi;exact ⟨A',c',e0,e1,e2,e3.below hb,e4,e5⟩
theorem OwR.push {w w3 w5:World} {lo:Nat} {v:Value} {rs:List RuleM} {u:Nat} {vs:List Value} {A3:Option Addr} {c3 g' cap:Nat} (hown:w.ownsRow lo 88 3 v u vs)
 (hin:∀ i,i<u->∃ A' c',vs[i*3]? =some (.int .i64 (rat rs i).k)/\vs[i*3+1]? =some (.slice A' (rat rs i).xs.length c')/\vs[i*3+2]? =some (.int .i64 (rat rs i).v)/\Ow w lo A' (rat rs i).xs.length c' (rat rs i).xs/\(rat rs i).xs.length<=1099511627776/\∀ g,(Value.slice A' (rat rs i).xs.length c').ownBlock=some g->v.ownBlock≠some g)
 (hlo:lo<=w.heap.size) (hb:Below w.heap.size w w3) (ho3:Ow w3 w.heap.size A3 (rat rs u).xs.length c3 (rat rs u).xs) (hm:(rat rs u).xs.length<=1099511627776) {o:Obj}
 (h5:w5.ownsRow lo 88 3 (.slice (some ⟨g',0,none⟩) (u+1) cap) (u+1) (vs++[.int .i64 (rat rs u).k,.slice A3 (rat rs u).xs.length c3,.int .i64 (rat rs u).v])) (hg5:(w3.alloc o).grownBy w5 v.ownBlock) (hl5:v.ownBlock=some g'\/g'=(w3.alloc o).heap.size):
 OwR w5 lo (.slice (some ⟨g',0,none⟩) (u+1) cap) rs (u+1):=by
 have hvl:vs.length=u*3:=hown.1;have hs3:=hb.size
 have hg'o:(Value.slice (some ⟨g',0,none⟩) (u+1) cap).ownBlock=some g':=by simp [Value.ownBlock]
 refine ⟨_,h5,fun i hi=>?_⟩
 by_cases hlt:i<u
 ·obtain ⟨A',c',e0,e1,e2,e3,e4,e5⟩:=hin i hlt;refine ⟨A',c',by rw [List.getElem?_append_left (by omega)];exact e0,by rw [List.getElem?_append_left (by omega)];exact e1,by rw [List.getElem?_append_left (by omega)];exact e2,?_,e4,fun b hbb=>?_⟩
  ·exact Ow.far (World.ownsRow.alloc (e3.below hb) o) hg5 e5
  ·rw [hg'o];intro e
   injection e with e
   subst e;have h1:=e3.own_hi g' hbb
   rcases hl5 with h|h
   ·exact e5 g' hbb h
   ·rw [World.size_alloc] at h;omega
 ·obtain rfl:i=u:=by omega
  refine ⟨A3,c3,by rw [List.getElem?_append_right (by omega),hvl,Nat.sub_self];rfl,by rw [List.getElem?_append_right (by omega),hvl,show i*3+1-i*3=1 by omega];rfl,by rw [List.getElem?_append_right (by omega),hvl,show i*3+2-i*3=2 by omega];rfl,?_,hm,fun b hbb=>?_⟩
  ·exact (Ow.far (World.ownsRow.alloc ho3 o) hg5 (fun b hbb e=>by have h1:=ho3.own_lo b hbb;have h2:=(World.ownsRow.lt hown b e).2;omega)).mono hlo
  ·rw [hg'o];intro e
   injection e with e
   subst e;have h1:=ho3.own_lo g' hbb;have h2:=ho3.own_hi g' hbb
   rcases hl5 with h|h
   ·have:=(World.ownsRow.lt hown g' h).2;omega
   ·rw [World.size_alloc] at h;omega
theorem OwR.rd {w:World} {lo k c:Nat} {A:Option Addr} {rs:List RuleM} (hl:rs.length=k) (h:OwR w lo (.slice A k c) rs k):RdRs w w.heap.size A k rs:=by
 refine ⟨hl,fun hn=>?_⟩;obtain ⟨vs,hown,hin⟩:=h;obtain ⟨hvl,hcase⟩:=id hown
 rcases hcase with ⟨_,h0⟩|⟨g,cap,cur,hv,hlog,hrow,h1,h2,h3,h4⟩
 ·omega
 ·injection hv with hA _ _
  subst hA;have hlt:g<w.heap.size:=(Array.getElem?_eq_some_iff.1 hrow).1
  have hcell:∀ j u,vs[j]? =some u->w.cell? ⟨g,0+j,none⟩=some u:=fun j u hj=>by
   rw [Nat.zero_add,cell_of_row w g j cur _ _ hrow];rw [<- h4,List.getElem?_take] at hj
   split at hj
   ·simpa using hj
   ·cases hj
  refine ⟨g,0,rfl,hlt,fun i hi=>?_⟩;obtain ⟨A',c',e0,e1,e2,e3,e4,e5⟩:=hin i hi;exact ⟨A',c',hcell _ _ e0,by rw [Nat.add_assoc];exact hcell _ _ e1,by rw [Nat.add_assoc];exact hcell _ _ e2,e3.rd,e4⟩
set_option maxHeartbeats 1000000 in
theorem specOwnRules (A:Option Addr) (n c B:Nat) (rs:List RuleM) (w:World) (h:RdRs w B A n rs) (hB:B<=w.heap.size) (hm:n<=1099511627775):
 Calls Tryz.prog 92 #[.slice A n c] w fun e w'=>∃ A' c',e=.returned (.slice A' n c')/\OwR w' w.heap.size (.slice A' n c') rs n/\Below w.heap.size w w':=by
 go_enter Tryz.func92,Tryz.ntmps92
 go_wp2
 have hr0:OwR (w.alloc (.cells #[] 88)) w.heap.size (.slice (some ⟨w.heap.size,0,none⟩) 0 0) rs 0:=⟨[],World.ownsRow_made _ #[] 0 (Nat.le_refl _) (by simp [maxLen]) rfl,fun i hi=>absurd hi (by omega)⟩;have hb0:Below w.heap.size w (w.alloc (.cells #[] 88)):=(Below.refl _ _).alloc (Nat.le_refl _) _
 go_loopw [3,4] (fun v i wr=>∃ (u:Nat) (A':Option Addr) (c':Nat),u<=n/\i=.int .i64 u/\v=.slice A' u c'/\OwR wr w.heap.size v rs u/\Below w.heap.size w wr) (fun _ i _=>n-(intOf i).toNat)
 case atStart=>exact ⟨0,_,_,Nat.zero_le _,rfl,rfl,hr0,hb0⟩
 case round=>
  obtain ⟨u,A',c',hu,rfl,rfl,hown,hb⟩:=hrel
  by_cases hlt:u<n
  ·obtain ⟨b,off,hA,hbB,hcc⟩:=(h.below (hb.mono hB)).2 (by omega);subst hA;obtain ⟨A2,c2,r0,r1,r2,r3,r4⟩:=hcc u hlt;obtain ⟨vs,hown,hin⟩:=hown;have hsw:=hb.size;have HR:=Lib.hid (specOwnRule (rat rs u).k A2 (rat rs u).xs.length c2 B (rat rs u).xs (rat rs u).v wr r3 (Nat.le_trans hB hsw) r4)
   have HK:Hid (∀ w',Below wr.heap.size wr w'->w'.ownsRow w.heap.size 88 3 (.slice A' u c') u vs):=Lib.hid (fun w' hb=>World.ownsRow.kept hown (row:=none) ⟨hb.os,hb.tape,hb.output,hb.size,fun k hk _=>hb.block k hk⟩ (by
    cases e:(Value.slice A' u c').ownBlock
    ·exact .inl rfl
    ·exact .inr (by simp)))
   have hn1:u<=1099511627776:=(by omega);clear hcc;have Hin:=Lib.hid hin;clear hin
   go_wp2_with (first
    |(go_at_call 140;refine HR.out.mono ?_;rintro e w3 ⟨A3,c3,rfl,ho3,hb3⟩;have hlo3:=Nat.le_trans hsw hb3.size;have hown3:=World.ownsRow.alloc (HK.out _ hb3) (.cells #[.int .i64 (rat rs u).k,.slice A3 (rat rs u).xs.length c3,.int .i64 (rat rs u).v] 88))
    |(at_builtin;(refine push_rule rfl (.tmp 12) (.tmp 18) rfl w.heap.size (.slice A' u c') u vs w3.heap.size (rat rs u).k A3 (rat rs u).xs.length c3 (rat rs u).v rfl rfl hown3 (heap_alloc_new w3 _) hn1 (le_alloc5 hlo3) ?_);intro g5 cap5 w5 ho5 hg5 hl5))
   go_roundw
   case rel=>exact ⟨u+1,_,_,by omega,by go_num,rfl,OwR.push hown Hin.out hsw hb3 ho3 r4 ho5 hg5 hl5,((hb.trans (hb3.mono hsw)).alloc hlo3 _).grown hg5 (le_alloc5 hlo3) (fun k hk=>(World.ownsRow.lt hown k hk).1)⟩
   case measure=>simp [intOf];omega
  ·obtain rfl:u=n:=by omega
   go_wp2
   go_ret
   exact ⟨_,_,rfl,hown,hb⟩
theorem rat_left {rs1 rs2:List RuleM} {n i:Nat} (hl:rs1.length=n) (hi:i<n):rat (rs1++rs2) i=rat rs1 i:=by
 simp [rat,List.getD_eq_getElem?_getD,List.getElem?_append_left (by omega:i<rs1.length)]
theorem rat_right {rs1 rs2:List RuleM} {n i:Nat} (hl:rs1.length=n):rat (rs1++rs2) (n+i)=rat rs2 i:=by
 simp [rat,List.getD_eq_getElem?_getD,List.getElem?_append_right (by omega:rs1.length<=n+i),hl]
def InR (w:World) (lo:Nat) (v:Value) (rs:List RuleM) (vs:List Value) (m:Nat):Prop:=
 ∀ i,i<m->∃ A' c',vs[i*3]? =some (.int .i64 (rat rs i).k)/\vs[i*3+1]? =some (.slice A' (rat rs i).xs.length c')/\vs[i*3+2]? =some (.int .i64 (rat rs i).v)/\Ow w lo A' (rat rs i).xs.length c' (rat rs i).xs/\(rat rs i).xs.length<=1099511627776/\∀ g,(Value.slice A' (rat rs i).xs.length c').ownBlock=some g->v.ownBlock≠some g
theorem inR_one {w:World} {lo:Nat} {v:Value} {rs:List RuleM} {vs:List Value} {m:Nat} (h:InR w lo v rs vs m) (hl:vs.length=m*3):∀ u∈vs,u.oneCell'=true:=by
 intro u hu;obtain ⟨j,hj,rfl⟩:=List.mem_iff_getElem.1 hu;obtain ⟨A',c',e0,e1,e2,_⟩:=h (j/3) (by omega);have hjj:vs[j]? =some vs[j]:=List.getElem?_eq_getElem hj
 have:j%3=0\/j%3=1\/j%3=2:=by omega
 rcases this with r|r|r
 ·rw [show j/3*3=j by omega,hjj] at e0;rw [Option.some.inj e0];rfl
 ·rw [show j/3*3+1=j by omega,hjj] at e1;rw [Option.some.inj e1];rfl
 ·rw [show j/3*3+2=j by omega,hjj] at e2;rw [Option.some.inj e2];rfl
theorem run_push_rulesV {w:World} (ty:TypeId) (lo:Nat) (A:Option Addr) (n c:Nat) (rs1:List RuleM) (vs1:List Value) (A2:Option Addr) (m c2:Nat) (rs2:List RuleM) (vs2:List Value) (lo2:Nat) (l1:rs1.length=n)
 (hown:w.ownsRow lo 88 3 (.slice A n c) n vs1) (hin1:InR w lo (.slice A n c) rs1 vs1 n) (hown2:w.ownsRow lo2 88 3 (.slice A2 m c2) m vs2) (hin2:InR w lo (.slice A n c) rs2 vs2 m) (hmn:0<m\/n=0)
 (hn:n<=1099511627776) (hm:m<=1099511627776) (hlo:lo<=w.heap.size):
 ∃ A' c' w',(Builtin.append_ #[24,24] ty #[.slice A n c,.slice A2 m c2]).run Tryz.prog w=.ok (.slice A' (n+m) c') w'/\(w'.ownsRow lo 88 3 (.slice A' (n+m) c') (n+m) (vs1++vs2)/\InR w' lo (.slice A' (n+m) c') (rs1++rs2) (vs1++vs2) (n+m))/\w.grownBy w' (Value.slice A n c).ownBlock/\(∀ g,(Value.slice A' (n+m) c').ownBlock=some g->(Value.slice A n c).ownBlock=some g\/g=w.heap.size):=by
 obtain ⟨i0,hi,hz0,hz1,hz2⟩:=info_parts rule_parts;obtain ⟨hvl2,hcase⟩:=id hown2;have hvl1:=hown.1
 by_cases h0:0<m
 ·rcases hcase with ⟨_,h00⟩|⟨g2,cap2,cur,hv,_,hrow,h1,h2,h3,h4⟩
  ·omega
  ·injection hv with e1 _ e2
   subst e1
   have hcell:∀ j u,vs2[j]? =some u->w.cell? ((⟨g2,0,none⟩:Addr).add j)=some u:=fun j u hj=>by
    have hadd:(⟨g2,0,none⟩:Addr).add j=⟨g2,j,none⟩:=(by unfold Addr.add;split<;>simp_all);rw [hadd,cell_of_row w g2 j cur _ _ hrow];rw [<- h4,List.getElem?_take] at hj
    split at hj
    ·simpa using hj
    ·cases hj
   obtain ⟨g,cap,w',hrun,k2,k3,k4,k5⟩:=run_append_lies (P:=Tryz.prog) w 24 ty lo 88 i0 (.agg #[.int .i64 0,.slice none 0 0,.int .i64 0]) 3 40 Tryz.underlying24 hi hz0 hz1 hz2 rfl (by decide) _ n vs1 hown ⟨g2,0,none⟩ m c2 vs2 hvl2 hcell (inR_one hin2 hvl2) h0 (by simp only [maxLen];omega) (by omega) hlo _ rfl
   have hlast:∀ g',(Value.slice (some ⟨g,0,none⟩) (n+m) cap).ownBlock=some g'->(Value.slice A n c).ownBlock=some g'\/g'=w.heap.size:=fun g' hg'=>by
    have:g'=g:=(by simp [Value.ownBlock] at hg';omega);subst this;exact k4
   have hout:∀ (A':Option Addr) (l c':Nat) (xs:List Int),Ow w lo A' l c' xs->(∀ b,(Value.slice A' l c').ownBlock=some b->(Value.slice A n c).ownBlock≠some b)->Ow w' lo A' l c' xs/\∀ b,(Value.slice A' l c').ownBlock=some b->(Value.slice (some ⟨g,0,none⟩) (n+m) cap).ownBlock≠some b:=fun A' l c' xs ho hne=>by
    refine ⟨Ow.far ho k3 hne,fun b hb e=>?_⟩;have:=World.ownsRow.lt ho b hb
    rcases hlast b e with h|h
    ·exact hne b hb h
    ·omega
   refine ⟨some ⟨g,0,none⟩,cap,w',hrun,⟨k2,fun i hi=>?_⟩,k3,hlast⟩
   by_cases hlt:i<n
   ·obtain ⟨A',c',e0,e1,e2,e3,e4,e5⟩:=hin1 i hlt;rw [rat_left l1 hlt];obtain ⟨q1,q2⟩:=hout _ _ _ _ e3 e5;exact ⟨A',c',by rw [List.getElem?_append_left (by omega)];exact e0,by rw [List.getElem?_append_left (by omega)];exact e1,by rw [List.getElem?_append_left (by omega)];exact e2,q1,e4,q2⟩
   ·obtain ⟨q,rfl⟩:∃ q,i=n+q:=⟨i-n,by omega⟩;obtain ⟨A',c',e0,e1,e2,e3,e4,e5⟩:=hin2 q (by omega);rw [rat_right l1];obtain ⟨q1,q2⟩:=hout _ _ _ _ e3 e5;exact ⟨A',c',by rw [List.getElem?_append_right (by omega),show (n+q)*3-vs1.length=q*3 by omega];exact e0,by rw [List.getElem?_append_right (by omega),show (n+q)*3+1-vs1.length=q*3+1 by omega];exact e1,by rw [List.getElem?_append_right (by omega),show (n+q)*3+2-vs1.length=q*3+2 by omega];exact e2,q1,e4,q2⟩
 ·obtain rfl:m=0:=by omega
  obtain rfl:n=0:=by omega
  have hsrc:Go.Src Tryz.prog i0.size 24 (.slice A2 0 c2) 0 [] w:=by
   cases A2 with
   |none=>exact Go.Src.ofNil w Tryz.underlying24 c2
   |some a=>exact Go.Src.ofSlice w Tryz.underlying24 a 0 c2 [] (by simp) (fun j u hj=>by simp at hj) (fun u hu=>by simp at hu)
  exact ⟨A,c,w,run_append_nothing w 24 24 ty 88 i0 Tryz.underlying24 hi A 0 c (Nat.zero_le _) _ hsrc,⟨by rw [show vs2=[] from List.eq_nil_of_length_eq_zero (by omega),List.append_nil];exact hown,fun i hi=>absurd hi (by omega)⟩,World.grownBy.refl _ _,fun g hg=>.inl hg⟩
def CbV (vs:List Value) (m:Nat) (Q:Nat->Prop):Prop:=∀ i A' n' c',i<m->vs[i*3+1]? =some (.slice A' n' c')->∀ g,(Value.slice A' n' c').ownBlock=some g->Q g
def SpQ (w:World) (lo:Nat) (v:Value) (k:Nat) (Q:Nat->Prop):Prop:=∃ vs,w.ownsRow lo 88 3 v k vs/\CbV vs k Q
theorem CbV.nil {Q:Nat->Prop}:CbV [] 0 Q:=fun i _ _ _ hi=>absurd hi (by omega)
theorem CbV.app {vs1 vs2:List Value} {n m:Nat} {Q:Nat->Prop} (hl:vs1.length=n*3) (h1:CbV vs1 n Q) (h2:CbV vs2 m Q):CbV (vs1++vs2) (n+m) Q:=by
 intro i A' n' c' hi he g hg
 by_cases hlt:i<n
 ·rw [List.getElem?_append_left (by omega)] at he;exact h1 i A' n' c' hlt he g hg
 ·obtain ⟨q,rfl⟩:∃ q,i=n+q:=⟨i-n,by omega⟩;rw [List.getElem?_append_right (by omega),show (n+q)*3+1-vs1.length=q*3+1 by omega] at he;exact h2 q A' n' c' (by omega) he g hg
theorem CbV.one {x y z:Value} {Q:Nat->Prop} (h:∀ g,y.ownBlock=some g->Q g):CbV [x,y,z] 1 Q:=by
 intro i A' n' c' hi he g hg
 obtain rfl:i=0:=by omega
 simp at he
 rw [he] at h;exact h g hg
theorem CbV.imp {vs:List Value} {m:Nat} {Q Q':Nat->Prop} (h:CbV vs m Q) (hq:∀ g,Q g->Q' g):CbV vs m Q':=fun i A' n' c' hi he g hg=>hq g (h i A' n' c' hi he g hg)
theorem SpQ.imp {w:World} {lo k:Nat} {v:Value} {Q Q':Nat->Prop} (h:SpQ w lo v k Q) (hq:∀ g,Q g->Q' g):SpQ w lo v k Q':=by
 obtain ⟨vs,h1,h2⟩:=h;exact ⟨vs,h1,h2.imp hq⟩
theorem SpQ.map {w w':World} {lo k:Nat} {v:Value} {Q:Nat->Prop} (h:SpQ w lo v k Q) (hm:∀ vs,w.ownsRow lo 88 3 v k vs->w'.ownsRow lo 88 3 v k vs):SpQ w' lo v k Q:=by
 obtain ⟨vs,h1,h2⟩:=h;exact ⟨vs,hm vs h1,h2⟩
theorem SpQ.below {w w':World} {lo k:Nat} {v:Value} {Q:Nat->Prop} (h:SpQ w lo v k Q) (hb:Below w.heap.size w w'):SpQ w' lo v k Q:=
 h.map fun vs hown=>World.ownsRow.kept hown (row:=none) ⟨hb.os,hb.tape,hb.output,hb.size,fun k hk _=>hb.block k hk⟩ (by cases e:v.ownBlock<;>simp)
theorem SpQ.keptL {w w':World} {lo G k:Nat} {v:Value} {Q:Nat->Prop} (h:SpQ w lo v k Q) (hg:w.grownBy w' (some G)) (hG:G<lo):SpQ w' lo v k Q:=
 h.map fun vs hown=>World.ownsRow.kept hown hg (by
  cases e:v.ownBlock
  ·exact .inl rfl
  ·refine .inr (fun e2=>?_);have h1:=(World.ownsRow.lt hown _ e).1;have h2:=Option.some.inj e2
   omega)
theorem SpQ.nil {w:World} {lo:Nat} {Q:Nat->Prop}:SpQ w lo (.slice none 0 0) 0 Q:=⟨[],World.ownsRow_nil _ _ _ _,CbV.nil⟩
theorem ownsRow_same {w:World} {lo lo' k sz:Nat} {e:TypeId} {v:Value} {xs ys:List Value} (h:w.ownsRow lo e sz v k xs) (h':w.ownsRow lo' e sz v k ys):xs=ys:=by
 rcases h.2 with ⟨e1,h0⟩|⟨g,cap,cur,hv,_,hg,_,_,_,h4⟩
 ·rw [List.eq_nil_of_length_eq_zero (by rw [h.1,h0,Nat.zero_mul]:xs.length=0),List.eq_nil_of_length_eq_zero (by rw [h'.1,h0,Nat.zero_mul]:ys.length=0)]
 ·rcases h'.2 with ⟨e1',h0'⟩|⟨g',cap',cur',hv',_,hg',_,_,_,h4'⟩
  ·rw [List.eq_nil_of_length_eq_zero (by rw [h.1,h0',Nat.zero_mul]:xs.length=0),List.eq_nil_of_length_eq_zero (by rw [h'.1,h0',Nat.zero_mul]:ys.length=0)]
  ·rw [hv] at hv'
   injection hv' with e1 _ _
   injection e1 with e1
   injection e1 with e1 _ _
   subst e1;rw [hg] at hg'
   injection hg' with hg'
   injection hg' with e2 _ _
   subst e2;rw [<- h4,<-h4']
theorem OwR.with_ {w:World} {lo k:Nat} {v:Value} {rs:List RuleM} {Q:Nat->Prop} (h:OwR w lo v rs k) (hs:SpQ w lo v k Q):∃ vs,w.ownsRow lo 88 3 v k vs/\InR w lo v rs vs k/\CbV vs k Q:=by
 obtain ⟨vs,h1,h2⟩:=h;obtain ⟨vs',h3,h4⟩:=hs;obtain rfl:=ownsRow_same h1 h3;exact ⟨vs,h1,h2,h4⟩
theorem OwR.hi {w:World} {lo k:Nat} {v:Value} {rs:List RuleM} (h:OwR w lo v rs k):SpQ w lo v k (fun g=>g<w.heap.size):=by
 obtain ⟨vs,h1,h2⟩:=h;refine ⟨vs,h1,fun i A' n' c' hi he g hg=>?_⟩;obtain ⟨A2,c2,_,e1,_,ho,_⟩:=h2 i hi;rw [he] at e1
 injection e1 with e1
 rw [e1] at hg;exact ho.own_hi g hg
theorem below_none {w w':World} (h:w.grownBy w' none):Below w.heap.size w w':=⟨h.os,h.tape,h.output,h.size,fun k hk=>h.block k hk (by simp)⟩
theorem fresh_same {e t:TypeId} (ty:TypeId) {i0:TypeInfo} {z:Value} (ht:Tryz.prog.underlying t=some (.slice e)) (hi:Tryz.prog.info? e=some i0) (hz:i0.zero=some z) {w:World} (b:Nat) (ad:Addr) (m c2:Nat) (news:List Value) (hl:news.length=m*i0.size) (hnews:∀ j u,news[j]? =some u->w.cell? (ad.add j)=some u)
 (hm:0<m) (h63:(m:Int)<=9223372036854775807) (hfit:m*i0.bytes<=281474976710656):
 (Builtin.append_ #[t,t] ty #[.slice (some ⟨b,0,none⟩) 0 0,.slice (some ad) m c2]).run Tryz.prog w=(Builtin.append_ #[t,t] ty #[.slice none 0 0,.slice (some ad) m c2]).run Tryz.prog w:=by
 rw [run_append_grow w t ty e i0 z ht hi hz ⟨b,0,none⟩ 0 0 [] (by simp) (by simp) ad m c2 news hl hnews (by omega) (by simpa using h63) (by rw [Nat.zero_add,nextslicecap_zero hm];exact hfit)];rw [run_append_nil w t ty e i0 z ht hi hz ad m c2 news hl hnews (by omega) h63 hfit]
 simp
theorem fresh_ints {w:World} (ty:TypeId) (b:Nat) (A2:Option Addr) (m c2 B:Nat) (ys:List Int) (hr:Rd w B A2 m ys) (h0:0<m) (hm:m<=1099511627776):
 ∃ A' c' w',(Builtin.append_ #[23,23] ty #[.slice (some ⟨b,0,none⟩) 0 0,.slice A2 m c2]).run Tryz.prog w=.ok (.slice A' m c') w'/\Ow w' w.heap.size A' m c' ys/\Below w.heap.size w w':=by
 obtain ⟨i0,hi,hz0,hz1,hz2⟩:=info_parts int_info;obtain ⟨A',c',w',hrun,h1,h2,_⟩:=run_push_all ty w.heap.size none 0 0 [] A2 m c2 B ys (Ow.nil_ _ _) hr (.inr rfl) (by omega) hm (Nat.le_refl _);obtain ⟨b2,off,rfl,_,_⟩:=hr.at_ h0;rw [Nat.zero_add] at hrun h1;rw [List.nil_append] at h1;exact ⟨A',c',w',(fresh_same ty Tryz.underlying23 hi hz0 b _ m c2 (vals ys) (by rw [vals_length,hr.1,hz1];omega) hr.news h0 (by omega) (by rw [hz2];omega)).trans hrun,h1,below_none h2⟩
theorem fresh_rulesV {w:World} (ty:TypeId) (b:Nat) (A2:Option Addr) (m c2 lo lo2:Nat) (rs2:List RuleM) (vs2:List Value) (hl2:rs2.length=m) (hown2:w.ownsRow lo2 88 3 (.slice A2 m c2) m vs2) (hin2:InR w lo (.slice none 0 0) rs2 vs2 m)
 (hlit:w.heap[b]? =some (.cells #[] 88)) (hb:lo<=b) (hm:m<=1099511627776) (hlo:lo<=w.heap.size):
 ∃ A' c' w',(Builtin.append_ #[24,24] ty #[.slice (some ⟨b,0,none⟩) 0 0,.slice A2 m c2]).run Tryz.prog w=.ok (.slice A' m c') w'/\(w'.ownsRow lo 88 3 (.slice A' m c') m vs2/\InR w' lo (.slice A' m c') rs2 vs2 m)/\Below w.heap.size w w':=by
 obtain ⟨i0,hi,hz0,hz1,hz2⟩:=info_parts rule_parts
 by_cases h0:0<m
 ·obtain ⟨A',c',w',hrun,h1,h2,_⟩:=run_push_rulesV ty lo none 0 0 [] [] A2 m c2 rs2 vs2 lo2 rfl (World.ownsRow_nil _ _ _ _) (fun i hi=>absurd hi (by omega)) hown2 hin2 (.inl h0) (by omega) hm hlo;obtain ⟨hvl2,hcase⟩:=id hown2
  rcases hcase with ⟨_,h00⟩|⟨g2,cap2,cur,hv,_,hrow,q1,q2,q3,q4⟩
  ·omega
  ·injection hv with e1 _ e2
   subst e1
   have hcell:∀ j u,vs2[j]? =some u->w.cell? ((⟨g2,0,none⟩:Addr).add j)=some u:=fun j u hj=>by
    have hadd:(⟨g2,0,none⟩:Addr).add j=⟨g2,j,none⟩:=(by unfold Addr.add;split<;>simp_all);rw [hadd,cell_of_row w g2 j cur _ _ hrow];rw [<- q4,List.getElem?_take] at hj
    split at hj
    ·simpa using hj
    ·cases hj
   rw [Nat.zero_add] at hrun h1;rw [List.nil_append,List.nil_append] at h1;exact ⟨A',c',w',(fresh_same ty Tryz.underlying24 hi hz0 b _ m c2 vs2 (by rw [hvl2,hz1]) hcell h0 (by omega) (by rw [hz2];omega)).trans hrun,h1,below_none h2⟩
 ·obtain rfl:m=0:=by omega
  have hsrc:Go.Src Tryz.prog i0.size 24 (.slice A2 0 c2) 0 [] w:=by
   cases A2 with
   |none=>exact Go.Src.ofNil w Tryz.underlying24 c2
   |some a=>exact Go.Src.ofSlice w Tryz.underlying24 a 0 c2 [] (by simp) (fun j u hj=>by simp at hj) (fun u hu=>by simp at hu)
  refine ⟨some ⟨b,0,none⟩,0,w,run_append_nothing w 24 24 ty 88 i0 Tryz.underlying24 hi (some ⟨b,0,none⟩) 0 0 (Nat.zero_le _) _ hsrc,⟨by rw [show vs2=[] from List.eq_nil_of_length_eq_zero (by rw [hown2.1,Nat.zero_mul])];exact ⟨by simp,.inr ⟨b,0,#[],rfl,hb,hlit,Nat.le_refl _,by simp [maxLen],by simp,by simp⟩⟩,fun i hi=>absurd hi (by omega)⟩,Below.refl _ _⟩
end Go.Proofs.YtkeoflnmbcdmfaaGreatDoor
namespace Go.Proofs.YtkeoflnmbcdmfaaGreatDoor
section
variable {P : Program} {md : Region.Mode} {ops : Array Oper} {Q : Exit → Act → World → Prop} {Inv : Array Bool → Act → World → Prop}
def unl (l:Array Bool):Nat:=l.toList.countP (fun b=>b==false)
theorem unl_set {l:Array Bool} {i:Nat} (h:l.getD i true=false):unl (l.setIfInBounds i true)<unl l:=by
 have hi:i<l.size:=by
  rcases Nat.lt_or_ge i l.size with h'|h'
  ·exact h'
  ·simp [Array.getElem?_eq_none h'] at h
 have he:l.toList[i]'(by simpa using hi)=false:=by simpa [hi] using h
 unfold unl;rw [Array.toList_setIfInBounds,List.countP_set (by simpa using hi),he];have:0<l.toList.countP (fun b=>b==false):=List.countP_pos_iff.2 ⟨false,by rw [<- he];exact List.getElem_mem _,rfl⟩
 show List.countP (fun b=>b==false) l.toList-1+0<List.countP (fun b=>b==false) l.toList
 omega
theorem unl_zero {l:Array Bool} (h:unl l=0) (i:Nat):l.getD i true=true:=by
 unfold unl at h;rw [List.countP_eq_zero] at h
 rcases Nat.lt_or_ge i l.size with h'|h'
 ·have:=h (l.toList[i]'(by simpa using h')) (List.getElem_mem _)
  simpa [h'] using this
 ·simp [Array.getElem?_eq_none h']
theorem wpAny_inv (hback:∀ (i:Nat) (o:Oper),ops[i]? =some o->∀ e∈o.after,e.on<i) (hsz:∀ l a w,Inv l a w->l.size=ops.size)
 (hstep:∀ l a w (i:Nat) (o:Oper),Inv l a w->ops[i]? =some o->l.getD i true=false->(∀ e∈o.after,Region.binds md e=true->l.getD e.on false=true)->wpOp P ops Q i (Inv (l.setIfInBounds i true)) a w)
 (hdone:∀ l a w,Inv l a w->(∀ i,i<ops.size->l.getD i false=true)->Q .normal a w):
 ∀ fuel l a w,unl l<=fuel->Inv l a w->wpAny P md ops Q fuel l a w:=by
 have fin:∀ l a w,Inv l a w->Region.ready md ops l=[]->Q .normal a w:=by
  intro l a w hI hr;refine hdone l a w hI ?_;intro i
  induction i using Nat.strongRecOn with
  |ind i ih=>
   intro hi
   cases hb:l.getD i false with
   |true=>rfl
   |false=>
    exfalso
    have hil:i<l.size:=(by rw [hsz l a w hI];exact hi);have ho:ops[i]? =some ops[i]:=Array.getElem?_eq_getElem hi;have:i∈Region.ready md ops l:=mem_ready.2 ⟨by simpa [hil] using hb,ops[i],ho,fun e he _=>ih e.on (hback i _ ho e he) (Nat.lt_trans (hback i _ ho e he) hi)⟩;rw [hr] at this;cases this
 intro fuel
 induction fuel with
 |zero=>
  intro l a w hu hI
  have hr:Region.ready md ops l=[]:=by
   cases e:Region.ready md ops l with
   |nil=>rfl
   |cons j r=>
    have hj:j∈Region.ready md ops l:=(by rw [e];exact List.mem_cons_self ..);have h1:=(mem_ready.1 hj).1;rw [unl_zero (by omega) j] at h1;cases h1
  exact ⟨hr,fin l a w hI hr⟩
 |succ fuel ih=>
  intro l a w hu hI;refine ⟨fin l a w hI,fun i hi=>?_⟩;obtain ⟨h1,o,ho,hall⟩:=mem_ready.1 hi;refine wpOp_mono (fun a' w' h=>ih _ a' w' ?_ h) (hstep l a w i o hI ho h1 hall);have:=unl_set h1;omega
theorem wp_region_inv {id:Nat} {a:Act} {w:World} (hm:P.follows .mixedOrders=true) (hback:∀ (i:Nat) (o:Oper),ops[i]? =some o->∀ e∈o.after,e.on<i) (hsz:∀ l a w,Inv l a w->l.size=ops.size)
 (hstep:∀ l a w (i:Nat) (o:Oper),Inv l a w->ops[i]? =some o->l.getD i true=false->(∀ e∈o.after,Region.binds .any e=true->l.getD e.on false=true)->wpOp P ops Q i (Inv (l.setIfInBounds i true)) a w)
 (hdone:∀ l a w,Inv l a w->(∀ i,i<ops.size->l.getD i false=true)->Q .normal a w)
 (h0:Inv (Array.replicate ops.size false) a { w with drawn:=w.drawn+1 }):(Code.region id ops true).wp P Q a w:=
 wp_region_any hm (wpAny_inv hback hsz hstep hdone _ _ _ _ (by
  unfold unl
  exact Nat.le_trans (List.countP_le_length) (by simp)) h0)
end
theorem frame_of {a a0:Array Value} (ts:List Nat) (hs:a.size=a0.size) (h:∀ t,t∉ts->a[t]? =a0[t]?):a=ts.foldl (fun tm t=>tm.setIfInBounds t (a.getD t undef)) a0:=by
 have key:∀ (ts:List Nat) (b:Array Value),b.size=a.size->∀ t,(ts.foldl (fun tm t=>tm.setIfInBounds t (a.getD t undef)) b)[t]? =if t∈ts then a[t]? else b[t]? :=by
  intro ts
  induction ts with
  |nil=>intro b _ t;simp
  |cons u ts ih=>
   intro b hb t;rw [List.foldl_cons,ih _ (by simpa using hb)]
   by_cases e:t∈ts
   ·simp [e]
   ·simp only [e,if_false,List.mem_cons,or_false]
    by_cases hu:t=u
    ·subst hu;rw [if_pos rfl]
     rcases Nat.lt_or_ge t a.size with h'|h'
     ·simp [Array.getElem?_setIfInBounds_self_of_lt (hb▸h'),h']
     ·rw [Array.getElem?_eq_none h',Array.getElem?_eq_none (by simp;omega)]
    ·rw [if_neg hu,Array.getElem?_setIfInBounds_ne (fun e'=>hu e'.symm)]
 apply Array.ext_getElem?
 intro t;rw [key ts a0 hs.symm t]
 split
 ·rfl
 ·exact h t (by assumption)
end Go.Proofs.YtkeoflnmbcdmfaaGreatDoor
namespace Go.Proofs.YtkeoflnmbcdmfaaGreatDoor
open Go.ChangeShapes Go.WideShapes Go.ChangeAt Go.RowKit
def Off (d:Nat->Nat) (m:Nat) (a a0:Act):Prop:=a.tmps.size=a0.tmps.size/\a.defers=a0.defers/\∀ t,(∀ j,j<m->d j≠t)->a.tmps[t]? =a0.tmps[t]?
theorem Off.eval {d:Nat->Nat} {m:Nat} {a a0:Act} (h:Off d m a a0) {t:Nat} (ht:∀ j,j<m->d j≠t):a.eval (.tmp t)=a0.eval (.tmp t):=by
 simp [Act.eval,h.2.2 t ht]
theorem wp_region_made {P:Program} {ops:Array Oper} {Q:Exit->Act->World->Prop} {id:Nat} {a0:Act} {W:World} (m:Nat) (d:Nat->Nat) (G:Nat->Value->World->Prop)
 (hm:P.follows .mixedOrders=true) (hlen:ops.size=m+1) (hback:∀ (i:Nat) (o:Oper),ops[i]? =some o->∀ e∈o.after,e.on<i)
 (hd:∀ i o,i<m->ops[i]? =some o->o.dst=some (d i)/\o.guard=none) (hinj:∀ i j,i<m->j<m->d i=d j->i=j) (hlt:∀ i,i<m->d i<a0.tmps.size)
 (hl:∀ o,ops[m]? =some o->o.dst=none/\o.guard=none/\∀ j,j<m->∃ e∈o.after,e.on=j/\Region.binds .any e=true)
 (hG:∀ j v w w',Below w.heap.size w w'->G j v w->G j v w')
 (hstep:∀ i o a w,i<m->ops[i]? =some o->Below W.heap.size W w->Off d m a a0->(∀ e∈o.after,Region.binds .any e=true->G e.on (a.eval (.tmp (d e.on))) w)->∃ v w',(execOp a.eval o).run P w=.ok (.value v) w'/\Below w.heap.size w w'/\G i v w')
 (hlast:∀ o a w,ops[m]? =some o->Below W.heap.size W w->Off d m a a0->(∀ j,j<m->G j (a.eval (.tmp (d j))) w)->∃ w',(execOp a.eval o).run P w=.ok .skip w'/\Q .normal a w'):
 (Code.region id ops true).wp P Q a0 W:=by
 refine wp_region_inv (Inv:=fun l a w=>l.size=ops.size/\((l.getD m false=false/\Below W.heap.size W w/\Off d m a a0/\∀ j,j<m->l.getD j false=true->G j (a.eval (.tmp (d j))) w)\/((∀ j,j<ops.size->l.getD j false=true)/\Q .normal a w))) hm hback (fun l a w h=>h.1) ?step ?done ?h0
 case done=>
  rintro l a w ⟨hs,h⟩ hall
  rcases h with ⟨h1,_⟩|⟨_,h⟩
  ·rw [hall m (by omega)] at h1;cases h1
  ·exact h
 case h0=>
  refine ⟨by simp,.inl ⟨by rw [Array.getD_eq_getD_getElem?,Array.getElem?_replicate];split<;>rfl,(Below.refl W.heap.size W).drew,⟨rfl,rfl,fun _ _=>rfl⟩,fun j hj hlj=>?_⟩⟩
  simp at hlj
  have:j<ops.size:=by omega
  simp [this] at hlj
 case step=>
  rintro l a w i o ⟨hs,h⟩ ho hli hall;have hi:i<ops.size:=(Array.getElem?_eq_some_iff.1 ho).1
  have hil:i<l.size:=by omega
  rcases h with ⟨h1,hb,hoff,hg⟩|⟨h,_⟩
  ·refine wpOp_step ho (fun K hK=>?_);have hsz:(l.setIfInBounds i true).size=ops.size:=(by simpa using hs)
   by_cases him:i=m
   ·subst him;obtain ⟨q1,q2,q3⟩:=hl o ho
    have hallj:∀ j,j<i->l.getD j false=true:=fun j hj=>by
     obtain ⟨e,he,rfl,hbd⟩:=q3 j hj;exact hall e he hbd
    obtain ⟨w',hrun,hq⟩:=hlast o a w ho hb hoff (fun j hj=>hg j hj (hallj j hj));rw [if_pos (by simp [Region.wanted,q2])];unfold Oper.wp;rw [hrun];have hput:a.put o.dst undef=a:=(by rw [q1];rfl);refine hK _ _ ⟨hsz,.inr ⟨fun j hj=>?_,?_⟩⟩
    ·by_cases e:j=i
     ·subst e;simp [hil]
     ·have:=hallj j (by omega);have hjl:j<l.size:=(by omega);have hset:(l.setIfInBounds i true).getD j false=l.getD j false:=(by simp [Array.getElem?_setIfInBounds_ne (fun e'=>e (Eq.symm e'))]);rw [hset];exact this
    ·first|exact hq|(rw [hput];exact hq)
   ·have him':i<m:=(by omega);obtain ⟨q1,q2⟩:=hd i o him' ho
    have hpre:∀ e∈o.after,Region.binds .any e=true->G e.on (a.eval (.tmp (d e.on))) w:=fun e he hbd=>hg e.on (Nat.lt_trans (hback i o ho e he) him') (hall e he hbd)
    obtain ⟨v,w',hrun,hb',hgi⟩:=hstep i o a w him' ho hb hoff hpre;rw [if_pos (by simp [Region.wanted,q2])];unfold Oper.wp;rw [hrun];have hdlt:d i<a.tmps.size:=(by rw [hoff.1];exact hlt i him')
    have hset:∀ j,(l.setIfInBounds i true).getD j false=if j=i then true else l.getD j false:=fun j=>by
     by_cases e:j=i
     ·subst e;simp [hil]
     ·rw [if_neg e];simp [Array.getElem?_setIfInBounds_ne (fun e'=>e (Eq.symm e'))]
    refine hK _ _ ⟨hsz,.inl ⟨by rw [hset,if_neg (fun e=>him e.symm)];exact h1,step hb hb',?_,fun j hj hlj=>?_⟩⟩
    ·rw [q1];refine ⟨by rw [size_put];exact hoff.1,hoff.2.1,fun t ht=>?_⟩;rw [<- hoff.2.2 t ht]
     simp [Act.put,Array.getElem?_setIfInBounds_ne (ht i him')]
    ·rw [q1]
     by_cases e:j=i
     ·subst e;rw [eval_put_same hdlt];exact hgi
     ·rw [eval_put_ne (fun e'=>e (hinj _ _ hj him' e'.symm))];rw [hset,if_neg e] at hlj;exact hG _ _ _ _ hb' (hg j hj hlj)
  ·have:=h i hi
   simp [hil] at hli this
   rw [this] at hli;cases hli
def chkOps (ops:Array Oper) (ds:List Nat):Bool:=
 ops.size==ds.length+1&&((List.range ops.size).all fun i=>match ops[i]? with
  |some o=>o.after.all fun e=>decide (e.on<i)
  |none=>false)&&((List.range ds.length).all fun i=>match ops[i]? with
  |some o=>decide (o.dst=some (ds.getD i 0))&&o.guard.isNone
  |none=>false)&&(match ops[ds.length]? with
  |some o=>o.dst.isNone&&o.guard.isNone&&(List.range ds.length).all fun j=>o.after.any fun e=>e.on==j&&Region.binds .any e
  |none=>false)&&decide ds.Nodup
theorem wp_region_ds {P:Program} {ops:Array Oper} {Q:Exit->Act->World->Prop} {id:Nat} {a0:Act} {W:World} (ds:List Nat) (G:Nat->Value->World->Prop)
 (hm:P.follows .mixedOrders=true) (hc:chkOps ops ds=true) (hlt:∀ t∈ds,t<a0.tmps.size)
 (hG:∀ j v w w',Below w.heap.size w w'->G j v w->G j v w')
 (hstep:∀ (i:Nat) (o:Oper) (a:Act) (w:World),i<ds.length->ops[i]? =some o->Below W.heap.size W w->(∀ t,t∉ds->a.eval (.tmp t)=a0.eval (.tmp t))->(∀ e∈o.after,Region.binds .any e=true->G e.on (a.eval (.tmp (ds.getD e.on 0))) w)->∃ v w',(execOp a.eval o).run P w=.ok (.value v) w'/\Below w.heap.size w w'/\G i v w')
 (hlast:∀ (o:Oper) (a:Act) (w:World),ops[ds.length]? =some o->Below W.heap.size W w->a.defers=a0.defers->a.tmps=ds.foldl (fun tm t=>tm.setIfInBounds t (a.tmps.getD t undef)) a0.tmps->(∀ t,t∉ds->a.eval (.tmp t)=a0.eval (.tmp t))->(∀ j,j<ds.length->G j (a.eval (.tmp (ds.getD j 0))) w)->∃ w',(execOp a.eval o).run P w=.ok .skip w'/\Q .normal a w'):
 (Code.region id ops true).wp P Q a0 W:=by
 simp only [chkOps,Bool.and_eq_true,beq_iff_eq,List.all_eq_true,List.mem_range,decide_eq_true_eq] at hc;obtain ⟨⟨⟨⟨c1,c2⟩,c3⟩,c4⟩,c5⟩:=hc
 have hout:∀ t,t∉ds->∀ j,j<ds.length->ds.getD j 0≠t:=fun t ht j hj e=>ht (by
  rw [<- e,List.getD_eq_getElem?_getD,List.getElem?_eq_getElem hj];exact List.getElem_mem _)
 have hmem:∀ j,j<ds.length->ds.getD j 0∈ds:=fun j hj=>by
  rw [List.getD_eq_getElem?_getD,List.getElem?_eq_getElem hj];exact List.getElem_mem _
 refine wp_region_made ds.length (fun j=>ds.getD j 0) G hm c1 ?back ?hd ?inj (fun i hi=>hlt _ (hmem i hi)) ?hl hG ?step ?last
 case back=>
  intro i o ho e he;have hi:i<ops.size:=(Array.getElem?_eq_some_iff.1 ho).1;have:=c2 i hi;rw [ho] at this;simp only [Array.all_eq_true_iff_forall_mem,decide_eq_true_eq] at this;exact this e he
 case hd=>
  intro i o hi ho;have:=c3 i hi;rw [ho] at this;simp only [Bool.and_eq_true,decide_eq_true_eq,Option.isNone_iff_eq_none] at this;exact this
 case inj=>
  intro i j hi hj e;simp only [List.getD_eq_getElem?_getD,List.getElem?_eq_getElem hi,List.getElem?_eq_getElem hj,Option.getD_some] at e;exact (List.getElem_inj c5).1 e
 case hl=>
  intro o ho;rw [ho] at c4;simp only [Bool.and_eq_true,Option.isNone_iff_eq_none,List.all_eq_true,List.mem_range] at c4;refine ⟨c4.1.1,c4.1.2,fun j hj=>?_⟩;obtain ⟨e,he,h⟩:=Array.any_eq_true'.1 (c4.2 j hj);rw [Bool.and_eq_true,beq_iff_eq] at h;exact ⟨e,he,h.1,h.2⟩
 case step=>
  intro i o a w hi ho hb hoff hpre;exact hstep i o a w hi ho hb (fun t ht=>hoff.eval (hout t ht)) hpre
 case last=>
  intro o a w ho hb hoff hpre;refine hlast o a w ho hb hoff.2.1 (frame_of ds hoff.1 (fun t ht=>hoff.2.2 t (hout t ht))) (fun t ht=>hoff.eval (hout t ht)) hpre
theorem OwR.far {w w':World} {lo n c:Nat} {A:Option Addr} {rs:List RuleM} {row:Option Nat} (h:OwR w lo (.slice A n c) rs n) (hg:w.grownBy w' row) (hr:∀ g,row=some g->g<lo):OwR w' lo (.slice A n c) rs n:=by
 obtain ⟨vs,hown,hin⟩:=h
 refine ⟨vs,World.ownsRow.kept hown hg (by
  cases e:(Value.slice A n c).ownBlock with
  |none=>exact .inl rfl
  |some g=>exact .inr (fun he=>by have h1:=(World.ownsRow.lt hown g e).1;have h2:=hr g he.symm;omega)),fun i hi=>?_⟩
 obtain ⟨A',c',e0,e1,e2,e3,e4,e5⟩:=hin i hi;exact ⟨A',c',e0,e1,e2,e3.far hg (fun g hgg e=>by have h1:=e3.own_lo g hgg;have h2:=hr g e;omega),e4,e5⟩
theorem lt_set5 {a:Nat} {w:World} {p:Addr} {v:Value} (h:a<w.heap.size):a<(w.setCell p v).heap.size:=by rw [World.size_setCell];exact h
theorem grown_row {w:World} {g:Nat} {cs:Array Value}:w.grownBy (w.setRow g cs) (some g):=
 ⟨rfl,rfl,rfl,by simp,fun k hk hne=>by unfold World.setRow;simp only [Array.getElem?_modify];rw [if_neg (fun e=>hne (by rw [e]))]⟩
theorem OwR.mono {w:World} {lo lo' n:Nat} {v:Value} {rs:List RuleM} (h:OwR w lo v rs n) (hl:lo'<=lo):OwR w lo' v rs n:=by
 obtain ⟨vs,hown,hin⟩:=h;refine ⟨vs,World.ownsRow.mono hown hl,fun i hi=>?_⟩;obtain ⟨A',c',e0,e1,e2,e3,e4,e5⟩:=hin i hi;exact ⟨A',c',e0,e1,e2,e3.mono hl,e4,e5⟩
set_option maxHeartbeats 1000000 in
theorem specOwnPuzzle (s:Int) (Ag:Option Addr) (n cg Bg:Nat) (gi:List Int) (Ar:Option Addr) (nr cr Br:Nat) (rs:List RuleM) (w:World) (hg:Rd w Bg Ag n gi) (hBg:Bg<=w.heap.size) (hm:n<=1099511627776) (hr:RdRs w Br Ar nr rs) (hBr:Br<=w.heap.size) (hmr:nr<=1099511627775):
 Calls Tryz.prog 151 #[.agg #[.int .i64 s,.slice Ag n cg,.slice Ar nr cr]] w fun e w'=>∃ A1 c1 A2 c2,e=.returned (.agg #[.int .i64 s,.slice A1 n c1,.slice A2 nr c2])/\Ow w' w.heap.size A1 n c1 gi/\OwR w' w.heap.size (.slice A2 nr c2) rs nr/\Below w.heap.size w w':=by
 have Hone:=Lib.hid puz_one;have Hi:=Lib.hid puz_info;have hx0:=pbox_new w s Ag n cg Ar nr cr 26;have hb0:Below w.heap.size w (w.alloc (.cells #[.int .i64 s,.slice Ag n cg,.slice Ar nr cr] 26)):=(Below.refl _ _).alloc (Nat.le_refl _) _
 have hs0:w.heap.size<(w.alloc (.cells #[.int .i64 s,.slice Ag n cg,.slice Ar nr cr] 26)).heap.size:=by simp
 obtain ⟨V,hV⟩:∃ V,V=((w.alloc (.cells #[.int .i64 s,.slice Ag n cg,.slice Ar nr cr] 26)).alloc (.cells #[.int .i64 0,.slice none 0 0,.slice none 0 0] 26)).alloc (.cells #[.int .i64 s,.slice Ag n cg,.slice Ar nr cr] 26):=⟨_,rfl⟩
 have hbV:Below w.heap.size w V:=by rw [hV];exact (hb0.alloc hb0.size _).alloc (by simp;omega) _
 have hsV:V.heap.size=w.heap.size+1+1+1:=by rw [hV];simp
 have hv2:V.heap[w.heap.size+1+1]? =some (.cells #[.int .i64 s,.slice Ag n cg,.slice Ar nr cr] 26):=by
  have:=heap_alloc2_new (w.alloc (.cells #[.int .i64 s,.slice Ag n cg,.slice Ar nr cr] 26)) (.cells #[.int .i64 0,.slice none 0 0,.slice none 0 0] 26) (.cells #[.int .i64 s,.slice Ag n cg,.slice Ar nr cr] 26);rw [World.size_alloc] at this;rw [hV];exact this
 have hv1:V.heap[w.heap.size+1]? =some (.cells #[.int .i64 0,.slice none 0 0,.slice none 0 0] 26):=by
  have:=heap_alloc2_old (w.alloc (.cells #[.int .i64 s,.slice Ag n cg,.slice Ar nr cr] 26)) (.cells #[.int .i64 0,.slice none 0 0,.slice none 0 0] 26) (.cells #[.int .i64 s,.slice Ag n cg,.slice Ar nr cr] 26);rw [World.size_alloc] at this;rw [hV];exact this
 have hv0:V.cell? ⟨w.heap.size,2,none⟩=some (.slice Ar nr cr):=by
  rw [hV];exact (hx0.below hs0 (((Below.refl _ _).alloc (Nat.le_refl _) _).alloc (by simp) _)).2.2
 have HO:Hid (Ow (V.alloc (.cells #[] 3)) (w.heap.size+1+1+1) (some ⟨w.heap.size+1+1+1,0,none⟩) 0 0 []):=Lib.hid (by
  have:=Ow.made0 V (w.heap.size+1+1+1) (by omega);rw [hsV] at this
  exact this)
 have hbO:Below V.heap.size V (V.alloc (.cells #[] 3)):=(Below.refl _ _).alloc (Nat.le_refl _) _
 have hwV:w.heap.size<=V.heap.size:=by omega
 have HR:=Lib.hid ((hg.below (hbV.mono hBg)).below (hbO.mono (Nat.le_trans hBg hwV)))
 have hsO:w.heap.size+1+1+1<=(V.alloc (.cells #[] 3)).heap.size:=by simp;omega
 have hwV0:w.heap.size<V.heap.size:=by omega
 have hwV1:w.heap.size+1<V.heap.size:=by omega
 have hwV2:w.heap.size+1+1<V.heap.size:=by omega
 have hne12:w.heap.size+1≠w.heap.size+1+1:=by omega
 have hne02:w.heap.size≠w.heap.size+1+1:=by omega
 have hle2:w.heap.size<=w.heap.size+1+1:=by omega
 have HS:=Lib.hid (fun w' (hb:Below w.heap.size w w')=>specOwnRules Ar nr cr Br rs w' (hr.below (hb.mono hBr)) (Nat.le_trans hBr hb.size) hmr);have HV:=Lib.hid hV;clear hV
 go_enter Tryz.func151,Tryz.ntmps151
 go_wp2_with (first
  |(at_builtin;(rw [<- HV.out]);(refine push_new rfl (.tmp 5) (.tmp 7) rfl (w.heap.size+1+1+1) (some ⟨w.heap.size+1+1+1,0,none⟩) Ag n cg Bg gi rfl rfl HO.out HR.out hm hsO ?_);intro A1 c1 w1 ho1 hg1;have hbw1:Below V.heap.size V w1:=hbO.grown hg1 hbO.size (fun k hk=>Nat.le_trans (Nat.le_of_eq hsV) (HO.out.own_lo k hk));have hs1:=Nat.le_trans (Nat.le_of_lt hwV2) hbw1.size;have f1:=(hbw1.block (w.heap.size+1) hwV1).trans hv1;have f2:=(hbw1.block (w.heap.size+1+1) hwV2).trans hv2;have f0:=(hbw1.cell (p:=⟨w.heap.size,2,none⟩) hwV0).trans hv0;have g1:=(heap_setCell_other w1 ⟨w.heap.size+1+1,1,none⟩ (w.heap.size+1) (.slice A1 n c1) hne12).trans f1;have g2:(w1.setCell ⟨w.heap.size+1+1,1,none⟩ (.slice A1 n c1)).heap[w.heap.size+1+1]? =some (.cells #[.int .i64 s,.slice A1 n c1,.slice Ar nr cr] 26):=heap_setCell_same w1 (w.heap.size+1+1) 1 _ _ (.slice A1 n c1) f2;(have fz:=frozen_of_row w1 (w.heap.size+1+1) 1 _ _ f2);have m1:w1.cell? ⟨w.heap.size+1+1,1,none⟩=some (.slice Ag n cg):=cell_of_row _ _ 1 _ _ (0,0) f2;have g0:=(cell_other5 (k:=1) (v:=.slice A1 n c1) hne02).trans f0;have l1:w.heap.size+1<(w1.setCell ⟨w.heap.size+1+1,1,none⟩ (.slice A1 n c1)).heap.size:=lt_set5 (Nat.lt_of_lt_of_le hwV1 hbw1.size);have l2:w.heap.size+1+1<(w1.setCell ⟨w.heap.size+1+1,1,none⟩ (.slice A1 n c1)).heap.size:=lt_set5 (Nat.lt_of_lt_of_le hwV2 hbw1.size);have hB2:=(hbV.trans (hbw1.mono hwV)).setCell hle2 (.slice A1 n c1) (p:=⟨w.heap.size+1+1,1,none⟩))
  |(go_at_call 92;(refine (HS.out _ hB2).mono ?_);rintro e w3 ⟨A2,c2,rfl,ho2,hb3⟩;have h1:=(hb3.block (w.heap.size+1) l1).trans g1;have h2:=(hb3.block (w.heap.size+1+1) l2).trans g2;have fz3:=frozen_of_row w3 (w.heap.size+1+1) 2 _ _ h2;have m5:w3.cell? ⟨w.heap.size+1+1,0,none⟩=some (.int .i64 s):=cell_of_row _ _ 0 _ _ (0,0) h2;have m6:w3.cell? ⟨w.heap.size+1+1,1,none⟩=some (.slice A1 n c1):=cell_of_row _ _ 1 _ _ (0,0) h2;have m7:w3.cell? ⟨w.heap.size+1+1,2,none⟩=some (.slice Ar nr cr):=cell_of_row _ _ 2 _ _ (0,0) h2;have i1:=(heap_setCell_other w3 ⟨w.heap.size+1+1,2,none⟩ (w.heap.size+1) (.slice A2 nr c2) hne12).trans h1;have i2:(w3.setCell ⟨w.heap.size+1+1,2,none⟩ (.slice A2 nr c2)).heap[w.heap.size+1+1]? =some (.cells #[.int .i64 s,.slice A1 n c1,.slice A2 nr c2] 26):=heap_setCell_same w3 (w.heap.size+1+1) 2 _ _ (.slice A2 nr c2) h2;have k5:(w3.setCell ⟨w.heap.size+1+1,2,none⟩ (.slice A2 nr c2)).cell? ⟨w.heap.size+1+1,0,none⟩=some (.int .i64 s):=cell_of_row _ _ 0 _ _ (0,0) i2;have k6:(w3.setCell ⟨w.heap.size+1+1,2,none⟩ (.slice A2 nr c2)).cell? ⟨w.heap.size+1+1,1,none⟩=some (.slice A1 n c1):=cell_of_row _ _ 1 _ _ (0,0) i2;have k7:(w3.setCell ⟨w.heap.size+1+1,2,none⟩ (.slice A2 nr c2)).cell? ⟨w.heap.size+1+1,2,none⟩=some (.slice A2 nr c2):=cell_of_row _ _ 2 _ _ (0,0) i2)
  |(refine wpList_store_row rfl 26 _ _ rfl (w.heap.size+1) #[.int .i64 s,.slice A1 n c1,.slice A2 nr c2] rfl rfl 26 #[.int .i64 0,.slice none 0 0,.slice none 0 0] i1 (Hi.out _ _ _ _ _ _ _) rfl (Hone.out _ _ _ _ _ _ _) ?_))
 have hs1':=hbw1.size;have hs3:=hb3.size;rw [World.size_setCell] at hs3;have hBe:Below w.heap.size w ((w3.setCell ⟨w.heap.size+1+1,2,none⟩ (.slice A2 nr c2)).setRow (w.heap.size+1) #[.int .i64 s,.slice A1 n c1,.slice A2 nr c2]):=setRow_below5 ((step hB2 hb3).setCell (show w.heap.size<=w.heap.size+1+1 by omega) _) (by omega);have ho1':Ow (w1.setCell ⟨w.heap.size+1+1,1,none⟩ (.slice A1 n c1)) (w.heap.size+1+1+1) A1 n c1 gi:=ho1.far (row:=some (w.heap.size+1+1)) grown_set (fun b hb e=>by have:=ho1.own_lo b hb;injection e with e;omega);have ho3:=ho1'.below hb3
 have ho4:Ow (w3.setCell ⟨w.heap.size+1+1,2,none⟩ (.slice A2 nr c2)) (w.heap.size+1+1+1) A1 n c1 gi:=ho3.far (row:=some (w.heap.size+1+1)) grown_set (fun b hb e=>by have:=ho1.own_lo b hb;injection e with e;omega);have ho5:OwR (w3.setCell ⟨w.heap.size+1+1,2,none⟩ (.slice A2 nr c2)) (w1.setCell ⟨w.heap.size+1+1,1,none⟩ (.slice A1 n c1)).heap.size (.slice A2 nr c2) rs nr:=ho2.far (row:=some (w.heap.size+1+1)) grown_set (fun b e=>by injection e with e;omega);refine bodyPost_ret (v:=.agg #[.int .i64 s,.slice A1 n c1,.slice A2 nr c2]) (results_cell_row (by rfl) _ _ (w.heap.size+1) 26 _ (0,0) _ rfl (setRow_heap _ _ _ _ _ _ i1) Tryz.underlying26 rfl (Hi.out _ _ _ _ _ _ _)) rfl ⟨_,_,_,_,rfl,(ho4.row5 (fun b hb=>?_)).mono (by omega),(ho5.far (row:=some (w.heap.size+1)) grown_row (fun b e=>?_)).mono (by rw [World.size_setCell];omega),hBe⟩
 ·have:=ho4.own_lo b hb;omega
 ·injection e with e
  omega
theorem ints_info:(Tryz.prog.info? 23).map (fun i=>(i.zero,i.size,i.bytes))=some (some (.slice none 0 0),1,24):=by kernel_rfl
def Rows_ (w:World) (lo P:Nat) (v:Value) (Ls:List (List Int)) (n:Nat):Prop:=
 ∃ A c vs,v=.slice A Ls.length c/\w.ownsRow lo 23 1 v Ls.length vs/\v.ownBlock≠some P/\∀ i,i<Ls.length->∃ A' c',vs[i]? =some (.slice A' n c')/\Ow w lo A' n c' (Ls.getD i [])/\∀ g,(Value.slice A' n c').ownBlock=some g->v.ownBlock≠some g/\g≠P
def Out_ (w:World) (P:Nat) (v:Value):Prop:=w.heap[P]? =some (.cells #[v] 70)
theorem Out_.cell {w:World} {P:Nat} {v:Value} (h:Out_ w P v):w.cell? ⟨P,0,none⟩=some v:=cell_of_row _ _ 0 _ _ (0,0) h
theorem Out_.free {w:World} {P:Nat} {v:Value} (h:Out_ w P v):w.frozen? ⟨P,0,none⟩=false:=frozen_of_row w P 0 _ _ h
theorem Out_.lt {w:World} {P:Nat} {v:Value} (h:Out_ w P v):P<w.heap.size:=(Array.getElem?_eq_some_iff.1 h).1
def Chg5 (w w':World) (P:Nat) (v v':Value):Prop:=w'.os=w.os/\w'.tape=w.tape/\w'.output=w.output/\w.heap.size<=w'.heap.size/\(∀ k,k<w.heap.size->k≠P->v.ownBlock≠some k->w'.heap[k]? =w.heap[k]?)/\∀ g,v'.ownBlock=some g->v.ownBlock=some g\/w.heap.size<=g
theorem Chg5.refl (w:World) (P:Nat) (v:Value):Chg5 w w P v v:=⟨rfl,rfl,rfl,Nat.le_refl _,fun _ _ _ _=>rfl,fun _ h=>.inl h⟩
theorem Chg5.trans {w w1 w2:World} {P:Nat} {v v1 v2:Value} (h:Chg5 w w1 P v v1) (h2:Chg5 w1 w2 P v1 v2):Chg5 w w2 P v v2:=by
 obtain ⟨a1,a2,a3,a4,a5,a6⟩:=h;obtain ⟨b1,b2,b3,b4,b5,b6⟩:=h2;refine ⟨b1.trans a1,b2.trans a2,b3.trans a3,Nat.le_trans a4 b4,fun k hk hP hv=>?_,fun g hg=>?_⟩
 ·refine (b5 k (Nat.lt_of_lt_of_le hk a4) hP (fun e=>?_)).trans (a5 k hk hP hv)
  rcases a6 k e with h|h
  ·exact hv h
  ·omega
 ·rcases b6 g hg with h|h
  ·exact a6 g h
  ·exact .inr (Nat.le_trans a4 h)
theorem Chg5.ofBelow {w w':World} {P:Nat} {v:Value} (h:Below w.heap.size w w'):Chg5 w w' P v v:=⟨h.os,h.tape,h.output,h.size,fun k hk _ _=>h.block k hk,fun _ h=>.inl h⟩
theorem Chg5.cell {w w':World} {P:Nat} {v v':Value} (h:Chg5 w w' P v v') {b i:Nat} (hb:b<w.heap.size) (hP:b≠P) (hv:v.ownBlock≠some b):w'.cell? ⟨b,i,none⟩=w.cell? ⟨b,i,none⟩:=World.cell?_of_block (a:=⟨b,i,none⟩) (h.2.2.2.2.1 b hb hP hv)
theorem Chg5.rd {w w':World} {P:Nat} {v v':Value} {B:Nat} {A:Option Addr} {n:Nat} {xs:List Int} (h:Rd w B A n xs) (hc:Chg5 w w' P v v') (hB:B<=w.heap.size) (hne:∀ b off,A=some ⟨b,off,none⟩->b≠P/\v.ownBlock≠some b):Rd w' B A n xs:=
 ⟨h.1,fun hn=>by
   obtain ⟨b,off,e,hlt,hk⟩:=h.2 hn
   exact ⟨b,off,e,hlt,fun k hkn=>(hc.cell (by omega) (hne b off e).1 (hne b off e).2).trans (hk k hkn)⟩⟩
def tryV (fit:List Int->Bool) (rec:List Int->List (List Int)->List (List Int)) (g:List Int) (p most:Nat):Nat->Nat->List (List Int)->List (List Int)
 |0,_,Ls=>Ls
 |r+1,v,Ls=>if Ls.length<most then tryV fit rec g p most r (v+1) (if fit (g.set p (v:Int))=true then rec (g.set p (v:Int)) Ls else Ls) else Ls
def s5 (fit:List Int->Bool) (s most:Nat):Nat->List Int->Nat->List (List Int)->List (List Int)
 |0,g,_,Ls=>Ls++[g]
 |f+1,g,p,Ls=>if 0<nth g p then s5 fit s most f g (p+1) Ls else tryV fit (fun g' L'=>s5 fit s most f g' (p+1) L') g p most s 1 Ls
theorem rows_push {w W0 w3 w4:World} {P lo n:Nat} {v:Value} {Ls:List (List Int)} {vs:List Value} {A1:Option Addr} {c1 g' cap:Nat} {g:List Int} {o:Obj} (hb0:Below w.heap.size w W0) (ho:Out_ w P v) (hown:w.ownsRow lo 23 1 v Ls.length vs)
 (hin:∀ i,i<Ls.length->∃ A' c',vs[i]? =some (.slice A' n c')/\Ow w lo A' n c' (Ls.getD i [])/\∀ g,(Value.slice A' n c').ownBlock=some g->v.ownBlock≠some g/\g≠P) (hvP:v.ownBlock≠some P) (hlow:lo<=w.heap.size)
 (hbA:Below W0.heap.size W0 w3) (ho3:Ow w3 W0.heap.size A1 n c1 g) (h4:w4.ownsRow lo 23 1 (.slice (some ⟨g',0,none⟩) (Ls.length+1) cap) (Ls.length+1) (vs++[.slice A1 n c1])) (hg4:(w3.alloc o).grownBy w4 v.ownBlock) (hl4:v.ownBlock=some g'\/g'=(w3.alloc o).heap.size):
 Out_ (w4.setCell ⟨P,0,none⟩ (.slice (some ⟨g',0,none⟩) (Ls.length+1) cap)) P (.slice (some ⟨g',0,none⟩) (Ls.length+1) cap)/\Rows_ (w4.setCell ⟨P,0,none⟩ (.slice (some ⟨g',0,none⟩) (Ls.length+1) cap)) lo P (.slice (some ⟨g',0,none⟩) (Ls.length+1) cap) (Ls++[g]) n/\Chg5 w (w4.setCell ⟨P,0,none⟩ (.slice (some ⟨g',0,none⟩) (Ls.length+1) cap)) P v (.slice (some ⟨g',0,none⟩) (Ls.length+1) cap):=by
 have hB3:Below w.heap.size w w3:=hb0.trans (hbA.mono hb0.size);have hB4:Below w.heap.size w (w3.alloc o):=hB3.alloc hB3.size o;have hs0:=hb0.size;have hs3:=hbA.size;have hP:=ho.lt;have ho4:Out_ w4 P v:=(hg4.block P (by rw [World.size_alloc];omega) (fun e=>hvP e.symm)).trans ((hB4.block P hP).trans ho);have hg5:w4.grownBy (w4.setCell ⟨P,0,none⟩ (.slice (some ⟨g',0,none⟩) (Ls.length+1) cap)) (some P):=grown_set
 have hg'P:g'≠P:=by
  rcases hl4 with h|h
  ·exact fun e=>hvP (by rw [h,e])
  ·rw [World.size_alloc] at h;omega
 have hg'lo:lo<=g'/\g'<w4.heap.size:=World.ownsRow.lt h4 g' (by simp [Value.ownBlock]);refine ⟨?_,⟨some ⟨g',0,none⟩,cap,vs++[.slice A1 n c1],by rw [List.length_append];rfl,?_,by simp only [Value.ownBlock];intro e;injection e with e;exact hg'P e,fun i hi=>?_⟩,?_⟩
 ·unfold Out_;rw [heap_setCell_same w4 P 0 _ _ _ ho4];rfl
 ·rw [List.length_append];exact World.ownsRow.kept h4 hg5 (by rw [show (Value.slice (some ⟨g',0,none⟩) (Ls.length+1) cap).ownBlock=some g' by simp [Value.ownBlock]];exact .inr (fun e=>by injection e with e;omega))
 ·rw [List.length_append,List.length_singleton] at hi
  have hvl:vs.length=Ls.length:=by have:=hown.1;simpa using this
  by_cases hlt:i<Ls.length
  ·obtain ⟨A',c',e1,e2,e3⟩:=hin i hlt;refine ⟨A',c',by rw [List.getElem?_append_left (by omega)];exact e1,?_,fun b hb=>?_⟩
   ·rw [show (Ls++[g]).getD i []=Ls.getD i [] by simp [List.getD_eq_getElem?_getD,List.getElem?_append_left hlt]];exact ((e2.below hB4).far hg4 (fun b hb=>(e3 b hb).1)).far hg5 (fun b hb e=>by injection e with e;exact (e3 b hb).2 e.symm)
   ·have h1:=e2.own_hi b hb;rw [show (Value.slice (some ⟨g',0,none⟩) (Ls.length+1) cap).ownBlock=some g' by simp [Value.ownBlock]];refine ⟨fun e=>?_,(e3 b hb).2⟩
    injection e with e
    subst e
    rcases hl4 with h|h
    ·exact (e3 g' hb).1 h
    ·rw [World.size_alloc] at h;omega
  ·obtain rfl:i=Ls.length:=by omega
   refine ⟨A1,c1,by rw [<- hvl,List.getElem?_append_right (Nat.le_refl _)];simp,?_,fun b hb=>?_⟩
   ·rw [show (Ls++[g]).getD Ls.length []=g by simp [List.getD_eq_getElem?_getD]];have e4:Ow (w3.alloc o) W0.heap.size A1 n c1 g:=World.ownsRow.alloc ho3 o;exact ((e4.far hg4 (fun b hb e=>by have h1:=ho3.own_lo b hb;have h2:=(World.ownsRow.lt hown b e).2;omega)).far hg5 (fun b hb e=>by have:=ho3.own_lo b hb;injection e with e;omega)).mono (by omega)
   ·have h1:=ho3.own_hi b hb;have h2:=ho3.own_lo b hb;rw [show (Value.slice (some ⟨g',0,none⟩) (Ls.length+1) cap).ownBlock=some g' by simp [Value.ownBlock]];refine ⟨fun e=>?_,by omega⟩
    injection e with e
    subst e
    rcases hl4 with h|h
    ·have:=(World.ownsRow.lt hown g' h).2;omega
    ·rw [World.size_alloc] at h;omega
 ·refine ⟨?_,?_,?_,?_,fun k hk hkP hkv=>?_,fun b hb=>?_⟩
  ·exact hg5.os.trans (hg4.os.trans hB4.os)
  ·exact hg5.tape.trans (hg4.tape.trans hB4.tape)
  ·exact hg5.output.trans (hg4.output.trans hB4.output)
  ·exact Nat.le_trans hB4.size (Nat.le_trans hg4.size hg5.size)
  ·exact (hg5.block k (Nat.lt_of_lt_of_le hk (Nat.le_trans hB4.size hg4.size)) (fun e=>hkP (by injection e))).trans ((hg4.block k (Nat.lt_of_lt_of_le hk hB4.size) (fun e=>hkv e.symm)).trans (hB4.block k hk))
  ·rw [show (Value.slice (some ⟨g',0,none⟩) (Ls.length+1) cap).ownBlock=some g' by simp [Value.ownBlock]] at hb
   injection hb with hb
   subst hb
   rcases hl4 with h|h
   ·exact .inl h
   ·exact .inr (by rw [World.size_alloc] at h;omega)
theorem Rows_.below {w w':World} {lo P:Nat} {v:Value} {Ls:List (List Int)} {n:Nat} (h:Rows_ w lo P v Ls n) (hb:Below w.heap.size w w'):Rows_ w' lo P v Ls n:=by
 obtain ⟨A,c,vs,e,hown,hvP,hin⟩:=h
 refine ⟨A,c,vs,e,World.ownsRow.kept hown (row:=none) ⟨hb.os,hb.tape,hb.output,hb.size,fun k hk _=>hb.block k hk⟩ (by
  cases e:v.ownBlock
  ·exact .inl rfl
  ·exact .inr (by simp)),hvP,fun i hi=>?_⟩
 obtain ⟨A',c',e1,e2,e3⟩:=hin i hi;exact ⟨A',c',e1,e2.below hb,e3⟩
theorem Rows_.own {w:World} {lo P:Nat} {v:Value} {Ls:List (List Int)} {n:Nat} (h:Rows_ w lo P v Ls n):∀ g,v.ownBlock=some g->lo<=g/\g<w.heap.size:=by
 obtain ⟨A,c,vs,rfl,hown,hvP,hin⟩:=h;exact World.ownsRow.lt hown
theorem Chg5.below {w w':World} {P lo B:Nat} {v v':Value} (h:Chg5 w w' P v v') (hv:∀ g,v.ownBlock=some g->lo<=g) (hP:B<=P) (hlo:B<=lo) (hB:B<=w.heap.size):Below B w w':=
 ⟨h.1,h.2.1,h.2.2.1,h.2.2.2.1,fun k hk=>h.2.2.2.2.1 k (Nat.lt_of_lt_of_le hk hB) (by omega) (fun e=>by have:=hv k e;omega)⟩
theorem Rd.rd' {w w':World} {P:Nat} {v v':Value} {B:Nat} {A:Option Addr} {n:Nat} {xs:List Int} (h:Rd w B A n xs) (hc:Chg5 w w' P v v') (hB:B<=w.heap.size) (hne:∀ b off,A=some ⟨b,off,none⟩->b≠P/\v.ownBlock≠some b):Rd w' B A n xs:=Chg5.rd h hc hB hne
theorem s5_len (fit:List Int->Bool) (s most:Nat):∀ f g p Ls,Ls.length<most->(s5 fit s most f g p Ls).length<=most:=by
 intro f
 induction f with
 |zero=>intro g p Ls h;simp only [s5,List.length_append,List.length_singleton];omega
 |succ f ih=>
  intro g p Ls h
  have key:∀ r v (Ls:List (List Int)),Ls.length<=most->(tryV fit (fun g' L'=>s5 fit s most f g' (p+1) L') g p most r v Ls).length<=most:=by
   intro r
   induction r with
   |zero=>intro v Ls h;exact h
   |succ r ihr=>
    intro v Ls h;simp only [tryV]
    split
    ·next h2=>
     refine ihr _ _ ?_
     split
     ·exact ih _ _ _ h2
     ·exact h
    ·exact h
  simp only [s5]
  split
  ·exact ih _ _ _ h
  ·exact key _ _ _ (Nat.le_of_lt h)
def Post5 (w:World) (P lo n:Nat) (v:Value) (Ls:List (List Int)) (e:Ending) (w':World):Prop:=e=.returned (.tuple #[])/\∃ v',Out_ w' P v'/\Rows_ w' lo P v' Ls n/\Chg5 w w' P v v'
set_option maxHeartbeats 2000000 in
theorem specSearch5 (s:Nat) (Ag:Option Addr) (n cg Bg:Nat) (gi:List Int) (Ar:Option Addr) (nr cr Br:Nat) (rs:List RuleM) (hs:s∈[2,3,4]) (hn:Hid ((n:Int)=(s:Int)*s)) (hn16:n<=16) (P lo most:Nat) (hBg':Bg<=lo) (hBr':Br<=lo) (hlo:lo<=P) (hmr:nr<=1099511627776) (hm:most<=1000) (N:Nat):
 ∀ (A:Option Addr) (c B:Nat) (g:List Int) (at_:Nat) (v:Value) (Ls:List (List Int)) (w:World),n-at_=N->at_<=n->Rd w Bg Ag n gi->RdRs w Br Ar nr rs->Rd w B A n g->B<=w.heap.size->(∀ b off,A=some ⟨b,off,none⟩->b≠P/\v.ownBlock≠some b)->Hid (okAll g s n)->Out_ w P v->Rows_ w lo P v Ls n->Ls.length<most->lo<=w.heap.size->
 Calls Tryz.prog 116 #[.agg #[.int .i64 s,.slice Ag n cg,.slice Ar nr cr],.slice A n c,.int .i64 at_,.int .i64 most,.pointer (some ⟨P,0,none⟩)] w (Post5 w P lo n v (s5 (fitB s gi rs) s most (n-at_) g at_ Ls)):=by
 have hBg:Bg<=P:=Nat.le_trans hBg' hlo;have hBr:Br<=P:=Nat.le_trans hBr' hlo
 induction N using Nat.strongRecOn with
 |_ N ih=>
  intro A c B g at_ v Ls w hN hat hgi hr h hB hne hok ho hrw hL hlow;have Ih:=Lib.hid ih;clear ih;have HN:=Lib.hid hN;clear hN;obtain ⟨i0,hi,hz0,hz1,hz2⟩:=info_parts ints_info;have hx0:=pbox_new w s Ag n cg Ar nr cr 26;have hb0:Below w.heap.size w (w.alloc (.cells #[.int .i64 s,.slice Ag n cg,.slice Ar nr cr] 26)):=(Below.refl _ _).alloc (Nat.le_refl _) _
  have hs0:w.heap.size<(w.alloc (.cells #[.int .i64 s,.slice Ag n cg,.slice Ar nr cr] 26)).heap.size:=by simp
  go_enter Tryz.func116,Tryz.ntmps116
  go_wp2
  obtain ⟨W0,hW0⟩:∃ W0,W0=w.alloc (.cells #[.int .i64 s,.slice Ag n cg,.slice Ar nr cr] 26):=⟨_,rfl⟩;rw [<- hW0] at hx0 hb0 hs0;rw [<- hW0];clear hW0;have h0:=h.below (hb0.mono hB)
  go_loopw [2] (fun i wr=>wr=W0/\∃ p:Nat,at_<=p/\p<=n/\i=.int .i64 p/\Hid (s5 (fitB s gi rs) s most (n-at_) g at_ Ls=s5 (fitB s gi rs) s most (n-p) g p Ls)) (fun i _=>n-(intOf i).toNat)
  case atStart=>exact ⟨rfl,at_,Nat.le_refl _,hat,rfl,Lib.hid rfl⟩
  case round=>
   obtain ⟨rfl,p,hp1,hp2,rfl,hsk⟩:=hrel
   by_cases hlt:p<n
   ·obtain ⟨b,off,hA,hbB,hck⟩:=h0.at_ hlt;subst hA;obtain ⟨x0,x4⟩:=hok.out p hlt;have hf:n-p=(n-(p+1))+1:=(by omega)
    by_cases hx:0<nth g p
    ·have hsk2:=Lib.hid (show s5 (fitB s gi rs) s most (n-at_) g at_ Ls=s5 (fitB s gi rs) s most (n-(p+1)) g (p+1) Ls by rw [hsk.out,hf];simp only [s5];rw [if_pos hx]);clear hf
     go_wp2
     go_roundw
     case rel=>exact ⟨by trivial,p+1,by omega,by omega,by go_num,hsk2⟩
     case measure=>simp [intOf];omega
    ·have hsk2:=Lib.hid (show s5 (fitB s gi rs) s most (n-at_) g at_ Ls=tryV (fitB s gi rs) (fun g' L'=>s5 (fitB s gi rs) s most (n-(p+1)) g' (p+1) L') g p most s 1 Ls by rw [hsk.out,hf];simp only [s5];rw [if_neg hx]);have hpn:((p:Int)==(n:Int))=false:=(by simp only [beq_eq_false_iff_ne];omega);have hgw:=hgi.below (hb0.mono (Nat.le_trans hBg (Nat.le_of_lt ho.lt)));have hrw0:=hr.below (hb0.mono (Nat.le_trans hBr (Nat.le_of_lt ho.lt)));have hout0:Out_ wr P v:=(hb0.block P ho.lt).trans ho;have hrows0:=hrw.below hb0;have hPw:=hout0.lt;have hvo:=hrw.own
     have hww:=hb0.size
     have hvw:v.ownBlock≠some w.heap.size:=fun e=>by have:=(hvo _ e).2;omega
     have hwP:w.heap.size≠P:=(by have:=ho.lt;omega);clear hf hsk
     go_wp2
     obtain ⟨W0,hW⟩:∃ W0,W0=wr:=⟨_,rfl⟩;rw [<- hW];rw [<- hW] at hx0 hb0 hs0 h0 hck hgw hrw0 hout0 hrows0 hPw hww;clear hW
     go_loopw [10] (fun i wr=>∃ (q:Nat) (vv:Value) (L':List (List Int)),1<=q/\q<=s+1/\i=.int .i64 q/\Hid (tryV (fitB s gi rs) (fun g' L'=>s5 (fitB s gi rs) s most (n-(p+1)) g' (p+1) L') g p most s 1 Ls=tryV (fitB s gi rs) (fun g' L'=>s5 (fitB s gi rs) s most (n-(p+1)) g' (p+1) L') g p most (s+1-q) q L')/\Out_ wr P vv/\Rows_ wr lo P vv L' n/\Chg5 W0 wr P v vv/\L'.length<=most) (fun i _=>s+1-(intOf i).toNat)
     case atStart=>exact ⟨1,v,Ls,by omega,by omega,rfl,Lib.hid (by rw [Nat.add_sub_cancel]),hout0,hrows0,Chg5.refl _ _ _,Nat.le_of_lt hL⟩
     case round=>
      obtain ⟨q,vv,L',hq1,hq2,rfl,htv,hout,hrows,hchg,hLm⟩:=hrel;have hoc:=hout.cell;obtain ⟨Ao,co,vs,rfl,hown,hvP2,hin⟩:=id hrows;have b0:=(hchg.cell hs0 hwP hvw).trans hx0.1;have b1:=(hchg.cell hs0 hwP hvw).trans hx0.2.1;have b2:=(hchg.cell hs0 hwP hvw).trans hx0.2.2;have hfin:=(Chg5.ofBelow (P:=P) (v:=v) hb0).trans hchg;have hsW:=hchg.2.2.2.1
      by_cases hqs:q<=s
      ·have hqs':(q:Int)<=(s:Int):=(by omega)
       by_cases hlm:L'.length<most
       ·have hlm':(L'.length:Int)<(most:Int):=(by omega)
        have hneW:∀ b' off',(some ⟨b,off,none⟩:Option Addr)=some ⟨b',off',none⟩->b'≠P/\v.ownBlock≠some b':=fun b' off' e=>hne b' off' e
        have hBW:B<=W0.heap.size:=Nat.le_trans hB hww;have hr':Rd wr B (some ⟨b,off,none⟩) n g:=h0.rd' hchg hBW hneW;have hbP:Below lo W0 wr:=hchg.below (fun g hg=>(hvo g hg).1) hlo (Nat.le_refl _) (by omega);have hgw2:=hgw.below (hbP.mono hBg');have hrw2:=hrw0.below (hbP.mono hBr');have hlowr:lo<=wr.heap.size:=(by omega);have hwwr:w.heap.size<wr.heap.size:=(by omega)
        go_wp2_with (at_builtin;(refine push_some rfl (.tmp 53) (.tmp 54) rfl wr.heap.size (some ⟨wr.heap.size,0,none⟩) 0 0 [] b off n c B g rfl rfl (Ow.made0 _ _ (Nat.le_refl _)) (hr'.alloc (by omega) _) (by omega) (by omega) (by simp) ?_);(intro A1 c1 w1 ho1 hg1);(simp only [Nat.zero_add,List.nil_append] at ho1);(obtain ⟨gb,rfl,hlog,hgw1⟩:=ho1.form (by omega));(obtain ⟨hcq,hfq⟩:=ho1.cell hlt);(have hbw1:Below wr.heap.size wr w1:=((Below.refl _ _).alloc (Nat.le_refl _) _).grown hg1 (by simp) (fun k hk=>(Ow.made0 wr wr.heap.size (Nat.le_refl _)).own_lo k hk));(have hgbw:w.heap.size≠gb:=by omega);(have d0:=(cell_other5 (k:=p) (v:=.int .i64 (q:Int)) hgbw).trans ((hbw1.cell (p:=⟨w.heap.size,0,none⟩) hwwr).trans b0));(have d1:=(cell_other5 (k:=p) (v:=.int .i64 (q:Int)) hgbw).trans ((hbw1.cell (p:=⟨w.heap.size,1,none⟩) hwwr).trans b1));(have d2:=(cell_other5 (k:=p) (v:=.int .i64 (q:Int)) hgbw).trans ((hbw1.cell (p:=⟨w.heap.size,2,none⟩) hwwr).trans b2)))
        have ho2:Ow (w1.setCell ⟨gb,p,none⟩ (.int .i64 q)) wr.heap.size (some ⟨gb,0,none⟩) n c1 (g.set p (q:Int)):=by
         have:=(World.ownsRow.stored ho1 p (.int .i64 (q:Int))).1;rw [vals_set] at this;exact this
        have hb2:Below wr.heap.size wr (w1.setCell ⟨gb,p,none⟩ (.int .i64 q)):=(((Below.refl _ _).alloc (Nat.le_refl _) _).grown hg1 (by simp) (fun k hk=>(Ow.made0 wr wr.heap.size (Nat.le_refl _)).own_lo k hk)).setCell hlog _
        generalize w1.setCell ⟨gb,p,none⟩ (.int .i64 (q:Int))=W2 at*
        have hok2:=Lib.hid (okAll_set hok.out h.1 hlt (by omega:(0:Int)<=(q:Int)) hqs');have hBP:P<=wr.heap.size:=Nat.le_of_lt hout.lt;have HF:=Lib.hid (specFits s Ag n cg Bg gi Ar nr cr Br rs (some ⟨gb,0,none⟩) c1 W2.heap.size (g.set p (q:Int)) W2 (hgw2.below (hb2.mono (Nat.le_trans hBg hBP))) (Nat.le_trans (Nat.le_trans hBg hBP) hb2.size) (hrw2.below (hb2.mono (Nat.le_trans hBr hBP))) (Nat.le_trans (Nat.le_trans hBr hBP) hb2.size) hmr ho2.rd (Nat.le_refl _) hs hn hok2);have hstep:s+1-q=(s-q)+1:=(by omega);have hstep2:s+1-(q+1)=s-q:=(by omega);have hs4:s<=4:=(by simp at hs;omega);have hPr:=hout.lt;have hlt2:=World.ownsRow.lt hown
        have hne3:∀ b' off':Nat,(some ⟨gb,0,none⟩:Option Addr)=some ⟨b',off',none⟩->b'≠P/\(Value.slice Ao L'.length co).ownBlock≠some b':=fun b' off' e=>by
         cases e;exact ⟨by omega,fun e=>by have:=(hlt2 _ e).2;omega⟩
        have hout2:Out_ W2 P (.slice Ao L'.length co):=(hb2.block P hPr).trans hout;have hrows2:Rows_ W2 lo P (.slice Ao L'.length co) L' n:=hrows.below hb2;have hc2:Chg5 W0 W2 P v (.slice Ao L'.length co):=hchg.trans (Chg5.ofBelow hb2);have hs2:=hb2.size;clear hcq hfq hg1 ho1 hbw1 hoc hrows hout hown hin hfin hchg b0 b1 b2;refine HF.out.mono ?_;rintro e w3 ⟨rfl,hb3⟩;have hs3:=hb3.size;have hwW2:w.heap.size<W2.heap.size:=(by omega);have e0:=(hb3.cell (p:=⟨w.heap.size,0,none⟩) hwW2).trans d0;have e1:=(hb3.cell (p:=⟨w.heap.size,1,none⟩) hwW2).trans d1;have e2:=(hb3.cell (p:=⟨w.heap.size,2,none⟩) hwW2).trans d2;have hout3:Out_ w3 P (.slice Ao L'.length co):=(hb3.block P hout2.lt).trans hout2;have hrows3:=hrows2.below hb3;have hc3:Chg5 W0 w3 P v (.slice Ao L'.length co):=hc2.trans (Chg5.ofBelow hb3);have hg3:=(hgw2.below (hb2.mono (Nat.le_trans hBg hBP))).below (hb3.mono (Nat.le_trans (Nat.le_trans hBg hBP) hb2.size));have hr3:=(hrw2.below (hb2.mono (Nat.le_trans hBr hBP))).below (hb3.mono (Nat.le_trans (Nat.le_trans hBr hBP) hb2.size));have ho3:=ho2.below hb3;clear hout2 hrows2 hc2 hgw2 hrw2 ho2 d0 d1 d2
        cases hft:fitB s gi rs (g.set p (q:Int))
        ·have Hn:=Lib.hid (show tryV (fitB s gi rs) (fun g' L'=>s5 (fitB s gi rs) s most (n-(p+1)) g' (p+1) L') g p most (s+1-q) q L'=tryV (fitB s gi rs) (fun g' L'=>s5 (fitB s gi rs) s most (n-(p+1)) g' (p+1) L') g p most (s+1-(q+1)) (q+1) L' by rw [hstep,hstep2];simp only [tryV];rw [if_pos hlm,hft];rfl);have Ht:=Lib.hid (htv.out.trans Hn.out);clear hstep hstep2 hft Hn
         go_wp2
         go_roundw
         case rel=>exact ⟨q+1,_,L',by omega,by omega,by go_num,Ht,hout3,hrows3,hc3,hLm⟩
         case measure=>simp [intOf];omega
        ·have Hn:=Lib.hid (show tryV (fitB s gi rs) (fun g' L'=>s5 (fitB s gi rs) s most (n-(p+1)) g' (p+1) L') g p most (s+1-q) q L'=tryV (fitB s gi rs) (fun g' L'=>s5 (fitB s gi rs) s most (n-(p+1)) g' (p+1) L') g p most (s+1-(q+1)) (q+1) (s5 (fitB s gi rs) s most (n-(p+1)) (g.set p (q:Int)) (p+1) L') by rw [hstep,hstep2];simp only [tryV];rw [if_pos hlm,hft];rfl);have Ht:=Lib.hid (htv.out.trans Hn.out);have Hl:=Lib.hid (s5_len (fitB s gi rs) s most (n-(p+1)) (g.set p (q:Int)) (p+1) L' hlm);have Hm:=Lib.hid (show n-(p+1)<N by have:=HN.out;omega)
         have hp1n:p+1<=n:=hlt;have hlow3:lo<=w3.heap.size:=(by omega);clear hstep hstep2 hft Hn
         go_wp2_with (go_at_call 116;(rw [show ((p:Int)+1)=((p+1:Nat):Int) from by omega]);(refine (Ih.out _ Hm.out _ _ _ _ _ _ _ _ rfl hp1n hg3 hr3 ho3.rd (Nat.le_refl _) hne3 hok2 hout3 hrows3 hlm hlow3).mono ?_);rintro e w4 ⟨rfl,v4,hout4,hrows4,hchg4⟩)
         go_roundw
         case rel=>exact ⟨q+1,_,_,by omega,by omega,by go_num,Ht,hout4,hrows4,hc3.trans hchg4,Hl.out⟩
         case measure=>simp [intOf];omega
       ·have hlm':decide ((L'.length:Int)<(most:Int))=false:=(by simp;omega);have HL:=Lib.hid (show s5 (fitB s gi rs) s most (n-at_) g at_ Ls=L' by rw [hsk2.out,htv.out,show s+1-q=(s-q)+1 by omega];simp only [tryV];rw [if_neg hlm])
        go_wp2
        (try simp only [Exit.inBlock,Exit.then])
        refine bodyPost_ret (results_none rfl _ _ _) rfl ?_;rw [HL.out];exact ⟨rfl,_,hout,hrows,hfin⟩
      ·have hqs':decide ((q:Int)<=(s:Int))=false:=(by simp;omega);have HL:=Lib.hid (show s5 (fitB s gi rs) s most (n-at_) g at_ Ls=L' by rw [hsk2.out,htv.out,show s+1-q=0 by omega];rfl)
       go_wp2
       (try simp only [Exit.inBlock,Exit.then])
       refine bodyPost_ret (results_none rfl _ _ _) rfl ?_;rw [HL.out];exact ⟨rfl,_,hout,hrows,hfin⟩
   ·obtain rfl:p=n:=by omega
    obtain ⟨Ao,co,vs,rfl,hown,hvP,hin⟩:=id hrw;have ho1:Out_ wr P (.slice Ao Ls.length co):=(hb0.block P ho.lt).trans ho;have hoc:=ho1.cell;have hof:=ho1.free;have HR:=Lib.hid (fun w' (hb:Below wr.heap.size wr w')=>h0.below (hb.mono (Nat.le_trans hB hb0.size)))
    have hown0:wr.ownsRow lo 23 1 (.slice Ao Ls.length co) Ls.length vs:=World.ownsRow.kept hown (row:=none) ⟨hb0.os,hb0.tape,hb0.output,hb0.size,fun k hk _=>hb0.block k hk⟩ (by
     cases e:(Value.slice Ao Ls.length co).ownBlock
     ·exact .inl rfl
     ·exact .inr (by simp))
    have HO:Hid (∀ w',Below wr.heap.size wr w'->w'.ownsRow lo 23 1 (.slice Ao Ls.length co) Ls.length vs):=Lib.hid (fun w' hb=>World.ownsRow.kept hown0 (row:=none) ⟨hb.os,hb.tape,hb.output,hb.size,fun k hk _=>hb.block k hk⟩ (by
     cases e:(Value.slice Ao Ls.length co).ownBlock
     ·exact .inl rfl
     ·exact .inr (by simp)))
    have hPw:=ho1.lt;have hlow':lo<=wr.heap.size:=(by omega);have HL:=Lib.hid (show s5 (fitB s gi rs) s most (p-at_) g at_ Ls=Ls++[g] by rw [hsk.out,Nat.sub_self];rfl);have hpp:((p:Int)==(p:Int))=true:=(by simp)
    go_wp2
    go_region_law (first
     |(refine step_push_new (by rfl) _ _ (by rfl) wr.heap.size (some ⟨wr.heap.size,0,none⟩) A p c B g (by rfl) (by rfl) (Ow.made0 _ _ (Nat.le_refl _)) (HR.out _ (below_d1 _ _)) (by omega) (below_d1 _ _).size ?_;intro A1 c1 w3 ho3 hg3 hl3;have hbA:Below wr.heap.size wr w3:=below_push (below_d1 _ _) (Ow.made0 _ _ (Nat.le_refl _)) (Nat.le_refl _) (below_d1 _ _).size hg3;have hoc3:=(hbA.cell (p:=⟨P,0,none⟩) hPw).trans hoc;have hP3:=Nat.lt_of_lt_of_le hPw hbA.size)
     |(refine step_append_lies _ (by rfl) _ _ 70 (by rfl) lo 23 i0 (.slice none 0 0) 1 24 Tryz.underlying70 hi hz0 hz1 hz2 (by rfl) (by decide) (.slice Ao Ls.length co) Ls.length vs (by rfl) (HO.out _ (hbA.alloc hbA.size _)) ⟨w3.heap.size,0,none⟩ 1 1 [.slice A1 p c1] (by rfl) (by rfl) (World.news_of_block (cs:= #[.slice A1 p c1]) (t:=23) (fr:=(0,0)) (heap_alloc_new w3 _)) (by simp [Value.oneCell']) (by decide) (by simp only [maxLen];omega) (by omega) (Nat.le_trans hlow' (hbA.alloc hbA.size _).size) _ rfl ?_;intro g' cap w4 h4 hg4 hl4 hlt4;have ho4:Out_ w4 P (.slice Ao Ls.length co):=(hg4.block P (Nat.lt_of_lt_of_le hPw (hbA.alloc hbA.size _).size) (fun e=>hvP e.symm)).trans (((hbA.alloc hbA.size _).block P hPw).trans ho1);have hoc4:=ho4.cell;have hof4:=ho4.free))
    all_goals
     go_wp2
     (try simp only [Exit.inBlock,Exit.then])
     refine bodyPost_ret (results_none rfl _ _ _) rfl ?_;rw [HL.out];obtain ⟨q1,q2,q3⟩:=rows_push hb0 ho hown hin hvP hlow hbA ho3 h4 hg4 hl4;exact ⟨rfl,_,q1,q2,q3⟩
def allS (s:Int) (most n:Nat) (gi:List Int) (rs:List RuleM):List (List Int):=if fpB s gi rs gi=true then s5 (fitB s gi rs) s.toNat most n gi 0 [] else []
theorem allS_len (s:Int) (most n:Nat) (gi:List Int) (rs:List RuleM) (h:0<most):(allS s most n gi rs).length<=most:=by
 unfold allS
 split
 ·exact s5_len _ _ _ _ _ _ _ (by simpa using h)
 ·exact Nat.zero_le _
theorem pv_grid {s:Int} {gi:List Int} {rs:List RuleM} {ng:Nat} (h:pvB s gi rs=true) (hl:gi.length=ng):∃ t:Nat,s=t/\t∈[2,3,4]/\(ng:Int)=(t:Int)*t/\ng<=16/\okAll gi t ng:=by
 obtain ⟨hgi,_,_⟩:=pv_gv h;obtain ⟨s2,s4⟩:=gv_size hgi;obtain ⟨t,rfl⟩:=Int.eq_ofNat_of_zero_le (by omega:0<=s)
 have hs:t∈[2,3,4]:=by
  have:t=2\/t=3\/t=4:=by omega
  simpa using this
 have e1:=gv_len hgi;rw [hl] at e1;refine ⟨t,rfl,hs,e1,by have:=(sq_bd s2 s4).2;omega,fun i hi=>gv_nth hgi (by rw [hl];exact hi)⟩
set_option maxHeartbeats 2000000 in
theorem specAll (s:Int) (most:Nat) (Ag:Option Addr) (n cg Bg:Nat) (gi:List Int) (Ar:Option Addr) (nr cr Br:Nat) (rs:List RuleM) (w:World) (hp:PGs w s Ag n cg Bg gi Ar nr cr Br rs) (h0:0<most) (h1:most<=1000):
 Calls Tryz.prog 63 #[.agg #[.int .i64 s,.slice Ag n cg,.slice Ar nr cr],.int .i64 most] w fun e w'=>∃ P v,e=.returned v/\Rows_ w' (w.heap.size+1) P v (allS s most n gi rs) n/\Below w.heap.size w w':=by
 have hx0:=pbox_new w s Ag n cg Ar nr cr 26;have hb0:Below w.heap.size w (w.alloc (.cells #[.int .i64 s,.slice Ag n cg,.slice Ar nr cr] 26)):=(Below.refl _ _).alloc (Nat.le_refl _) _
 have hs0:w.heap.size<(w.alloc (.cells #[.int .i64 s,.slice Ag n cg,.slice Ar nr cr] 26)).heap.size:=by simp
 have HF:=Lib.hid (fun w' (hb:Below w.heap.size w w')=>specPuzzleFits s Ag n cg Bg gi Ar nr cr Br rs Ag n cg Bg gi w' (hp.below hb) (hp.below hb).g (hp.below hb).gB hp.gm);obtain ⟨U,hU⟩:∃ U,U=((w.alloc (.cells #[.int .i64 s,.slice Ag n cg,.slice Ar nr cr] 26)).alloc (.cells #[] 23)).alloc (.cells #[.slice (some ⟨w.heap.size+1,0,none⟩) 0 0] 70):=⟨_,rfl⟩
 have hbU:Below w.heap.size w U:=by rw [hU];exact (hb0.alloc hb0.size _).alloc (by simp;omega) _
 have hsU:U.heap.size=w.heap.size+1+1+1:=by rw [hU];simp
 have hwU:w.heap.size<U.heap.size:=by omega
 obtain ⟨c0,c1,c2⟩:PBox U w.heap.size s Ag n cg Ar nr cr:=by
  rw [hU];exact hx0.below hs0 (((Below.refl _ _).alloc (Nat.le_refl _) _).alloc (by simp) _)
 have hout:Out_ U (w.heap.size+1+1) (.slice (some ⟨w.heap.size+1,0,none⟩) 0 0):=by
  have:=heap_alloc_new ((w.alloc (.cells #[.int .i64 s,.slice Ag n cg,.slice Ar nr cr] 26)).alloc (.cells #[] 23)) (.cells #[.slice (some ⟨w.heap.size+1,0,none⟩) 0 0] 70);rw [World.size_alloc,World.size_alloc] at this;unfold Out_;rw [hU];exact this
 have hrows:Rows_ U (w.heap.size+1) (w.heap.size+1+1) (.slice (some ⟨w.heap.size+1,0,none⟩) 0 0) [] n:=by
  refine ⟨some ⟨w.heap.size+1,0,none⟩,0,[],rfl,?_,by simp [Value.ownBlock],fun i hi=>absurd hi (by simp)⟩;have h:((w.alloc (.cells #[.int .i64 s,.slice Ag n cg,.slice Ar nr cr] 26)).alloc (.cells #[] 23)).ownsRow (w.heap.size+1) 23 1 (.slice (some ⟨(w.alloc (.cells #[.int .i64 s,.slice Ag n cg,.slice Ar nr cr] 26)).heap.size,0,none⟩) 0 0) 0 []:=World.ownsRow_made _ #[] 0 (by simp) (by simp [maxLen]) rfl;rw [World.size_alloc] at h;rw [hU];exact World.ownsRow.alloc h _
 cases hf:fpB s gi rs gi
 ·have HL:=Lib.hid (show allS s most n gi rs=[] by simp [allS,hf])
  go_enter Tryz.func63,Tryz.ntmps63
  go_wp2_with (go_at_call 115;(rw [<- hU];refine (HF.out _ hbU).mono ?_);rintro e w1 ⟨rfl,hb1⟩;rw [hf];have hout1:Out_ w1 _ _:=(hb1.block _ hout.lt).trans hout;have hoc:=hout1.cell)
  go_ret
  exact ⟨_,_,rfl,by rw [HL.out];exact hrows.below hb1,step hbU hb1⟩
 ·obtain ⟨t,rfl,hs,hn',hn16,hok'⟩:=pv_grid (show pvB s gi rs=true by simp only [fpB,Bool.and_eq_true] at hf;exact hf.1.1) hp.g.1;have hn:=Lib.hid hn';have hok:=Lib.hid hok';clear hn' hok'
  have Hne:Hid (∀ b' off':Nat,Ag=some ⟨b',off',none⟩->b'≠w.heap.size+1+1/\(Value.slice (some ⟨w.heap.size+1,0,none⟩) 0 0).ownBlock≠some b'):=Lib.hid (fun b' off' e=>by
   obtain ⟨b,off,hA,hbB,_⟩:=hp.g.at_ (k:=0) (by have:=hn.out;simp at hs;rcases hs with h|h|h<;>subst h<;>omega);rw [hA] at e;cases e;have:=hp.gB
   exact ⟨by omega,by simp only [Value.ownBlock];intro e;injection e with e;omega⟩)
  have HS:=Lib.hid (fun w' (hb:Below U.heap.size U w')=>specSearch5 t Ag n cg Bg gi Ar nr cr Br rs hs hn hn16 (w.heap.size+1+1) (w.heap.size+1) most (Nat.le_trans hp.gB (Nat.le_succ _)) (Nat.le_trans hp.rB (Nat.le_succ _)) (Nat.le_succ _) hp.rm h1 n Ag cg Bg gi 0 (.slice (some ⟨w.heap.size+1,0,none⟩) 0 0) [] w' (Nat.sub_zero _) (Nat.zero_le _) ((hp.below hbU).below hb).g ((hp.below hbU).below hb).r ((hp.below hbU).below hb).g ((hp.below hbU).below hb).gB Hne.out hok ((hb.block _ hout.lt).trans hout) (hrows.below hb) (by simpa using h0) (by have:=hb.size;omega));have HL:=Lib.hid (show allS t most n gi rs=s5 (fitB t gi rs) t most n gi 0 [] by simp [allS,hf])
  go_enter Tryz.func63,Tryz.ntmps63
  go_wp2_with (first|(go_at_call 115;(rw [<- hU];refine (HF.out _ hbU).mono ?_);(rintro e w1 ⟨rfl,hb1⟩;rw [hf]);obtain ⟨d0,d1,d2⟩:PBox w1 w.heap.size t Ag n cg Ar nr cr:=PBox.below ⟨c0,c1,c2⟩ hwU hb1)|(go_at_call 116;(refine (HS.out _ hb1).mono ?_);(rintro e w2 ⟨rfl,v2,hout2,hrows2,hchg2⟩);have hoc:=hout2.cell))
  go_ret
  refine ⟨_,_,rfl,by rw [HL.out];exact hrows2,(step hbU hb1).trans (hchg2.below (lo:=w.heap.size+1) (fun g hg=>?_) (by omega) (by omega) (by have:=hb1.size;omega))⟩;simp only [Value.ownBlock] at hg
  injection hg with hg
  omega
def oneB (s:Int) (n:Nat) (gi:List Int) (rs:List RuleM):Bool:=(allS s 2 n gi rs).length==1
set_option maxHeartbeats 1000000 in
theorem specOne (s:Int) (Ag:Option Addr) (n cg Bg:Nat) (gi:List Int) (Ar:Option Addr) (nr cr Br:Nat) (rs:List RuleM) (w:World) (hp:PGs w s Ag n cg Bg gi Ar nr cr Br rs):
 Calls Tryz.prog 152 #[.agg #[.int .i64 s,.slice Ag n cg,.slice Ar nr cr]] w fun e w'=>e=.returned (.bool (oneB s n gi rs))/\Below w.heap.size w w':=by
 have hx0:=pbox_new w s Ag n cg Ar nr cr 26;have hb0:Below w.heap.size w (w.alloc (.cells #[.int .i64 s,.slice Ag n cg,.slice Ar nr cr] 26)):=(Below.refl _ _).alloc (Nat.le_refl _) _;have HA:=Lib.hid (fun w' (hb:Below w.heap.size w w')=>(show Calls Tryz.prog 63 #[.agg #[.int .i64 s,.slice Ag n cg,.slice Ar nr cr],.int .i64 2] w' _ from specAll s 2 Ag n cg Bg gi Ar nr cr Br rs w' (hp.below hb) (by omega) (by omega)));have hL:=allS_len s 2 n gi rs (by omega)
 have HQ:=Lib.hid (show (((allS s 2 n gi rs).length:Int)==1)=oneB s n gi rs by
  unfold oneB;rw [Bool.eq_iff_iff];simp only [beq_iff_eq]
  omega)
 go_enter Tryz.func152,Tryz.ntmps152
 go_wp2_with (go_at_call 63;(refine (HA.out _ hb0).mono ?_);rintro e w1 ⟨P,v,rfl,hrows,hb1⟩;obtain ⟨A1,c1,vs,rfl,_⟩:=hrows)
 go_ret
 exact ⟨by rw [HQ.out];rfl,step hb0 hb1⟩
set_option maxHeartbeats 1000000 in
theorem specWithout (s:Int) (Ag:Option Addr) (n cg Bg:Nat) (gi:List Int) (Ar:Option Addr) (nr cr:Nat) (k:Nat) (w:World) (hg:Rd w Bg Ag n gi) (hB:Bg<=w.heap.size) (hm:n<=1099511627776) (hk:k<n):
 Calls Tryz.prog 154 #[.agg #[.int .i64 s,.slice Ag n cg,.slice Ar nr cr],.int .i64 k] w fun e w'=>∃ A' c',e=.returned (.agg #[.int .i64 s,.slice A' n c',.slice Ar nr cr])/\Ow w' w.heap.size A' n c' (gi.set k 0)/\Below w.heap.size w w':=by
 have hx0:=pbox_new w s Ag n cg Ar nr cr 26;have hb0:Below w.heap.size w (w.alloc (.cells #[.int .i64 s,.slice Ag n cg,.slice Ar nr cr] 26)):=(Below.refl _ _).alloc (Nat.le_refl _) _
 have hs0:w.heap.size<(w.alloc (.cells #[.int .i64 s,.slice Ag n cg,.slice Ar nr cr] 26)).heap.size:=by simp
 obtain ⟨b,off,rfl,hbB,_⟩:=hg.at_ hk
 have hn0:0<n:=by omega
 obtain ⟨V,hV⟩:∃ V,V=(w.alloc (.cells #[.int .i64 s,.slice (some ⟨b,off,none⟩) n cg,.slice Ar nr cr] 26)).alloc (.cells #[.int .i64 0,.slice none 0 0,.slice none 0 0] 26):=⟨_,rfl⟩
 have hbV:Below w.heap.size w V:=by rw [hV];exact hb0.alloc hb0.size _
 have hsV:V.heap.size=w.heap.size+1+1:=by rw [hV];simp
 have hwV:w.heap.size<V.heap.size:=by omega
 have hwV1:w.heap.size+1<V.heap.size:=by omega
 obtain ⟨c0,c1',c2⟩:PBox V w.heap.size s (some ⟨b,off,none⟩) n cg Ar nr cr:=by
  rw [hV];exact hx0.below hs0 ((Below.refl _ _).alloc (Nat.le_refl _) _)
 have hrow:V.heap[w.heap.size+1]? =some (.cells #[.int .i64 0,.slice none 0 0,.slice none 0 0] 26):=by rw [hV];exact heap_alloc2_new w _ _
 have HO:Hid (Ow (V.alloc (.cells #[] 3)) (w.heap.size+1+1) (some ⟨w.heap.size+1+1,0,none⟩) 0 0 []):=Lib.hid (by
  have:=Ow.made0 V (w.heap.size+1+1) (by omega);rw [hsV] at this
  exact this)
 have hbO:Below V.heap.size V (V.alloc (.cells #[] 3)):=(Below.refl _ _).alloc (Nat.le_refl _) _;have HR:=Lib.hid ((hg.below (hbV.mono hB)).below (hbO.mono (Nat.le_trans hB (Nat.le_of_lt hwV))))
 have hsO:w.heap.size+1+1<=(V.alloc (.cells #[] 3)).heap.size:=by simp;omega
 have Hone:=Lib.hid puz_one;have Hi:=Lib.hid puz_info
 go_enter Tryz.func154,Tryz.ntmps154
 go_wp2_with (first
  |(at_builtin;(rw [<- hV]);(refine push_some rfl (.tmp 6) (.tmp 8) rfl (w.heap.size+1+1) (some ⟨w.heap.size+1+1,0,none⟩) 0 0 [] b off n cg Bg gi rfl rfl HO.out HR.out (by omega) hm hsO ?_);intro A1 c1 w1 ho1 hg1;simp only [Nat.zero_add,List.nil_append] at ho1;(obtain ⟨gb,rfl,hlog,hgw1⟩:=ho1.form hn0);(obtain ⟨hcq,hfq⟩:=ho1.cell hk);have hbw1:Below V.heap.size V w1:=hbO.grown hg1 hbO.size (fun k hk=>Nat.le_trans (Nat.le_of_eq hsV) (HO.out.own_lo k hk));have hgb0:w.heap.size≠gb:=Nat.ne_of_lt (Nat.lt_of_lt_of_le (Nat.lt_of_lt_of_le (Nat.lt_succ_self _) (Nat.le_succ _)) hlog);have hgb1:w.heap.size+1≠gb:=Nat.ne_of_lt hlog;(have d0:=(cell_other5 (k:=k) (v:=.int .i64 0) hgb0).trans ((hbw1.cell (p:=⟨w.heap.size,0,none⟩) hwV).trans c0));have d2:=(cell_other5 (k:=k) (v:=.int .i64 0) hgb0).trans ((hbw1.cell (p:=⟨w.heap.size,2,none⟩) hwV).trans c2);(have hr2:=(heap_setCell_other w1 ⟨gb,k,none⟩ (w.heap.size+1) (.int .i64 0) hgb1).trans ((hbw1.block (w.heap.size+1) hwV1).trans hrow)))
  |((refine wpList_store_row rfl 26 _ _ rfl (w.heap.size+1) #[.int .i64 s,.slice (some ⟨gb,0,none⟩) n c1,.slice Ar nr cr] rfl rfl 26 #[.int .i64 0,.slice none 0 0,.slice none 0 0] hr2 (Hi.out _ _ _ _ _ _ _) rfl (Hone.out _ _ _ _ _ _ _) ?_)))
 have ho2:Ow (w1.setCell ⟨gb,k,none⟩ (.int .i64 0)) (w.heap.size+1+1) (some ⟨gb,0,none⟩) n c1 (gi.set k 0):=by
  have:=(World.ownsRow.stored ho1 k (.int .i64 0)).1;rw [vals_set] at this;exact this
 have hBe:Below w.heap.size w ((w1.setCell ⟨gb,k,none⟩ (.int .i64 0)).setRow (w.heap.size+1) #[.int .i64 s,.slice (some ⟨gb,0,none⟩) n c1,.slice Ar nr cr]):=setRow_below5 ((hbV.trans (hbw1.mono hbV.size)).setCell (show w.heap.size<=gb by omega) _) (by omega);refine bodyPost_ret (v:=.agg #[.int .i64 s,.slice (some ⟨gb,0,none⟩) n c1,.slice Ar nr cr]) (results_cell_row (by rfl) _ _ (w.heap.size+1) 26 _ (0,0) _ rfl (setRow_heap _ _ _ _ _ _ hr2) Tryz.underlying26 rfl (Hi.out _ _ _ _ _ _ _)) rfl ⟨_,_,rfl,(ho2.row5 (fun b hb=>?_)).mono (by omega),hBe⟩;have:=ho2.own_lo b hb
 omega
def givenB (n:Nat) (gi:List Int) (i:Int):Bool:=inr i 0 ((n:Int)-1)&&decide (0<nth gi i.toNat)
def redB (s:Int) (n:Nat) (gi:List Int) (rs:List RuleM) (i:Int):Bool:=pvB s gi rs&&givenB n gi i&&oneB s n gi rs&&oneB s n (gi.set i.toNat 0) rs
set_option maxHeartbeats 2000000 in
theorem specIsRedundant (s:Int) (Ag:Option Addr) (n cg Bg:Nat) (gi:List Int) (Ar:Option Addr) (nr cr Br:Nat) (rs:List RuleM) (i:Int) (w:World) (hp:PGs w s Ag n cg Bg gi Ar nr cr Br rs):
 Calls Tryz.prog 153 #[.agg #[.int .i64 s,.slice Ag n cg,.slice Ar nr cr],.int .i64 i] w fun e w'=>e=.returned (.bool (redB s n gi rs i))/\Below w.heap.size w w':=by
 have hx0:=pbox_new w s Ag n cg Ar nr cr 26;have hb0:Below w.heap.size w (w.alloc (.cells #[.int .i64 s,.slice Ag n cg,.slice Ar nr cr] 26)):=(Below.refl _ _).alloc (Nat.le_refl _) _
 have hs0:w.heap.size<(w.alloc (.cells #[.int .i64 s,.slice Ag n cg,.slice Ar nr cr] 26)).heap.size:=by simp
 have HP:=Lib.hid (fun w' (hb:Below w.heap.size w w')=>specPuzzleValid s Ag n cg Bg gi Ar nr cr Br rs w' (hp.below hb).g (hp.below hb).gB hp.gm (hp.below hb).r (hp.below hb).rB hp.rm);have HO:=Lib.hid (fun w' (hb:Below w.heap.size w w')=>specOne s Ag n cg Bg gi Ar nr cr Br rs w' (hp.below hb));have hlen:=Lib.hid hp.g.1;have hm:=hp.gm;cases hv:pvB s gi rs
 ·have HL:=Lib.hid (show redB s n gi rs i=false by simp [redB,hv])
  go_enter Tryz.func153,Tryz.ntmps153
  go_wp2_with (go_at_call 25;refine (HP.out _ hb0).mono ?_;rintro e w1 ⟨rfl,hb1⟩;rw [hv];have hB1:=step hb0 hb1;clear hb1)
  go_ret
  exact ⟨by rw [HL.out];rfl,hB1⟩
 ·cases hin:inr i 0 ((n:Int)-1)
  ·have HL:=Lib.hid (show redB s n gi rs i=false by simp [redB,givenB,hin]);have Hin:=Lib.hid hin;clear hin
   go_enter Tryz.func153,Tryz.ntmps153
   go_wp2_with (first|(go_at_call 25;refine (HP.out _ hb0).mono ?_;rintro e w1 ⟨rfl,hb1⟩;rw [hv];have hB1:=step hb0 hb1;obtain ⟨d0,d1,d2⟩:=hx0.below hs0 hb1;clear hb1)|(go_at_call 62;refine (l1In_any _ _ _ _).mono ?_;rintro e w' ⟨rfl,rfl⟩;(rw [Hin.out])))
   go_ret
   exact ⟨by rw [HL.out];rfl,hB1⟩
  ·obtain ⟨k,rfl⟩:=Int.eq_ofNat_of_zero_le (show 0<=i by simp [inr] at hin;omega);have hk:k<n:=(by simp [inr] at hin;omega);have Hin:=Lib.hid hin;clear hin;obtain ⟨b,off,rfl,hbB,hck⟩:=hp.g.at_ hk;have hbw:b<w.heap.size:=Nat.lt_of_lt_of_le hbB hp.gB;have HW:=Lib.hid (fun w' (hb:Below w.heap.size w w')=>specWithout (Bg:=Bg) s (some ⟨b,off,none⟩) n cg gi Ar nr cr k w' (hp.below hb).g (hp.below hb).gB hm hk);have HC:=Lib.hid (fun w' (hb:Below w.heap.size w w')=>((hb.cell (p:=⟨b,off+k,none⟩) hbw).trans hck:w'.cell? ⟨b,off+k,none⟩=some (.int .i64 (nth gi k))))
   by_cases hx:0<nth gi k
   ·cases ho:oneB s n gi rs
    ·have HL:=Lib.hid (show redB s n gi rs k=false by simp [redB,ho])
     go_enter Tryz.func153,Tryz.ntmps153
     go_wp2_with (first|(go_at_call 25;refine (HP.out _ hb0).mono ?_;rintro e w1 ⟨rfl,hb1⟩;rw [hv];have hB1:=step hb0 hb1;obtain ⟨d0,d1,d2⟩:=hx0.below hs0 hb1;have hck1:=HC.out _ hB1;clear hb1)|(go_at_call 62;refine (l1In_any _ _ _ _).mono ?_;rintro e w' ⟨rfl,rfl⟩;(rw [Hin.out]))|(go_at_call 152;refine (HO.out _ hB1).mono ?_;rintro e w2 ⟨rfl,hb2⟩;rw [ho]))
     go_ret
     exact ⟨by rw [HL.out];rfl,step hB1 hb2⟩
    ·cases ho2:oneB s n (gi.set k 0) rs
     all_goals
      have HL:=Lib.hid (show redB s n gi rs k=oneB s n (gi.set k 0) rs by simp [redB,givenB,hv,Hin.out,hx,ho]);rw [ho2] at HL;have HO2:=Lib.hid (fun w' (hb:Below w.heap.size w w') A' c' B' (h:Rd w' B' A' n (gi.set k 0)) (hB:B'<=w'.heap.size)=>specOne s A' n c' B' (gi.set k 0) Ar nr cr Br rs w' ⟨h,hB,hm,(hp.below hb).r,(hp.below hb).rB,hp.rm⟩)
      go_enter Tryz.func153,Tryz.ntmps153
      go_wp2_with (first|(go_at_call 25;refine (HP.out _ hb0).mono ?_;rintro e w1 ⟨rfl,hb1⟩;rw [hv];have hB1:=step hb0 hb1;obtain ⟨d0,d1,d2⟩:=hx0.below hs0 hb1;have hs1:=Nat.lt_of_lt_of_le hs0 hb1.size;have hck1:=HC.out _ hB1;clear hb1)|(go_at_call 62;refine (l1In_any _ _ _ _).mono ?_;rintro e w' ⟨rfl,rfl⟩;(rw [Hin.out]))|(go_at_call 154;refine (HW.out _ hB2).mono ?_;rintro e w3 ⟨A3,c3,rfl,ho3,hb3⟩;have hB3:=step hB2 hb3;clear hb3)|(go_at_call 152;refine (HO.out _ hB1).mono ?_;rintro e w2 ⟨rfl,hb2⟩;rw [ho];have hB2:=step hB1 hb2;obtain ⟨e0,e1,e2⟩:=PBox.below ⟨d0,d1,d2⟩ hs1 hb2;clear hb2)|(go_at_call 152;refine (HO2.out _ hB3 _ _ _ ho3.rd (Nat.le_refl _)).mono ?_;rintro e w4 ⟨rfl,hb4⟩;rw [ho2];have hB4:=step hB3 hb4;clear hb4))
      go_ret
      exact ⟨by rw [HL.out];rfl,hB4⟩
   ·have HL:=Lib.hid (show redB s n gi rs k=false by simp [redB,givenB,hx])
    go_enter Tryz.func153,Tryz.ntmps153
    go_wp2_with (first|(go_at_call 25;refine (HP.out _ hb0).mono ?_;rintro e w1 ⟨rfl,hb1⟩;rw [hv];have hB1:=step hb0 hb1;obtain ⟨d0,d1,d2⟩:=hx0.below hs0 hb1;have hck1:=HC.out _ hB1;clear hb1)|(go_at_call 62;refine (l1In_any _ _ _ _).mono ?_;rintro e w' ⟨rfl,rfl⟩;(rw [Hin.out])))
    go_ret
    exact ⟨by rw [HL.out];rfl,hB1⟩
end Go.Proofs.YtkeoflnmbcdmfaaGreatDoor
