import Derived.Test.YtlnmioijgclndaaGreatDoorAOwnL
import Derived.Test.YtlnmioijgclndaaGreatDoorPushAll
set_option maxRecDepth 8000
namespace Go.Proofs.YtlnmioijgclndaaGreatDoor
open Go.ChangeShapes Go.WideShapes Go.ChangeAt Go.RowKit
theorem rat_left {rs1 rs2:List RuleM} {n i:Nat} (hl:rs1.length=n) (hi:i<n):rat (rs1++rs2) i=rat rs1 i:=by
 simp [rat,List.getD_eq_getElem?_getD,List.getElem?_append_left (by omega:i<rs1.length)]
theorem rat_right {rs1 rs2:List RuleM} {n i:Nat} (hl:rs1.length=n):rat (rs1++rs2) (n+i)=rat rs2 i:=by
 simp [rat,List.getD_eq_getElem?_getD,List.getElem?_append_right (by omega:rs1.length<=n+i),hl]
def InR (w:World) (lo:Nat) (v:Value) (rs:List RuleM) (vs:List Value) (m:Nat):Prop:=
 ∀ i,i<m->∃ A' c',vs[i*3]? =some (.int .i64 (rat rs i).k)/\vs[i*3+1]? =some (.slice A' (rat rs i).xs.length c')/\vs[i*3+2]? =some (.int .i64 (rat rs i).v)/\Ow w lo A' (rat rs i).xs.length c' (rat rs i).xs/\(rat rs i).xs.length<=1099511627776/\∀ g,(Value.slice A' (rat rs i).xs.length c').ownBlock=some g->v.ownBlock≠some g
theorem inR_one {w:World} {lo:Nat} {v:Value} {rs:List RuleM} {vs:List Value} {m:Nat} (h:InR w lo v rs vs m) (hl:vs.length=m*3):∀ u∈vs,u.oneCell'=true:=by
 intro u hu;obtain ⟨j,hj,rfl⟩:=List.mem_iff_getElem.1 hu;obtain ⟨A',c',e0,e1,e2,_⟩:=h (j/3) (by omega);have hjj:vs[j]? =some vs[j]:=List.getElem?_eq_getElem hj
 have:j%3=0\/j%3=1\/j%3=2:=by omega
 rcases this with r|r|r
 ·rw [show j/3*3=j by omega,hjj] at e0;rw [Option.some.inj e0];rfl
 ·rw [show j/3*3+1=j by omega,hjj] at e1;rw [Option.some.inj e1];rfl
 ·rw [show j/3*3+2=j by omega,hjj] at e2;rw [Option.some.inj e2];rfl
theorem run_push_rulesV {w:World} (ty:TypeId) (lo:Nat) (A:Option Addr) (n c:Nat) (rs1:List RuleM) (vs1:List Value) (A2:Option Addr) (m c2:Nat) (rs2:List RuleM) (vs2:List Value) (lo2:Nat) (l1:rs1.length=n)
 (hown:w.ownsRow lo 84 3 (.slice A n c) n vs1) (hin1:InR w lo (.slice A n c) rs1 vs1 n) (hown2:w.ownsRow lo2 84 3 (.slice A2 m c2) m vs2) (hin2:InR w lo (.slice A n c) rs2 vs2 m) (hmn:0<m\/n=0)
 (hn:n<=1099511627776) (hm:m<=1099511627776) (hlo:lo<=w.heap.size):
 ∃ A' c' w',(Builtin.append_ #[24,24] ty #[.slice A n c,.slice A2 m c2]).run Tryz.prog w=.ok (.slice A' (n+m) c') w'/\(w'.ownsRow lo 84 3 (.slice A' (n+m) c') (n+m) (vs1++vs2)/\InR w' lo (.slice A' (n+m) c') (rs1++rs2) (vs1++vs2) (n+m))/\w.grownBy w' (Value.slice A n c).ownBlock/\(∀ g,(Value.slice A' (n+m) c').ownBlock=some g->(Value.slice A n c).ownBlock=some g\/g=w.heap.size):=by
 obtain ⟨i0,hi,hz0,hz1,hz2⟩:=info_parts rule_parts;obtain ⟨hvl2,hcase⟩:=id hown2;have hvl1:=hown.1
 by_cases h0:0<m
 ·rcases hcase with ⟨_,h00⟩|⟨g2,cap2,cur,hv,_,hrow,h1,h2,h3,h4⟩
  ·omega
  ·injection hv with e1 _ e2
   subst e1
   have hcell:∀ j u,vs2[j]? =some u->w.cell? ((⟨g2,0,none⟩:Addr).add j)=some u:=fun j u hj=>by
    have hadd:(⟨g2,0,none⟩:Addr).add j=⟨g2,j,none⟩:=(by unfold Addr.add;split<;>simp_all);rw [hadd,cell_of_row w g2 j cur _ _ hrow];rw [<- h4,List.getElem?_take] at hj
    split at hj
    ·simpa using hj
    ·cases hj
   obtain ⟨g,cap,w',hrun,k2,k3,k4,k5⟩:=run_append_lies (P:=Tryz.prog) w 24 ty lo 84 i0 (.agg #[.int .i64 0,.slice none 0 0,.int .i64 0]) 3 40 Tryz.underlying24 hi hz0 hz1 hz2 rfl (by decide) _ n vs1 hown ⟨g2,0,none⟩ m c2 vs2 hvl2 hcell (inR_one hin2 hvl2) h0 (by simp only [maxLen];omega) (by omega) hlo _ rfl
   have hlast:∀ g',(Value.slice (some ⟨g,0,none⟩) (n+m) cap).ownBlock=some g'->(Value.slice A n c).ownBlock=some g'\/g'=w.heap.size:=fun g' hg'=>by
    have:g'=g:=(by simp [Value.ownBlock] at hg';omega);subst this;exact k4
   have hout:∀ (A':Option Addr) (l c':Nat) (xs:List Int),Ow w lo A' l c' xs->(∀ b,(Value.slice A' l c').ownBlock=some b->(Value.slice A n c).ownBlock≠some b)->Ow w' lo A' l c' xs/\∀ b,(Value.slice A' l c').ownBlock=some b->(Value.slice (some ⟨g,0,none⟩) (n+m) cap).ownBlock≠some b:=fun A' l c' xs ho hne=>by
    refine ⟨Ow.far ho k3 hne,fun b hb e=>?_⟩;have:=World.ownsRow.lt ho b hb
    rcases hlast b e with h|h
    ·exact hne b hb h
    ·omega
   refine ⟨some ⟨g,0,none⟩,cap,w',hrun,⟨k2,fun i hi=>?_⟩,k3,hlast⟩
   by_cases hlt:i<n
   ·obtain ⟨A',c',e0,e1,e2,e3,e4,e5⟩:=hin1 i hlt;rw [rat_left l1 hlt];obtain ⟨q1,q2⟩:=hout _ _ _ _ e3 e5;exact ⟨A',c',by rw [List.getElem?_append_left (by omega)];exact e0,by rw [List.getElem?_append_left (by omega)];exact e1,by rw [List.getElem?_append_left (by omega)];exact e2,q1,e4,q2⟩
   ·obtain ⟨q,rfl⟩:∃ q,i=n+q:=⟨i-n,by omega⟩;obtain ⟨A',c',e0,e1,e2,e3,e4,e5⟩:=hin2 q (by omega);rw [rat_right l1];obtain ⟨q1,q2⟩:=hout _ _ _ _ e3 e5;exact ⟨A',c',by rw [List.getElem?_append_right (by omega),show (n+q)*3-vs1.length=q*3 by omega];exact e0,by rw [List.getElem?_append_right (by omega),show (n+q)*3+1-vs1.length=q*3+1 by omega];exact e1,by rw [List.getElem?_append_right (by omega),show (n+q)*3+2-vs1.length=q*3+2 by omega];exact e2,q1,e4,q2⟩
 ·obtain rfl:m=0:=by omega
  obtain rfl:n=0:=by omega
  have hsrc:Go.Src Tryz.prog i0.size 24 (.slice A2 0 c2) 0 [] w:=by
   cases A2 with
   |none=>exact Go.Src.ofNil w Tryz.underlying24 c2
   |some a=>exact Go.Src.ofSlice w Tryz.underlying24 a 0 c2 [] (by simp) (fun j u hj=>by simp at hj) (fun u hu=>by simp at hu)
  exact ⟨A,c,w,run_append_nothing w 24 24 ty 84 i0 Tryz.underlying24 hi A 0 c (Nat.zero_le _) _ hsrc,⟨by rw [show vs2=[] from List.eq_nil_of_length_eq_zero (by omega),List.append_nil];exact hown,fun i hi=>absurd hi (by omega)⟩,World.grownBy.refl _ _,fun g hg=>.inl hg⟩
def CbV (vs:List Value) (m:Nat) (Q:Nat->Prop):Prop:=∀ i A' n' c',i<m->vs[i*3+1]? =some (.slice A' n' c')->∀ g,(Value.slice A' n' c').ownBlock=some g->Q g
def SpQ (w:World) (lo:Nat) (v:Value) (k:Nat) (Q:Nat->Prop):Prop:=∃ vs,w.ownsRow lo 84 3 v k vs/\CbV vs k Q
theorem CbV.nil {Q:Nat->Prop}:CbV [] 0 Q:=fun i _ _ _ hi=>absurd hi (by omega)
theorem CbV.app {vs1 vs2:List Value} {n m:Nat} {Q:Nat->Prop} (hl:vs1.length=n*3) (h1:CbV vs1 n Q) (h2:CbV vs2 m Q):CbV (vs1++vs2) (n+m) Q:=by
 intro i A' n' c' hi he g hg
 by_cases hlt:i<n
 ·rw [List.getElem?_append_left (by omega)] at he;exact h1 i A' n' c' hlt he g hg
 ·obtain ⟨q,rfl⟩:∃ q,i=n+q:=⟨i-n,by omega⟩;rw [List.getElem?_append_right (by omega),show (n+q)*3+1-vs1.length=q*3+1 by omega] at he;exact h2 q A' n' c' (by omega) he g hg
theorem CbV.one {x y z:Value} {Q:Nat->Prop} (h:∀ g,y.ownBlock=some g->Q g):CbV [x,y,z] 1 Q:=by
 intro i A' n' c' hi he g hg
 obtain rfl:i=0:=by omega
 simp at he
 rw [he] at h;exact h g hg
theorem CbV.imp {vs:List Value} {m:Nat} {Q Q':Nat->Prop} (h:CbV vs m Q) (hq:∀ g,Q g->Q' g):CbV vs m Q':=fun i A' n' c' hi he g hg=>hq g (h i A' n' c' hi he g hg)
theorem SpQ.imp {w:World} {lo k:Nat} {v:Value} {Q Q':Nat->Prop} (h:SpQ w lo v k Q) (hq:∀ g,Q g->Q' g):SpQ w lo v k Q':=by
 obtain ⟨vs,h1,h2⟩:=h;exact ⟨vs,h1,h2.imp hq⟩
theorem SpQ.map {w w':World} {lo k:Nat} {v:Value} {Q:Nat->Prop} (h:SpQ w lo v k Q) (hm:∀ vs,w.ownsRow lo 84 3 v k vs->w'.ownsRow lo 84 3 v k vs):SpQ w' lo v k Q:=by
 obtain ⟨vs,h1,h2⟩:=h;exact ⟨vs,hm vs h1,h2⟩
theorem SpQ.below {w w':World} {lo k:Nat} {v:Value} {Q:Nat->Prop} (h:SpQ w lo v k Q) (hb:Below w.heap.size w w'):SpQ w' lo v k Q:=
 h.map fun vs hown=>World.ownsRow.kept hown (row:=none) ⟨hb.os,hb.tape,hb.output,hb.size,fun k hk _=>hb.block k hk⟩ (by cases e:v.ownBlock<;>simp)
theorem SpQ.keptL {w w':World} {lo G k:Nat} {v:Value} {Q:Nat->Prop} (h:SpQ w lo v k Q) (hg:w.grownBy w' (some G)) (hG:G<lo):SpQ w' lo v k Q:=
 h.map fun vs hown=>World.ownsRow.kept hown hg (by
  cases e:v.ownBlock
  ·exact .inl rfl
  ·refine .inr (fun e2=>?_);have h1:=(World.ownsRow.lt hown _ e).1;have h2:=Option.some.inj e2
   omega)
theorem SpQ.nil {w:World} {lo:Nat} {Q:Nat->Prop}:SpQ w lo (.slice none 0 0) 0 Q:=⟨[],World.ownsRow_nil _ _ _ _,CbV.nil⟩
theorem ownsRow_same {w:World} {lo lo' k sz:Nat} {e:TypeId} {v:Value} {xs ys:List Value} (h:w.ownsRow lo e sz v k xs) (h':w.ownsRow lo' e sz v k ys):xs=ys:=by
 rcases h.2 with ⟨e1,h0⟩|⟨g,cap,cur,hv,_,hg,_,_,_,h4⟩
 ·rw [List.eq_nil_of_length_eq_zero (by rw [h.1,h0,Nat.zero_mul]:xs.length=0),List.eq_nil_of_length_eq_zero (by rw [h'.1,h0,Nat.zero_mul]:ys.length=0)]
 ·rcases h'.2 with ⟨e1',h0'⟩|⟨g',cap',cur',hv',_,hg',_,_,_,h4'⟩
  ·rw [List.eq_nil_of_length_eq_zero (by rw [h.1,h0',Nat.zero_mul]:xs.length=0),List.eq_nil_of_length_eq_zero (by rw [h'.1,h0',Nat.zero_mul]:ys.length=0)]
  ·rw [hv] at hv'
   injection hv' with e1 _ _
   injection e1 with e1
   injection e1 with e1 _ _
   subst e1;rw [hg] at hg'
   injection hg' with hg'
   injection hg' with e2 _ _
   subst e2;rw [<- h4,<-h4']
theorem OwR.with_ {w:World} {lo k:Nat} {v:Value} {rs:List RuleM} {Q:Nat->Prop} (h:OwR w lo v rs k) (hs:SpQ w lo v k Q):∃ vs,w.ownsRow lo 84 3 v k vs/\InR w lo v rs vs k/\CbV vs k Q:=by
 obtain ⟨vs,h1,h2⟩:=h;obtain ⟨vs',h3,h4⟩:=hs;obtain rfl:=ownsRow_same h1 h3;exact ⟨vs,h1,h2,h4⟩
theorem OwR.hi {w:World} {lo k:Nat} {v:Value} {rs:List RuleM} (h:OwR w lo v rs k):SpQ w lo v k (fun g=>g<w.heap.size):=by
 obtain ⟨vs,h1,h2⟩:=h;refine ⟨vs,h1,fun i A' n' c' hi he g hg=>?_⟩;obtain ⟨A2,c2,_,e1,_,ho,_⟩:=h2 i hi;rw [he] at e1
 injection e1 with e1
 rw [e1] at hg;exact ho.own_hi g hg
end Go.Proofs.YtlnmioijgclndaaGreatDoor
