import Derived.Test.YtlnmioijgclndaaGreatDoorFAW9P
set_option maxRecDepth 8000
namespace Go.Proofs.YtlnmioijgclndaaGreatDoor
open Go.ChangeShapes Go.WideShapes Go.ChangeAt Go.RowKit
theorem sq_bounds {s:Nat} (hs:s∈[2,3,4]):(2:Int)<=s/\(s:Int)<=4:=by simp at hs;omega
theorem sqL_know {s:Nat} (hs:s∈[2,3,4]) {y:List Int} (h:y∈sqL s):y.length=s*s/\sqSolved y s=true:=by
 obtain ⟨h2,h4⟩:=sq_bounds hs;exact sols_solved h2 h4 (by simp) h
theorem sqL_nodup {s:Nat}:(sqL s).Nodup:=by
 have:=sols_sorted (size:=(s:Int)) (s*s) (s*s) (zeros (s*s)) 0 (by omega) (zeros_length _)
 exact this.imp fun {a b} ⟨k,_,_,hlt⟩ e=>by subst e;omega
theorem in_enS {s:Nat}:∀ (f:Nat) (g:List Int) (p:Nat) (y:List Int),p+f=g.length->y.length=g.length->(∀ i,i<p->nth y i=nth g i)->(∀ i,p<=i->i<g.length->nth g i=0/\nth y i∈rep s)->y∈enS s f g p:=by
 intro f
 induction f with
 |zero=>
  intro g p y hp hl h1 _;simp only [enS,List.mem_singleton];exact ext_nth hl (fun i hi=>h1 i (by omega))
 |succ f ih=>
  intro g p y hp hl h1 h2;obtain ⟨hz,hy⟩:=h2 p (Nat.le_refl _) (by omega);simp only [enS];rw [if_neg (by omega)];refine List.mem_flatMap.2 ⟨nth y p,hy,ih _ _ _ (by rw [List.length_set];omega) (by rw [List.length_set];exact hl) (fun i hi=>?_) (fun i h3 h4=>?_)⟩
  ·by_cases e:i=p
   ·subst e
    simp [nth,List.getD_eq_getElem?_getD,List.getElem?_set_self (by omega:i<g.length)]
   ·have:=h1 i (by omega);simp only [nth,List.getD_eq_getElem?_getD] at this ⊢;rw [List.getElem?_set_ne (by omega)];exact this
  ·rw [List.length_set] at h4;obtain ⟨a,b⟩:=h2 i (by omega) h4;refine ⟨?_,b⟩;simp only [nth,List.getD_eq_getElem?_getD] at a ⊢;rw [List.getElem?_set_ne (by omega)];exact a
theorem sqL_all {s:Nat} (hs:s∈[2,3,4]) (y:List Int) (hl:y.length=s*s) (h:sqSolved y s=true):y∈sqL s:=by
 obtain ⟨hg,hc,hz⟩:=(solved_iff hl).1 h;rw [sqL_is hs];refine List.mem_filter.2 ⟨in_enS _ _ _ _ (by rw [zeros_length];omega) (by rw [zeros_length];exact hl) (fun i hi=>by omega) (fun i _ h4=>⟨zeros_nth _ _,?_⟩),by simp [hc]⟩;rw [zeros_length] at h4;obtain ⟨a,b⟩:=gv_nth hg (show i<y.length by omega);have c:=hz i h4;exact rep_mem.2 ⟨(nth y i).toNat,by omega,by omega,by omega⟩
theorem one_list {l:List (List Int)} {a:List Int} (hn:l.Nodup) (h:∀ y∈l,y=a) (ha:a∈l):l=[a]:=by
 cases l with
 |nil=>simp at ha
 |cons x t=>
  obtain rfl:=h x (by simp)
  cases t with
  |nil=>rfl
  |cons z u=>
   obtain rfl:=h z (by simp);rw [List.nodup_cons] at hn;exact absurd (by simp) hn.1
theorem full_know {s n:Nat} {gi:List Int} {rs:List RuleM} (hl:gi.length=n) (hps:psB s gi rs gi=true):pvB s gi rs=true/\gv gi s=true/\sqSolved gi s=true/\(∀ k,k<n->nth gi k≠0):=by
 have hv:pvB s gi rs=true:=by
  unfold psB fpB at hps;simp only [Bool.and_eq_true] at hps;exact hps.1.1.1
 have hg:=(pv_gv hv).1;have:=hps;rw [ps_is hv hg] at this;simp only [Bool.and_eq_true] at this;exact ⟨hv,hg,this.1.1,((solved_iff hl).1 this.1.1).2.2⟩
theorem full_cv {s n:Nat} {gi:List Int} {rs:List RuleM} (hs:s∈[2,3,4]) (hn:n=s*s) (hl:gi.length=n) (hps:psB s gi rs gi=true):cv s gi rs (s*s) []=[gi]:=by
 obtain ⟨hv,hg,hsol,hz⟩:=full_know hl hps
 have e:cv s gi rs (s*s) []=(sqL s).filter (psB s gi rs):=by
  rw [<- solL_is hv,<-hn,<-hl];exact cv_is hv
 rw [e];refine one_list (sqL_nodup.filter _) (fun y hy=>?_) (List.mem_filter.2 ⟨sqL_all hs gi (by rw [hl,hn]) hsol,hps⟩);obtain ⟨hm,hp⟩:=List.mem_filter.1 hy;obtain ⟨yl,ys⟩:=sqL_know hs hm;have gy:=((solved_iff yl).1 ys).1;rw [ps_is hv gy] at hp;simp only [Bool.and_eq_true,List.all_eq_true,List.mem_range,Bool.or_eq_true,beq_iff_eq] at hp;refine ext_nth (by rw [yl,hl,hn]) (fun k hk=>?_)
 rcases hp.2 k hk with q|q
 ·exact absurd q (hz k (by omega))
 ·exact q.symm
theorem full_start {s n:Nat} {gi:List Int} {rs:List RuleM} (hs:s∈[2,3,4]) (hl:gi.length=n) (hps:psB s gi rs gi=true):memTo (mgL (startL s gi rs n) s) 0 (mgL (startL s gi rs n) s).length=false:=by
 obtain ⟨hv,hg,hsol,hz⟩:=full_know hl hps;have hm:=start_have hs hl hps;obtain ⟨ml,mv⟩:=start_mvdM hl hv
 have e:startL s gi rs n=mapTo (startC gi s) n:=by simp [startL,hv]
 have hsame:same (mgL (startL s gi rs n) s) gi=true:=by
  have e2:mgL (startL s gi rs n) s=mapTo (mgG (startL s gi rs n)) n:=by simp [mgL,mv,ml]
  rw [e2];refine same_t (mapTo_length _ _) hl (fun k hk=>?_);rw [mapTo_nth hk];obtain ⟨a,b⟩:=gv_nth hg (show k<gi.length by omega);have c:=hz k hk;have hs4:(s:Int)<=4:=(gv_size hg).2;unfold mgG;rw [e,mapTo_nth hk];unfold startC;rw [if_pos (by omega)]
  have:nth gi k=1\/nth gi k=2\/nth gi k=3\/nth gi k=4:=by omega
  rcases this with q|q|q|q<;>rw [q]<;>decide
 have:=mg_is hm (fun k hk=>hz k (by omega));rw [hsame] at this
 simpa using this.symm
theorem full_all {s n:Nat} {gi:List Int} {rs:List RuleM} (hs:s∈[2,3,4]) (hn:n=s*s) (hl:gi.length=n) (hps:psB s gi rs gi=true):sfL s n gi rs=gi/\sfB s n gi rs=true/\csI s n gi rs 2=1/\gpI s n gi rs=1:=by
 obtain ⟨hv,hg,hsol,hz⟩:=full_know hl hps;have hcv:=full_cv hs hn hl hps;obtain ⟨a,b⟩:=sf_cons hl hv hn hcv
 have h2:allS s 2 n gi rs=[gi]:=by rw [allS_cv hl hv (by omega) hn,hcv];rfl
 refine ⟨a,b,?_,?_⟩
 ·have:inr (2:Int) 1 600=true:=by decide
  simp only [csI,hv,this,Bool.true_and,if_true];rw [show (2:Int).toNat=2 from rfl,h2];rfl
 ·obtain ⟨ml,mv⟩:=start_mvdM hl hv;have hm:=start_have hs hl hps
  have e1:naL s gi rs (startL s gi rs n) 1=(naE s gi rs 1 (startL s gi rs n) 0).1:=by
   have:inr (1:Int) 1 4=true:=(by decide)
   simp [naL,hv,mv,this]
  have hk:=na_keeps (r:=0) (most:=1) (by omega) mv hps hm;have hw:=(na_wi (r:=0) (most:=1) hv (by omega) mv).1
  have hsb:sbB s n gi rs ((1:Nat):Int)=true:=by
   have:=mg_more hk hm hw (fun k hk=>hz k (by omega)) (full_start hs hl hps);simp only [sbB];rw [show ((1:Nat):Int)=1 from rfl,e1,this];rfl
  simp only [gpI,hv,if_true,h2,List.length_singleton,gpF,hsb];rfl
def ISquareFits:Prop:=∀ (A:Option Addr) (c n B:Nat) (xs:List Int) (size:Int) (w:World),Rd w B A n xs->B<=w.heap.size->n<=1099511627776->
    Calls Tryz.prog 175 #[.slice A n c,.int .i64 size] w fun e w'=>e=.returned (.bool (sqFits xs size))/\Below w.heap.size w w'
theorem implSquareFits:ISquareFits:=by
 intro A c n B xs size w h hB hm;have hlen:=Lib.hid h.1;cases hg:gv xs size
 ·have HL:=Lib.hid (show sqFits xs size=false by simp [sqFits,hg]);have h1:=h.alloc hB (.cells #[.slice A n c,.int .i64 size] 125)
  have hB1:B<=(w.alloc (.cells #[.slice A n c,.int .i64 size] 125)).heap.size:=by simp;omega
  have hB0:Below w.heap.size w (w.alloc (.cells #[.slice A n c,.int .i64 size] 125)):=(Below.refl _ _).alloc (Nat.le_refl _) _
  go_enter Tryz.func175,Tryz.ntmps175
  go_wp2_with (go_at_call 114;refine (implValid _ _ _ _ _ _ _ h1 hB1 hm).mono ?_;rintro e w1 ⟨rfl,hb1⟩;rw [hg])
  go_ret
  exact ⟨by rw [HL.out];rfl,step hB0 hb1⟩
 ·obtain ⟨s,rfl,hs,hls⟩:=size_nat hg
  have hn:n=s*s:=by have:=hlen.out;omega
  have hok:=Lib.hid (gv_okAll hg hlen.out);have HL:=Lib.hid (show sqFits xs s= !(twice xs s n) by rw [twice_clash hs hn hok.out,sqFits,hg];rfl);have Hn:=Lib.hid hn;clear hn hls;have h1:=h.alloc hB (.cells #[.slice A n c,.int .i64 s] 125)
  have hB1:B<=(w.alloc (.cells #[.slice A n c,.int .i64 s] 125)).heap.size:=by simp;omega
  have hB0:Below w.heap.size w (w.alloc (.cells #[.slice A n c,.int .i64 s] 125)):=(Below.refl _ _).alloc (Nat.le_refl _) _
  have hz0:∀ u:World,MBox (u.alloc (.cells #[.int .i64 0,.int .i64 0,.int .i64 0,.int .i64 0,.int .i64 0,.int .i64 0,.int .i64 0,.int .i64 0,.int .i64 0] 195)) u.heap.size (fun _=>0) 0:=fun u=>heap_alloc_new u _
  have Hz0:=Lib.hid hz0;clear hz0;have Hi9:=Lib.hid (show (Tryz.prog.info? 195).map (·.size)=some (mcells (lmask xs s n) s).size by rw [mcells_size];kernel_rfl);have Hone:=Lib.hid (mone (lmask xs s n) s)
  go_enter Tryz.func175,Tryz.ntmps175
  go_wp2_with (go_at_call 114;refine (implValid _ _ _ _ _ _ _ h1 hB1 hm).mono ?_;rintro e w1 ⟨rfl,hb1⟩;rw [hg];have hr1:=(h1.below (hb1.mono (Nat.le_trans hB1 (Nat.le_refl _))));have hbox:=box_cell hb1;have hB2:=step hB0 hb1)
  have c0:=hbox 0;have c1:=hbox 1
  simp at c0 c1
  clear hbox;have hBw:B<=w1.heap.size:=Nat.le_trans hB hB2.size
  go_wp2_with (first|(go_at_call 187;refine (lines_any _ _ _ _ _ _ _ hr1 hBw hs Hn.out hok).mono ?_;rintro e w2 ⟨rfl,hb2⟩;have hB3:=step hB2 hb2)|(refine wpList_store_row rfl 195 _ _ rfl w2.heap.size (mcells (lmask xs s n) s) rfl rfl 195 (mcells (fun _=>0) 0) (Hz0.out w2) Hi9.out rfl Hone.out ?_))
  go_ret
  exact ⟨by rw [HL.out];rfl,setRow_below (hB3.alloc hB3.size _) hB3.size⟩
def agreeB (gi g:List Int) (n:Nat):Bool:=(List.range n).all fun i=>giveOk gi g i
theorem agree_no {gi g:List Int} {n i:Nat} (hi:i<n) (h:giveOk gi g i=false):agreeB gi g n=false:=by
 cases e:agreeB gi g n
 ·rfl
 ·have:=List.all_eq_true.1 e i (List.mem_range.2 (by omega));rw [h] at this;cases this
theorem agree_yes {gi g:List Int} {n:Nat} (h:∀ i,i<n->giveOk gi g i=true):agreeB gi g n=true:=List.all_eq_true.2 (fun i hi=>h i (by rw [List.mem_range] at hi;omega))
set_option maxHeartbeats 1000000 in
theorem agrees_any (s:Int) (Ag:Option Addr) (n cg Bg:Nat) (gi:List Int) (Ar:Option Addr) (nr cr:Nat) (A:Option Addr) (c B:Nat) (g:List Int) (w:World) (hgi:Rd w Bg Ag n gi) (hBg:Bg<=w.heap.size) (hg:Rd w B A n g) (hB:B<=w.heap.size) (hm:n<=1099511627776)
 (hgi0:∀ i,i<n->0<=nth gi i) (hg0:∀ i,i<n->0<=nth g i):
 Calls Tryz.prog 174 #[.agg #[.int .i64 s,.slice Ag n cg,.slice Ar nr cr],.slice A n c] w fun e w'=>e=.returned (.bool (agreeB gi g n))/\Below w.heap.size w w':=by
 have hx0:=pbox_new w s Ag n cg Ar nr cr 26;have hb0:Below w.heap.size w (w.alloc (.cells #[.int .i64 s,.slice Ag n cg,.slice Ar nr cr] 26)):=(Below.refl _ _).alloc (Nat.le_refl _) _;obtain ⟨z0,z1,z2⟩:=id hx0;have h1:=hgi.below (hb0.mono hBg);have h2:=hg.below (hb0.mono hB);have HGI:=Lib.hid hgi0;have HG:=Lib.hid hg0;clear hgi hg hgi0 hg0
 go_enter Tryz.func174,Tryz.ntmps174
 go_wp2
 go_loop [10] (fun i=>∃ u:Nat,u<=n/\i=.int .i64 u/\Hid (∀ j,j<u->giveOk gi g j=true)) (fun i=>n-(intOf i).toNat)
 case atStart=>exact ⟨0,Nat.zero_le _,rfl,Lib.hid (fun j hj=>absurd hj (by omega))⟩
 case round=>
  obtain ⟨u,hu,rfl,hall⟩:=hrel
  by_cases hlt:u<n
  ·obtain ⟨b,off,rfl,hbB,hc1⟩:=h1.at_ hlt;obtain ⟨b2,off2,rfl,hbB2,hc2⟩:=h2.at_ hlt;have hin:(u:Int)<(n:Int):=(by omega);obtain ⟨x,hx⟩:=Int.eq_ofNat_of_zero_le (HGI.out u hlt);obtain ⟨y,hy⟩:=Int.eq_ofNat_of_zero_le (HG.out u hlt)
   have hok:giveOk gi g u= !(decide (0<x)&&decide (0<y)&&(y != x)):=by
    unfold giveOk;rw [hx,hy];simp only [Int.natCast_pos]
    congr 2
    rw [Bool.eq_iff_iff,bne_iff_ne,bne_iff_ne];omega
   rw [hx] at hc1;rw [hy] at hc2;clear hx hy
   have hnext:giveOk gi g u=true->Hid (∀ j,j<u+1->giveOk gi g j=true):=fun h=>Lib.hid (fun j hj=>by
    by_cases e:j=u
    ·subst e;exact h
    ·exact hall.out j (by omega))
   by_cases hx0:x=0
   ·have HN:=hnext (by rw [hok,hx0];simp);have hxz:((x:Int) != 0)=false:=(by simp [hx0]);clear hok hnext hx0
    go_wp2
    go_round
    case rel=>exact ⟨u+1,hlt,by go_num,HN⟩
    case measure=>simp [intOf];omega
   ·have hxz:((x:Int) != 0)=true:=(by simp;omega)
    by_cases hy0:y=0
    ·have HN:=hnext (by rw [hok,hy0];simp);have hyz:((y:Int) != 0)=false:=(by simp [hy0]);clear hok hnext hy0
     go_wp2
     go_round
     case rel=>exact ⟨u+1,hlt,by go_num,HN⟩
     case measure=>simp [intOf];omega
    ·have hyz:((y:Int) != 0)=true:=(by simp;omega)
     by_cases he:y=x
     ·have HN:=hnext (by rw [hok,he];simp);have hyx:((y:Int) != (x:Int))=false:=(by simp [he]);clear hok hnext
      go_wp2
      go_round
      case rel=>exact ⟨u+1,hlt,by go_num,HN⟩
      case measure=>simp [intOf];omega
     ·have HL:=Lib.hid (agree_no hlt (show giveOk gi g u=false by
       rw [hok,decide_eq_true (by omega),decide_eq_true (by omega)]
       simp [he]))
      have hyx:((y:Int) != (x:Int))=true:=(by simp;omega);clear hok hnext
      go_wp2
      go_ret
      exact ⟨by rw [HL.out];rfl,hb0⟩
  ·obtain rfl:u=n:=by omega
   have HL:=Lib.hid (agree_yes hall.out)
   go_wp2
   go_ret
   exact ⟨by rw [HL.out];rfl,hb0⟩
def possB (s:Int) (g:List Int) (rs:List RuleM):Bool:=(List.range rs.length).all fun i=>rpR s g (rat rs i)
set_option maxHeartbeats 1000000 in
theorem rulesPossible_any (s:Nat) (Ag:Option Addr) (ng cg:Nat) (Ar:Option Addr) (nr cr Br:Nat) (rs:List RuleM) (A:Option Addr) (n c B:Nat) (g:List Int) (w:World) (hr:RdRc w Br Ar nr rs) (hBr:Br<=w.heap.size) (hmr:nr<=1099511627776) (hg:Rd w B A n g) (hB:B<=w.heap.size) (hs:s∈[2,3,4]) (hgv:gv g s=true) (hall0:∀ i,i<nr->rvR s (rat rs i)=true):
 Calls Tryz.prog 176 #[.agg #[.int .i64 s,.slice Ag ng cg,.slice Ar nr cr],.slice A n c] w fun e w'=>e=.returned (.bool (possB s g rs))/\Below w.heap.size w w':=by
 have hlen:=Lib.hid hr.1;have hx0:=pbox_new w s Ag ng cg Ar nr cr 26;have hb0:Below w.heap.size w (w.alloc (.cells #[.int .i64 s,.slice Ag ng cg,.slice Ar nr cr] 26)):=(Below.refl _ _).alloc (Nat.le_refl _) _
 have hs0:w.heap.size+1<=(w.alloc (.cells #[.int .i64 s,.slice Ag ng cg,.slice Ar nr cr] 26)).heap.size:=by simp
 obtain ⟨z0,z1,z2⟩:=id hx0;have HR:=Lib.hid (fun (w':World) (hb:Below w.heap.size w w')=>hr.below (hb.mono hBr));have HA:=Lib.hid hall0;clear hall0
 go_enter Tryz.func176,Tryz.ntmps176
 go_wp2
 go_loopw [10] (fun i wr=>∃ u:Nat,u<=nr/\i=.int .i64 u/\Hid (allR (rpR s g) rs u)/\PBox wr w.heap.size s Ag ng cg Ar nr cr/\Below w.heap.size w wr/\w.heap.size+1<=wr.heap.size) (fun i _=>nr-(intOf i).toNat)
 case atStart=>exact ⟨0,Nat.zero_le _,rfl,Lib.hid (fun j hj=>absurd hj (by omega)),hx0,hb0,hs0⟩
 case round=>
  obtain ⟨u,hu,rfl,hall,hx,hb,hsw⟩:=hrel;obtain ⟨c0,c1,c2⟩:=id hx
  by_cases hlt:u<nr
  ·obtain ⟨b,off,rfl,hbB,hcc⟩:=(HR.out _ hb).2 (by omega);obtain ⟨A',c',r0,r1,r2,r3,r4,r5⟩:=hcc u hlt;have hv0:=HA.out u hlt;obtain ⟨rk,hrk⟩:∃ x,x=(rat rs u).k:=⟨_,rfl⟩;obtain ⟨rx,hrx⟩:∃ x,x=(rat rs u).xs:=⟨_,rfl⟩;obtain ⟨rvv,hrv⟩:∃ x,x=(rat rs u).v:=⟨_,rfl⟩;have hv:rv rk rx rvv s=true:=(by rw [hrk,hrx,hrv];exact hv0);have hrr:rpR s g (rat rs u)=rpB rk rx rvv g s:=(by simp only [rpR,hrk,hrx,hrv]);rw [<- hrk] at r0;rw [<- hrx] at r1 r3 r4 r5;rw [<- hrv] at r2;obtain ⟨_,⟨hn1,hn4⟩,hk2,_⟩:=rv_facts rfl hv;obtain ⟨hsm,hxin⟩:=pks_small rfl hv hgv
   rw [hg.1] at hxin;have hin:(u:Int)<(nr:Int):=(by omega);have hy:=rbox_new wr rk A' rx.length c' rvv 84;have hb1:Below wr.heap.size wr (wr.alloc (.cells #[.int .i64 rk,.slice A' rx.length c',.int .i64 rvv] 84)):=(Below.refl _ _).alloc (Nat.le_refl _) _;obtain ⟨y0,y1,y2⟩:=id hy;have hx1:=hx.below (Nat.lt_of_lt_of_le (Nat.lt_succ_self _) hsw) hb1;obtain ⟨d0,d1,d2⟩:=id hx1;have hbw:=hb.trans (hb1.mono hb.size);have hs1:w.heap.size<(wr.alloc (.cells #[.int .i64 rk,.slice A' rx.length c',.int .i64 rvv] 84)).heap.size:=(by simp;omega);have hs2:wr.heap.size<(wr.alloc (.cells #[.int .i64 rk,.slice A' rx.length c',.int .i64 rvv] 84)).heap.size:=(by simp)
   obtain ⟨W,hW⟩:∃ W,wr.alloc (.cells #[.int .i64 rk,.slice A' rx.length c',.int .i64 rvv] 84)=W:=⟨_,rfl⟩;rw [hW] at hy y0 y1 y2 hx1 d0 d1 d2 hbw hs1 hs2
   have HS:Hid (∀ w',Below W.heap.size W w'->w'.cell? ⟨wr.heap.size,0,none⟩=some (.int .i64 rk)/\w'.cell? ⟨wr.heap.size,1,none⟩=some (.slice A' rx.length c')/\w'.cell? ⟨wr.heap.size,2,none⟩=some (.int .i64 rvv)/\w'.cell? ⟨w.heap.size,0,none⟩=some (.int .i64 s)):=
    Lib.hid (fun w' hb=>by
     obtain ⟨e0,e1,e2⟩:=hy.below hs2 hb
     exact ⟨e0,e1,e2,(hx1.below hs1 hb).1⟩)
   have HPK:=Lib.hid (fun w' (hb2:Below W.heap.size W w')=>implPick A c n B g A' c' rx.length Br rx w' (hg.below ((hbw.trans (hb2.mono hbw.size)).mono hB)) ((r3.below (by rw [<- hW];exact hb1.mono (Nat.le_trans hBr hb.size))).below (hb2.mono (Nat.le_trans hBr hbw.size))) (Nat.le_trans (Nat.le_trans hB hbw.size) hb2.size) (Nat.le_trans (Nat.le_trans hBr hbw.size) hb2.size) r4 hxin);have Hpl:=Lib.hid (pks_length g rx rx.length);have Hsm:=Lib.hid hsm;have Hk:=Lib.hid (rv_kind hv);have Hk2:=Lib.hid (show rk=1\/rk=2\/rk=3\/2<=rx.length from hk2);have HRP:=Lib.hid (rp_ways rfl hv hgv hs);obtain ⟨bb,hbb⟩:∃ bb,(!((allW (emL (pks g rx rx.length) s) rx.length []).filter (holdsB rk rvv)).isEmpty)=bb:=⟨_,rfl⟩;rw [hbb] at HRP;have Hbb:=Lib.hid hbb;have Hb:=Lib.hid hb;have Hbw:=Lib.hid hbw;have hx1':=Lib.hid hx1;clear hrk hrx hrv hcc hsm hxin hk2 hbb hv0 hx hb1;cases bb
   ·have HL:=Lib.hid (show possB s g rs=false from not_all_rat hlen.out hlt (hrr.trans HRP.out));clear hrr
    go_wp2_with fail
    go_region_held3 (fun w'=>w'.cell? ⟨wr.heap.size,0,none⟩=some (.int .i64 rk)/\w'.cell? ⟨wr.heap.size,1,none⟩=some (.slice A' rx.length c')/\w'.cell? ⟨wr.heap.size,2,none⟩=some (.int .i64 rvv)/\w'.cell? ⟨w.heap.size,0,none⟩=some (.int .i64 s))
     (first|go_keep|exact HS.out _ hb3|exact HS.out _ hb4)
     ((first|(go_simp;go_at_call 166;refine (HPK.out _ ((Below.refl _ _).drew)).mono ?_;rintro e w3 ⟨A3,c3,rfl,ho3,hb3'⟩;rw [Hpl.out] at ho3 ⊢;have hb3:Below W.heap.size W w3:=((Below.refl _ _).drew).trans hb3')|(go_simp;go_at_call 188;refine (possible_any _ _ _ _ _ _ _ _ _ _ _ _ ho3.rd (Nat.le_refl _) hn1 hn4 hs (fun i hi=>Hsm.out i hi) Hk.out Hk2.out).mono ?_;rw [Hbb.out];rintro e w4 ⟨rfl,hb4'⟩;have hb4:=step hb3 hb4')))
    go_wp2
    go_ret
    exact ⟨by rw [HL.out];rfl,step Hbw.out hb4⟩
   ·have hall2:=Lib.hid (show allR (rpR s g) rs (u+1) from fun i hi=>by
     by_cases e:i=u
     ·subst e;exact hrr.trans HRP.out
     ·exact hall.out i (by omega))
    have Hlt:=Lib.hid hlt;clear hrr
    go_wp2_with fail
    go_region_held3 (fun w'=>w'.cell? ⟨wr.heap.size,0,none⟩=some (.int .i64 rk)/\w'.cell? ⟨wr.heap.size,1,none⟩=some (.slice A' rx.length c')/\w'.cell? ⟨wr.heap.size,2,none⟩=some (.int .i64 rvv)/\w'.cell? ⟨w.heap.size,0,none⟩=some (.int .i64 s))
     (first|go_keep|exact HS.out _ hb3|exact HS.out _ hb4)
     ((first|(go_simp;go_at_call 166;refine (HPK.out _ ((Below.refl _ _).drew)).mono ?_;rintro e w3 ⟨A3,c3,rfl,ho3,hb3'⟩;rw [Hpl.out] at ho3 ⊢;have hb3:Below W.heap.size W w3:=((Below.refl _ _).drew).trans hb3')|(go_simp;go_at_call 188;refine (possible_any _ _ _ _ _ _ _ _ _ _ _ _ ho3.rd (Nat.le_refl _) hn1 hn4 hs (fun i hi=>Hsm.out i hi) Hk.out Hk2.out).mono ?_;rw [Hbb.out];rintro e w4 ⟨rfl,hb4'⟩;have hb4:=step hb3 hb4')))
    go_wp2
    go_roundw
    case rel=>exact ⟨u+1,Hlt.out,by go_num,hall2,hx1'.out.below hs1 hb4,step Hbw.out hb4,Nat.le_trans hs1 hb4.size⟩
    case measure=>have:=Hlt.out;simp [intOf];omega
  ·obtain rfl:u=nr:=by omega
   have HL:=Lib.hid (show possB s g rs=true from all_rat hlen.out hall.out)
   go_wp2
   go_ret
   exact ⟨by rw [HL.out];rfl,hb⟩
set_option maxHeartbeats 1000000 in
theorem fits_any (s:Nat) (Ag:Option Addr) (ng cg Bg:Nat) (gi:List Int) (Ar:Option Addr) (nr cr Br:Nat) (rs:List RuleM) (A:Option Addr) (c B:Nat) (g:List Int) (w:World) (hp:PGc w s Ag ng cg Bg gi Ar nr cr Br rs) (hg:Rd w B A ng g) (hB:B<=w.heap.size) (hs:s∈[2,3,4]) (hv:pvB s gi rs=true) (hgv:gv g s=true):
 Calls Tryz.prog 156 #[.agg #[.int .i64 s,.slice Ag ng cg,.slice Ar nr cr],.slice A ng c] w fun e w'=>e=.returned (.bool (fitB s gi rs g))/\Below w.heap.size w w':=by
 obtain ⟨hgi,_,hall⟩:=pv_gv hv;rw [hp.r.1] at hall;have hx0:=pbox_new w s Ag ng cg Ar nr cr 26;have hb0:Below w.heap.size w (w.alloc (.cells #[.int .i64 s,.slice Ag ng cg,.slice Ar nr cr] 26)):=(Below.refl _ _).alloc (Nat.le_refl _) _
 have hs0:w.heap.size<(w.alloc (.cells #[.int .i64 s,.slice Ag ng cg,.slice Ar nr cr] 26)).heap.size:=by simp
 obtain ⟨z0,z1,z2⟩:=id hx0;have Hg0:=Lib.hid (show ∀ i,i<ng->0<=nth g i from fun i hi=>(gv_nth hgv (by rw [hg.1];exact hi)).1);have Hgi0:=Lib.hid (show ∀ i,i<ng->0<=nth gi i from fun i hi=>(gv_nth hgi (by rw [hp.g.1];exact hi)).1);have HA:=Lib.hid (fun w' (hb:Below w.heap.size w w')=>agrees_any s Ag ng cg Bg gi Ar nr cr A c B g w' (hp.below hb).g (hp.below hb).gB (hg.below (hb.mono hB)) (Nat.le_trans hB hb.size) hp.gm Hgi0.out Hg0.out);have HSq:=Lib.hid (fun w' (hb:Below w.heap.size w w')=>implSquareFits A c ng B g s w' (hg.below (hb.mono hB)) (Nat.le_trans hB hb.size) hp.gm)
 have HRp:=Lib.hid (fun w' (hb:Below w.heap.size w w')=>rulesPossible_any s Ag ng cg Ar nr cr Br rs A ng c B g w' (hp.below hb).r (hp.below hb).rB hp.rm (hg.below (hb.mono hB)) (Nat.le_trans hB hb.size) hs hgv (fun i hi=>hall i hi))
 have hfit:fitB s gi rs g=(agreeB gi g ng&&possB s g rs&& !clash g s):=by unfold fitB agreeB possB;rw [hg.1]
 have hsq:sqFits g s= !clash g s:=by unfold sqFits;rw [hgv,Bool.true_and]
 rw [hsq] at HSq;clear hsq;cases ha:agreeB gi g ng
 ·have HL:=Lib.hid (show fitB s gi rs g=false by rw [hfit,ha];rfl);clear hfit
  go_enter Tryz.func156,Tryz.ntmps156
  go_wp2_with (go_at_call 174;refine (HA.out _ hb0).mono ?_;rintro e w1 ⟨rfl,hb1⟩;rw [ha])
  go_ret
  exact ⟨by rw [HL.out];rfl,step hb0 hb1⟩
 ·cases hc:clash g s
  ·have HL:=Lib.hid (show fitB s gi rs g=possB s g rs by rw [hfit,ha,hc];simp);clear hfit;rw [hc] at HSq
   go_enter Tryz.func156,Tryz.ntmps156
   go_wp2_with (first|(go_at_call 174;refine (HA.out _ hb0).mono ?_;rintro e w1 ⟨rfl,hb1⟩;rw [ha];have h01:=step hb0 hb1;have hx1:=hx0.below hs0 hb1;have hs1:=Nat.lt_of_lt_of_le hs0 hb1.size;obtain ⟨c0,c1,c2⟩:=id hx1)|(go_at_call 175;refine (HSq.out _ h01).mono ?_;rintro e w2 ⟨rfl,hb2⟩;have h02:=step h01 hb2;obtain ⟨d0,d1,d2⟩:=hx1.below hs1 hb2)|(go_at_call 176;refine (HRp.out _ h02).mono ?_;rintro e w3 ⟨rfl,hb3⟩))
   go_ret
   exact ⟨by rw [HL.out];rfl,step h02 hb3⟩
  ·have HL:=Lib.hid (show fitB s gi rs g=false by rw [hfit,ha,hc];simp);clear hfit;rw [hc] at HSq
   go_enter Tryz.func156,Tryz.ntmps156
   go_wp2_with (first|(go_at_call 174;refine (HA.out _ hb0).mono ?_;rintro e w1 ⟨rfl,hb1⟩;rw [ha];have h01:=step hb0 hb1;have hx1:=hx0.below hs0 hb1;have hs1:=Nat.lt_of_lt_of_le hs0 hb1.size;obtain ⟨c0,c1,c2⟩:=id hx1)|(go_at_call 175;refine (HSq.out _ h01).mono ?_;rintro e w2 ⟨rfl,hb2⟩;have h02:=step h01 hb2))
   go_ret
   exact ⟨by rw [HL.out];rfl,h02⟩
set_option maxHeartbeats 1000000 in
theorem implPuzzleFits (s:Int) (Ag:Option Addr) (ng cg Bg:Nat) (gi:List Int) (Ar:Option Addr) (nr cr Br:Nat) (rs:List RuleM) (A:Option Addr) (n c B:Nat) (g:List Int) (w:World) (hp:PGc w s Ag ng cg Bg gi Ar nr cr Br rs) (hg:Rd w B A n g) (hB:B<=w.heap.size) (hm:n<=1099511627776):
 Calls Tryz.prog 123 #[.agg #[.int .i64 s,.slice Ag ng cg,.slice Ar nr cr],.slice A n c] w fun e w'=>e=.returned (.bool (fpB s gi rs g))/\Below w.heap.size w w':=by
 have hx0:=pbox_new w s Ag ng cg Ar nr cr 26;have hb0:Below w.heap.size w (w.alloc (.cells #[.int .i64 s,.slice Ag ng cg,.slice Ar nr cr] 26)):=(Below.refl _ _).alloc (Nat.le_refl _) _
 have hs0:w.heap.size<(w.alloc (.cells #[.int .i64 s,.slice Ag ng cg,.slice Ar nr cr] 26)).heap.size:=by simp
 obtain ⟨z0,z1,z2⟩:=id hx0;have HV:=Lib.hid (fun w' (hb:Below w.heap.size w w')=>valid_any s Ag ng cg Bg gi Ar nr cr Br rs w' (hp.below hb));have HG:=Lib.hid (fun w' (hb:Below w.heap.size w w')=>implGridValid A c n B g s w' (hg.below (hb.mono hB)) (Nat.le_trans hB hb.size) hm);cases hv:pvB s gi rs
 ·have HL:=Lib.hid (show fpB s gi rs g=false by simp [fpB,hv])
  go_enter Tryz.func123,Tryz.ntmps123
  go_wp2_with (go_at_call 52;refine (HV.out _ hb0).mono ?_;rintro e w1 ⟨rfl,hb1⟩;rw [hv])
  go_ret
  exact ⟨by rw [HL.out];rfl,step hb0 hb1⟩
 ·cases hgv:gv g s
  ·have HL:=Lib.hid (show fpB s gi rs g=false by simp [fpB,hgv])
   go_enter Tryz.func123,Tryz.ntmps123
   go_wp2_with (first|(go_at_call 52;refine (HV.out _ hb0).mono ?_;rintro e w1 ⟨rfl,hb1⟩;rw [hv];have h01:=step hb0 hb1;obtain ⟨c0,c1,c2⟩:=hx0.below hs0 hb1)|(go_at_call 68;refine (HG.out _ h01).mono ?_;rintro e w2 ⟨rfl,hb2⟩;rw [hgv]))
   go_ret
   exact ⟨by rw [HL.out];rfl,step h01 hb2⟩
  ·obtain ⟨hgi,_,_⟩:=pv_gv hv;obtain ⟨s2,s4⟩:=gv_size hgv;obtain ⟨t,rfl⟩:=Int.eq_ofNat_of_zero_le (by omega:0<=s)
   have hs:t∈[2,3,4]:=by
    have:t=2\/t=3\/t=4:=(by omega)
    simpa using this
   have e1:=gv_len hgv;have e2:=gv_len hgi;rw [hg.1] at e1;rw [hp.g.1] at e2
   obtain rfl:n=ng:=by omega
   have HL:=Lib.hid (show fpB t gi rs g=fitB t gi rs g by simp [fpB,hv,hgv]);have HF:=Lib.hid (fun w' (hb:Below w.heap.size w w')=>fits_any t Ag n cg Bg gi Ar nr cr Br rs A c B g w' (hp.below hb) (hg.below (hb.mono hB)) (Nat.le_trans hB hb.size) hs hv hgv);clear e1 e2 hgi
   go_enter Tryz.func123,Tryz.ntmps123
   go_wp2_with (first|(go_at_call 52;refine (HV.out _ hb0).mono ?_;rintro e w1 ⟨rfl,hb1⟩;rw [hv];have h01:=step hb0 hb1;have hx1:=hx0.below hs0 hb1;have hs1:=Nat.lt_of_lt_of_le hs0 hb1.size;obtain ⟨c0,c1,c2⟩:=id hx1)|(go_at_call 68;refine (HG.out _ h01).mono ?_;rintro e w2 ⟨rfl,hb2⟩;rw [hgv];have h02:=step h01 hb2;obtain ⟨d0,d1,d2⟩:=hx1.below hs1 hb2)|(go_at_call 156;refine (HF.out _ h02).mono ?_;rintro e w3 ⟨rfl,hb3⟩))
   go_ret
   exact ⟨by rw [HL.out];rfl,step h02 hb3⟩
theorem cnz_mem {g:List Int} {n:Nat}:memTo g 0 n=false↔cnz g n=n:=by
 rw [cnz_full]
 constructor
 ·intro h k hk e;rw [memTo_hit hk e] at h;cases h
 ·intro h
  induction n with
  |zero=>rfl
  |succ n ih=>
   simp only [memTo,Bool.or_eq_false_iff,beq_eq_false_iff_ne];exact ⟨ih (fun k hk=>h k (by omega)),h n (by omega)⟩
theorem ps_mem {s:Int} {gi g:List Int} {rs:List RuleM}:psB s gi rs g=(fpB s gi rs g&& !memTo g 0 g.length):=by
 unfold psB;cases hf:fpB s gi rs g
 ·rfl
 ·simp only [fpB,Bool.and_eq_true] at hf;have hgv:=hf.1.2;rw [Bool.true_and,Bool.true_and];unfold gf;rw [if_pos hgv];cases hm:memTo g 0 g.length
  ·rw [cnz_mem.1 hm];simp
  ·have:cnz g g.length≠g.length:=fun e=>by rw [cnz_mem.2 e] at hm;cases hm
   simp;omega
set_option maxHeartbeats 1000000 in
theorem implPuzzleSolved (s:Int) (Ag:Option Addr) (ng cg Bg:Nat) (gi:List Int) (Ar:Option Addr) (nr cr Br:Nat) (rs:List RuleM) (A:Option Addr) (n c B:Nat) (g:List Int) (w:World) (hp:PGc w s Ag ng cg Bg gi Ar nr cr Br rs) (hg:Rd w B A n g) (hB:B<=w.heap.size) (hm:n<=1099511627776):
 Calls Tryz.prog 75 #[.agg #[.int .i64 s,.slice Ag ng cg,.slice Ar nr cr],.slice A n c] w fun e w'=>e=.returned (.bool (psB s gi rs g))/\Below w.heap.size w w':=by
 have hlen:=Lib.hid hg.1;have hx0:=pbox_new w s Ag ng cg Ar nr cr 26;have hb0:Below w.heap.size w (w.alloc (.cells #[.int .i64 s,.slice Ag ng cg,.slice Ar nr cr] 26)):=(Below.refl _ _).alloc (Nat.le_refl _) _;obtain ⟨z0,z1,z2⟩:=id hx0;have HF:=Lib.hid (implPuzzleFits s Ag ng cg Bg gi Ar nr cr Br rs A n c B g _ (hp.below hb0) (hg.below (hb0.mono hB)) (Nat.le_trans hB hb0.size) hm);have HM:=Lib.hid (fun w' (hb:Below w.heap.size w w')=>contains_any A c n B g 0 w' (hg.below (hb.mono hB)) hm);cases hf:fpB s gi rs g
 ·have HL:=Lib.hid (show psB s gi rs g=false by simp [ps_mem,hf])
  go_enter Tryz.func75,Tryz.ntmps75
  go_wp2_with (go_at_call 123;refine HF.out.mono ?_;rintro e w1 ⟨rfl,hb1⟩;rw [hf])
  go_ret
  exact ⟨by rw [HL.out];rfl,step hb0 hb1⟩
 ·have HL:=Lib.hid (show psB s gi rs g= !memTo g 0 n by rw [ps_mem,hf,hlen.out,Bool.true_and])
  go_enter Tryz.func75,Tryz.ntmps75
  go_wp2_with (first|(go_at_call 123;refine HF.out.mono ?_;rintro e w1 ⟨rfl,hb1⟩;rw [hf];have h01:=step hb0 hb1)|(go_at_call 104;refine (HM.out _ h01).mono ?_;rintro e w2 ⟨rfl,rfl⟩))
  go_ret
  exact ⟨by rw [HL.out];rfl,h01⟩
theorem grown_tr {a b c:World} {r:Option Nat} (h:a.grownBy b r) (k:b.grownBy c r):a.grownBy c r:=h.trans k
theorem setCells3 (w:World) (g o:Nat) (x y z:Value):w.setCells g o [x,y,z]=((w.setCell ⟨g,o,none⟩ x).setCell ⟨g,o+1,none⟩ y).setCell ⟨g,o+2,none⟩ z:=rfl
theorem row_setCells3 {w:World} {g o:Nat} {cur:Array Value} {t:TypeId} (x y z:Value) (h:w.heap[g]? =some (.cells cur t (0,0))):
 (w.setCells g o [x,y,z]).heap[g]? =some (.cells (((cur.setIfInBounds o x).setIfInBounds (o+1) y).setIfInBounds (o+2) z) t (0,0)):=by
 rw [setCells3];exact heap_setCell_same _ g (o+2) _ _ z (heap_setCell_same _ g (o+1) _ _ y (heap_setCell_same w g o _ _ x h))
theorem grown_setCells3 {w:World} {g o:Nat} {x y z:Value}:w.grownBy (w.setCells g o [x,y,z]) (some g):=by
 rw [setCells3];exact grown_tr (grown_tr grown_set grown_set) grown_set
theorem below_setCells3 {N:Nat} {w0 w:World} {g o:Nat} {x y z:Value} (h:Below N w0 w) (hg:N<=g):Below N w0 (w.setCells g o [x,y,z]):=by
 rw [setCells3];exact ((h.setCell (p:=⟨g,o,none⟩) hg _).setCell (p:=⟨g,o+1,none⟩) hg _).setCell (p:=⟨g,o+2,none⟩) hg _
def OwRp (w:World) (lo:Nat) (g n:Nat) (rs:List RuleM) (u:Nat):Prop:=
 ∃ vs,w.ownsRow lo 84 3 (.slice (some ⟨g,0,none⟩) n n) n vs/\∀ i,i<u->∃ A' c',vs[i*3]? =some (.int .i64 (rat rs i).k)/\vs[i*3+1]? =some (.slice A' (rat rs i).xs.length c')/\vs[i*3+2]? =some (.int .i64 (rat rs i).v)/\Ow w lo A' (rat rs i).xs.length c' (rat rs i).xs/\(rat rs i).xs.length<=1099511627776/\∀ b,(Value.slice A' (rat rs i).xs.length c').ownBlock=some b->(Value.slice (some ⟨g,0,none⟩) n n).ownBlock≠some b
theorem OwRp.below {w w':World} {lo g n:Nat} {rs:List RuleM} {k:Nat} (h:OwRp w lo g n rs k) (hb:Below w.heap.size w w'):OwRp w' lo g n rs k:=by
 obtain ⟨vs,hown,hin⟩:=h
 refine ⟨vs,World.ownsRow.kept hown (row:=none) ⟨hb.os,hb.tape,hb.output,hb.size,fun k hk _=>hb.block k hk⟩ (by
  cases e:(Value.slice (some ⟨g,0,none⟩) n n).ownBlock
  ·exact .inl rfl
  ·exact .inr (by simp)),fun i hi=>?_⟩
 obtain ⟨A',c',e0,e1,e2,e3,e4,e5⟩:=hin i hi;exact ⟨A',c',e0,e1,e2,e3.below hb,e4,e5⟩
theorem OwRp.full {w:World} {lo g n:Nat} {rs:List RuleM} (h:OwRp w lo g n rs n):OwR w lo (.slice (some ⟨g,0,none⟩) n n) rs n:=h
theorem OwRp.there {w:World} {lo g n:Nat} {rs:List RuleM} {k u:Nat} (h:OwRp w lo g n rs k) (hu:u<n):w.there g (u*3) 3:=by
 obtain ⟨vs,⟨hvl,hcase⟩,_⟩:=h
 rcases hcase with ⟨h1,_⟩|⟨g',cap,cur,hv,h2,h3,h4,h5,h6,h7⟩
 ·cases h1
 ·injection hv with e1 _ e2
  injection e1 with e1
  injection e1 with e1 _ _
  subst e1;intro j hj
  have hlt:u*3+j<cur.size:=by rw [h6];have:=Nat.mul_le_mul_right 3 (show u+1<=cap by omega);omega
  refine ⟨?_,frozen_of_row w g (u*3+j) cur _ h3⟩;rw [cell_of_row w g (u*3+j) cur _ (0,0) h3]
  simp [hlt]
theorem OwRp.put {w w3:World} {lo g n u c3:Nat} {rs:List RuleM} {A3:Option Addr} (h:OwRp w lo g n rs u) (hlo:lo<=w.heap.size) (hu:u<n) (hb:Below w.heap.size w w3)
 (ho3:Ow w3 w.heap.size A3 (rat rs u).xs.length c3 (rat rs u).xs) (hm:(rat rs u).xs.length<=1099511627776):
 OwRp (w3.setCells g (u*3) [.int .i64 (rat rs u).k,.slice A3 (rat rs u).xs.length c3,.int .i64 (rat rs u).v]) lo g n rs (u+1):=by
 have hgw:g<w.heap.size:=by
  obtain ⟨vs,hown,_⟩:=h;exact (World.ownsRow.lt hown g (by simp [Value.ownBlock])).2
 obtain ⟨vs,⟨hvl,hcase⟩,hin⟩:=h.below hb
 rcases hcase with ⟨h1,_⟩|⟨g',cap,cur,hv,h2,h3,h4,h5,h6,h7⟩
 ·cases h1
 ·injection hv with e1 _ e2
  injection e1 with e1
  injection e1 with e1 _ _
  subst e1 e2
  have hvl3:u*3+2<vs.length:=by rw [hvl];omega
  refine ⟨((vs.set (u*3) (.int .i64 (rat rs u).k)).set (u*3+1) (.slice A3 (rat rs u).xs.length c3)).set (u*3+2) (.int .i64 (rat rs u).v),⟨by simp [hvl],.inr ⟨g,n,_,rfl,h2,row_setCells3 _ _ _ h3,h4,h5,by simp [h6],?_⟩⟩,fun i hi=>?_⟩
  ·simp only [Array.toList_setIfInBounds,List.take_set,h7]
  ·by_cases e:i=u
   ·subst e;refine ⟨A3,c3,?_,?_,?_,?_,hm,fun b hbb e=>?_⟩
    ·rw [List.getElem?_set_ne (by omega),List.getElem?_set_ne (by omega),List.getElem?_set_self (by omega)]
    ·rw [List.getElem?_set_ne (by omega),List.getElem?_set_self (by simp;omega)]
    ·rw [List.getElem?_set_self (by simp;omega)]
    ·exact (Ow.far ho3 (row:=some g) grown_setCells3 (fun b hbb e=>by have:=ho3.own_lo b hbb;injection e with e;omega)).mono hlo
    ·have h8:=ho3.own_lo b hbb
     simp [Value.ownBlock] at e
     omega
   ·obtain ⟨A',c',e0,e1,e2,e3,e4,e5⟩:=hin i (by omega);refine ⟨A',c',?_,?_,?_,?_,e4,e5⟩
    ·rw [List.getElem?_set_ne (by omega),List.getElem?_set_ne (by omega),List.getElem?_set_ne (by omega)];exact e0
    ·rw [List.getElem?_set_ne (by omega),List.getElem?_set_ne (by omega),List.getElem?_set_ne (by omega)];exact e1
    ·rw [List.getElem?_set_ne (by omega),List.getElem?_set_ne (by omega),List.getElem?_set_ne (by omega)];exact e2
    ·exact Ow.far e3 (row:=some g) grown_setCells3 (fun b hbb e=>e5 b hbb (by have:=Option.some.inj e;simp [Value.ownBlock,this]))
def RdRx (w:World) (B:Nat) (A:Option Addr) (n:Nat) (rs:List RuleM):Prop:=
 rs.length=n/\(0<n->∃ b off,A=some ⟨b,off,none⟩/\b<B/\∀ i,i<n->∃ A' c',w.cell? ⟨b,off+i*3,none⟩=some (.int .i64 (rat rs i).k)/\w.cell? ⟨b,off+i*3+1,none⟩=some (.slice A' (rat rs i).xs.length c')/\w.cell? ⟨b,off+i*3+2,none⟩=some (.int .i64 (rat rs i).v)/\Rd w B A' (rat rs i).xs.length (rat rs i).xs/\(rat rs i).xs.length<=9223372036854775807)
theorem RdRx.below {w w':World} {B:Nat} {A:Option Addr} {n:Nat} {rs:List RuleM} (h:RdRx w B A n rs) (hb:Below B w w'):RdRx w' B A n rs:=
 ⟨h.1,fun hn=>by
   obtain ⟨b,off,e,hlt,hc⟩:=h.2 hn;refine ⟨b,off,e,hlt,fun i hi=>?_⟩;obtain ⟨A',c',h0,h1,h2,h3,h4⟩:=hc i hi
   exact ⟨A',c',(hb.cell (p:=⟨b,off+i*3,none⟩) hlt).trans h0,(hb.cell (p:=⟨b,off+i*3+1,none⟩) hlt).trans h1,(hb.cell (p:=⟨b,off+i*3+2,none⟩) hlt).trans h2,h3.below hb,h4⟩⟩
theorem OwRp.zero_ {w:World} {lo g n:Nat} {rs:List RuleM} {vs:List Value} (h:w.ownsRow lo 84 3 (.slice (some ⟨g,0,none⟩) n n) n vs):OwRp w lo g n rs 0:=⟨vs,h,fun i hi=>absurd hi (by omega)⟩
theorem OwR.keptG {w w':World} {lo G k:Nat} {v:Value} {rs:List RuleM} (h:OwR w lo v rs k) (hg:w.grownBy w' (some G)) (hG:G<lo):OwR w' lo v rs k:=by
 obtain ⟨vs,hown,hin⟩:=h
 refine ⟨vs,World.ownsRow.kept hown hg (by
  cases e:v.ownBlock
  ·exact .inl rfl
  ·refine .inr (fun e2=>?_);have h1:=(World.ownsRow.lt hown _ e).1;have h2:=Option.some.inj e2
   omega),fun i hi=>?_⟩
 obtain ⟨A',c',e0,e1,e2,e3,e4,e5⟩:=hin i hi;exact ⟨A',c',e0,e1,e2,Ow.far e3 hg (fun g hgg e=>by have h1:=e3.own_lo g hgg;have h2:=Option.some.inj e;omega),e4,e5⟩
def OwRd (w:World) (lo:Nat) (g n:Nat) (rs:List RuleM) (Q:Nat->Prop) (u:Nat):Prop:=
 ∃ vs,w.ownsRow lo 84 3 (.slice (some ⟨g,0,none⟩) n n) n vs/\(∀ i,i<u->∃ A' c',vs[i*3]? =some (.int .i64 (rat rs i).k)/\vs[i*3+1]? =some (.slice A' (rat rs i).xs.length c')/\vs[i*3+2]? =some (.int .i64 (rat rs i).v)/\Ow w lo A' (rat rs i).xs.length c' (rat rs i).xs/\(rat rs i).xs.length<=1099511627776/\∀ b,(Value.slice A' (rat rs i).xs.length c').ownBlock=some b->(Value.slice (some ⟨g,0,none⟩) n n).ownBlock≠some b/\Q b)/\
   ∀ i j,i<u->j<u->i≠j->∀ A m c A' m' c',vs[i*3+1]? =some (.slice A m c)->vs[j*3+1]? =some (.slice A' m' c')->∀ b,(Value.slice A m c).ownBlock=some b->(Value.slice A' m' c').ownBlock≠some b
theorem OwRd.rp {w:World} {lo g n:Nat} {rs:List RuleM} {Q:Nat->Prop} {u:Nat} (h:OwRd w lo g n rs Q u):OwRp w lo g n rs u:=by
 obtain ⟨vs,a,b,_⟩:=h;exact ⟨vs,a,fun i hi=>by obtain ⟨A',c',e0,e1,e2,e3,e4,e5⟩:=b i hi;exact ⟨A',c',e0,e1,e2,e3,e4,fun x hx=>(e5 x hx).1⟩⟩
theorem OwRd.below {w w':World} {lo g n:Nat} {rs:List RuleM} {Q:Nat->Prop} {k:Nat} (h:OwRd w lo g n rs Q k) (hb:Below w.heap.size w w'):OwRd w' lo g n rs Q k:=by
 obtain ⟨vs,hown,hin,hs⟩:=h
 refine ⟨vs,World.ownsRow.kept hown (row:=none) ⟨hb.os,hb.tape,hb.output,hb.size,fun k hk _=>hb.block k hk⟩ (by
  cases e:(Value.slice (some ⟨g,0,none⟩) n n).ownBlock
  ·exact .inl rfl
  ·exact .inr (by simp)),fun i hi=>?_,hs⟩
 obtain ⟨A',c',e0,e1,e2,e3,e4,e5⟩:=hin i hi;exact ⟨A',c',e0,e1,e2,e3.below hb,e4,e5⟩
theorem OwRd.zero_ {w:World} {lo g n:Nat} {rs:List RuleM} {Q:Nat->Prop} {vs:List Value} (h:w.ownsRow lo 84 3 (.slice (some ⟨g,0,none⟩) n n) n vs):OwRd w lo g n rs Q 0:=⟨vs,h,fun i hi=>absurd hi (by omega),fun i j hi=>absurd hi (by omega)⟩
theorem OwRd.put {w w3:World} {lo g n u c3:Nat} {rs:List RuleM} {Q:Nat->Prop} {A3:Option Addr} (h:OwRd w lo g n rs Q u) (hlo:lo<=w.heap.size) (hu:u<n) (hb:Below w.heap.size w w3)
 (ho3:Ow w3 w.heap.size A3 (rat rs u).xs.length c3 (rat rs u).xs) (hm:(rat rs u).xs.length<=1099511627776) (hQ:∀ b,w.heap.size<=b->Q b):
 OwRd (w3.setCells g (u*3) [.int .i64 (rat rs u).k,.slice A3 (rat rs u).xs.length c3,.int .i64 (rat rs u).v]) lo g n rs Q (u+1):=by
 have hgw:g<w.heap.size:=by
  obtain ⟨vs,hown,_⟩:=h;exact (World.ownsRow.lt hown g (by simp [Value.ownBlock])).2
 have hold:∀ i,i<u->∀ vs,w.ownsRow lo 84 3 (.slice (some ⟨g,0,none⟩) n n) n vs->True:=fun _ _ _ _=>trivial
 obtain ⟨vs,hown0,hin0,hsp⟩:=h
 have hlt0:∀ i,i<u->∀ A m c,vs[i*3+1]? =some (.slice A m c)->∀ b,(Value.slice A m c).ownBlock=some b->b<w.heap.size:=fun i hi A m c e b hbb=>by
  obtain ⟨A',c',_,e1,_,e3,_⟩:=hin0 i hi;rw [e] at e1
  injection e1 with e1
  rw [e1] at hbb;exact e3.own_hi b hbb
 obtain ⟨hvl,hcase⟩:=World.ownsRow.kept hown0 (row:=none) ⟨hb.os,hb.tape,hb.output,hb.size,fun k hk _=>hb.block k hk⟩ (by
  cases e:(Value.slice (some ⟨g,0,none⟩) n n).ownBlock
  ·exact .inl rfl
  ·exact .inr (by simp))
 rcases hcase with ⟨h1,_⟩|⟨g',cap,cur,hv,h2,h3,h4,h5,h6,h7⟩
 ·cases h1
 ·injection hv with e1 _ e2
  injection e1 with e1
  injection e1 with e1 _ _
  subst e1 e2
  have hvl3:u*3+2<vs.length:=by rw [hvl];omega
  refine ⟨((vs.set (u*3) (.int .i64 (rat rs u).k)).set (u*3+1) (.slice A3 (rat rs u).xs.length c3)).set (u*3+2) (.int .i64 (rat rs u).v),⟨by simp [hvl],.inr ⟨g,n,_,rfl,h2,row_setCells3 _ _ _ h3,h4,h5,by simp [h6],?_⟩⟩,fun i hi=>?_,fun i j hi hj hne A m c A' m' c' ei ej b hbb=>?_⟩
  ·simp only [Array.toList_setIfInBounds,List.take_set,h7]
  ·by_cases e:i=u
   ·subst e;refine ⟨A3,c3,?_,?_,?_,?_,hm,fun b hbb=>⟨fun e=>?_,hQ b (ho3.own_lo b hbb)⟩⟩
    ·rw [List.getElem?_set_ne (by omega),List.getElem?_set_ne (by omega),List.getElem?_set_self (by omega)]
    ·rw [List.getElem?_set_ne (by omega),List.getElem?_set_self (by simp;omega)]
    ·rw [List.getElem?_set_self (by simp;omega)]
    ·exact (Ow.far ho3 (row:=some g) grown_setCells3 (fun b hbb e=>by have:=ho3.own_lo b hbb;injection e with e;omega)).mono hlo
    ·have h8:=ho3.own_lo b hbb
     simp [Value.ownBlock] at e
     omega
   ·obtain ⟨A',c',e0,e1,e2,e3,e4,e5⟩:=hin0 i (by omega);refine ⟨A',c',?_,?_,?_,?_,e4,e5⟩
    ·rw [List.getElem?_set_ne (by omega),List.getElem?_set_ne (by omega),List.getElem?_set_ne (by omega)];exact e0
    ·rw [List.getElem?_set_ne (by omega),List.getElem?_set_ne (by omega),List.getElem?_set_ne (by omega)];exact e1
    ·rw [List.getElem?_set_ne (by omega),List.getElem?_set_ne (by omega),List.getElem?_set_ne (by omega)];exact e2
    ·exact Ow.far (e3.below hb) (row:=some g) grown_setCells3 (fun b hbb e=>(e5 b hbb).1 (by have:=Option.some.inj e;simp [Value.ownBlock,this]))
  ·have hnew:∀ x,x<u->∀ A m c,(((vs.set (u*3) (.int .i64 (rat rs u).k)).set (u*3+1) (.slice A3 (rat rs u).xs.length c3)).set (u*3+2) (.int .i64 (rat rs u).v))[x*3+1]? =some (.slice A m c)->vs[x*3+1]? =some (.slice A m c):=fun x hx A m c e=>by
    rw [List.getElem?_set_ne (by omega),List.getElem?_set_ne (by omega),List.getElem?_set_ne (by omega)] at e;exact e
   have hlast:∀ A m c,(((vs.set (u*3) (.int .i64 (rat rs u).k)).set (u*3+1) (.slice A3 (rat rs u).xs.length c3)).set (u*3+2) (.int .i64 (rat rs u).v))[u*3+1]? =some (.slice A m c)->∀ b,(Value.slice A m c).ownBlock=some b->w.heap.size<=b:=fun A m c e b hb=>by
    rw [List.getElem?_set_ne (by omega),List.getElem?_set_self (by simp;omega)] at e
    injection e with e
    rw [<- e] at hb;exact ho3.own_lo b hb
   by_cases ei':i=u
   ·subst ei';have q1:=hlast _ _ _ ei b hbb;intro hbb';have q2:=hlt0 j (by omega) _ _ _ (hnew j (by omega) _ _ _ ej) b hbb';omega
   ·by_cases ej':j=u
    ·subst ej';intro hbb';have q1:=hlast _ _ _ ej b hbb';have q2:=hlt0 i (by omega) _ _ _ (hnew i (by omega) _ _ _ ei) b hbb;omega
    ·exact hsp i j (by omega) (by omega) hne _ _ _ _ _ _ (hnew i (by omega) _ _ _ ei) (hnew j (by omega) _ _ _ ej) b hbb
def xN (m:Int) (rs:List RuleM):Nat->Int
 |0=>m
 |i+1=>xN m rs i+(rat rs i).xs.length+2
structure MkR (w:World) (lo g n:Nat) (rs:List RuleM) (Q:Nat->Prop) (m:Int) (u:Nat) (cur:Array Value):Prop where
 row:w.heap[g]? =some (.cells cur 84)
 sz:n*3<=cur.size
 at_:∀ i,i<n->∃ A' c',cur[i*3+1]? =some (.slice A' (rat rs i).xs.length c')/\Ow w lo A' (rat rs i).xs.length c' (if i<u then seqI (xN m rs i+1) (rat rs i).xs.length else (rat rs i).xs)/\∀ b,(Value.slice A' (rat rs i).xs.length c').ownBlock=some b->Q b
 done:∀ i,i<u->cur[i*3]? =some (.int .i64 (xN m rs i))/\cur[i*3+2]? =some (.int .i64 (xN m rs i+1+(rat rs i).xs.length))
 sep:∀ i j,i<n->j<n->i≠j->∀ A k c A' k' c',cur[i*3+1]? =some (.slice A k c)->cur[j*3+1]? =some (.slice A' k' c')->∀ b,(Value.slice A k c).ownBlock=some b->(Value.slice A' k' c').ownBlock≠some b
theorem Ow.blk_int {w:World} {lo n c:Nat} {A:Option Addr} {xs:List Int} (h:Ow w lo A n c xs) {b:Nat} (hb:(Value.slice A n c).ownBlock=some b):∃ cs,w.heap[b]? =some (.cells cs 3):=by
 rcases h.2 with ⟨h1,_⟩|⟨g,cap,cur,hv,_,hg,_⟩
 ·injection h1 with e1 _ _
  subst e1
  simp [Value.ownBlock] at hb
 ·injection hv with e1 _ e3
  subst e1;simp only [Value.ownBlock,Option.some.injEq] at hb;subst hb;exact ⟨cur,hg⟩
theorem Ow.not_rule {w:World} {lo n c g:Nat} {A:Option Addr} {xs:List Int} {cur:Array Value} (h:Ow w lo A n c xs) (hg:w.heap[g]? =some (.cells cur 84)):∀ b,(Value.slice A n c).ownBlock=some b->b≠g:=fun b hb e=>by
 obtain ⟨cs,hcs⟩:=h.blk_int hb;subst e;rw [hcs] at hg
 injection hg with hg
 injection hg with _ h2 _
 exact absurd h2 (by decide)
theorem MkR.next {w w2:World} {lo g n u c':Nat} {rs:List RuleM} {Q:Nat->Prop} {m:Int} {cur:Array Value} {A':Option Addr} (h:MkR w lo g n rs Q m u cur) (hu:u<n) (hA:cur[u*3+1]? =some (.slice A' (rat rs u).xs.length c'))
 (ho2:Ow w2 lo A' (rat rs u).xs.length c' (seqI (xN m rs u+1) (rat rs u).xs.length)) (hg:(w.setCell ⟨g,u*3,none⟩ (.int .i64 (xN m rs u))).grownBy w2 (Value.slice A' (rat rs u).xs.length c').ownBlock):
 w2.heap[g]? =some (.cells (cur.setIfInBounds (u*3) (.int .i64 (xN m rs u))) 84)/\MkR (w2.setCell ⟨g,u*3+2,none⟩ (.int .i64 (xN m rs u+1+(rat rs u).xs.length))) lo g n rs Q m (u+1) ((cur.setIfInBounds (u*3) (.int .i64 (xN m rs u))).setIfInBounds (u*3+2) (.int .i64 (xN m rs u+1+(rat rs u).xs.length))):=by
 have hgs:g<w.heap.size:=(Array.getElem?_eq_some_iff.1 h.row).1;have hsz:=h.sz;obtain ⟨Au,cu,eu,hou,hQu⟩:=h.at_ u hu;rw [hA] at eu
 injection eu with eu
 injection eu with eA _ ec
 subst eA ec;have hne:∀ b,(Value.slice A' (rat rs u).xs.length c').ownBlock=some b->b≠g:=hou.not_rule h.row
 have hr2:w2.heap[g]? =some (.cells (cur.setIfInBounds (u*3) (.int .i64 (xN m rs u))) 84):=by
  rw [hg.block g (by simpa using hgs) (fun e=>hne g e.symm rfl)];exact heap_setCell_same w g (u*3) _ _ _ h.row
 have hkeep:∀ i,((cur.setIfInBounds (u*3) (.int .i64 (xN m rs u))).setIfInBounds (u*3+2) (.int .i64 (xN m rs u+1+(rat rs u).xs.length)))[i*3+1]? =cur[i*3+1]? :=fun i=>by
  rw [Array.getElem?_setIfInBounds_ne (by omega),Array.getElem?_setIfInBounds_ne (by omega)]
 refine ⟨hr2,⟨heap_setCell_same w2 g (u*3+2) _ _ _ hr2,by simp;omega,fun i hi=>?_,fun i hi=>?_,fun i j hi hj hne' A k c A'' k' c'' ei ej=>?_⟩⟩
 ·by_cases e:i=u
  ·subst e;exact ⟨A',c',(hkeep i).trans hA,by rw [if_pos (by omega)];exact Ow.far ho2 (row:=some g) grown_set (fun b hb e=>hne b hb (Option.some.inj e).symm),hQu⟩
  ·obtain ⟨Ai,ci,ei,hoi,hQi⟩:=h.at_ i hi;refine ⟨Ai,ci,(hkeep i).trans ei,?_,hQi⟩;have e2:(i<u+1)=(i<u):=(by simp;omega);simp only [e2];have f1:∀ b,(Value.slice Ai (rat rs i).xs.length ci).ownBlock=some b->b≠g:=hoi.not_rule h.row;have o1:=Ow.far hoi (row:=some g) (grown_set (w:=w) (G:=g) (i:=u*3) (v:=.int .i64 (xN m rs u))) (fun b hb e=>f1 b hb (Option.some.inj e).symm);have o2:=Ow.far o1 hg (fun b hb e3=>h.sep i u hi hu e _ _ _ _ _ _ ei hA b hb e3);exact Ow.far o2 (row:=some g) grown_set (fun b hb e=>f1 b hb (Option.some.inj e).symm)
 ·by_cases e:i=u
  ·subst e
   constructor
   ·rw [Array.getElem?_setIfInBounds_ne (by omega),Array.getElem?_setIfInBounds_self_of_lt (by omega)]
   ·rw [Array.getElem?_setIfInBounds_self_of_lt (by simp;omega)]
  ·obtain ⟨d1,d2⟩:=h.done i (by omega)
   constructor
   ·rw [Array.getElem?_setIfInBounds_ne (by omega),Array.getElem?_setIfInBounds_ne (by omega)];exact d1
   ·rw [Array.getElem?_setIfInBounds_ne (by omega),Array.getElem?_setIfInBounds_ne (by omega)];exact d2
 ·rw [hkeep] at ei ej;exact h.sep i j hi hj hne' _ _ _ _ _ _ ei ej
def ChR (g:Nat) (Q:Nat->Prop) (w w':World):Prop:=w'.os=w.os/\w'.tape=w.tape/\w'.output=w.output/\w.heap.size<=w'.heap.size/\∀ k,k<w.heap.size->k≠g->¬ Q k->w'.heap[k]? =w.heap[k]?
theorem ChR.refl (g:Nat) (Q:Nat->Prop) (w:World):ChR g Q w w:=⟨rfl,rfl,rfl,Nat.le_refl _,fun _ _ _ _=>rfl⟩
theorem ChR.trans {g:Nat} {Q:Nat->Prop} {a b c:World} (h:ChR g Q a b) (h':ChR g Q b c):ChR g Q a c:=
 ⟨h'.1.trans h.1,h'.2.1.trans h.2.1,h'.2.2.1.trans h.2.2.1,Nat.le_trans h.2.2.2.1 h'.2.2.2.1,fun k hk h1 h2=>(h'.2.2.2.2 k (Nat.lt_of_lt_of_le hk h.2.2.2.1) h1 h2).trans (h.2.2.2.2 k hk h1 h2)⟩
def MkS (w:World) (g n:Nat) (rs:List RuleM) (m:Int):Prop:=∃ cur:Array Value,w.heap[g]? =some (.cells cur 84)/\∀ i,i<n->∃ A' c',cur[i*3]? =some (.int .i64 (xN m rs i))/\cur[i*3+1]? =some (.slice A' (rat rs i).xs.length c')/\cur[i*3+2]? =some (.int .i64 (xN m rs i+1+(rat rs i).xs.length))/\Rd w w.heap.size A' (rat rs i).xs.length (seqI (xN m rs i+1) (rat rs i).xs.length)
theorem MkS.below {w w':World} {g n:Nat} {rs:List RuleM} {m:Int} (h:MkS w g n rs m) (hb:Below w.heap.size w w'):MkS w' g n rs m:=by
 obtain ⟨cur,hg,hin⟩:=h;refine ⟨cur,(hb.block g (Array.getElem?_eq_some_iff.1 hg).1).trans hg,fun i hi=>?_⟩;obtain ⟨A',c',e0,e1,e2,e3⟩:=hin i hi;exact ⟨A',c',e0,e1,e2,(e3.below hb).more hb.size⟩
theorem OwRd.bound {w:World} {lo g n u:Nat} {rs:List RuleM} {Q:Nat->Prop} (h:OwRd w lo g n rs Q u):OwRd w lo g n rs (fun b=>Q b/\b<w.heap.size) u:=by
 obtain ⟨vs,a,b,c⟩:=h;refine ⟨vs,a,fun i hi=>?_,c⟩;obtain ⟨A',c',e0,e1,e2,e3,e4,e5⟩:=b i hi;exact ⟨A',c',e0,e1,e2,e3,e4,fun x hx=>⟨(e5 x hx).1,(e5 x hx).2,e3.own_hi x hx⟩⟩
theorem OwRd.there {w:World} {lo g n:Nat} {rs:List RuleM} {Q:Nat->Prop} {k u:Nat} (h:OwRd w lo g n rs Q k) (hu:u<n):w.there g (u*3) 3:=h.rp.there hu
theorem OwRd.mono {w:World} {lo lo' g n:Nat} {rs:List RuleM} {Q:Nat->Prop} {k:Nat} (h:OwRd w lo g n rs Q k) (hl:lo'<=lo):OwRd w lo' g n rs Q k:=by
 obtain ⟨vs,a,b,c⟩:=h;refine ⟨vs,World.ownsRow.mono a hl,fun i hi=>?_,c⟩;obtain ⟨A',c',e0,e1,e2,e3,e4,e5⟩:=b i hi;exact ⟨A',c',e0,e1,e2,e3.mono hl,e4,e5⟩
theorem OwRd.imp {w:World} {lo g n:Nat} {rs:List RuleM} {Q Q':Nat->Prop} {k:Nat} (h:OwRd w lo g n rs Q k) (hq:∀ b,Q b->Q' b):OwRd w lo g n rs Q' k:=by
 obtain ⟨vs,a,b,c⟩:=h;refine ⟨vs,a,fun i hi=>?_,c⟩;obtain ⟨A',c',e0,e1,e2,e3,e4,e5⟩:=b i hi;exact ⟨A',c',e0,e1,e2,e3,e4,fun x hx=>⟨(e5 x hx).1,hq x (e5 x hx).2⟩⟩
theorem OwRd.far {w w':World} {lo g n X:Nat} {rs:List RuleM} {Q:Nat->Prop} {k:Nat} (h:OwRd w lo g n rs Q k) (hg:w.grownBy w' (some X)) (hX:X<lo):OwRd w' lo g n rs Q k:=by
 obtain ⟨vs,a,b,c⟩:=h;refine ⟨vs,World.ownsRow.kept a hg (.inr (fun e=>by have:=(World.ownsRow.lt a g (by simp [Value.ownBlock])).1;simp [Value.ownBlock] at e;omega)),fun i hi=>?_,c⟩;obtain ⟨A',c',e0,e1,e2,e3,e4,e5⟩:=b i hi;exact ⟨A',c',e0,e1,e2,Ow.far e3 hg (fun b hb e=>by have:=e3.own_lo b hb;have:=Option.some.inj e;omega),e4,e5⟩
def CrG (X g n u lo l C':Nat) (k v:Int) (A':Option Addr) (xs:List Int):Nat->Value->World->Prop
 |0,x,_=>x=.slice (some ⟨g,0,none⟩) n n
 |1,x,_=>x=.int .i64 (u:Nat)
 |2,x,_=>x=.pointer (some ⟨X,0,none⟩)
 |3,x,_=>x=.int .i64 k
 |4,x,_=>x=.pointer (some ⟨X,1,none⟩)
 |5,x,_=>x=.slice A' l C'
 |6,x,w=>∃ A3 c3,x=.slice A3 l c3/\Ow w lo A3 l c3 xs
 |7,x,_=>x=.pointer (some ⟨X,2,none⟩)
 |8,x,_=>x=.int .i64 v
 |9,x,w=>∃ A3 c3,x=.agg #[.int .i64 k,.slice A3 l c3,.int .i64 v]/\Ow w lo A3 l c3 xs
 |10,x,_=>x=.pointer (some ⟨g,u*3,none⟩)
 |_,_,_=>True
theorem crG_below {X g n u lo l C':Nat} {k v:Int} {A':Option Addr} {xs:List Int} (j:Nat) (x:Value) (w w':World) (hb:Below w.heap.size w w') (h:CrG X g n u lo l C' k v A' xs j x w):CrG X g n u lo l C' k v A' xs j x w':=by
 match j,h with
 |0,h=>exact h
 |1,h=>exact h
 |2,h=>exact h
 |3,h=>exact h
 |4,h=>exact h
 |5,h=>exact h
 |6,⟨A3,c3,e,h⟩=>exact ⟨A3,c3,e,h.below hb⟩
 |7,h=>exact h
 |8,h=>exact h
 |9,⟨A3,c3,e,h⟩=>exact ⟨A3,c3,e,h.below hb⟩
 |10,h=>exact h
 |_+11,h=>exact h
set_option maxHeartbeats 2000000 in
theorem copiedRules_any (A:Option Addr) (c n B:Nat) (rs:List RuleM) (w:World) (h:RdRs w B A n rs) (hB:B<=w.heap.size) (hm:n<=1048576) (hL:∀ i,i<n->0<(rat rs i).xs.length):
 Calls Tryz.prog 124 #[.slice A n c] w fun e w'=>∃ g,e=.returned (.slice (some ⟨g,0,none⟩) n n)/\OwRd w' w.heap.size g n rs (fun b=>w.heap.size<=b/\b<w'.heap.size) n/\Below w.heap.size w w':=by
 obtain ⟨i0,hi,hz0,hz1,hz2⟩:=info_parts rule_parts;have HR:=Lib.hid (fun (w':World) (hb:Below w.heap.size w w')=>h.below (hb.mono hB));have Hi:Hid (∀ k A m c v,(Tryz.prog.info? 84).map (·.size)=some (#[Value.int .i64 k,.slice A m c,.int .i64 v]:Array Value).size):=Lib.hid (fun _ _ _ _ _=>by rw [hi];simpa using hz1);have Hone:Hid (∀ k A m c v,((#[Value.int .i64 k,.slice A m c,.int .i64 v]:Array Value).all (·.oneCell'))=true):=Lib.hid (fun _ _ _ _ _=>by simp [Value.oneCell']);have HLen:=Lib.hid hL;clear hL
 go_enter Tryz.func124,Tryz.ntmps124
 go_wp2_with (refine wpList_make_full _ rfl (.tmp 7) (.tmp 7) 24 rfl w.heap.size 84 i0 (.agg #[.int .i64 0,.slice none 0 0,.int .i64 0]) 3 Tryz.underlying24 hi hz0 hz1 .i64 .i64 n n n rfl rfl rfl rfl (by rw [hz2];omega) (by simp only [maxLen];omega) (Nat.le_refl _) ?_;intro w3 hown hgr;have hb3:=made_below hgr (Nat.le_refl _);have ho3:=OwRd.zero_ (rs:=rs) (Q:=fun b=>w.heap.size<=b) hown)
 go_loopw [11] (fun i wr=>∃ u:Nat,u<=n/\i=.int .i64 u/\OwRd wr w.heap.size w.heap.size n rs (fun b=>w.heap.size<=b) u/\Below w.heap.size w wr) (fun i _=>n-(intOf i).toNat)
 case atStart=>exact ⟨0,Nat.zero_le _,rfl,ho3,hb3⟩
 case round=>
  obtain ⟨u,hu,rfl,ho,hb⟩:=hrel
  by_cases hlt:u<n
  ·obtain ⟨b,off,rfl,hbB,hcc⟩:=(HR.out _ hb).2 (by omega);obtain ⟨A',c',r0,r1,r2,r3,r4⟩:=hcc u hlt;have hL:=HLen.out u hlt;obtain ⟨rk,hrk⟩:∃ x,x=(rat rs u).k:=⟨_,rfl⟩;obtain ⟨rx,hrx⟩:∃ x,x=(rat rs u).xs:=⟨_,rfl⟩;obtain ⟨rvv,hrv⟩:∃ x,x=(rat rs u).v:=⟨_,rfl⟩;have hb1:Below wr.heap.size wr (wr.alloc (.cells #[.int .i64 rk,.slice A' rx.length c',.int .i64 rvv] 84)):=(Below.refl _ _).alloc (Nat.le_refl _) _;have hs1:(wr.alloc (.cells #[.int .i64 rk,.slice A' rx.length c',.int .i64 rvv] 84)).heap.size=wr.heap.size+1:=(by simp);have hy:=rbox_new wr rk A' rx.length c' rvv 84
   obtain ⟨W,hW⟩:∃ W,wr.alloc (.cells #[.int .i64 rk,.slice A' rx.length c',.int .i64 rvv] 84)=W:=⟨_,rfl⟩;rw [hW] at hb1 hs1 hy;have hbW:wr.heap.size<=W.heap.size:=hb1.size;have Hput:=Lib.hid (fun (w3:World) (A3:Option Addr) (c3:Nat) (hb':Below wr.heap.size wr w3) (ho3:Ow w3 wr.heap.size A3 (rat rs u).xs.length c3 (rat rs u).xs)=>ho.put (Nat.le_trans (Nat.le_refl _) hb.size) hlt hb' ho3 r4 (fun b hb''=>Nat.le_trans hb.size hb''));have Hth:=Lib.hid (fun (w3:World) (hb':Below wr.heap.size wr w3)=>(ho.below hb').there hlt);rw [<- hrk] at r0 Hput;rw [<- hrx] at r1 r3 r4 Hput hL;rw [<- hrv] at r2 Hput;have HC:=Lib.hid (fun (w':World) (hb':Below W.heap.size W w')=>clone_any A' rx.length c' B rx w' (r3.below ((hb1.trans (hb'.mono hbW)).mono (Nat.le_trans hB hb.size))) (Nat.le_trans (Nat.le_trans hB hb.size) (Nat.le_trans hbW hb'.size)) hL r4);have HY:=Lib.hid (fun (w':World) (hb':Below W.heap.size W w')=>hy.below (by omega:wr.heap.size<W.heap.size) hb');have hin:(u:Int)<(n:Int):=(by omega);have HW:=Lib.hid hW;have Hbb:=Lib.hid hb;have Hb1:=Lib.hid hb1;obtain ⟨l,hl⟩:∃ l,l=rx.length:=⟨_,rfl⟩;rw [<- hl] at r1 HC HY Hput hL HW
   clear hrk hrx hrv hcc hW ho hb r3 hb1 hy hl h
   go_wp2
   rw [HW.out];refine wp_region_dsR [16,17,18,19,20,21,22,23,24,25,26] (CrG wr.heap.size w.heap.size n u wr.heap.size l c' rk rvv A' rx) (fun w1 w2=>Below w1.heap.size w1 w2) (fun _ w1 w2=>Below w1.heap.size w1 w2) (fun _ _=>True) (fun _=>trivial) ((Below.refl _ _).drew) (fun _ _ h h'=>step h h') (by kernel_rfl) (by kernel_rfl) (by simp) (fun j i v w w' _ _ he hg=>crG_below j v w w' he hg) ?step ?last
   case step=>
    intro i o a w' K hi hoo hrel hfr hpre hC hK;have e3:a.eval (.tmp 3)=.slice (some ⟨w.heap.size,0,none⟩) n n:=hfr 3 (by simp);have e4:a.eval (.tmp 4)=.int .i64 (u:Nat):=hfr 4 (by simp);have e5:a.eval (.tmp 5)=.pointer (some ⟨wr.heap.size,0,none⟩):=hfr 5 (by simp);obtain ⟨y0,y1,y2⟩:=HY.out _ hrel
    have hkeep:∀ (v:Value),CrG wr.heap.size w.heap.size n u wr.heap.size l c' rk rvv A' rx i v w'->K (a.put o.dst v) w':=fun v hv=>hK v w' (Below.refl _ _) (Below.refl _ _) (fun _ _ h=>h) hv
    have hi12:i<11:=hi;have:i=0\/i=1\/i=2\/i=3\/i=4\/i=5\/i=6\/i=7\/i=8\/i=9\/i=10:=(by omega)
    rcases this with rfl|rfl|rfl|rfl|rfl|rfl|rfl|rfl|rfl|rfl|rfl
    all_goals
     simp only [List.getElem?_toArray,List.getElem?_cons_zero,List.getElem?_cons_succ,Option.some.injEq] at hoo;subst hoo
    ·refine oper_val (v:=.slice (some ⟨w.heap.size,0,none⟩) n n) (w':=w') ?_ (hkeep _ rfl);unfold execOp;simp only [e3]
     go_simp
    ·refine oper_val (v:=.int .i64 (u:Nat)) (w':=w') ?_ (hkeep _ rfl);unfold execOp;simp only [e4]
     go_simp
    ·refine oper_val (v:=.pointer (some ⟨wr.heap.size,0,none⟩)) (w':=w') ?_ (hkeep _ rfl);unfold execOp;simp only [e5]
     go_simp
    ·have p0:a.eval (.tmp 18)=.pointer (some ⟨wr.heap.size,0,none⟩):=hpre ⟨2,.data⟩ (by simp) rfl;refine oper_val (v:=.int .i64 rk) (w':=w') ?_ (hkeep _ rfl);unfold execOp;simp only [p0]
     go_simp
    ·refine oper_val (v:=.pointer (some ⟨wr.heap.size,1,none⟩)) (w':=w') ?_ (hkeep _ rfl);unfold execOp;simp only [e5]
     go_simp
    ·have p0:a.eval (.tmp 20)=.pointer (some ⟨wr.heap.size,1,none⟩):=hpre ⟨4,.data⟩ (by simp) rfl;refine oper_val (v:=.slice A' l c') (w':=w') ?_ (hkeep _ rfl);unfold execOp;simp only [p0]
     go_simp
    ·have p0:a.eval (.tmp 21)=.slice A' l c':=hpre ⟨5,.data⟩ (by simp) rfl;refine oper_call (f:=61) (args:= #[.slice A' l c']) ?_ (HC.out w' hrel) ?_
     ·unfold execOp
      go_simp
      first|exact (by simpa [Act.eval] using p0)|(simpa [Act.eval] using p0)
     ·rintro e w5 ⟨A3,c3,rfl,ho3,hb3⟩;exact ⟨_,rfl,hK _ _ hb3 hb3 (fun _ _ h=>h) ⟨A3,c3,rfl,ho3.mono (Nat.le_trans hbW hrel.size)⟩⟩
    ·refine oper_val (v:=.pointer (some ⟨wr.heap.size,2,none⟩)) (w':=w') ?_ (hkeep _ rfl);unfold execOp;simp only [e5]
     go_simp
    ·have p0:a.eval (.tmp 23)=.pointer (some ⟨wr.heap.size,2,none⟩):=hpre ⟨7,.data⟩ (by simp) rfl;refine oper_val (v:=.int .i64 rvv) (w':=w') ?_ (hkeep _ rfl);unfold execOp;simp only [p0]
     go_simp
    ·have p0:a.eval (.tmp 19)=.int .i64 rk:=hpre ⟨3,.data⟩ (by simp) rfl;obtain ⟨A3,c3,p1,q1⟩:∃ A3 c3,a.eval (.tmp 22)=.slice A3 l c3/\Ow w' wr.heap.size A3 l c3 rx:=hpre ⟨6,.data⟩ (by simp) rfl;have p2:a.eval (.tmp 24)=.int .i64 rvv:=hpre ⟨8,.data⟩ (by simp) rfl;refine oper_val (v:=.agg #[.int .i64 rk,.slice A3 l c3,.int .i64 rvv]) (w':=w') ?_ (hkeep _ ⟨A3,c3,rfl,q1⟩);unfold execOp;simp only [List.map_toArray,List.map_cons,List.map_nil,p0,p1,p2]
     go_simp
    ·have p0:a.eval (.tmp 16)=.slice (some ⟨w.heap.size,0,none⟩) n n:=hpre ⟨0,.data⟩ (by simp) rfl;have p1:a.eval (.tmp 17)=.int .i64 (u:Nat):=hpre ⟨1,.data⟩ (by simp) rfl;refine oper_val (v:=.pointer (some ⟨w.heap.size,u*3,none⟩)) (w':=w') ?_ (hkeep _ rfl);unfold execOp;simp only [p0,p1]
     go_simp
   case last=>
    intro o a w5 hoo hb5 hdef htm hfr hpre;simp only [List.length_cons,List.length_nil,Nat.reduceAdd,List.getElem?_toArray,List.getElem?_cons_zero,List.getElem?_cons_succ,Option.some.injEq] at hoo;subst hoo;have g0:a.tmps.getD 16 undef=.slice (some ⟨w.heap.size,0,none⟩) n n:=hpre 0 (by simp);have g1:a.tmps.getD 17 undef=.int .i64 (u:Nat):=hpre 1 (by simp);have g2:a.tmps.getD 18 undef=.pointer (some ⟨wr.heap.size,0,none⟩):=hpre 2 (by simp);have g3:a.tmps.getD 19 undef=.int .i64 rk:=hpre 3 (by simp);have g4:a.tmps.getD 20 undef=.pointer (some ⟨wr.heap.size,1,none⟩):=hpre 4 (by simp);have g5:a.tmps.getD 21 undef=.slice A' l c':=hpre 5 (by simp);obtain ⟨A6,c6,g6,_⟩:∃ A3 c3,a.tmps.getD 22 undef=.slice A3 l c3/\_:=hpre 6 (by simp);have g7:a.tmps.getD 23 undef=.pointer (some ⟨wr.heap.size,2,none⟩):=hpre 7 (by simp);have g8:a.tmps.getD 24 undef=.int .i64 rvv:=hpre 8 (by simp);obtain ⟨A3,c3,g9,ho9⟩:∃ A3 c3,a.tmps.getD 25 undef=.agg #[.int .i64 rk,.slice A3 l c3,.int .i64 rvv]/\Ow w5 wr.heap.size A3 l c3 rx:=hpre 9 (by simp);have g10:a.tmps.getD 26 undef=.pointer (some ⟨w.heap.size,u*3,none⟩):=hpre 10 (by simp);have h25:a.eval (.tmp 25)=.agg #[.int .i64 rk,.slice A3 l c3,.int .i64 rvv]:=g9
    have h26:a.eval (.tmp 26)=.pointer (some ⟨w.heap.size,u*3,none⟩):=g10;have hb15:Below wr.heap.size wr w5:=Hb1.out.trans (hb5.mono hbW);refine ⟨w5.setCells w.heap.size (u*3) [.int .i64 rk,.slice A3 l c3,.int .i64 rvv],?_,?_⟩
    ·have hst:=run_storeVar_mid (P:=Tryz.prog) w5 w.heap.size (u*3) 84 #[.int .i64 rk,.slice A3 l c3,.int .i64 rvv] (Hth.out _ hb15) (Hi.out _ _ _ _ _) (Hone.out _ _ _ _ _);unfold execOp;simp only [h25,h26,Instr.storeAt,Instr.sureAddr,Sem.run_bind,Sem.run_pure,Result.andThen_ok,hst]
    ·have key:=htm;simp only [List.foldl_cons,List.foldl_nil,g0,g1,g2,g3,g4,g5,g6,g7,g8,g9,g10,List.setIfInBounds_toArray,List.set_cons_succ,List.set_cons_zero] at key;clear htm hfr hpre g0 g1 g2 g3 g4 g5 g6 g7 g8 g9 g10 h25 h26;obtain ⟨tm,df⟩:=a
     dsimp only at key hdef
     subst key hdef;have hP:=Hput.out _ _ _ hb15 ho9
     go_wp2
     go_roundw
     case rel=>exact ⟨u+1,by omega,by go_num,hP,below_setCells3 (Hbb.out.trans (hb15.mono Hbb.out.size)) (Nat.le_refl _)⟩
     case measure=>simp [intOf];omega
  ·obtain rfl:u=n:=by omega
   go_wp2
   go_ret
   exact ⟨_,rfl,ho.bound,hb⟩
theorem below_undrew {w w2:World} (h:Below w.drew.heap.size w.drew w2):Below w.heap.size w w2:=⟨h.os,h.tape,h.output,h.size,h.block⟩
def OwnP (w:World) (lo:Nat) (A1:Option Addr) (n c1:Nat) (gi:List Int) (g nr:Nat) (rs:List RuleM):Prop:=
 Ow w lo A1 n c1 gi/\∃ Q:Nat->Prop,OwRd w lo g nr rs Q nr/\(∀ b,Q b->b<w.heap.size)/\∀ b,(Value.slice A1 n c1).ownBlock=some b->¬ Q b
set_option maxHeartbeats 4000000 in
theorem copied_any (s:Int) (Ag:Option Addr) (n cg Bg:Nat) (gi:List Int) (Ar:Option Addr) (nr cr Br:Nat) (rs:List RuleM) (w:World) (hp:PGs w s Ag n cg Bg gi Ar nr cr Br rs) (hn:0<n) (hnr:nr<=1048576) (hL:∀ i,i<nr->0<(rat rs i).xs.length):
 Calls Tryz.prog 76 #[.agg #[.int .i64 s,.slice Ag n cg,.slice Ar nr cr]] w fun e w'=>∃ A1 c1 g,e=.returned (.agg #[.int .i64 s,.slice A1 n c1,.slice (some ⟨g,0,none⟩) nr nr])/\OwnP w' w.heap.size A1 n c1 gi g nr rs/\Below w.heap.size w w':=by
 have hx0:=pbox_new w s Ag n cg Ar nr cr 26;have hb0:Below w.heap.size w (w.alloc (.cells #[.int .i64 s,.slice Ag n cg,.slice Ar nr cr] 26)):=(Below.refl _ _).alloc (Nat.le_refl _) _
 have hs0:w.heap.size<(w.alloc (.cells #[.int .i64 s,.slice Ag n cg,.slice Ar nr cr] 26)).heap.size:=by simp
 obtain ⟨V,hV⟩:∃ V,V=(w.alloc (.cells #[.int .i64 s,.slice Ag n cg,.slice Ar nr cr] 26)).alloc (.cells #[.int .i64 0,.slice none 0 0,.slice none 0 0] 26):=⟨_,rfl⟩
 have hbV:Below w.heap.size w V:=by rw [hV];exact hb0.alloc hb0.size _
 have hsV:V.heap.size=w.heap.size+1+1:=by rw [hV];simp
 have hxV:PBox V w.heap.size s Ag n cg Ar nr cr:=by
  rw [hV];exact hx0.below hs0 ((Below.refl _ _).alloc (Nat.le_refl _) _)
 have hrow:V.heap[w.heap.size+1]? =some (.cells #[.int .i64 0,.slice none 0 0,.slice none 0 0] 26):=by rw [hV];exact heap_alloc2_new w _ _
 have Hi:=Lib.hid puz_info;have HCl:=Lib.hid (fun (w':World) (hb:Below V.heap.size V w')=>clone_any Ag n cg Bg gi w' ((hp.below (hbV.trans (hb.mono hbV.size))).g) ((hp.below (hbV.trans (hb.mono hbV.size))).gB) hn hp.gm);have HCR:=Lib.hid (fun (w':World) (hb:Below V.heap.size V w')=>copiedRules_any Ar cr nr Br rs w' ((hp.below (hbV.trans (hb.mono hbV.size))).r) ((hp.below (hbV.trans (hb.mono hbV.size))).rB) hnr hL);have HX:=Lib.hid (fun (w':World) (hb:Below V.heap.size V w')=>(⟨hxV.below (by omega) hb,(hb.block (w.heap.size+1) (by omega)).trans hrow⟩:PBox w' w.heap.size s Ag n cg Ar nr cr/\w'.heap[w.heap.size+1]? =some (.cells #[.int .i64 0,.slice none 0 0,.slice none 0 0] 26)))
 have HV:=Lib.hid hV;have HbV:=Lib.hid hbV;have hVd:Below V.heap.size V V.drew:=(Below.refl _ _).drew;obtain ⟨z0,z1,z2⟩:=id hxV;clear hV hx0 hb0 hs0 hp hxV hrow hL hbV
 go_enter Tryz.func76,Tryz.ntmps76
 go_wp2
 rw [<- HV.out]
 go_region_with (first
  |(go_at_call 61;(with_reducible refine (HCl.out _ ?hd).mono ?_);(case hd=>exact hVd);rintro e w1 ⟨A1,c1,rfl,ho1,hb1d⟩;have hb1:=below_undrew hb1d;clear hb1d;obtain ⟨⟨y0,y1,y2⟩,_⟩:=HX.out _ hb1)
  |(go_at_call 124;(with_reducible refine (HCR.out _ ?hd2).mono ?_);(case hd2=>exact hb1);rintro e w2 ⟨g,rfl,hrd2,hb2⟩;have h2:=step hb1 hb2;obtain ⟨⟨x0,x1,x2⟩,hr2⟩:=HX.out _ h2;have d0:=cell_of_row _ _ 0 _ _ (0,0) hr2;have d1:=cell_of_row _ _ 1 _ _ (0,0) hr2;have d2:=cell_of_row _ _ 2 _ _ (0,0) hr2;have f0:=frozen_of_row _ _ 0 _ _ hr2;have f1:=frozen_of_row _ _ 1 _ _ hr2;have f2:=frozen_of_row _ _ 2 _ _ hr2))
 all_goals
  go_wp2
  have e0:=heap_setCell_same w2 (w.heap.size+1) 0 _ _ (.int .i64 s) hr2;have e1:=heap_setCell_same _ (w.heap.size+1) 1 _ _ (.slice A1 n c1) e0;have e2:=heap_setCell_same _ (w.heap.size+1) 2 _ _ (.slice (some ⟨g,0,none⟩) nr nr) e1;have hbV:=HbV.out;have h2s:=h2.size
  have hbY:Below V.heap.size w2 (((w2.setCell ⟨w.heap.size+1,0,none⟩ (.int .i64 s)).setCell ⟨w.heap.size+1,1,none⟩ (.slice A1 n c1)).setCell ⟨w.heap.size+1,2,none⟩ (.slice (some ⟨g,0,none⟩) nr nr))->True:=fun _=>trivial
  have hgY:w2.grownBy (((w2.setCell ⟨w.heap.size+1,0,none⟩ (.int .i64 s)).setCell ⟨w.heap.size+1,1,none⟩ (.slice A1 n c1)).setCell ⟨w.heap.size+1,2,none⟩ (.slice (some ⟨g,0,none⟩) nr nr)) (some (w.heap.size+1)):=(grown_set.trans grown_set).trans grown_set;have hB2:Below w.heap.size w w2:=hbV.trans (h2.mono hbV.size);have hBe:Below w.heap.size w (((w2.setCell ⟨w.heap.size+1,0,none⟩ (.int .i64 s)).setCell ⟨w.heap.size+1,1,none⟩ (.slice A1 n c1)).setCell ⟨w.heap.size+1,2,none⟩ (.slice (some ⟨g,0,none⟩) nr nr)):=((hB2.setCell (p:=⟨w.heap.size+1,0,none⟩) (Nat.le_succ _) _).setCell (p:=⟨w.heap.size+1,1,none⟩) (Nat.le_succ _) _).setCell (p:=⟨w.heap.size+1,2,none⟩) (Nat.le_succ _) _
  have ho2:=ho1.below hb2
  have hA1:∀ b,(Value.slice A1 n c1).ownBlock=some b->w.heap.size+1<b/\b<w1.heap.size:=fun b hb=>⟨by have:=ho1.own_lo b hb;have e:V.drew.heap.size=V.heap.size:=rfl;omega,ho1.own_hi b hb⟩
  have hV1:=hb1.size;refine bodyPost_ret (v:=.agg #[.int .i64 s,.slice A1 n c1,.slice (some ⟨g,0,none⟩) nr nr]) (results_cell_row (by rfl) _ _ (w.heap.size+1) 26 _ (0,0) _ rfl e2 Tryz.underlying26 rfl (Hi.out _ _ _ _ _ _ _)) rfl ⟨_,_,_,rfl,⟨?_,fun b=>w1.heap.size<=b/\b<w2.heap.size,?_,fun b hb=>?_,fun b hb hq=>?_⟩,hBe⟩
  ·exact (Ow.far ho2 hgY (fun b hb e=>by have:=(hA1 b hb).1;have:=Option.some.inj e;omega)).mono (by have e:V.drew.heap.size=V.heap.size:=rfl;omega)
  ·exact (hrd2.far hgY (by omega)).mono (by omega)
  ·have:=hgY.size;omega
  ·have:=(hA1 b hb).2;omega
theorem push_newR {w:World} {ops:Array Oper} {rest:List Oper} {o:Oper} {a:Act} {Q:Exit->Act->World->Prop} (hgd:o.guard=none) (s x:Operand)
 (ho:o.op=.call { callee:=.builtin .append,args:= #[s,x],argTypes:= #[24,24] })
 (b:Nat) (A2:Option Addr) (m c2 lo lo2:Nat) (rs2:List RuleM) (vs2:List Value) (hs:a.eval s=.slice (some ⟨b,0,none⟩) 0 0) (hx:a.eval x=.slice A2 m c2) (hl2:rs2.length=m) (hown2:w.ownsRow lo2 84 3 (.slice A2 m c2) m vs2) (hin2:InR w lo (.slice none 0 0) rs2 vs2 m)
 (hlit:w.heap[b]? =some (.cells #[] 84)) (hb:lo<=b) (hm:m<=1099511627776) (hlo:lo<=w.heap.size)
 (h:∀ A' c' w',OwR w' lo (.slice A' m c') rs2 m->Below w.heap.size w w'->wpList Tryz.prog ops Q rest (a.put o.dst (.slice A' m c')) w'):
 wpList Tryz.prog ops Q (o::rest) a w:=by
 refine wpList_plain hgd fun K hK=>?_
 obtain ⟨A',c',w',hrun,h1,h2⟩:=fresh_rules o.type b A2 m c2 lo lo2 rs2 vs2 hl2 hown2 hin2 hlit hb hm hlo;unfold Oper.wp
 simp [execOp,ho,resolve,invoke,builtin,hs,hx,hrun,Result.andThen]
 exact hK _ _ (h A' c' w' h1 h2)
theorem results_row_tmpP {P:Program} {fn:Func} {p q:Tmp} {ty:TypeId} (h:fn.results= #[.cell p ty,.tmp q]) (tmps:Array Value) (w:World) (g:Nat) (t:TypeId) (cs:Array Value) (fr:Nat×Nat) (d:TypeDesc) (b:Value)
 (hp:tmps.getD p undef=.pointer (some ⟨g,0,none⟩)) (hq:tmps.getD q undef=b) (hg:w.heap[g]? =some (.cells cs t fr))
 (hu:P.underlying ty=some d) (hd:(match d with|.struct _|.array _ _=>true|_=>false)=true) (hi:(P.info? ty).map (·.size)=some cs.size):
 (results fn tmps).run P w=.ok (.tuple #[.agg cs,b]) w:=by
 have hp':tmps[p]?.getD undef=.pointer (some ⟨g,0,none⟩):=by simpa using hp
 have hq':tmps[q]?.getD undef=b:=by simpa using hq
 simp [results,h,hp',hq',asAddr,run_loadVar_row w g t ty cs fr d hg hu hd hi]
def PoS (ok:Bool) (s:Int) (n:Nat) (L:List Int) (nr:Nat) (rs:List RuleM) (w:World) (e:Ending) (w':World):Prop:=
 Below w.heap.size w w'/\((ok=false/\e=.returned (.tuple #[.agg #[.int .i64 0,.slice none 0 0,.slice none 0 0],.bool false]))\/
  (ok=true/\∃ A1 c1 A2 c2,e=.returned (.tuple #[.agg #[.int .i64 s,.slice A1 n c1,.slice A2 nr c2],.bool true])/\Rd w' w'.heap.size A1 n L/\RdRs w' w'.heap.size A2 nr rs))
def PoI (ok:Bool) (s:Int) (n:Nat) (L:List Int) (nr:Nat) (rs:List RuleM) (w:World) (e:Ending) (w':World):Prop:=
 Below w.heap.size w w'/\((ok=false/\e=.returned (.tuple #[.agg #[.int .i64 0,.slice none 0 0,.slice none 0 0],.bool false]))\/
  (ok=true/\∃ A1 c1 g,e=.returned (.tuple #[.agg #[.int .i64 s,.slice A1 n c1,.slice (some ⟨g,0,none⟩) nr nr],.bool true])/\OwnP w' w.heap.size A1 n c1 L g nr rs))
set_option maxHeartbeats 4000000 in
theorem implPuzzleOf (Ag:Option Addr) (n cg Bg:Nat) (gi:List Int) (s:Int) (Ar:Option Addr) (nr cr Br:Nat) (rs:List RuleM) (w:World) (hp:PGc w s Ag n cg Bg gi Ar nr cr Br rs):
 Calls Tryz.prog 27 #[.slice Ag n cg,.int .i64 s,.slice Ar nr cr] w (PoI (psB s gi rs gi) s n gi nr rs w):=by
 have hb0:Below w.heap.size w (w.alloc (.cells #[.int .i64 0,.slice none 0 0,.slice none 0 0] 26)):=(Below.refl _ _).alloc (Nat.le_refl _) _;have hr0:=heap_alloc_new w (.cells #[.int .i64 0,.slice none 0 0,.slice none 0 0] 26);obtain ⟨V0,hV0⟩:∃ V0,w.alloc (.cells #[.int .i64 0,.slice none 0 0,.slice none 0 0] 26)=V0:=⟨_,rfl⟩
 have hs0:V0.heap.size=w.heap.size+1:=by rw [<- hV0];simp
 rw [hV0] at hb0 hr0;have hbX:Below V0.heap.size V0 (V0.alloc (.cells #[.int .i64 s,.slice Ag n cg,.slice Ar nr cr] 26)):=(Below.refl _ _).alloc (Nat.le_refl _) _;have hxX:=pbox_new V0 s Ag n cg Ar nr cr 26;rw [hs0] at hxX
 have hsX:V0.heap.size<(V0.alloc (.cells #[.int .i64 s,.slice Ag n cg,.slice Ar nr cr] 26)).heap.size:=by simp
 obtain ⟨V,hV⟩:∃ V,V0.alloc (.cells #[.int .i64 s,.slice Ag n cg,.slice Ar nr cr] 26)=V:=⟨_,rfl⟩;rw [hV] at hbX hxX hsX;have hbV:Below w.heap.size w V:=step hb0 hbX;have Hone:=Lib.hid puz_one;have Hi:=Lib.hid puz_info;have HPS:=Lib.hid (implPuzzleSolved s Ag n cg Bg gi Ar nr cr Br rs Ag n cg Bg gi V (hp.below hbV) (hp.below hbV).g (hp.below hbV).gB hp.gm);have HX:=Lib.hid (fun (w':World) (hb:Below V.heap.size V w')=>(⟨hxX.below (by omega) hb,(hb.block w.heap.size (by omega)).trans ((hbX.block w.heap.size (by omega)).trans hr0)⟩:PBox w' (w.heap.size+1) s Ag n cg Ar nr cr/\w'.heap[w.heap.size]? =some (.cells #[.int .i64 0,.slice none 0 0,.slice none 0 0] 26)))
 have HVe:Hid ((w.alloc (.cells #[.int .i64 0,.slice none 0 0,.slice none 0 0] 26)).alloc (.cells #[.int .i64 s,.slice Ag n cg,.slice Ar nr cr] 26)=V):=Lib.hid (by rw [hV0,hV]);have HbV:=Lib.hid hbV;cases hps:psB s gi rs gi
 ·rw [hps] at HPS;clear hV0 hV hb0 hr0 hbX hxX hp hps hbV
  go_enter Tryz.func27,Tryz.ntmps27
  go_wp2_with (first
   |(go_at_call 75;rw [HVe.out];refine HPS.out.mono ?_;rintro e w1 ⟨rfl,hb1⟩;obtain ⟨_,hr1⟩:=HX.out _ hb1)
   |(refine wpList_store_row rfl 26 _ _ rfl w.heap.size #[.int .i64 0,.slice none 0 0,.slice none 0 0] rfl rfl 26 #[.int .i64 0,.slice none 0 0,.slice none 0 0] hr1 (Hi.out _ _ _ _ _ _ _) rfl (Hone.out _ _ _ _ _ _ _) ?_))
  have hBe:Below w.heap.size w (w1.setRow w.heap.size #[.int .i64 0,.slice none 0 0,.slice none 0 0]):=setRow_below5 (HbV.out.trans (hb1.mono HbV.out.size)) (Nat.le_refl _);exact bodyPost_ret (v:=.tuple #[.agg #[.int .i64 0,.slice none 0 0,.slice none 0 0],.bool false]) (results_row_tmpP (by rfl) _ _ w.heap.size 26 _ (0,0) _ _ rfl rfl (setRow_heap _ _ _ _ _ _ hr1) Tryz.underlying26 rfl (Hi.out _ _ _ _ _ _ _)) rfl ⟨hBe,.inl ⟨by trivial,rfl⟩⟩
 ·rw [hps] at HPS
  have hv:pvB s gi rs=true:=by
   unfold psB fpB at hps;simp only [Bool.and_eq_true] at hps;exact hps.1.1.1
  obtain ⟨t,rfl,hs,hnn,hn16,_⟩:=pv_grid hv hp.g.1
  have hn0:0<n:=by simp at hs;rcases hs with rfl|rfl|rfl<;>omega
  have hrl:=hp.r.1
  have hnr:nr<=20:=by have:=(pv_gv hv).2.1;omega
  have hL:∀ i,i<nr->0<(rat rs i).xs.length:=fun i hi=>by
   have h1:=(pv_gv hv).2.2 i (by omega);obtain ⟨_,h2,_,_⟩:=rv_facts rfl h1;omega
  have HC:=Lib.hid (fun (w':World) (hb:Below w.heap.size w w')=>copied_any (t:Int) Ag n cg Bg gi Ar nr cr Br rs w' (hp.below hb).rd hn0 (by omega) hL);clear hV0 hV hb0 hr0 hbX hxX hp hps hbV hs hnn hL hv
  go_enter Tryz.func27,Tryz.ntmps27
  go_wp2_with (first
   |(go_at_call 75;rw [HVe.out];refine HPS.out.mono ?_;rintro e w1 ⟨rfl,hb1⟩;obtain ⟨⟨y0,y1,y2⟩,hr1⟩:=HX.out _ hb1;have h01:=HbV.out.trans (hb1.mono HbV.out.size))
   |(go_at_call 76;refine (HC.out _ h01).mono ?_;rintro e w2 ⟨A3,c3,g,rfl,hown,hb2⟩;have hr2:=(HX.out _ (step hb1 hb2)).2)
   |(refine wpList_store_row rfl 26 _ _ rfl w.heap.size #[.int .i64 (t:Int),.slice A3 n c3,.slice (some ⟨g,0,none⟩) nr nr] rfl rfl 26 #[.int .i64 0,.slice none 0 0,.slice none 0 0] hr2 (Hi.out _ _ _ _ _ _ _) rfl (Hone.out _ _ _ _ _ _ _) ?_))
  have h02:=step h01 hb2;have hBe:Below w.heap.size w (w2.setRow w.heap.size #[.int .i64 (t:Int),.slice A3 n c3,.slice (some ⟨g,0,none⟩) nr nr]):=setRow_below5 h02 (Nat.le_refl _);have hs1:=h01.size
  have hlt:w.heap.size<w1.heap.size:=by have:=hb1.size;omega
  refine bodyPost_ret (v:=.tuple #[.agg #[.int .i64 (t:Int),.slice A3 n c3,.slice (some ⟨g,0,none⟩) nr nr],.bool true]) (results_row_tmpP (by rfl) _ _ w.heap.size 26 _ (0,0) _ _ rfl rfl (setRow_heap _ _ _ _ _ _ hr2) Tryz.underlying26 rfl (Hi.out _ _ _ _ _ _ _)) rfl ⟨hBe,.inr ⟨by trivial,A3,c3,g,rfl,?_⟩⟩;obtain ⟨o1,Q,o2,o3,o4⟩:=hown;have hgr:w2.grownBy (w2.setRow w.heap.size #[.int .i64 (t:Int),.slice A3 n c3,.slice (some ⟨g,0,none⟩) nr nr]) (some w.heap.size):=grown_row;exact ⟨(Ow.far o1 hgr (fun b hb e=>by have:=o1.own_lo b hb;have:=Option.some.inj e;omega)).mono hs1,Q,(o2.far hgr hlt).mono hs1,fun b hq=>Nat.lt_of_lt_of_le (o3 b hq) hgr.size,o4⟩
set_option maxHeartbeats 4000000 in
theorem specPuzzleOf (Ag:Option Addr) (n cg Bg:Nat) (gi:List Int) (s:Int) (Ar:Option Addr) (nr cr Br:Nat) (rs:List RuleM) (w:World) (hp:PGs w s Ag n cg Bg gi Ar nr cr Br rs) (hm2:nr<=1099511627775):
 Calls Tryz.prog 28 #[.slice Ag n cg,.int .i64 s,.slice Ar nr cr] w (PoS (psB s gi rs gi) s n gi nr rs w):=by
 have hrl:=hp.r.1;have hb0:Below w.heap.size w (w.alloc (.cells #[.int .i64 0,.slice none 0 0,.slice none 0 0] 26)):=(Below.refl _ _).alloc (Nat.le_refl _) _;have hr0:=heap_alloc_new w (.cells #[.int .i64 0,.slice none 0 0,.slice none 0 0] 26);obtain ⟨V0,hV0⟩:∃ V0,w.alloc (.cells #[.int .i64 0,.slice none 0 0,.slice none 0 0] 26)=V0:=⟨_,rfl⟩
 have hs0:V0.heap.size=w.heap.size+1:=by rw [<- hV0];simp
 rw [hV0] at hb0 hr0;have Hone:=Lib.hid puz_one;have Hi:=Lib.hid puz_info;have HOR:=Lib.hid (specOwnRules Ar nr cr Br rs V0 (hp.below hb0).r (hp.below hb0).rB hm2);have HG:=Lib.hid (fun (w':World) (hb:Below V0.heap.size V0 w')=>(⟨(hp.below (step hb0 hb)).g,(hp.below (step hb0 hb)).gB⟩:Rd w' Bg Ag n gi/\Bg<=w'.heap.size));have HV0:=Lib.hid hV0;have hgm:=hp.gm;have HR0:=Lib.hid (fun (w':World) (hb:Below V0.heap.size V0 w')=>(hb.block w.heap.size (by omega)).trans hr0);have Hb0:=Lib.hid hb0;clear hV0 hb0 hr0 hp
 go_enter Tryz.func28,Tryz.ntmps28
 go_wp2_with fail
 rw [HV0.out];refine HOR.out.mono ?_;rintro e w1 ⟨A1r,c1r,rfl,hor1,hb1⟩;have hba:Below w1.heap.size w1 (w1.alloc (.cells #[] 3)):=(Below.refl _ _).alloc (Nat.le_refl _) _;have hb1a:=step hb1 hba;have HO:=Lib.hid (Ow.made0 w1 w1.heap.size (Nat.le_refl _));have hRa:=(HG.out _ hb1a).1
 have hm3:nr<=1099511627776:=by omega
 cases hps:psB s gi rs gi
 ·skip
  go_wp2_with (first
   |(at_builtin;(refine push_new rfl (.tmp 12) (.tmp 13) rfl w1.heap.size (some ⟨w1.heap.size,0,none⟩) Ag n cg Bg gi rfl rfl HO.out hRa hgm (by simp) ?_);intro A2 c2 w2 ho2 hg2;have hb2:Below w1.heap.size w1 w2:=hba.grown hg2 hba.size (fun k hk=>HO.out.own_lo k hk);have hbl:Below w2.heap.size w2 (w2.alloc (.cells #[] 84)):=(Below.refl _ _).alloc (Nat.le_refl _) _;(obtain ⟨vs,hvo,hvi⟩:=(hor1.below hb2).below hbl);have hlit:=heap_alloc_new w2 (.cells #[] 84);have hb1s:=hb1.size;have hb2s:=hb2.size;have hvi2:InR (w2.alloc (.cells #[] 84)) V0.heap.size (.slice none 0 0) rs vs nr:=(fun i hi=>by obtain ⟨A',c',e0,e1,e2,e3,e4,e5⟩:=hvi i hi;exact ⟨A',c',e0,e1,e2,e3,e4,fun g hg e=>by simp [Value.ownBlock] at e⟩))
   |(at_builtin;(refine push_newR rfl (.tmp 15) (.tmp 16) rfl w2.heap.size A1r nr c1r V0.heap.size V0.heap.size rs vs rfl rfl hrl hvo hvi2 hlit (by omega) hm3 (by simp;omega) ?_);intro A3 c3 w3 hor3 hb3;have hbX:Below w3.heap.size w3 (w3.alloc (.cells #[.int .i64 s,.slice A2 n c2,.slice A3 nr c3] 26)):=(Below.refl _ _).alloc (Nat.le_refl _) _;have h2X:=step hbl (step hb3 hbX);have h0X:=step hb1 (step hb2 h2X);have hpX:PGs (w3.alloc (.cells #[.int .i64 s,.slice A2 n c2,.slice A3 nr c3] 26)) s A2 n c2 (w3.alloc (.cells #[.int .i64 s,.slice A2 n c2,.slice A3 nr c3] 26)).heap.size gi A3 nr c3 (w3.alloc (.cells #[.int .i64 s,.slice A2 n c2,.slice A3 nr c3] 26)).heap.size rs:=⟨(ho2.below h2X).rd,Nat.le_refl _,hgm,OwR.rd hrl (hor3.below hbX),Nat.le_refl _,hm3⟩;have HPS:=Lib.hid (specPuzzleSolved s A2 n c2 _ gi A3 nr c3 _ rs Ag n cg Bg gi _ hpX (HG.out _ h0X).1 (HG.out _ h0X).2 hgm);have hxp:=pbox_new w3 s A2 n c2 A3 nr c3 26;have hsx:w3.heap.size<(w3.alloc (.cells #[.int .i64 s,.slice A2 n c2,.slice A3 nr c3] 26)).heap.size:=(by simp))
   |(go_at_call 78;refine HPS.out.mono ?_;rintro e w4 ⟨rfl,hb4⟩;rw [hps];obtain ⟨x0,x1,x2⟩:=hxp.below hsx hb4;have hr4:=HR0.out _ (step h0X hb4))
   |(refine wpList_store_row rfl 26 _ _ rfl w.heap.size #[.int .i64 0,.slice none 0 0,.slice none 0 0] rfl rfl 26 #[.int .i64 0,.slice none 0 0,.slice none 0 0] hr4 (Hi.out _ _ _ _ _ _ _) rfl (Hone.out _ _ _ _ _ _ _) ?_))
  have hB4:Below w.heap.size w w4:=Hb0.out.trans ((step h0X hb4).mono Hb0.out.size);have hBe:Below w.heap.size w (w4.setRow w.heap.size #[.int .i64 0,.slice none 0 0,.slice none 0 0]):=setRow_below5 hB4 (Nat.le_refl _);exact bodyPost_ret (v:=.tuple #[.agg #[.int .i64 0,.slice none 0 0,.slice none 0 0],.bool false]) (results_row_tmpP (by rfl) _ _ w.heap.size 26 _ (0,0) _ _ rfl rfl (setRow_heap _ _ _ _ _ _ hr4) Tryz.underlying26 rfl (Hi.out _ _ _ _ _ _ _)) rfl ⟨hBe,.inl ⟨by trivial,rfl⟩⟩
 ·skip
  go_wp2_with (first
   |(at_builtin;(refine push_new rfl (.tmp 12) (.tmp 13) rfl w1.heap.size (some ⟨w1.heap.size,0,none⟩) Ag n cg Bg gi rfl rfl HO.out hRa hgm (by simp) ?_);intro A2 c2 w2 ho2 hg2;have hb2:Below w1.heap.size w1 w2:=hba.grown hg2 hba.size (fun k hk=>HO.out.own_lo k hk);have hbl:Below w2.heap.size w2 (w2.alloc (.cells #[] 84)):=(Below.refl _ _).alloc (Nat.le_refl _) _;(obtain ⟨vs,hvo,hvi⟩:=(hor1.below hb2).below hbl);have hlit:=heap_alloc_new w2 (.cells #[] 84);have hb1s:=hb1.size;have hb2s:=hb2.size;have hvi2:InR (w2.alloc (.cells #[] 84)) V0.heap.size (.slice none 0 0) rs vs nr:=(fun i hi=>by obtain ⟨A',c',e0,e1,e2,e3,e4,e5⟩:=hvi i hi;exact ⟨A',c',e0,e1,e2,e3,e4,fun g hg e=>by simp [Value.ownBlock] at e⟩))
   |(at_builtin;(refine push_newR rfl (.tmp 15) (.tmp 16) rfl w2.heap.size A1r nr c1r V0.heap.size V0.heap.size rs vs rfl rfl hrl hvo hvi2 hlit (by omega) hm3 (by simp;omega) ?_);intro A3 c3 w3 hor3 hb3;have hbX:Below w3.heap.size w3 (w3.alloc (.cells #[.int .i64 s,.slice A2 n c2,.slice A3 nr c3] 26)):=(Below.refl _ _).alloc (Nat.le_refl _) _;have h2X:=step hbl (step hb3 hbX);have h0X:=step hb1 (step hb2 h2X);have hpX:PGs (w3.alloc (.cells #[.int .i64 s,.slice A2 n c2,.slice A3 nr c3] 26)) s A2 n c2 (w3.alloc (.cells #[.int .i64 s,.slice A2 n c2,.slice A3 nr c3] 26)).heap.size gi A3 nr c3 (w3.alloc (.cells #[.int .i64 s,.slice A2 n c2,.slice A3 nr c3] 26)).heap.size rs:=⟨(ho2.below h2X).rd,Nat.le_refl _,hgm,OwR.rd hrl (hor3.below hbX),Nat.le_refl _,hm3⟩;have HPS:=Lib.hid (specPuzzleSolved s A2 n c2 _ gi A3 nr c3 _ rs Ag n cg Bg gi _ hpX (HG.out _ h0X).1 (HG.out _ h0X).2 hgm);have hxp:=pbox_new w3 s A2 n c2 A3 nr c3 26;have hsx:w3.heap.size<(w3.alloc (.cells #[.int .i64 s,.slice A2 n c2,.slice A3 nr c3] 26)).heap.size:=(by simp))
   |(go_at_call 78;refine HPS.out.mono ?_;rintro e w4 ⟨rfl,hb4⟩;rw [hps];obtain ⟨x0,x1,x2⟩:=hxp.below hsx hb4;have hr4:=HR0.out _ (step h0X hb4))
   |(refine wpList_store_row rfl 26 _ _ rfl w.heap.size #[.int .i64 s,.slice A2 n c2,.slice A3 nr c3] rfl rfl 26 #[.int .i64 0,.slice none 0 0,.slice none 0 0] hr4 (Hi.out _ _ _ _ _ _ _) rfl (Hone.out _ _ _ _ _ _ _) ?_))
  have hB4:Below w.heap.size w w4:=Hb0.out.trans ((step h0X hb4).mono Hb0.out.size);have hBe:Below w.heap.size w (w4.setRow w.heap.size #[.int .i64 s,.slice A2 n c2,.slice A3 nr c3]):=setRow_below5 hB4 (Nat.le_refl _);have h24:Below w2.heap.size w2 w4:=step h2X hb4;have h34:Below w3.heap.size w3 w4:=step hbX hb4;have hs1:=hb1.size;have ho4:=Ow.far (ho2.below h24) (grown_row (w:=w4) (g:=w.heap.size) (cs:= #[.int .i64 s,.slice A2 n c2,.slice A3 nr c3])) (fun b hb e=>by have:=ho2.own_lo b hb;have:=Option.some.inj e;omega);have hor4:=(hor3.below h34).keptG (grown_row (w:=w4) (g:=w.heap.size) (cs:= #[.int .i64 s,.slice A2 n c2,.slice A3 nr c3])) (by omega)
  exact bodyPost_ret (v:=.tuple #[.agg #[.int .i64 s,.slice A2 n c2,.slice A3 nr c3],.bool true]) (results_row_tmpP (by rfl) _ _ w.heap.size 26 _ (0,0) _ _ rfl rfl (setRow_heap _ _ _ _ _ _ hr4) Tryz.underlying26 rfl (Hi.out _ _ _ _ _ _ _)) rfl ⟨hBe,.inr ⟨by trivial,A2,c2,A3,c3,rfl,ho4.rd,OwR.rd hrl hor4⟩⟩
set_option maxHeartbeats 2000000 in
theorem samePuzzle_any (s:Int) (Ag Ag2:Option Addr) (cg cg2 n Bg Bg2:Nat) (g:List Int) (Ar Ar2:Option Addr) (cr cr2 nr B B2:Nat) (rs:List RuleM) (w:World) (hg:Rd w Bg Ag n g) (hBg:Bg<=w.heap.size) (hmg:n<=1099511627776) (hg2:Rd w Bg2 Ag2 n g) (hBg2:Bg2<=w.heap.size) (h:RdRs w B Ar nr rs) (h2:RdRs w B2 Ar2 nr rs) (hB:B<=w.heap.size) (hB2:B2<=w.heap.size) (hm:nr<=1099511627776):
 Calls Tryz.prog 29 #[.agg #[.int .i64 s,.slice Ag n cg,.slice Ar nr cr],.agg #[.int .i64 s,.slice Ag2 n cg2,.slice Ar2 nr cr2]] w fun e w'=>e=.returned (.bool true)/\Below w.heap.size w w':=by
 have hx0:=pbox_new w s Ag n cg Ar nr cr 26;have hb0:Below w.heap.size w (w.alloc (.cells #[.int .i64 s,.slice Ag n cg,.slice Ar nr cr] 26)):=(Below.refl _ _).alloc (Nat.le_refl _) _
 have hs0:(w.alloc (.cells #[.int .i64 s,.slice Ag n cg,.slice Ar nr cr] 26)).heap.size=w.heap.size+1:=by simp
 obtain ⟨U,hU⟩:∃ U,w.alloc (.cells #[.int .i64 s,.slice Ag n cg,.slice Ar nr cr] 26)=U:=⟨_,rfl⟩;rw [hU] at hx0 hb0 hs0;have hy0:=pbox_new U s Ag2 n cg2 Ar2 nr cr2 26;have hbU:Below U.heap.size U (U.alloc (.cells #[.int .i64 s,.slice Ag2 n cg2,.slice Ar2 nr cr2] 26)):=(Below.refl _ _).alloc (Nat.le_refl _) _
 have hs1:(U.alloc (.cells #[.int .i64 s,.slice Ag2 n cg2,.slice Ar2 nr cr2] 26)).heap.size=U.heap.size+1:=by simp
 obtain ⟨V,hV⟩:∃ V,U.alloc (.cells #[.int .i64 s,.slice Ag2 n cg2,.slice Ar2 nr cr2] 26)=V:=⟨_,rfl⟩;rw [hV] at hy0 hbU hs1;rw [hs0] at hy0;have hbV:Below w.heap.size w V:=step hb0 hbU;have hxV:=hx0.below (by omega:w.heap.size<U.heap.size) hbU;have HX:=Lib.hid (fun (w':World) (hb:Below V.heap.size V w')=>(⟨hxV.below (by omega) hb,hy0.below (by omega) hb⟩:PBox w' w.heap.size s Ag n cg Ar nr cr/\PBox w' (w.heap.size+1) s Ag2 n cg2 Ar2 nr cr2));have HS:=Lib.hid (sameInts_any Ag Ag2 cg cg2 n n Bg Bg2 g g V (hg.below (hbV.mono hBg)) (hg2.below (hbV.mono hBg2)) hmg)
 have HR:=Lib.hid (fun (w':World) (hb:Below w.heap.size w w')=>h.below (hb.mono hB));have HR2:=Lib.hid (fun (w':World) (hb:Below w.heap.size w w')=>h2.below (hb.mono hB2));have hsame:=same_refl g
 have hne0:(s != s)=false:=by simp
 have hnn:((nr:Int) != (nr:Int))=false:=by simp
 have HVe:Hid ((w.alloc (.cells #[.int .i64 s,.slice Ag n cg,.slice Ar nr cr] 26)).alloc (.cells #[.int .i64 s,.slice Ag2 n cg2,.slice Ar2 nr cr2] 26)=V):=Lib.hid (by rw [hU,hV]);obtain ⟨z0,z1,z2⟩:=id hxV;obtain ⟨y0,y1,y2⟩:=id hy0;have HbV:=Lib.hid hbV;clear hg hg2 h h2 hx0 hy0 hxV hb0 hbU hbV hU hV hs0 hs1
 go_enter Tryz.func29,Tryz.ntmps29
 go_wp2_with fail
 rw [HVe.out];refine HS.out.mono ?_;rintro e w1 ⟨rfl,hb1⟩;rw [hsame];obtain ⟨⟨p0,p1,p2⟩,⟨q0,q1,q2⟩⟩:=HX.out _ hb1;clear z0 z1 z2 y0 y1 y2 hsame
 go_wp2
 go_loopw [5] (fun i wr=>∃ u:Nat,u<=nr/\i=.int .i64 u/\Below V.heap.size V wr) (fun i _=>nr-(intOf i).toNat)
 case atStart=>exact ⟨0,Nat.zero_le _,rfl,hb1⟩
 case round=>
  obtain ⟨u,hu,rfl,hb⟩:=hrel;obtain ⟨⟨c0,c1,c2⟩,⟨d0,d1,d2⟩⟩:=HX.out _ hb;have hbw0:=step HbV.out hb
  by_cases hlt:u<nr
  ·obtain ⟨b,off,rfl,hbB,hcc⟩:=(HR.out _ hbw0).2 (by omega);obtain ⟨b2,off2,rfl,hbB2,hcc2⟩:=(HR2.out _ hbw0).2 (by omega);obtain ⟨A',c',r0,r1,r2,r3,r4⟩:=hcc u hlt;obtain ⟨A'',c'',t0,t1,t2,t3,t4⟩:=hcc2 u hlt;obtain ⟨rk,hrk⟩:∃ x,x=(rat rs u).k:=⟨_,rfl⟩;obtain ⟨rx,hrx⟩:∃ x,x=(rat rs u).xs:=⟨_,rfl⟩;obtain ⟨rvv,hrv⟩:∃ x,x=(rat rs u).v:=⟨_,rfl⟩;rw [<- hrk] at r0 t0;rw [<- hrx] at r1 r3 r4 t1 t3;rw [<- hrv] at r2 t2;have hbw:b<wr.heap.size:=cell_lt r0;have hbw2:b2<wr.heap.size:=cell_lt t0;have HC:=Lib.hid (fun w' (hbb:Below wr.heap.size wr w')=>sameInts_any A' A'' c' c'' rx.length rx.length B B2 rx rx w' (r3.below (hbb.mono (Nat.le_trans hB hbw0.size))) (t3.below (hbb.mono (Nat.le_trans hB2 hbw0.size))) r4)
   have hsr:=same_refl rx;have hin:(u:Int)<(nr:Int):=(by omega);have Hlt:=Lib.hid hlt;have hk1:(rk != rk)=false:=(by simp);have hk2:(rvv != rvv)=false:=(by simp)
   have HK:Hid (∀ w',Below wr.heap.size wr w'->PBox w' w.heap.size s Ag n cg (some ⟨b,off,none⟩) nr cr/\PBox w' (w.heap.size+1) s Ag2 n cg2 (some ⟨b2,off2,none⟩) nr cr2/\w'.cell? ⟨b,off+u*3,none⟩=some (.int .i64 rk)/\w'.cell? ⟨b,off+u*3+1,none⟩=some (.slice A' rx.length c')/\w'.cell? ⟨b,off+u*3+2,none⟩=some (.int .i64 rvv)/\w'.cell? ⟨b2,off2+u*3,none⟩=some (.int .i64 rk)/\w'.cell? ⟨b2,off2+u*3+1,none⟩=some (.slice A'' rx.length c'')/\w'.cell? ⟨b2,off2+u*3+2,none⟩=some (.int .i64 rvv)):=
    Lib.hid (fun w' hb'=>⟨(HX.out _ (step hb hb')).1,(HX.out _ (step hb hb')).2,(hb'.cell (p:=⟨b,off+u*3,none⟩) hbw).trans r0,(hb'.cell (p:=⟨b,off+u*3+1,none⟩) hbw).trans r1,(hb'.cell (p:=⟨b,off+u*3+2,none⟩) hbw).trans r2,(hb'.cell (p:=⟨b2,off2+u*3,none⟩) hbw2).trans t0,(hb'.cell (p:=⟨b2,off2+u*3+1,none⟩) hbw2).trans t1,(hb'.cell (p:=⟨b2,off2+u*3+2,none⟩) hbw2).trans t2⟩)
   clear hrk hrx hrv hcc hcc2 p0 p1 p2 q0 q1 q2
   go_wp2
   go_region_held3 (fun w'=>(w'.cell? ⟨w.heap.size,0,none⟩=some (.int .i64 s)/\w'.cell? ⟨w.heap.size,1,none⟩=some (.slice Ag n cg)/\w'.cell? ⟨w.heap.size,2,none⟩=some (.slice (some ⟨b,off,none⟩) nr cr))/\(w'.cell? ⟨w.heap.size+1,0,none⟩=some (.int .i64 s)/\w'.cell? ⟨w.heap.size+1,1,none⟩=some (.slice Ag2 n cg2)/\w'.cell? ⟨w.heap.size+1,2,none⟩=some (.slice (some ⟨b2,off2,none⟩) nr cr2))/\w'.cell? ⟨b,off+u*3,none⟩=some (.int .i64 rk)/\w'.cell? ⟨b,off+u*3+1,none⟩=some (.slice A' rx.length c')/\w'.cell? ⟨b,off+u*3+2,none⟩=some (.int .i64 rvv)/\w'.cell? ⟨b2,off2+u*3,none⟩=some (.int .i64 rk)/\w'.cell? ⟨b2,off2+u*3+1,none⟩=some (.slice A'' rx.length c'')/\w'.cell? ⟨b2,off2+u*3+2,none⟩=some (.int .i64 rvv))
    (first|go_keep|exact HK.out _ hb5)
    ((go_simp;go_at_call 24;refine (HC.out _ (Below.refl _ _).drew).mono ?_;rintro e w5 ⟨rfl,hb4⟩;have hb5:Below wr.heap.size wr w5:=((Below.refl _ _).drew).trans hb4))
   all_goals
    go_wp2
    go_roundw
    case rel=>exact ⟨u+1,Hlt.out,by go_num,step hb hb5⟩
    case measure=>have:=Hlt.out;simp [intOf];omega
  ·obtain rfl:u=nr:=by omega
   go_wp2
   go_ret
   exact ⟨rfl,hbw0⟩
end Go.Proofs.YtlnmioijgclndaaGreatDoor
namespace Go.Proofs.YtlnmioijgclndaaGreatDoor
def Le0 (a b:List Int):Prop:=a.length=b.length/\∀ i,nth a i=nth b i\/nth a i=0
theorem Le0.refl (a:List Int):Le0 a a:=⟨rfl,fun _=>.inl rfl⟩
theorem Le0.trans {a b c:List Int} (h:Le0 a b) (h':Le0 b c):Le0 a c:=⟨h.1.trans h'.1,fun i=>by
 rcases h.2 i with e|e
 ·rcases h'.2 i with e'|e'
  ·exact .inl (e.trans e')
  ·exact .inr (e.trans e')
 ·exact .inr e⟩
theorem Le0.set (a:List Int) (k:Nat):Le0 (a.set k 0) a:=⟨by simp,nth_set0 a k⟩
structure Mk1 (s n:Nat) (rs:List RuleM) (g gi:List Int):Prop where
 v:pvB s g rs=true
 o:oneB s n g rs=true
 l:Le0 g gi
end Go.Proofs.YtlnmioijgclndaaGreatDoor
namespace Go.Proofs.YtlnmioijgclndaaGreatDoor
open Go.ChangeShapes Go.WideShapes Go.ChangeAt Go.RowKit
theorem OwnP.below {w w':World} {lo n c1 g nr:Nat} {A1:Option Addr} {gi:List Int} {rs:List RuleM} (h:OwnP w lo A1 n c1 gi g nr rs) (hb:Below w.heap.size w w'):OwnP w' lo A1 n c1 gi g nr rs:=by
 obtain ⟨h1,Q,h2,h3,h4⟩:=h;exact ⟨h1.below hb,Q,h2.below hb,fun b hq=>Nat.lt_of_lt_of_le (h3 b hq) hb.size,h4⟩
theorem OwRd.setX {w:World} {lo g n X:Nat} {rs:List RuleM} {Q:Nat->Prop} {k:Nat} {cs cs':Array Value} (h:OwRd w lo g n rs Q k) (hX:w.heap[X]? =some (.cells cs 26)):OwRd (w.setRow X cs') lo g n rs Q k:=by
 obtain ⟨vs,a,b,c⟩:=h;refine ⟨vs,ownsRow_setX a hX (by decide),fun i hi=>?_,c⟩;obtain ⟨A',c',e0,e1,e2,e3,e4,e5⟩:=b i hi;exact ⟨A',c',e0,e1,e2,e3.setX hX,e4,e5⟩
theorem OwnP.setX {w:World} {lo n c1 g nr X:Nat} {A1:Option Addr} {gi:List Int} {rs:List RuleM} {cs cs':Array Value} (h:OwnP w lo A1 n c1 gi g nr rs) (hX:w.heap[X]? =some (.cells cs 26)):OwnP (w.setRow X cs') lo A1 n c1 gi g nr rs:=by
 obtain ⟨h1,Q,h2,h3,h4⟩:=h;exact ⟨h1.setX hX,Q,h2.setX hX,fun b hq=>by have:=h3 b hq;simpa using this,h4⟩
theorem OwnP.mono {w:World} {lo lo' n c1 g nr:Nat} {A1:Option Addr} {gi:List Int} {rs:List RuleM} (h:OwnP w lo A1 n c1 gi g nr rs) (hl:lo'<=lo):OwnP w lo' A1 n c1 gi g nr rs:=by
 obtain ⟨h1,Q,h2,h3,h4⟩:=h;exact ⟨h1.mono hl,Q,h2.mono hl,h3,h4⟩
theorem OwnP.pgc {w:World} {s:Int} {lo n c1 g nr:Nat} {A1:Option Addr} {gi:List Int} {rs:List RuleM} (h:OwnP w lo A1 n c1 gi g nr rs) (hm:n<=1099511627776) (hl:rs.length=nr) (hr:nr<=1099511627776):PGc w s A1 n c1 w.heap.size gi (some ⟨g,0,none⟩) nr nr w.heap.size rs:=by
 obtain ⟨h1,Q,h2,_⟩:=h;exact ⟨h1.rd,Nat.le_refl _,hm,OwR.rdc hl h2.rp.full,Nat.le_refl _,hr⟩
end Go.Proofs.YtlnmioijgclndaaGreatDoor
