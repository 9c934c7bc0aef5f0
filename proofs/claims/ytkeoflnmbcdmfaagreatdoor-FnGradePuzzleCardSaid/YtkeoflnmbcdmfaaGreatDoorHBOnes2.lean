import Derived.Test.YtkeoflnmbcdmfaaGreatDoorHBSp
set_option maxRecDepth 8000
namespace Go.Proofs.YtkeoflnmbcdmfaaGreatDoor
open Go.ChangeShapes Go.WideShapes Go.ChangeAt Go.RowKit
set_option maxHeartbeats 1000000 in
theorem sols_seq (W0:World) (B0 PB s n:Nat) (Ag:Option Addr) (cg:Nat) (gi:List Int) (Ar:Option Addr) (nr cr:Nat) (rs:List RuleM) (hB0:B0<=W0.heap.size) (hs:s∈[2,3,4]) (hn:n=s*s) (hg:Rd W0 B0 Ag n gi) (hr:RdRc W0 B0 Ar nr rs) (hmr:nr<=20) (hv:pvB s gi rs=true) (hT:∀ X,Below B0 W0 X->Tz X):
 SeqP Tryz.prog 123 #[.pointer (some ⟨PB,0,none⟩)] (SBase W0 B0 PB s Ag n cg Ar nr cr) (cv s gi rs (s*s) []):=by
 intro l J Jx W hJb hJs hY h0;obtain ⟨w0,w1⟩:=hJb _ _ h0;have hPB:PB<W.heap.size:=cell_lt w1.1
 have hok:∀ i,i<n->0<=nth gi i/\nth gi i<=(s:Int):=fun i hi=>gv_nth (pv_gv hv).1 (by rw [hg.1];exact hi)
 have HSe:=Lib.hid (search_any W0 B0 s n Ag cg gi Ar nr cr rs W w0 hB0 hs hn hg hr hmr hv);have HAl:=Lib.hid (fun w'=>allItems_any s w' hs);have HC:=Lib.hid (cov_seq hB0 hs hn hv hT hok (fun pre X h=>(hJb _ _ h).1) hJs hY h0);have hlf:lf s [] 0=2^(3*s*s)-1:=rfl;obtain ⟨AL,hAL⟩:∃ AL,AL=2^(3*s*s)-1:=⟨_,rfl⟩;rw [hlf,<-hAL] at HC;rw [<- hAL] at HAl;obtain ⟨CV,hCV⟩:∃ CV,CV=cv s gi rs (s*s) []:=⟨_,rfl⟩;rw [<- hCV] at HC ⊢
 show Calls Tryz.prog 123 #[.func (.yield l) #[] #[],.pointer (some ⟨PB,0,none⟩)] W _
 have HPB:=Lib.hid (fun X (hb:Below W.heap.size W X)=>w1.below hPB hb);obtain ⟨b0,b1,b2⟩:=id w1;clear hJb hJs hY h0 w0 hAL hCV hlf hok hg hr hv hT w1 hn
 go_enter Tryz.func123,Tryz.ntmps123
 go_wp2_with (go_at_call 124;refine HSe.out.mono ?_;rintro e X1 ⟨G,OB,RB,L,rfl,hrest⟩;have HRest:=Lib.hid hrest;clear hrest;unfold sVal)
 obtain ⟨hM,hLX,hSR,ho,hb1⟩:=HRest.out;have hbd:Below X1.heap.size X1 (X1.alloc (.cells #[.slice (some ⟨G,0,none⟩) n n,.slice (some ⟨OB,0,none⟩) n n,.slice (some ⟨RB,0,none⟩) n n] 133)):=(Below.refl _ _).alloc (Nat.le_refl _) _;have HCX:=Lib.hid (fun X' (hb':Below X1.heap.size X1 X')=>HC.out G OB RB L X' hM (Nat.le_trans hLX hb'.size) (hSR.midx (midx_below (lo:=W.heap.size) (G:=G) hb') ⟨hM.2.1,hM.2.2.2.2.2.1⟩ ⟨hM.2.2.1,hM.2.2.2.2.2.2.1⟩ hM.2.2.2.1 hM.2.2.2.2.1) (ho.below hb') (hb1.trans (hb'.mono hb1.size)));unfold sVal at HCX;obtain ⟨c0,c1,c2⟩:=sbox_new X1 G OB RB n 133
 obtain ⟨p0,p1,p2⟩:=HPB.out _ (hb1.trans (hbd.mono hb1.size));clear hSR ho hM hLX HC HSe;clear hb1
 go_wp2
 go_region_with (first
  |(go_at_call 126;refine (HAl.out _).mono ?_;rintro e wq ⟨rfl,rfl⟩)
  |(go_at_call 125;refine (HCX.out _ (by first|exact hbd|exact hbd.drew)).mono ?_;rintro e Y ⟨⟨v,rfl⟩,hYY⟩))
 all_goals
  go_end0
  exact ⟨⟨_,rfl⟩,hYY⟩
theorem solutions_any (s n:Nat) (Ag:Option Addr) (cg:Nat) (Ar:Option Addr) (nr cr:Nat) (w:World):
 Calls Tryz.prog 69 #[.agg #[.int .i64 s,.slice Ag n cg,.slice Ar nr cr]] w fun e w'=>∃ PB,e=.returned (.func (.func 123) #[] #[.pointer (some ⟨PB,0,none⟩)])/\w.heap.size<=PB/\PBox w' PB s Ag n cg Ar nr cr/\Below w.heap.size w w':=by
 have hx0:=pbox_new w s Ag n cg Ar nr cr 26;have hb0:Below w.heap.size w (w.alloc (.cells #[.int .i64 s,.slice Ag n cg,.slice Ar nr cr] 26)):=(Below.refl _ _).alloc (Nat.le_refl _) _
 go_enter Tryz.func69,Tryz.ntmps69
 go_wp2
 go_ret
 exact ⟨w.heap.size,rfl,Nat.le_refl _,hx0,hb0⟩
def sfL (s:Int) (n:Nat) (gi:List Int) (rs:List RuleM):List Int:=(allS s 1 n gi rs).getD 0 []
def sfB (s:Int) (n:Nat) (gi:List Int) (rs:List RuleM):Bool:= !(allS s 1 n gi rs).isEmpty
end Go.Proofs.YtkeoflnmbcdmfaaGreatDoor
namespace Go.Proofs.YtkeoflnmbcdmfaaGreatDoor
theorem fp_parts {s:Int} {gi g:List Int} {rs:List RuleM}:fpB s gi rs g=true↔pvB s gi rs=true/\gv g s=true/\(∀ i,i<g.length->giveOk gi g i=true)/\(∀ i,i<rs.length->rpR s g (rat rs i)=true)/\clash g s=false:=by
 simp only [fpB,fitB,Bool.and_eq_true,List.all_eq_true,List.mem_range,Bool.not_eq_true']
 constructor
 ·rintro ⟨⟨a,b⟩,⟨c,d⟩,e⟩;exact ⟨a,b,c,d,e⟩
 ·rintro ⟨a,b,c,d,e⟩;exact ⟨⟨a,b⟩,⟨c,d⟩,e⟩
theorem ps_is {s:Int} {gi g:List Int} {rs:List RuleM} (hp:pvB s gi rs=true) (hg:gv g s=true):psB s gi rs g=(sqSolved g s&&((List.range rs.length).all fun i=>rhB (rat rs i).k (rat rs i).xs (rat rs i).v g s)&&((List.range g.length).all fun i=>nth gi i==0||nth gi i==nth g i)):=by
 have hl:=gv_len hg
 have hgf:gf g s=(cnz g g.length:Int):=by simp [gf,hg]
 have hli:=gv_len (pv_gv hp).1;unfold psB sqSolved sqFits;rw [hgf,<-hl]
 by_cases hf:cnz g g.length=g.length
 ·have hn:=cnz_all hf
  have e1:((cnz g g.length:Int)==(g.length:Int))=true:=by rw [hf];simp
  rw [e1,Bool.and_true,Bool.and_true,Bool.eq_iff_iff,fp_parts];simp only [Bool.and_eq_true,List.all_eq_true,List.mem_range,Bool.not_eq_true',Bool.or_eq_true,beq_iff_eq,hp,hg,true_and]
  have q1:∀ i,i<rs.length->(rhB (rat rs i).k (rat rs i).xs (rat rs i).v g s=true↔rpR s g (rat rs i)=true):=fun i hi=>by
   rw [rh_full ((pv_gv hp).2.2 i hi) hg hf];exact Iff.rfl
  have q2:∀ i,i<g.length->(giveOk gi g i=true↔(nth gi i=0\/nth gi i=nth g i)):=fun i hi=>by
   have h1:=hn i hi;have h2:=(gv_nth hg hi).1;have h3:=(gv_nth (pv_gv hp).1 (show i<gi.length by omega)).1;simp only [giveOk,Bool.not_eq_true',Bool.and_eq_false_iff,decide_eq_false_iff_not,bne_eq_false_iff_eq];omega
  constructor
  ·rintro ⟨a,b,c⟩;exact ⟨⟨c,fun i hi=>(q1 i hi).2 (b i hi)⟩,fun i hi=>(q2 i hi).1 (a i hi)⟩
  ·rintro ⟨⟨c,b⟩,a⟩;exact ⟨fun i hi=>(q2 i hi).2 (a i hi),fun i hi=>(q1 i hi).1 (b i hi),c⟩
 ·have e1:((cnz g g.length:Int)==(g.length:Int))=false:=by simp only [beq_eq_false_iff_ne];omega
  rw [e1]
  simp
end Go.Proofs.YtkeoflnmbcdmfaaGreatDoor
namespace Go.Proofs.YtkeoflnmbcdmfaaGreatDoor
open Go.ChangeShapes Go.WideShapes Go.ChangeAt Go.RowKit
def sqL (s:Nat):List (List Int):=sols s (s*s) (zeros (s*s)) 0
theorem clash_ext {s:Nat} {g y:List Int} (hs:s∈[2,3,4]) (h:∀ i,i<s*s->nth g i=nth y i\/nth g i=0) (hc:clash g s=true):clash y s=true:=by
 obtain ⟨i,j,hi,hj,ha,e,h0⟩:=(clash_iff hs).1 hc;have ej:nth g j=nth y j:=(h j hj).resolve_right (by omega);have ei:nth g i=nth y i:=(h i hi).resolve_right (by omega);exact (clash_iff hs).2 ⟨i,j,hi,hj,ha,by rw [<- ei,<-ej,e],by rw [<- ej];exact h0⟩
theorem sols_enS {s:Nat} (hs:s∈[2,3,4]):∀ (f p:Nat) (z:List Int),p+f=s*s->z.length=s*s->0<f->(∀ i,p<=i->nth z i=0)->sols s f z p=(enS s f z p).filter fun y=> !clash y s:=by
 intro f
 induction f with
 |zero=>intro p z _ _ h;omega
 |succ f ih=>
  intro p z hp hl _ hz
  have hs4:s<=4:=by simp at hs;omega
  simp only [sols,enS];rw [if_neg (by rw [hz p (Nat.le_refl _)];omega),List.filter_flatMap,Int.toNat_natCast];unfold rep
  have one:∀ v:Nat,(if clash (z.set p (v:Int)) s=true then [] else sols s f (z.set p (v:Int)) (p+1))=(enS s f (z.set p (v:Int)) (p+1)).filter fun y=> !clash y s:=fun v=>by
   have hzs:∀ i,p+1<=i->nth (z.set p (v:Int)) i=0:=fun i hi=>by
    have:nth (z.set p (v:Int)) i=nth z i:=(by simp only [nth,List.getD_eq_getElem?_getD,List.getElem?_set];rw [if_neg (by omega)]);rw [this];exact hz i (by omega)
   by_cases hc:clash (z.set p (v:Int)) s=true
   ·rw [if_pos hc]
    symm
    rw [List.filter_eq_nil_iff];intro y hy hn;obtain ⟨a,b,c⟩:=enS_in f _ _ y hy (by rw [List.length_set];omega)
    have:=clash_ext (g:=z.set p (v:Int)) (y:=y) hs (fun i hi=>by
     by_cases h:i<p+1
     ·exact .inl (b i h).symm
     ·exact .inr (hzs i (by omega))) hc
    rw [this] at hn;cases hn
   ·rw [if_neg hc]
    by_cases hf:0<f
    ·exact ih (p+1) _ (by omega) (by rw [List.length_set];exact hl) hf hzs
    ·obtain rfl:f=0:=by omega
     simp only [sols,enS];rw [List.filter_cons_of_pos (by simpa using hc),List.filter_nil]
  have key:∀ r v,solsFrom (fun ys=>sols s f ys (p+1)) z s p r v=(seqN v r).flatMap fun x=>(enS s f (z.set p x) (p+1)).filter fun y=> !clash y s:=by
   intro r
   induction r with
   |zero=>intro v;rfl
   |succ r ihr=>
    intro v;simp only [solsFrom,seqN,List.flatMap_cons];rw [ihr (v+1),one v]
  exact key s 1
theorem sqL_is {s:Nat} (hs:s∈[2,3,4]):sqL s=(enS s (s*s) (zeros (s*s)) 0).filter fun y=> !clash y s:=
 sols_enS hs (s*s) 0 _ (by omega) (zeros_length _) (by simp at hs;rcases hs with rfl|rfl|rfl<;>decide) (fun i _=>zeros_nth _ i)
theorem flat_one {α β:Type} {L:List α} {f:α->List β} {a:α} (hn:L.Nodup) (ha:a∈L) (h:∀ x∈L,x≠a->f x=[]):L.flatMap f=f a:=by
 induction L with
 |nil=>cases ha
 |cons b L ih=>
  rw [List.flatMap_cons];rw [List.nodup_cons] at hn
  rcases List.mem_cons.1 ha with rfl|h2
  ·rw [flat_none (fun x hx=>h x (List.mem_cons_of_mem _ hx) (fun e=>hn.1 (by rw [<- e];exact hx))),List.append_nil]
  ·rw [h b (List.mem_cons_self ..) (fun e=>hn.1 (by rw [e];exact h2)),List.nil_append];exact ih hn.2 h2 (fun x hx=>h x (List.mem_cons_of_mem _ hx))
theorem seqN_nodup:∀ r v,(seqN v r).Nodup:=by
 intro r
 induction r with
 |zero=>intro v;simp [seqN]
 |succ r ih=>
  intro v;simp only [seqN,List.nodup_cons];refine ⟨fun h=>?_,ih (v+1)⟩;obtain ⟨u,e,h1,_⟩:=seqN_mem.1 h;omega
def agF (g y:List Int) (p m:Nat):Bool:=(List.range m).all fun i=>decide (i<p)|| !(decide (0<nth g i))||(nth y i==nth g i)
theorem agF_iff {g y:List Int} {p m:Nat}:agF g y p m=true↔∀ i,p<=i->i<m->0<nth g i->nth y i=nth g i:=by
 simp only [agF,List.all_eq_true,List.mem_range,Bool.or_eq_true,decide_eq_true_eq,Bool.not_eq_true',decide_eq_false_iff_not,beq_iff_eq]
 constructor
 ·intro h i h1 h2 h3
  rcases h i h2 with (h|h)|h
  ·omega
  ·exact absurd h3 h
  ·exact h
 ·intro h i hi
  by_cases h1:i<p
  ·exact .inl (.inl h1)
  ·by_cases h2:0<nth g i
   ·exact .inr (h i (by omega) hi h2)
   ·exact .inl (.inr h2)
theorem enS_agree {s:Nat}:∀ (f p:Nat) (g z:List Int),p+f=z.length->g.length=z.length->(∀ i,i<p->nth g i=nth z i)->(∀ i,p<=i->nth z i=0)->(∀ i,p<=i->i<p+f->0<nth g i->nth g i∈rep s)->enS s f g p=(enS s f z p).filter fun y=>agF g y p (p+f):=by
 intro f
 induction f with
 |zero=>
  intro p g z hp hl hpre hz hin;obtain rfl:g=z:=ext_nth hl (fun k hk=>hpre k (by omega));simp only [enS];rw [List.filter_cons_of_pos (by exact agF_iff.2 (fun i h1 h2=>by omega)),List.filter_nil]
 |succ f ih=>
  intro p g z hp hl hpre hz hin
  have hset:∀ (x:Int) (i:Nat),p+1<=i->nth (z.set p x) i=0:=fun x i hi=>by
   rw [nth_set (by omega),if_neg (by omega)];exact hz i (by omega)
  have hq:∀ (x:Int) y,y∈enS s f (z.set p x) (p+1)->nth y p=x:=fun x y hy=>by
   obtain ⟨_,b,_⟩:=enS_in f _ _ y hy (by rw [List.length_set];omega);rw [b p (by omega),nth_set (by omega),if_pos rfl]
  simp only [enS];rw [if_neg (show ¬ 0<nth z p by rw [hz p (Nat.le_refl _)];omega),List.filter_flatMap]
  by_cases h0:0<nth g p
  ·rw [if_pos h0,flat_one (a:=nth g p) (show (rep s).Nodup from seqN_nodup s 1) (hin p (Nat.le_refl _) (by omega) h0)]
   ·rw [ih (p+1) g (z.set p (nth g p)) (by rw [List.length_set];omega) (by rw [List.length_set];exact hl) (fun i hi=>by
      rw [nth_set (by omega)]
      by_cases e:p=i
      ·subst e;rw [if_pos rfl]
      ·rw [if_neg e];exact hpre i (by omega)) (hset _) (fun i h1 h2=>hin i (by omega) (by omega))]
    apply List.filter_congr
    intro y hy;rw [Bool.eq_iff_iff,agF_iff,agF_iff]
    constructor
    ·intro h i h1 h2 h3
     by_cases e:i=p
     ·subst e;exact hq _ y hy
     ·exact h i (by omega) (by omega) h3
    ·intro h i h1 h2 h3;exact h i (by omega) (by omega) h3
   ·intro x _ hne;rw [List.filter_eq_nil_iff];intro y hy hag;have:=agF_iff.1 hag p (Nat.le_refl _) (by omega) h0;rw [hq x y hy] at this;exact hne this
  ·rw [if_neg h0]
   apply flat_congr
   intro x hx
   rw [ih (p+1) (g.set p x) (z.set p x) (by rw [List.length_set];omega) (by rw [List.length_set,List.length_set];exact hl) (fun i hi=>by
       rw [nth_set (by omega),nth_set (by omega)]
       split
       ·rfl
       ·exact hpre i (by omega)) (hset x) (fun i h1 h2 h3=>by
        rw [nth_set (by omega),if_neg (by omega)] at h3 ⊢
        exact hin i (by omega) (by omega) h3)]
   apply List.filter_congr
   intro y hy;rw [Bool.eq_iff_iff,agF_iff,agF_iff]
   constructor
   ·intro h i h1 h2 h3
    by_cases e:i=p
    ·subst e;exact absurd h3 h0
    ·have:=h i (by omega) (by omega) (by rw [nth_set (by omega),if_neg (by omega)];exact h3);rw [nth_set (by omega),if_neg (by omega)] at this;exact this
   ·intro h i h1 h2 h3;rw [nth_set (by omega),if_neg (by omega)] at h3 ⊢;exact h i (by omega) (by omega) h3
theorem solL_is {s:Nat} {gi:List Int} {rs:List RuleM} (hv:pvB s gi rs=true):solL s gi rs=(sqL s).filter (psB s gi rs):=by
 obtain ⟨t,ht,hs,hn,_,hok⟩:=pv_grid hv rfl
 obtain rfl:s=t:=by omega
 obtain ⟨hgi,_,hr⟩:=pv_gv hv
 have hl:gi.length=s*s:=by
  simp at hs
  rcases hs with rfl|rfl|rfl<;>omega
 rw [hl] at hok;have hzl:=zeros_length (s*s);unfold solL
 rw [hl,sqL_is hs,enS_agree (s*s) 0 gi (zeros (s*s)) (by omega) (by omega) (fun i hi=>absurd hi (by omega)) (fun i _=>zeros_nth _ i) (fun i _ h2 h3=>by
   have:=hok i (by omega)
   exact rep_mem.2 ⟨(nth gi i).toNat,by omega,by omega,by omega⟩),List.filter_filter,List.filter_filter]
 apply List.filter_congr
 intro y hy;obtain ⟨a,_,c⟩:=enS_in _ _ _ y hy (by omega);rw [hzl] at a c
 have hfull:∀ i,i<s*s->1<=nth y i/\nth y i<=(s:Int):=fun i hi=>by
  obtain ⟨u,e,u1,u2⟩:=rep_mem.1 ((c i (by omega) hi).2 (by rw [zeros_nth];omega));omega
 have hgy:gv y s=true:=okAll_gv' hs a (fun i hi=>by have:=hfull i hi;omega)
 have hps:psB s gi rs y=fpB s gi rs y:=by
  unfold psB
  have:gf y s=(y.length:Int):=by
   unfold gf;rw [if_pos hgy];have:=cnz_full.2 (fun k (hk:k<y.length)=>show nth y k≠0 by have:=hfull k (by omega);omega);rw [this]
  rw [this];simp
 rw [hps,Bool.eq_iff_iff,Bool.and_eq_true,Bool.and_eq_true,agF_iff,fp_parts];simp only [fitB,Bool.and_eq_true,List.all_eq_true,List.mem_range,Bool.not_eq_true']
 constructor
 ·rintro ⟨⟨⟨f1,f2⟩,f3⟩,ag⟩;exact ⟨⟨hv,hgy,f1,f2,f3⟩,f3⟩
 ·rintro ⟨⟨_,_,f1,f2,f3⟩,_⟩;refine ⟨⟨⟨f1,f2⟩,f3⟩,fun i h1 h2 h3=>?_⟩;have:=f1 i (by omega);have hy1:=hfull i (by omega);unfold giveOk at this;simp only [Bool.not_eq_true',Bool.and_eq_false_iff,decide_eq_false_iff_not,bne_eq_false_iff_eq] at this
  rcases this with (h|h)|h
  ·exact absurd h3 h
  ·omega
  ·exact h
end Go.Proofs.YtkeoflnmbcdmfaaGreatDoor
namespace Go.Proofs.YtkeoflnmbcdmfaaGreatDoor
open Go.ChangeShapes Go.WideShapes Go.ChangeAt Go.RowKit Go.Shelf
attribute [local go_sem] Oper.semAt_some
theorem RdRc.more {w:World} {B B':Nat} {A:Option Addr} {n:Nat} {rs:List RuleM} (h:RdRc w B A n rs) (hB:B<=B'):RdRc w B' A n rs:=by
 refine ⟨h.1,fun hn=>?_⟩;obtain ⟨b,off,e,hb,hc⟩:=h.2 hn
 exact ⟨b,off,e,Nat.lt_of_lt_of_le hb hB,fun i hi=>by
  obtain ⟨A',c',e0,e1,e2,e3,e4⟩:=hc i hi
  exact ⟨A',c',e0,e1,e2,e3.more hB,e4⟩⟩
theorem allS_cv {s:Nat} {gi:List Int} {rs:List RuleM} {most n:Nat} (hl:gi.length=n) (hv:pvB s gi rs=true) (h0:0<most) (hn:n=s*s):allS s most n gi rs=(cv s gi rs (s*s) []).take most:=by
 rw [allS_is hl hv h0,<-cv_is hv,hl,hn]
theorem sf_cons {s:Nat} {gi:List Int} {rs:List RuleM} {n:Nat} {y:List Int} {zs:List (List Int)} (hl:gi.length=n) (hv:pvB s gi rs=true) (hn:n=s*s) (h:cv s gi rs (s*s) []=y::zs):sfL s n gi rs=y/\sfB s n gi rs=true:=by
 unfold sfL sfB;rw [allS_cv hl hv (by omega) hn,h];exact ⟨rfl,rfl⟩
theorem sf_nil {s:Nat} {gi:List Int} {rs:List RuleM} {n:Nat} (hl:gi.length=n) (hv:pvB s gi rs=true) (hn:n=s*s) (h:cv s gi rs (s*s) []=[]):sfL s n gi rs=[]/\sfB s n gi rs=false:=by
 unfold sfL sfB;rw [allS_cv hl hv (by omega) hn,h];exact ⟨rfl,rfl⟩
theorem allS_none {s:Int} {gi:List Int} {rs:List RuleM} {most n:Nat} (hv:pvB s gi rs=false):allS s most n gi rs=[]:=by
 unfold allS fpB;rw [hv];rfl
theorem cv_len {s:Nat} {gi:List Int} {rs:List RuleM} {n:Nat} {y:List Int} (hl:gi.length=n) (hv:pvB s gi rs=true) (hn:n=s*s) (hs:s∈[2,3,4]) (h:y∈cv s gi rs (s*s) []):y.length=n:=by
 have e:cv s gi rs (s*s) []=solL s gi rs:=by rw [<- hn,<-hl];exact cv_is hv
 rw [e,solL_is hv] at h;have h1:=(List.mem_filter.1 h).2;unfold psB fpB at h1;simp only [Bool.and_eq_true] at h1;have:=gv_len h1.1.1.2
 simp at hs
 rcases hs with rfl|rfl|rfl<;>omega
theorem below_put_at {N l:Nat} {X:World} (o':Obj) (hN:N<=l) (hl:l<X.heap.size):Below N X (X.putObj l o'):=
 below_put o' hN (Array.getElem?_eq_getElem hl)
theorem Ow.same_own {w w':World} {lo n c:Nat} {A:Option Addr} {xs:List Int} (h:Ow w lo A n c xs) (hn:0<n) (hs:∀ g,(Value.slice A n c).ownBlock=some g->w'.heap[g]? =w.heap[g]?):Ow w' lo A n c xs:=by
 obtain ⟨g,rfl,_,_⟩:=h.form hn;exact h.same (hs g rfl)
theorem cell_none_of_deferred {W:World} {D i:Nat} {o:Option (List Deferred)} (h:W.heap[D]? =some (.deferred o)):W.cell? ⟨D,i,none⟩=none:=by
 unfold World.cell?
 simp [h]
theorem sf_results (tm:Array Value) (X:World) (g h:Nat) (A:Option Addr) (m c:Nat) (b:Bool) (h2:tm[2]?.getD undef=.pointer (some ⟨g,0,none⟩)) (h3:tm[3]?.getD undef=.pointer (some ⟨h,0,none⟩)) (c1:X.cell? ⟨g,0,none⟩=some (.slice A m c)) (c2:X.cell? ⟨h,0,none⟩=some (.bool b)):(results Tryz.f22 tm).run Tryz.prog X=.ok (.tuple #[.slice A m c,.bool b]) X:=by
 simp [results,Tryz.f22,go_sem,h2,h3,c1,c2]
set_option maxHeartbeats 1000000 in
theorem implSolveFirst (s:Int) (Ag:Option Addr) (n cg Bg:Nat) (gi:List Int) (Ar:Option Addr) (nr cr Br:Nat) (rs:List RuleM) (w:World) (hp:PGc w s Ag n cg Bg gi Ar nr cr Br rs) (hT:Tz w):
 Calls Tryz.prog 22 #[.agg #[.int .i64 s,.slice Ag n cg,.slice Ar nr cr]] w fun e w'=>∃ A m c,e=.returned (.tuple #[.slice A m c,.bool (sfB s n gi rs)])/\(sfB s n gi rs=true->m=n)/\Ow w' w.heap.size A m c (sfL s n gi rs)/\Below w.heap.size w w':=by
 have hx0:=pbox_new w s Ag n cg Ar nr cr 26;obtain ⟨W1,hW1⟩:∃ W1,w.alloc (.cells #[.int .i64 s,.slice Ag n cg,.slice Ar nr cr] 26)=W1:=⟨_,rfl⟩;rw [hW1] at hx0
 have hb1:Below w.heap.size w W1:=by rw [<- hW1];exact (Below.refl _ _).alloc (Nat.le_refl _) _
 have hs1:W1.heap.size=w.heap.size+1:=by rw [<- hW1];simp
 obtain ⟨W2,hW2⟩:∃ W2,W1.alloc (.cells #[.slice none 0 0] 23)=W2:=⟨_,rfl⟩
 have hb2:Below W1.heap.size W1 W2:=by rw [<- hW2];exact (Below.refl _ _).alloc (Nat.le_refl _) _
 have hs2:W2.heap.size=w.heap.size+1+1:=by rw [<- hW2];simp [hs1]
 have hr2:W2.heap[w.heap.size+1]? =some (.cells #[.slice none 0 0] 23):=by rw [<- hW2,<-hs1];exact heap_alloc_new _ _
 obtain ⟨W3,hW3⟩:∃ W3,W2.alloc (.cells #[.bool false] 4)=W3:=⟨_,rfl⟩
 have hb3:Below W2.heap.size W2 W3:=by rw [<- hW3];exact (Below.refl _ _).alloc (Nat.le_refl _) _
 have hs3:W3.heap.size=w.heap.size+1+1+1:=by rw [<- hW3];simp [hs2]
 have hr3:W3.heap[w.heap.size+1]? =some (.cells #[.slice none 0 0] 23):=(hb3.block _ (by omega)).trans hr2
 have hq3:W3.heap[w.heap.size+1+1]? =some (.cells #[.bool false] 4):=by rw [<- hW3,<-hs2];exact heap_alloc_new _ _
 have hx3:=(hx0.below (by omega) hb2).below (by omega) hb3;have hbW:Below w.heap.size w W3:=(hb1.trans (hb2.mono (by omega))).trans (hb3.mono (by omega));have HV:=Lib.hid (valid_any s Ag n cg Bg gi Ar nr cr Br rs W3 (hp.below hbW));have HB3:=Lib.hid hbW;have HX3:=Lib.hid hx3;have HR3:=Lib.hid (And.intro hr3 hq3);obtain ⟨z0,z1,z2⟩:=id hx3;clear hb1 hb2 hb3 hr2 hr3 hq3 hx0 hx3 hbW;refine (callsIn_wide (n:=9)).1 ?_;refine callsIn_of_wp_marks Tryz.func22 rfl trivial ?_ rfl;simp only [Tryz.ntmps22,List.size_toArray,List.length_cons,List.length_nil,Nat.reduceAdd,Nat.reduceSub,Array.replicate_succ,Array.replicate_zero,List.push_toArray,List.append_toArray,List.nil_append,List.cons_append]
 cases hv:pvB s gi rs
 ·have H1:sfB s n gi rs=false/\sfL s n gi rs=[]:=by unfold sfB sfL;rw [allS_none hv];exact ⟨rfl,rfl⟩
  rw [H1.1,H1.2];clear H1
  gi_wp2_with ((try refine ⟨trivial,?_⟩);gi_at_call 60;refine (callsIn_wide.2 HV.out).mono ?_;rintro e w4 ⟨rfl,hb4⟩;rw [hv];obtain ⟨hr3,hq3⟩:=HR3.out;have hr4:=(hb4.block _ (by omega)).trans hr3;have hq4:=(hb4.block _ (by omega)).trans hq3;have hcr:=cell_of_row _ _ 0 _ _ (0,0) hr4;have hfr:=frozen_of_row _ _ 0 _ _ hr4;have hcq:=cell_of_row _ _ 0 _ _ (0,0) hq4;have hfq:=frozen_of_row _ _ 0 _ _ hq4)
  have e1:=heap_setCell_same w4 (w.heap.size+1) 0 _ _ (.slice none 0 0) hr4;have e2:=(heap_setCell_other w4 ⟨w.heap.size+1,0,none⟩ (w.heap.size+1+1) (.slice none 0 0) (fun e=>by dsimp only at e;omega)).trans hq4;have e3:=(heap_setCell_other _ ⟨w.heap.size+1+1,0,none⟩ (w.heap.size+1) (.bool false) (fun e=>by dsimp only at e;omega)).trans e1;have e4:=heap_setCell_same _ (w.heap.size+1+1) 0 _ _ (.bool false) e2;exact ⟨_,sf_results _ _ (w.heap.size+1) (w.heap.size+1+1) none 0 0 false rfl rfl (cell_of_row _ _ 0 _ _ (0,0) e3) (cell_of_row _ _ 0 _ _ (0,0) e4),none,0,0,rfl,(fun h=>by cases h),Ow.nil_ _ _,((step HB3.out hb4).setCell (p:=⟨w.heap.size+1,0,none⟩) (by show w.heap.size<=w.heap.size+1;omega) _).setCell (p:=⟨w.heap.size+1+1,0,none⟩) (by show w.heap.size<=w.heap.size+1+1;omega) _⟩
 ·obtain ⟨t,rfl,hs,hnn,hn16,hok⟩:=pv_grid hv hp.g.1
  have hn:n=t*t:=by simp at hs;rcases hs with rfl|rfl|rfl<;>omega
  have hn0:0<n:=by simp at hs;rcases hs with rfl|rfl|rfl<;>omega
  have hgl:=hp.g.1
  have hmr:nr<=20:=by have:=(pv_gv hv).2.1;have:=hp.r.1;omega
  have HG:=Lib.hid (hp.g.more hp.gB);have HR:=Lib.hid (hp.r.more hp.rB);have HT:=Lib.hid (fun X (hb:Below w.heap.size w X)=>hT.below hT.lt hb);have HN:=Lib.hid hn;have HV2:=Lib.hid hv;have Hgl:=Lib.hid hgl;clear hok hnn hn hgl hp hT
  gi_wp2_with (first
   |((try refine ⟨trivial,?_⟩);gi_at_call 60;refine (callsIn_wide.2 HV.out).mono ?_;rintro e w4 ⟨rfl,hb4⟩;rw [hv];have hx4:=HX3.out.below (show w.heap.size<W3.heap.size by omega) hb4;obtain ⟨y0,y1,y2⟩:=id hx4)
   |((try refine ⟨trivial,?_⟩);gi_at_call 69;refine (callsIn_wide.2 (solutions_any t n Ag cg Ar nr cr w4)).mono ?_;rintro e w5 ⟨PB,rfl,hPl,hpb,hb5⟩))
  have h45:=hb5.size;have h34:=hb4.size;have hb35:Below W3.heap.size W3 w5:=hb4.trans (hb5.mono h34);have hb05:Below w.heap.size w w5:=HB3.out.trans (hb35.mono (by omega));obtain ⟨hr3,hq3⟩:=HR3.out;have hr5:=(hb35.block _ (by omega)).trans hr3;have hq5:=(hb35.block _ (by omega)).trans hq3;have hPB:=cell_lt hpb.1
  have d1:w.heap.size+1+1<w5.heap.size:=by omega
  clear z0 z1 z2 y0 y1 y2 hx4 hb4 hb5 hb35 hr3 hq3 hW1 hW2 hW3 hs1 hs2 hs3 h45 h34 hPl hv HV
  refine range_twoP 9 (q:=4) (by rfl) (enters_of Tryz.func123 (by kernel_rfl) rfl) (sols_seq w w.heap.size PB t n Ag cg gi Ar nr cr rs (Nat.le_refl _) hs HN.out HG.out HR.out hmr HV2.out HT.out)
   (fun pre X=>pre=[]/\SBase w w.heap.size PB t Ag n cg Ar nr cr X/\X.heap[w.heap.size+1]? =some (.cells #[.slice none 0 0] 23)/\X.heap[w.heap.size+1+1]? =some (.cells #[.bool false] 4))
   (fun cc X=>cc=.ret/\∃ y zs A c,cv t gi rs (t*t) []=y::zs/\Below w.heap.size w X/\X.heap[w.heap.size+1]? =some (.cells #[.slice A n c] 23)/\Ow X w.heap.size A n c y/\X.heap[w.heap.size+1+1]? =some (.cells #[.bool true] 4)/\∀ g,(Value.slice A n c).ownBlock=some g->w5.heap.size+1<g)
   (fun pre X h=>h.2.1)
   (fun pre X Y h hb=>⟨h.1,⟨h.2.1.1.trans (hb.mono (by omega)),h.2.1.2.below hPB hb⟩,(hb.block _ (by omega)).trans h.2.2.1,(hb.block _ d1).trans h.2.2.2⟩)
   (fun cc X o h hX=>by
     obtain ⟨h1,y,zs,A,c,h2,h3,h4,h5,h6,h7⟩:=h;refine ⟨h1,y,zs,A,c,h2,h3.trans (below_put_at _ (by omega) hX),(World.putObj_heap_other (by omega)).trans h4,?_,(World.putObj_heap_other (by omega)).trans h6,h7⟩
     exact h5.same_own hn0 (fun g e=>World.putObj_heap_other (by have:=h7 g e;omega)))
   ⟨rfl,⟨hb05,hpb⟩,hr5,hq5⟩ ?assign ?body ?done ?stop
  case assign=>
   intro l v W K hK;simp only [List.setIfInBounds_toArray,List.set_cons_zero,List.set_cons_succ] at hK ⊢
   gi_wp2
   exact hK
  case body=>
   rintro l pre x X b n' c' ⟨rfl,⟨hBX,hpX⟩,hrX,hqX⟩ ⟨zs,hzs⟩ hbb hXs hrd;have hxl:=cv_len Hgl.out HV2.out HN.out hs (show x∈cv t gi rs (t*t) [] by rw [hzs];simp)
   obtain rfl:n'=n:=by rw [<- hrd.1];exact hxl
   have HCl:=Lib.hid (clone_any (some ⟨b,0,none⟩) n' c' X.heap.size x X hrd (Nat.le_refl _) hn0 (by omega));have hXl:w.heap.size+1+1<X.heap.size:=(Array.getElem?_eq_some_iff.1 hqX).1;have Hzs:=Lib.hid hzs;have HBX:=Lib.hid hBX;have Hrd:=Lib.hid hrd;clear hzs hxl hpX hBX hrd;simp only [List.setIfInBounds_toArray,List.set_cons_zero,List.set_cons_succ]
   gi_wp2_with ((try refine ⟨trivial,?_⟩);gi_at_call 70;refine (callsIn_wide.2 HCl.out).mono ?_;rintro e w6 ⟨A6,c6,rfl,ho6,hb6⟩;have hr6:=(hb6.block _ (by omega)).trans hrX;have hq6:=(hb6.block _ hXl).trans hqX;have hcr:=cell_of_row _ _ 0 _ _ (0,0) hr6;have hfr:=frozen_of_row _ _ 0 _ _ hr6;have hcq:=cell_of_row _ _ 0 _ _ (0,0) hq6;have hfq:=frozen_of_row _ _ 0 _ _ hq6)
   obtain ⟨g6,rfl,hg6,hgw6⟩:=ho6.form hn0;have e1:=heap_setCell_same w6 (w.heap.size+1) 0 _ _ (.slice (some ⟨g6,0,none⟩) n' c6) hr6;have e2:=(heap_setCell_other w6 ⟨w.heap.size+1,0,none⟩ (w.heap.size+1+1) (.slice (some ⟨g6,0,none⟩) n' c6) (fun e=>by dsimp only at e;omega)).trans hq6;have e3:=(heap_setCell_other _ ⟨w.heap.size+1+1,0,none⟩ (w.heap.size+1) (.bool true) (fun e=>by dsimp only at e;omega)).trans e1;have e4:=heap_setCell_same _ (w.heap.size+1+1) 0 _ _ (.bool true) e2;have hX6:=hb6.size
   have hoE:Ow ((w6.setCell ⟨w.heap.size+1,0,none⟩ (.slice (some ⟨g6,0,none⟩) n' c6)).setCell ⟨w.heap.size+1+1,0,none⟩ (.bool true)) w.heap.size (some ⟨g6,0,none⟩) n' c6 x:=
    (ho6.mono (by omega)).same ((heap_setCell_other _ ⟨w.heap.size+1+1,0,none⟩ g6 (.bool true) (fun e=>by dsimp only at e;omega)).trans (heap_setCell_other w6 ⟨w.heap.size+1,0,none⟩ g6 (.slice (some ⟨g6,0,none⟩) n' c6) (fun e=>by dsimp only at e;omega)))
   refine ⟨(Mid.of_below hb6).trans ((Mid.setCell _ _ _ _ _ (by omega)).trans (Mid.setCell _ _ _ _ _ (by omega))),rfl,x,zs,_,c6,Hzs.out,((HBX.out.trans (hb6.mono (by omega))).setCell (p:=⟨w.heap.size+1,0,none⟩) (by show w.heap.size<=w.heap.size+1;omega) _).setCell (p:=⟨w.heap.size+1+1,0,none⟩) (by show w.heap.size<=w.heap.size+1+1;omega) _,e3,hoE,e4,fun g e=>?_⟩;have e:g6=g:=Option.some.inj e;omega
  case done=>
   rintro D W hD ⟨he,⟨hBX,_⟩,hrX,hqX⟩ hK;obtain ⟨q1,q2⟩:=sf_nil Hgl.out HV2.out HN.out he;have hcr:=cell_of_row _ _ 0 _ _ (0,0) hrX;have hfr:=frozen_of_row _ _ 0 _ _ hrX;have hcq:=cell_of_row _ _ 0 _ _ (0,0) hqX;have hfq:=frozen_of_row _ _ 0 _ _ hqX
   gi_wp2
   have e1:=heap_setCell_same W (w.heap.size+1) 0 _ _ (.slice none 0 0) hrX;have e2:=(heap_setCell_other W ⟨w.heap.size+1,0,none⟩ (w.heap.size+1+1) (.slice none 0 0) (fun e=>by dsimp only at e;omega)).trans hqX;have e3:=(heap_setCell_other _ ⟨w.heap.size+1+1,0,none⟩ (w.heap.size+1) (.bool false) (fun e=>by dsimp only at e;omega)).trans e1;have e4:=heap_setCell_same _ (w.heap.size+1+1) 0 _ _ (.bool false) e2;have e5:=(heap_setCell_other _ ⟨w.heap.size+1+1,0,none⟩ D (.bool false) (fun e=>by dsimp only at e;omega)).trans ((heap_setCell_other W ⟨w.heap.size+1,0,none⟩ D (.slice none 0 0) (fun e=>by dsimp only at e;omega)).trans hK)
   have hbE:=((hBX.setCell (p:=⟨w.heap.size+1,0,none⟩) (by show w.heap.size<=w.heap.size+1;omega) (.slice none 0 0)).setCell (p:=⟨w.heap.size+1+1,0,none⟩) (by show w.heap.size<=w.heap.size+1+1;omega) (.bool false)).trans (below_put (.deferred none) (show w.heap.size<=D by omega) e5);refine ⟨by simp,.inl ⟨_,_,rfl,run_takeDeferred e5,?_⟩⟩;refine ⟨_,sf_results _ _ (w.heap.size+1) (w.heap.size+1+1) none 0 0 false rfl rfl (cell_of_row _ _ 0 _ _ (0,0) ((World.putObj_heap_other (by omega)).trans e3)) (cell_of_row _ _ 0 _ _ (0,0) ((World.putObj_heap_other (by omega)).trans e4)),?_⟩;exact ⟨none,0,0,rfl,Ow.nil_ _ _,hbE⟩
  case stop=>
   rintro D cc W hD ⟨rfl,y,zs,A,c,hc,hBX,hrX,hoX,hqX,hlo⟩ hK;obtain ⟨q1,q2⟩:=sf_cons Hgl.out HV2.out HN.out hc
   gi_wp2
   refine ⟨by simp,.inl ⟨_,_,rfl,run_takeDeferred hK,?_⟩⟩
   have hgD:∀ g,(Value.slice A n c).ownBlock=some g->g≠D:=fun g e e2=>by
    subst e2;obtain ⟨g',e3,_,_⟩:=hoX.form hn0;subst e3;obtain ⟨h1,h2⟩:=hoX.cell (show 0<n from hn0)
    injection e with e
    subst e;rw [cell_none_of_deferred hK] at h1;cases h1
   refine ⟨_,sf_results _ _ (w.heap.size+1) (w.heap.size+1+1) A n c true rfl rfl (cell_of_row _ _ 0 _ _ (0,0) ((World.putObj_heap_other (by omega)).trans hrX)) (cell_of_row _ _ 0 _ _ (0,0) ((World.putObj_heap_other (by omega)).trans hqX)),?_⟩;exact ⟨A,n,c,rfl,rfl,hoX.same_own hn0 (fun g e=>World.putObj_heap_other (fun e2=>hgD g e e2)),hBX.trans (below_put _ (by omega) hK)⟩
end Go.Proofs.YtkeoflnmbcdmfaaGreatDoor
namespace Go.Proofs.YtkeoflnmbcdmfaaGreatDoor
open Go.ChangeShapes Go.WideShapes Go.ChangeAt Go.RowKit
attribute [local go_sem] Oper.semAt_some
theorem below_putC {N l:Nat} {X:World} (o':Obj) (hN:N<=l) (hl:l<X.heap.size):Below N X (X.putObj l o'):=
 below_put (o:=X.heap[l]) o' hN (Array.getElem?_eq_getElem hl)
set_option maxHeartbeats 2000000 in
theorem countUpTo_any {gf:Nat} {lb:Array Value} {Base:World->Prop} {ways:List (List Int)} (M:Nat) (w:World) (hsq:SeqP Tryz.prog gf lb Base ways) (eg:∀ args w,(callFunc gf args).run Tryz.prog w=.ok (.enter gf args) w) (hBs:∀ X,Below w.heap.size w X->Base X) (hM1:0<M) (hM6:M<=600):
 Calls Tryz.prog 114 #[.func (.func gf) #[] lb,.int .i64 (M:Nat)] w fun e w'=>e=.returned (.int .i64 ((ways.take M).length:Nat))/\Below w.heap.size w w':=by
 obtain ⟨W2,hW2⟩:∃ W2,w.alloc (.cells #[.int .i64 (M:Nat)] 3)=W2:=⟨_,rfl⟩
 have hb2:Below w.heap.size w W2:=by rw [<- hW2];exact (Below.refl _ _).alloc (Nat.le_refl _) _
 have hs2:W2.heap.size=w.heap.size+1:=by rw [<- hW2];simp
 have hr2:W2.heap[w.heap.size]? =some (.cells #[.int .i64 (M:Nat)] 3):=by rw [<- hW2];exact heap_alloc_new _ _
 obtain ⟨V5,hV5⟩:∃ V5,W2.alloc (.cells #[.int .i64 0] 3)=V5:=⟨_,rfl⟩
 have hvb:Below W2.heap.size W2 V5:=by rw [<- hV5];exact (Below.refl _ _).alloc (Nat.le_refl _) _
 have hvr:V5.heap[W2.heap.size]? =some (.cells #[.int .i64 0] 3):=by rw [<- hV5];exact heap_alloc_new _ _
 have hvc:=cell_of_row _ _ 0 _ _ (0,0) hvr;have hvf:=frozen_of_row _ _ 0 _ _ hvr
 have hvs:V5.heap.size=W2.heap.size+1:=by rw [<- hV5];simp
 obtain ⟨W5,hW5⟩:∃ W5,V5.setCell ⟨W2.heap.size,0,none⟩ (.int .i64 0)=W5:=⟨_,rfl⟩
 have hb5:Below W2.heap.size W2 W5:=by rw [<- hW5];exact hvb.setCell (p:=⟨W2.heap.size,0,none⟩) (Nat.le_refl _) _
 have hs5:W5.heap.size=W2.heap.size+1:=by rw [<- hW5];simp [World.setCell,hvs]
 have hq5:W5.heap[W2.heap.size]? =some (.cells #[.int .i64 0] 3):=by rw [<- hW5];exact heap_setCell_same V5 W2.heap.size 0 _ _ _ hvr
 rw [hs2] at hvc hvf hW5;have HB5:=Lib.hid (hb2.trans (hb5.mono (by omega)));have HM5:Hid (W5.heap[w.heap.size]? =some (.cells #[.int .i64 (M:Int)] 3)):=Lib.hid ((hb5.block _ (by omega)).trans hr2);have HC5:Hid (W5.heap[w.heap.size+1]? =some (.cells #[.int .i64 ((0:Nat):Int)] 3)):=Lib.hid (by rw [<- hs2];exact hq5)
 have hs55:W5.heap.size=w.heap.size+2:=by omega
 have HS5:=Lib.hid hs55;clear hb2 hr2 hvb hvr hb5 hq5 hs5 hvs hs55;refine (callsIn_wide (n:=9)).1 ?_;refine callsIn_of_wp_marks Tryz.func114 rfl trivial ?_ rfl;simp only [Tryz.ntmps114,List.size_toArray,List.length_cons,List.length_nil,Nat.reduceAdd,Nat.reduceSub,Array.replicate_succ,Array.replicate_zero,List.push_toArray,List.append_toArray,List.nil_append,List.cons_append]
 gi_wp2
 have h5:=HS5.out;obtain ⟨CB,hCB⟩:∃ CB,CB=w.heap.size+1:=⟨_,rfl⟩
 have hq6:W5.heap[CB]? =some (.cells #[.int .i64 ((0:Nat):Int)] 3):=by rw [hCB];exact HC5.out
 have hm6:=HM5.out;have hb06:=HB5.out
 have d1:CB<W5.heap.size:=by omega
 have d2:w.heap.size<CB:=by omega
 have d3:w.heap.size<W5.heap.size:=by omega
 rw [<- hCB];clear hW2 hW5 hV5 hvc hvf hs2 h5 hCB HS5 HC5 HM5 HB5
 refine range_skipP 9 (by rfl) eg hsq
  (fun pre X=>Below w.heap.size w X/\X.heap[CB]? =some (.cells #[.int .i64 ((pre.length:Nat):Int)] 3)/\pre.length<M/\X.heap[w.heap.size]? =some (.cells #[.int .i64 (M:Int)] 3))
  (fun cc X=>cc=.exit 0/\Below w.heap.size w X/\X.heap[CB]? =some (.cells #[.int .i64 (M:Int)] 3)/\M<=ways.length)
  (fun pre X h=>hBs X h.1)
  (fun pre X Y h hb=>⟨h.1.trans (hb.mono (by omega)),(hb.block _ d1).trans h.2.1,h.2.2.1,(hb.block _ d3).trans h.2.2.2⟩)
  (fun cc X o h hX=>⟨h.1,h.2.1.trans (below_putC _ (by omega) hX),(World.putObj_heap_other (by omega)).trans h.2.2.1,h.2.2.2⟩)
  ⟨hb06,hq6,hM1,hm6⟩ ?body ?done ?stop
 case body=>
  rintro l pre x X b n' c' ⟨hBX,hcX,hlt,hmX⟩ ⟨zs,hzs⟩ hbb hXs hrd
  have hlen:(pre++[x]).length=pre.length+1:=by simp
  have hCl:pre.length+1<=ways.length:=by rw [hzs];simp
  obtain ⟨k,hk⟩:∃ k,k=pre.length:=⟨_,rfl⟩;rw [<- hk] at hcX hlt hlen hCl;have hcc:=cell_of_row _ _ 0 _ _ (0,0) hcX;have hfc:=frozen_of_row _ _ 0 _ _ hcX;have hcm:=cell_of_row _ _ 0 _ _ (0,0) hmX;have Hlen:=Lib.hid hlen;have HBX:=Lib.hid hBX;have HcX:=Lib.hid hcX;have HmX:=Lib.hid hmX
  have hk6:k<600:=by omega
  clear hlen hBX hcX hmX hrd hzs hk;simp only [List.setIfInBounds_toArray,List.set_cons_zero,List.set_cons_succ]
  have hm1:W5.heap.size<=X.heap.size:=by omega
  have HCl:=Lib.hid hCl
  have HE:Hid (∀ v:Int,v=(k:Int)+1->(X.setCell ⟨CB,0,none⟩ (.int .i64 ((k:Int)+1))).heap[CB]? =some (.cells #[.int .i64 v] 3)/\(X.setCell ⟨CB,0,none⟩ (.int .i64 ((k:Int)+1))).heap[w.heap.size]? =some (.cells #[.int .i64 (M:Int)] 3)/\Below w.heap.size w (X.setCell ⟨CB,0,none⟩ (.int .i64 ((k:Int)+1)))):=Lib.hid (fun v hv=>by
   subst hv
   exact ⟨heap_setCell_same X CB 0 _ _ (.int .i64 ((k:Int)+1)) HcX.out,(heap_setCell_other X ⟨CB,0,none⟩ w.heap.size _ (fun e=>by dsimp only at e;omega)).trans HmX.out,HBX.out.setCell (p:=⟨CB,0,none⟩) (by show w.heap.size<=CB;omega) _⟩)
  have HM:=Lib.hid (Mid.setCell W5.heap.size CB 0 X (.int .i64 ((k:Int)+1)) d1)
  by_cases e:k+1=M
  ·have hq:((k:Int)+1==(M:Int))=true:=by rw [beq_iff_eq];omega
   have he:=Lib.hid e;clear e hlt hCl
   gi_wp2
   obtain ⟨e1,e2,e3⟩:=HE.out M (by have:=he.out;omega);exact ⟨HM.out,rfl,e3,e1,by have:=he.out;have:=HCl.out;omega⟩
  ·have hq:((k:Int)+1==(M:Int))=false:=by rw [beq_eq_false_iff_ne];omega
   have he:=Lib.hid e;have hl:=Lib.hid hlt;clear e hlt hCl
   gi_wp2
   obtain ⟨e1,e2,e3⟩:=HE.out (((pre++[x]).length:Nat):Int) (by rw [Hlen.out];omega);exact ⟨HM.out,e3,e1,by rw [Hlen.out];have:=he.out;have:=hl.out;omega,e2⟩
 case done=>
  rintro D W hD ⟨hBX,hcX,hlt,_⟩ hK;have hcc:=cell_of_row _ _ 0 _ _ (0,0) hcX;have H2:=Lib.hid (show (ways.take M).length=ways.length by rw [List.length_take];omega);clear hlt
  gi_wp2
  refine ⟨by simp,.inl ⟨_,_,rfl,run_takeDeferred hK,?_⟩⟩;exact ⟨_,results_tmp rfl _ _ _,by rw [H2.out];rfl,hBX.trans (below_put _ (by omega) hK)⟩
 case stop=>
  rintro D cc W hD ⟨rfl,hBX,hcX,hM⟩ hK;have hcc:=cell_of_row _ _ 0 _ _ (0,0) hcX;have H2:=Lib.hid (show (ways.take M).length=M by rw [List.length_take];omega);clear hM
  gi_wp2
  refine ⟨by simp,.inl ⟨_,_,rfl,run_takeDeferred hK,?_⟩⟩;exact ⟨_,results_tmp rfl _ _ _,by rw [H2.out];rfl,hBX.trans (below_put _ (by omega) hK)⟩
end Go.Proofs.YtkeoflnmbcdmfaaGreatDoor
namespace Go.Proofs.YtkeoflnmbcdmfaaGreatDoor
open Go.ChangeShapes Go.WideShapes Go.ChangeAt Go.RowKit Go.Shelf
attribute [local go_sem] Oper.semAt_some
def csI (s:Int) (n:Nat) (gi:List Int) (rs:List RuleM) (most:Int):Int:=if (pvB s gi rs&&inr most 1 600)=true then ((allS s most.toNat n gi rs).length:Nat) else -1
set_option maxHeartbeats 2000000 in
theorem countP_any (s:Int) (Ag:Option Addr) (n cg Bg:Nat) (gi:List Int) (Ar:Option Addr) (nr cr Br:Nat) (rs:List RuleM) (M:Nat) (w:World) (hp:PGc w s Ag n cg Bg gi Ar nr cr Br rs) (hv:pvB s gi rs=true) (hM1:0<M) (hM6:M<=600) (hT:Tz w):
 Calls Tryz.prog 61 #[.agg #[.int .i64 s,.slice Ag n cg,.slice Ar nr cr],.int .i64 (M:Nat)] w fun e w'=>e=.returned (.int .i64 ((allS s M n gi rs).length:Nat))/\Below w.heap.size w w':=by
 have hx0:=pbox_new w s Ag n cg Ar nr cr 26;have hb0:Below w.heap.size w (w.alloc (.cells #[.int .i64 s,.slice Ag n cg,.slice Ar nr cr] 26)):=(Below.refl _ _).alloc (Nat.le_refl _) _;obtain ⟨z0,z1,z2⟩:=id hx0;obtain ⟨t,rfl,hs,hnn,hn16,hok⟩:=pv_grid hv hp.g.1
 have hn:n=t*t:=by simp at hs;rcases hs with rfl|rfl|rfl<;>omega
 have hmr:nr<=20:=by have:=(pv_gv hv).2.1;have:=hp.r.1;omega
 have H1:=Lib.hid (show ((allS t M n gi rs).length:Nat)=((cv t gi rs (t*t) []).take M).length by rw [allS_cv hp.g.1 hv hM1 hn]);have hg:=hp.g.more hp.gB;have hr:=hp.r.more hp.rB;have HC:=Lib.hid (fun (PB:Nat) (w6:World) (hPB:w.heap.size<=PB) (hpb:PBox w6 PB t Ag n cg Ar nr cr) (h06:Below w.heap.size w w6)=>countUpTo_any M w6 (sols_seq w w.heap.size PB t n Ag cg gi Ar nr cr rs (Nat.le_refl _) hs hn hg hr hmr hv (fun X hX=>hT.below hT.lt hX)) (enters_of Tryz.func123 (by kernel_rfl) rfl) (fun X hX=>⟨h06.trans (hX.mono h06.size),hpb.below (cell_lt hpb.1) hX⟩) hM1 hM6)
 have HSL:=Lib.hid (fun W=>solutions_any t n Ag cg Ar nr cr W);clear hok hnn hn hg hr hv hp hT hx0
 go_enter Tryz.func61,Tryz.ntmps61
 go_wp2_with (first
  |(go_at_call 69;refine (HSL.out _).mono ?_;rintro e w6 ⟨PB,rfl,hPl,hpb,hb6⟩;have h06:=step hb0 hb6;have hPl2:=Nat.le_trans hb0.size hPl)
  |(go_at_call 114;refine (HC.out PB w6 hPl2 hpb h06).mono ?_;rintro e w7 ⟨rfl,hb7⟩))
 go_ret
 exact ⟨by rw [H1.out,List.length_take];rfl,step h06 hb7⟩
set_option maxHeartbeats 2000000 in
theorem implCountSolutions (s:Int) (Ag:Option Addr) (n cg Bg:Nat) (gi:List Int) (Ar:Option Addr) (nr cr Br:Nat) (rs:List RuleM) (most:Int) (w:World) (hp:PGc w s Ag n cg Bg gi Ar nr cr Br rs) (hT:Tz w):
 Calls Tryz.prog 16 #[.agg #[.int .i64 s,.slice Ag n cg,.slice Ar nr cr],.int .i64 most] w fun e w'=>e=.returned (.int .i64 (csI s n gi rs most))/\Below w.heap.size w w':=by
 have hx0:=pbox_new w s Ag n cg Ar nr cr 26;have hb0:Below w.heap.size w (w.alloc (.cells #[.int .i64 s,.slice Ag n cg,.slice Ar nr cr] 26)):=(Below.refl _ _).alloc (Nat.le_refl _) _
 have hs0:w.heap.size<(w.alloc (.cells #[.int .i64 s,.slice Ag n cg,.slice Ar nr cr] 26)).heap.size:=by simp
 obtain ⟨z0,z1,z2⟩:=id hx0;have HV:=Lib.hid (valid_any s Ag n cg Bg gi Ar nr cr Br rs _ (hp.below hb0));cases hv:pvB s gi rs
 ·have H1:=Lib.hid (show csI s n gi rs most= -1 by simp [csI,hv])
  go_enter Tryz.func16,Tryz.ntmps16
  go_wp2_with (go_at_call 60;refine HV.out.mono ?_;rintro e w4 ⟨rfl,hb4⟩;rw [hv])
  go_ret
  exact ⟨by rw [H1.out];rfl,step hb0 hb4⟩
 ·by_cases hlo:most<1
  ·have H1:=Lib.hid (show csI s n gi rs most= -1 by
    have:inr most 1 600=false:=(by unfold inr;simp;omega)
    simp [csI,this])
   go_enter Tryz.func16,Tryz.ntmps16
   go_wp2_with (go_at_call 60;refine HV.out.mono ?_;rintro e w4 ⟨rfl,hb4⟩;rw [hv])
   go_ret
   exact ⟨by rw [H1.out];rfl,step hb0 hb4⟩
  ·by_cases hhi:600<most
   ·have H1:=Lib.hid (show csI s n gi rs most= -1 by
     have:inr most 1 600=false:=(by unfold inr;simp;omega)
     simp [csI,this])
    go_enter Tryz.func16,Tryz.ntmps16
    go_wp2_with (go_at_call 60;refine HV.out.mono ?_;rintro e w4 ⟨rfl,hb4⟩;rw [hv])
    go_ret
    exact ⟨by rw [H1.out];rfl,step hb0 hb4⟩
   ·obtain ⟨M,rfl⟩:=Int.eq_ofNat_of_zero_le (show 0<=most by omega)
    have H1:=Lib.hid (show csI s n gi rs (M:Nat)=((allS s M n gi rs).length:Nat) by
     have:inr (M:Int) 1 600=true:=(by unfold inr;simp;omega)
     simp only [csI,hv,this,Bool.true_and,if_true,Int.toNat_natCast])
    have HC:=Lib.hid (fun w' (hb:Below w.heap.size w w')=>countP_any s Ag n cg Bg gi Ar nr cr Br rs M w' (hp.below hb) hv (by omega) (by omega) (hT.below hT.lt hb))
    go_enter Tryz.func16,Tryz.ntmps16
    go_wp2_with (first
     |(go_at_call 60;refine HV.out.mono ?_;rintro e w4 ⟨rfl,hb4⟩;rw [hv];have h04:=step hb0 hb4;obtain ⟨y0,y1,y2⟩:=hx0.below hs0 hb4)
     |(go_at_call 61;refine (HC.out _ h04).mono ?_;rintro e w5 ⟨rfl,hb5⟩))
    go_ret
    exact ⟨by rw [H1.out];rfl,step h04 hb5⟩
end Go.Proofs.YtkeoflnmbcdmfaaGreatDoor
namespace Go.Proofs.YtkeoflnmbcdmfaaGreatDoor
open Go.ChangeShapes Go.WideShapes Go.ChangeAt Go.RowKit
theorem cv_sqL {s:Nat} {gi:List Int} {rs:List RuleM} {n:Nat} (hl:gi.length=n) (hv:pvB s gi rs=true) (hn:n=s*s):cv s gi rs (s*s) []=(sqL s).filter (psB s gi rs):=by
 rw [<- solL_is hv,<-hn,<-hl];exact cv_is hv
theorem start_em {gi:List Int} {s n:Nat} (hl:gi.length=n) (hok:∀ k,k<n->0<=nth gi k) (hs:s∈[2,3,4]):mapTo (startC gi s) n=emL gi s:=by
 apply ext_nth (by rw [mapTo_length,emL_len_ hl])
 intro k hk;rw [mapTo_length] at hk;rw [mapTo_nth hk,emL_at hl hk];have h0:=hok k hk;unfold startC emN
 by_cases e:nth gi k=0
 ·rw [if_neg (by omega),if_pos e]
  simp at hs
  rcases hs with rfl|rfl|rfl<;>rfl
 ·rw [if_pos (by omega),if_neg e]
  simp
theorem implStartMasks (s:Int) (Ag:Option Addr) (n cg Bg:Nat) (gi:List Int) (Ar:Option Addr) (nr cr Br:Nat) (rs:List RuleM) (w:World) (hp:PGc w s Ag n cg Bg gi Ar nr cr Br rs):
 Calls Tryz.prog 30 #[.agg #[.int .i64 s,.slice Ag n cg,.slice Ar nr cr]] w (RetSl w (startL s gi rs n)):=by
 have hx0:=pbox_new w s Ag n cg Ar nr cr 26;have hb0:Below w.heap.size w (w.alloc (.cells #[.int .i64 s,.slice Ag n cg,.slice Ar nr cr] 26)):=(Below.refl _ _).alloc (Nat.le_refl _) _
 have hs0:w.heap.size<(w.alloc (.cells #[.int .i64 s,.slice Ag n cg,.slice Ar nr cr] 26)).heap.size:=by simp
 obtain ⟨z0,z1,z2⟩:=id hx0;have HV:=Lib.hid (valid_any s Ag n cg Bg gi Ar nr cr Br rs _ (hp.below hb0));cases hv:pvB s gi rs
 ·have HL:=Lib.hid (show startL s gi rs n=[] by simp [startL,hv])
  go_enter Tryz.func30,Tryz.ntmps30
  go_wp2_with (go_at_call 60;refine HV.out.mono ?_;rintro e w1 ⟨rfl,hb1⟩;rw [hv])
  go_ret
  rw [HL.out];exact ⟨_,_,rfl,Ow.nil_ _ _,step hb0 hb1⟩
 ·obtain ⟨t,rfl,hs,_,hn16,hok⟩:=pv_grid hv hp.g.1
  have hs4:t<=4:=by simp at hs;omega
  have hlen:=hp.g.1
  have HL:=Lib.hid (show startL t gi rs n=emL gi t by
   rw [<- start_em hlen (fun k hk=>(hok k hk).1) hs]
   simp [startL,hv])
  have Hel:=Lib.hid (emL_len_ (s:=t) hlen);have HO:=Lib.hid (fun w' (hb:Below w.heap.size w w')=>openMasks_any Ag cg n Bg gi t w' (hp.below hb).g (hp.below hb).gB hn16 hs (fun i hi=>by have:=hok i hi;omega));clear hok
  go_enter Tryz.func30,Tryz.ntmps30
  go_wp2_with (first
   |(go_at_call 60;refine HV.out.mono ?_;rintro e w1 ⟨rfl,hb1⟩;rw [hv];have h01:=step hb0 hb1;obtain ⟨c0,c1,c2⟩:=hx0.below hs0 hb1)
   |(go_at_call 82;refine (HO.out _ h01).mono ?_;rintro e w2 ⟨A2,c2',rfl,ho2,hb2⟩))
  go_ret
  rw [HL.out];exact ⟨_,_,rfl,ho2.mono h01.size,step h01 hb2⟩
theorem start_mvdM {s:Int} {gi:List Int} {rs:List RuleM} {n:Nat} (hl:gi.length=n) (hv:pvB s gi rs=true):(startL s gi rs n).length=n/\mvd (startL s gi rs n) s=true:=by
 obtain ⟨t,rfl,hs,hn,_,hok⟩:=pv_grid hv hl
 have e:startL t gi rs n=mapTo (startC gi t) n:=by simp [startL,hv]
 rw [e];refine ⟨mapTo_length _ _,?_⟩;simp only [mvd,Bool.and_eq_true,beq_iff_eq,mapTo_length,Int.toNat_natCast];refine ⟨⟨by simp at hs;simp [inr];omega,hn⟩,allTo_all (n:=n) (fun k hk=>?_) (mapTo_length _ _)⟩;rw [mapTo_nth hk];obtain ⟨y0,y1⟩:=hok k hk;unfold startC
 have hk4:nth gi k=0\/nth gi k=1\/nth gi k=2\/nth gi k=3\/nth gi k=4:=by simp at hs;omega
 simp at hs
 rcases hs with rfl|rfl|rfl<;>rcases hk4 with h|h|h|h|h<;>rw [h] at y1 ⊢ <;>first|(exfalso;revert y1;decide)|decide
theorem start_have {t:Nat} {gi y:List Int} {rs:List RuleM} {n:Nat} (hs:t∈[2,3,4]) (hl:gi.length=n) (hp:psB t gi rs y=true):mhB (startL t gi rs n) t y=true:=by
 unfold psB at hp;rw [Bool.and_eq_true] at hp;obtain ⟨hpv,hg,h1,_,_⟩:=fp_parts.1 hp.1;obtain ⟨hsl,hsv⟩:=start_mvdM hl hpv
 have hgf:gf y t=(cnz y y.length:Int):=by simp [gf,hg]
 have hc:cnz y y.length=y.length:=by have:=hp.2;rw [hgf,beq_iff_eq] at this;omega
 have hn:=cnz_all hc
 have e:startL t gi rs n=mapTo (startC gi t) n:=by simp [startL,hpv]
 have hyl:=gv_len hg;have hgl:=gv_len (pv_gv hpv).1
 have hyn:y.length=n:=by omega
 unfold mhB;rw [hsv,hg,Bool.true_and,Bool.true_and];refine all_done (fun k hk=>?_);have a1:=hn k hk;have a2:=gv_nth hg hk;have a3:=gv_nth (pv_gv hpv).1 (show k<gi.length by omega);have a4:=h1 k hk;rw [hyn] at hk;unfold inMask;rw [e,mapTo_nth hk];unfold startC;unfold giveOk at a4
 have t4:t=2\/t=3\/t=4:=by simpa using hs
 have y4:nth y k=1\/nth y k=2\/nth y k=3\/nth y k=4:=by omega
 have g4:nth gi k=0\/nth gi k=1\/nth gi k=2\/nth gi k=3\/nth gi k=4:=by omega
 clear hs hl hp hpv hg h1 hsl hsv hgf hc hn e hyl hgl hyn hk
 generalize nth y k=a at*
 generalize nth gi k=b at*
 rcases t4 with rfl|rfl|rfl<;>rcases y4 with rfl|rfl|rfl|rfl<;>rcases g4 with rfl|rfl|rfl|rfl|rfl<;>first|decide|(exfalso;omega)|(exfalso;revert a4;decide)
theorem sf_psM {s:Nat} {gi:List Int} {rs:List RuleM} {n:Nat} (hl:gi.length=n) (hv:pvB s gi rs=true) (hn:n=s*s) (h:sfB s n gi rs=true):psB s gi rs (sfL s n gi rs)=true:=by
 cases e:cv s gi rs (s*s) [] with
 |nil=>rw [(sf_nil hl hv hn e).2] at h;cases h
 |cons y zs=>
  rw [(sf_cons hl hv hn e).1]
  have:y∈(sqL s).filter (psB s gi rs):=by rw [<- cv_sqL hl hv hn,e];exact List.mem_cons_self ..
  exact (List.mem_filter.1 this).2
def stV (s:Int):List (Nat×List Int)->List Value
 |[]=>[]
 |x::L=>.int .i64 (x.1:Nat)::.int .i64 (mcI x.2 s)::stV s L
def OwS (w:World) (lo:Nat) (A:Option Addr) (n c:Nat) (s:Int) (L:List (Nat×List Int)):Prop:=L.length=n/\w.ownsRow lo 59 2 (.slice A n c) n (stV s L)
theorem OwS.below {w w':World} {lo n c:Nat} {A:Option Addr} {s:Int} {L:List (Nat×List Int)} (h:OwS w lo A n c s L) (hb:Below w.heap.size w w'):OwS w' lo A n c s L:=
 ⟨h.1,World.ownsRow.kept h.2 (row:=none) ⟨hb.os,hb.tape,hb.output,hb.size,fun k hk _=>hb.block k hk⟩ (by
   cases e:(Value.slice A n c).ownBlock
   ·exact .inl rfl
   ·exact .inr (by simp))⟩
theorem OwS.mono {w:World} {lo lo' n c:Nat} {A:Option Addr} {s:Int} {L:List (Nat×List Int)} (h:OwS w lo A n c s L) (hl:lo'<=lo):OwS w lo' A n c s L:=by
 obtain ⟨h0,h1,h2⟩:=h;refine ⟨h0,h1,?_⟩
 rcases h2 with h2|⟨g,cap,cur,a,b,r⟩
 ·exact .inl h2
 ·exact .inr ⟨g,cap,cur,a,Nat.le_trans hl b,r⟩
def sat (L:List (Nat×List Int)) (i:Nat):Nat×List Int:=L.getD i (0,[])
theorem stV_at (s:Int):∀ (L:List (Nat×List Int)) (i:Nat),i<L.length->(stV s L)[i*2]? =some (.int .i64 ((sat L i).1:Nat))/\(stV s L)[i*2+1]? =some (.int .i64 (mcI (sat L i).2 s)):=by
 intro L
 induction L with
 |nil=>intro i h;exact absurd h (by simp)
 |cons x L ih=>
  intro i h
  match i with
  |0=>exact ⟨rfl,rfl⟩
  |i+1=>
   have:=ih i (by simpa using h);simp only [stV,sat,List.getD_cons_succ];rw [show (i+1)*2=i*2+1+1 by omega];simp only [List.getElem?_cons_succ];exact this
def RdS (w:World) (B:Nat) (A:Option Addr) (n:Nat) (s:Int) (L:List (Nat×List Int)):Prop:=
 L.length=n/\(0<n->∃ b off,A=some ⟨b,off,none⟩/\b<B/\∀ i,i<n->w.cell? ⟨b,off+i*2,none⟩=some (.int .i64 ((sat L i).1:Nat))/\w.cell? ⟨b,off+i*2+1,none⟩=some (.int .i64 (mcI (sat L i).2 s)))
theorem RdS.below {w w':World} {B n:Nat} {A:Option Addr} {s:Int} {L:List (Nat×List Int)} (h:RdS w B A n s L) (hb:Below B w w'):RdS w' B A n s L:=
 ⟨h.1,fun hn=>by
   obtain ⟨b,off,e,hl,hc⟩:=h.2 hn
   exact ⟨b,off,e,hl,fun i hi=>by
    obtain ⟨h1,h2⟩:=hc i hi
    exact ⟨(World.cell?_of_block (a:=⟨b,off+i*2,none⟩) (hb.block b hl)).trans h1,(World.cell?_of_block (a:=⟨b,off+i*2+1,none⟩) (hb.block b hl)).trans h2⟩⟩⟩
theorem OwS.rd {w:World} {lo n c:Nat} {A:Option Addr} {s:Int} {L:List (Nat×List Int)} (h:OwS w lo A n c s L):RdS w w.heap.size A n s L:=by
 refine ⟨h.1,fun hn=>?_⟩;obtain ⟨h0,hvl,hcase⟩:=h
 rcases hcase with ⟨_,h0⟩|⟨g,cap,cur,hv,hlog,hrow,h1,h2,h3,h4⟩
 ·omega
 ·injection hv with hA _ _
  subst hA;have hlt:g<w.heap.size:=(Array.getElem?_eq_some_iff.1 hrow).1
  have hcell:∀ j u,(stV s L)[j]? =some u->w.cell? ⟨g,0+j,none⟩=some u:=fun j u hj=>by
   rw [Nat.zero_add,cell_of_row w g j cur _ _ hrow];rw [<- h4,List.getElem?_take] at hj
   split at hj
   ·simpa using hj
   ·cases hj
  refine ⟨g,0,rfl,hlt,fun i hi=>?_⟩;obtain ⟨e0,e1⟩:=stV_at s L i (by omega);exact ⟨hcell _ _ e0,by rw [Nat.add_assoc];exact hcell _ _ e1⟩
theorem line_inS {s u:Nat} (hs:s∈[2,3,4]) (hu:u<2*s):∀ j,j<s->∃ q:Nat,lineAt s u j=(q:Int)/\lcN s u j=q/\q<s*s:=by
 intro j hj;have h:=line_at hs hu j hj
 have h0:0<=lineAt s u j:=by
  simp at hs
  by_cases hx:(u:Int)<(s:Int)
  ·rw [lineAt_row hx]
   rcases hs with rfl|rfl|rfl<;>omega
  ·rw [lineAt_col hx]
   rcases hs with rfl|rfl|rfl<;>omega
 exact ⟨(lineAt s u j).toNat,by omega,rfl,h⟩
theorem lineCells_lineS {f:Nat} {s u:Nat} {w:World} (hs:s∈[2,3,4]) (hu:u<2*s) (h:Calls Tryz.prog f #[.int .i64 s,.int .i64 u] w (RetSl w (lineL s u))):
 Calls Tryz.prog f #[.int .i64 s,.int .i64 u] w fun e w''=>∃ A3 c3,e=.returned (.slice A3 s c3)/\Ow w'' w.heap.size A3 s c3 (lineTo s u s)/\Below w.heap.size w w'':=by
 refine h.mono ?_;rintro e w'' ⟨A3,c3,rfl,ho3,hb3⟩
 have e1:lineL s u=lineTo s u s:=by
  have:lineOk s u=true:=by simp [lineOk,inr];simp at hs;omega
  simp [lineL,this]
 rw [e1,lineTo_length] at ho3;rw [e1,lineTo_length];exact ⟨A3,c3,rfl,ho3,hb3⟩
set_option maxHeartbeats 1000000 in
theorem singlesIn_any (A:Option Addr) (c n B:Nat) (m:List Int) (s:Int) (w:World) (h:Rd w B A n m) (hBm:B<=w.heap.size) (hv:mvd m s=true) (hT:Tz w):
 Calls Tryz.prog 193 #[.slice A n c] w fun e w'=>∃ A' c',e=.returned (.slice A' (sQ m n).length c')/\OwF w' w.heap.size A' (sQ m n).length c' (sQ m n)/\Below w.heap.size w w':=by
 have hlen:=h.1;obtain ⟨_,_,hn16,_⟩:=mvd_at hv;rw [hlen] at hn16;have Hv:=Lib.hid hv;clear hv hlen
 go_enter Tryz.func193,Tryz.ntmps193
 go_wp2
 go_loopw [3,9] (fun qv i wr=>∃ (u k:Nat) (A':Option Addr) (c':Nat),u<=n/\i=.int .i64 u/\qv=.slice A' k c'/\Hid ((sQ m u).length=k)/\OwF wr w.heap.size A' k c' (sQ m u)/\Below w.heap.size w wr) (fun _ i _=>n-(intOf i).toNat)
 case atStart=>exact ⟨0,0,none,0,Nat.zero_le _,rfl,rfl,Lib.hid rfl,World.ownsRow_nil _ _ _ _,Below.refl _ _⟩
 case round=>
  obtain ⟨u,k,A',c',hu,rfl,rfl,hk,ho,hb⟩:=hrel
  by_cases hlt:u<n
  ·have hltI:(u:Int)<(n:Int):=by omega
   obtain ⟨b,off,rfl,hbB,hck⟩:=(h.below (hb.mono hBm)).at_ hlt;have hsw:=hb.size;have hTr:=hT.below hT.lt hb;have hk16:k<=16:=(by have:=hk.out;have:=sQ_len m u;omega);have hk11:k<=1099511627776:=(by omega);obtain ⟨x0,x1,x2⟩:=mvd_nth Hv.out u;obtain ⟨M,hM⟩:=Int.eq_ofNat_of_zero_le x0;have hm2:M%2=0:=(by rw [hM,Int.tmod_eq_emod_of_nonneg (by omega)] at x2;omega);have hM32:M<32:=(by omega);have Hone:=Lib.hid (fun w hT=>onlyValue_any M hM32 hm2 w hT);rw [show oneOf (bitsTo M 4)=oneOf (maskVals (nth m u)) by rw [hM,mv_bits hM32 hm2]] at Hone;rw [hM] at hck;have Hs:Hid (sQ m (u+1)=if oneOf (maskVals (nth m u))=0 then sQ m u else sQ m u++[(u,(oneOf (maskVals (nth m u))).toNat)]):=Lib.hid rfl
   rcases one_at Hv.out u with ⟨_,v,v1,v4,hov,_⟩|⟨_,h0⟩
   ·rw [hov] at Hone Hs;have hne:((v:Int) != 0)=true:=(by simp;omega);obtain ⟨L,hL⟩:∃ L,sQ m u=L:=⟨_,rfl⟩;have Hs':=Lib.hid (show sQ m (u+1)=L++[(u,v)] by rw [Hs.out,if_neg (by omega),hL];simp);have hk':=Lib.hid (show L.length=k by rw [<- hL];exact hk.out);rw [hL] at ho;have HO:=Lib.hid ho;clear x0 x1 x2 hM hm2 hov Hs hL ho hk
    go_wp2_with (first
     |(go_at_call 84;refine (Hone.out _ hTr).mono ?_;rintro e w' ⟨rfl,rfl⟩;have ho5:=HO.out)
     |(at_builtin;refine push_found rfl (.tmp 18) (.tmp 22) rfl w.heap.size A' k c' _ u v rfl rfl ho5 hk11 hsw ?_;intro A4 c4 w4 ho4 hg4))
    have hb4:Below w.heap.size w w4:=(hb.alloc hsw _).grown hg4 (by simp;omega) (fun j hj=>(World.ownsRow.lt HO.out j hj).1)
    go_roundw
    case rel=>exact ⟨u+1,k+1,A4,c4,by omega,by go_num,rfl,Lib.hid (by rw [Hs'.out,List.length_append,hk'.out];rfl),by rw [Hs'.out];exact ho4,hb4⟩
    case measure=>simp [intOf];omega
   ·rw [h0] at Hone Hs;have Hs':=Lib.hid (show sQ m (u+1)=sQ m u by rw [Hs.out,if_pos rfl]);clear x0 x1 x2 hM hm2 h0 Hs
    go_wp2_with (go_at_call 84;refine (Hone.out _ hTr).mono ?_;rintro e w' ⟨rfl,rfl⟩)
    go_roundw
    case rel=>exact ⟨u+1,k,A',c',by omega,by go_num,rfl,Lib.hid (by rw [Hs'.out];exact hk.out),by rw [Hs'.out];exact ho,hb⟩
    case measure=>simp [intOf];omega
  ·obtain rfl:u=n:=by omega
   go_wp2
   go_ret
   rw [hk.out];exact ⟨_,_,rfl,ho,hb⟩
def clTo (S:Nat) (o:List Int) (k v:Nat):Nat->List Int
 |0=>o
 |1=>cIn S (k/S) k (2^v) o S
 |_=>clQ S o (k,v)
def lnAt (S k:Nat):Nat->Nat
 |0=>k/S
 |_=>S+k%S
theorem clTo_step {S:Nat} {o:List Int} {k v j:Nat} (hj:j<2):clTo S o k v (j+1)=cIn S (lnAt S k j) k (2^v) (clTo S o k v j) S:=by
 have:j=0\/j=1:=by omega
 rcases this with rfl|rfl<;>rfl
set_option maxHeartbeats 2000000 in
theorem clearLines_any (g n cc lo s k v:Nat) (o:List Int) (w:World) (ho:Ow w lo (some ⟨g,0,none⟩) n cc o) (hs:s∈[2,3,4]) (hn:n=s*s) (hk:k<n) (hv1:1<=v) (hv4:v<=4):
 Calls Tryz.prog 194 #[.slice (some ⟨g,0,none⟩) n cc,.int .i64 s,.agg #[.int .i64 k,.int .i64 v]] w fun e w'=>e=.returned (.tuple #[])/\Ow w' lo (some ⟨g,0,none⟩) n cc (clQ s o (k,v))/\w.grownBy w' (some g):=by
 have hs2:2<=s:=by simp at hs;omega
 have hs4:s<=4:=by simp at hs;omega
 have hk16:k<16:=by simp at hs;rcases hs with rfl|rfl|rfl<;>omega
 have hgw:=ho.own_hi g rfl;obtain ⟨hr8,hc8⟩:=rc_lt s hs k (by rw [<- hn];exact hk)
 have Hln:Hid (∀ j,lnAt s k j<2*s):=Lib.hid (fun j=>by
  have hs0:0<s:=by omega
  unfold lnAt
  split
  ·have:k/s<s:=Nat.div_lt_of_lt_mul (by rw [<- hn];exact hk);omega
  ·have:=Nat.mod_lt k hs0;omega)
 have Hs:=Lib.hid hs;have Hn:=Lib.hid hn;have Hr:Hid ((k:Int)/(s:Int)=((k/s:Nat):Int)):=Lib.hid (by simp);have Hc:Hid ((s:Int)+(k:Int)%(s:Int)=((s+k%s:Nat):Int)):=Lib.hid (by simp);obtain ⟨r,hr⟩:∃ r,r=k/s:=⟨_,rfl⟩;obtain ⟨q,hq⟩:∃ q,q=s+k%s:=⟨_,rfl⟩;have Hr':=Lib.hid (show lnAt s k 0=r from hr.symm);have Hq':=Lib.hid (show lnAt s k 1=q from hq.symm);rw [<- hr] at Hr hr8;rw [<- hq] at Hc hc8;have hx0:(w.alloc (.cells #[.int .i64 (k:Int),.int .i64 (v:Int)] 197)).cell? ⟨w.heap.size,0,none⟩=some (.int .i64 k):=cell_of_row _ _ 0 _ _ (0,0) (heap_alloc_new w _)
 have hx1:(w.alloc (.cells #[.int .i64 (k:Int),.int .i64 (v:Int)] 197)).cell? ⟨w.heap.size,1,none⟩=some (.int .i64 v):=cell_of_row _ _ 1 _ _ (0,0) (heap_alloc_new w _)
 have hs0:w.heap.size<(w.alloc (.cells #[.int .i64 (k:Int),.int .i64 (v:Int)] 197)).heap.size:=by simp
 have hb0:Below w.heap.size w (w.alloc (.cells #[.int .i64 (k:Int),.int .i64 (v:Int)] 197)):=(Below.refl _ _).alloc (Nat.le_refl _) _
 have hw2:wrap64 ((2:Int)^v)=2^v:=by
  obtain ⟨r,rfl⟩:∃ r,v=r+1:=⟨v-1,by omega⟩;exact pow_wrap5 (by omega)
 have hv64:v<64:=by omega
 clear hr hq hs hn
 go_enter Tryz.func194,Tryz.ntmps194
 go_wp2_with (go_at_call 160;refine (linesThrough_rc s k r q _ (by omega) (by omega) hk16 Hr.out Hc.out).mono ?_;rintro e w1 ⟨rfl,hb1⟩)
 have hy0:=(hb1.cell (p:=⟨w.heap.size,0,none⟩) hs0).trans hx0;have hy1:=(hb1.cell (p:=⟨w.heap.size,1,none⟩) hs0).trans hx1;have hw1:w.heap.size<w1.heap.size:=Nat.lt_of_lt_of_le hs0 hb1.size;have hbA:=step hb0 hb1;obtain ⟨W,hW⟩:∃ W,w1.alloc (.cells #[.int .i64 (r:Int),.int .i64 (q:Int)] 3)=W:=⟨_,rfl⟩
 have hz0:W.cell? ⟨w1.heap.size,0,none⟩=some (.int .i64 r):=by rw [<- hW];exact cell_of_row _ _ 0 _ _ (0,0) (heap_alloc_new w1 _)
 have hz1:W.cell? ⟨w1.heap.size,1,none⟩=some (.int .i64 q):=by rw [<- hW];exact cell_of_row _ _ 1 _ _ (0,0) (heap_alloc_new w1 _)
 have hbW:Below w1.heap.size w1 W:=by rw [<- hW];exact (Below.refl _ _).alloc (Nat.le_refl _) _
 have hsW:w1.heap.size<W.heap.size:=by rw [<- hW];simp
 have hb2:=step hbA hbW;have hoW:=ho.below hb2;have hq0:=(hbW.cell (p:=⟨w.heap.size,0,none⟩) hw1).trans hy0;have hq1:=(hbW.cell (p:=⟨w.heap.size,1,none⟩) hw1).trans hy1;obtain ⟨L,hL⟩:∃ L,w1.heap.size=L:=⟨_,rfl⟩;have HW:=Lib.hid hW;rw [hL] at hz0 hz1 hsW hw1
 have HS:Hid (∀ wr,W.grownBy wr (some g)->wr.cell? ⟨w.heap.size,0,none⟩=some (.int .i64 k)/\wr.cell? ⟨w.heap.size,1,none⟩=some (.int .i64 v)/\wr.cell? ⟨L,0,none⟩=some (.int .i64 r)/\wr.cell? ⟨L,1,none⟩=some (.int .i64 q)):=Lib.hid (fun wr hg=>
  ⟨(hg.cell_far ⟨w.heap.size,0,none⟩ (by show w.heap.size<_;omega) (fun e=>by injection e with e;dsimp only at e;omega)).trans hq0,(hg.cell_far ⟨w.heap.size,1,none⟩ (by show w.heap.size<_;omega) (fun e=>by injection e with e;dsimp only at e;omega)).trans hq1,
   (hg.cell_far ⟨L,0,none⟩ (by show L<_;omega) (fun e=>by injection e with e;dsimp only at e;omega)).trans hz0,(hg.cell_far ⟨L,1,none⟩ (by show L<_;omega) (fun e=>by injection e with e;dsimp only at e;omega)).trans hz1⟩)
 have hgr2:w.grownBy W (some g):=⟨hb2.os,hb2.tape,hb2.output,hb2.size,fun j hj _=>hb2.block j hj⟩;have HG2:=Lib.hid hgr2;clear hW hx0 hx1 hy0 hy1 hz0 hz1 hq0 hq1 hb0 hb1 hbA hbW hb2 hgr2 ho;rw [HW.out,hL]
 go_loopw [23] (fun i wr=>∃ j:Nat,j<=2/\i=.int .i64 j/\Ow wr lo (some ⟨g,0,none⟩) n cc (clTo s o k v j)/\W.grownBy wr (some g)) (fun i _=>2-(intOf i).toNat)
 case atStart=>exact ⟨0,Nat.zero_le _,rfl,hoW,World.grownBy.refl _ _⟩
 case round=>
  obtain ⟨j,hj,rfl,ho,hg⟩:=hrel
  by_cases hlt:j<2
  ·have hltI:(j:Int)<2:=by omega
   have hline:wr.cell? ⟨L,j,none⟩=some (.int .i64 (lnAt s k j:Nat)):=by
    obtain ⟨_,_,c0,c1⟩:=HS.out wr hg;have:j=0\/j=1:=(by omega)
    rcases this with rfl|rfl
    ·rw [Hr'.out];exact c0
    ·rw [Hq'.out];exact c1
   obtain ⟨u,hu⟩:∃ u,lnAt s k j=u:=⟨_,rfl⟩;have hu2:u<2*s:=(by rw [<- hu];exact Hln.out j);have Hst:=Lib.hid (clTo_step (S:=s) (o:=o) (k:=k) (v:=v) hlt);rw [hu] at hline Hst;obtain ⟨oj,hoj⟩:∃ oj,clTo s o k v j=oj:=⟨_,rfl⟩;rw [hoj] at ho Hst;have HLc:=Lib.hid (lineCells_lineS Hs.out hu2 (implLineCells s u wr ⟨by omega,by omega⟩));have hat:=Lib.hid (line_inS Hs.out hu2);rw [<- Hn.out] at hat;have hgwr:=ho.own_hi g rfl;clear hu hoj
   go_wp2_with (go_at_call 196;refine HLc.out.mono ?_;rintro e w3 ⟨A3,c3,rfl,ho3,hb3⟩)
   have hoA:=ho.below hb3;have hgA:W.grownBy w3 (some g):=hg.trans ⟨hb3.os,hb3.tape,hb3.output,hb3.size,fun j hj _=>hb3.block j hj⟩;have ho3':=ho3.mono (show g+1<=wr.heap.size from hgwr);clear ho ho3 hg hb3
   go_loopw [31] (fun i wr=>∃ t:Nat,t<=s/\i=.int .i64 t/\Ow wr lo (some ⟨g,0,none⟩) n cc (cIn s u k (2^v) oj t)/\Ow wr (g+1) A3 s c3 (lineTo s u s)/\W.grownBy wr (some g)) (fun i _=>s-(intOf i).toNat)
   case atStart=>exact ⟨0,Nat.zero_le _,rfl,hoA,ho3',hgA⟩
   case round=>
    clear hoA ho3' hgA hline;obtain ⟨t,ht,rfl,ho,hoL,hg⟩:=hrel
    by_cases hts:t<s
    ·have htI:(t:Int)<(s:Int):=(by omega);obtain ⟨p,hp,hpc,hpn⟩:=hat.out t hts;obtain ⟨g3,rfl,_,_⟩:=hoL.form (by omega);obtain ⟨hcl,_⟩:=hoL.cell hts;rw [lineTo_nth hts,hp] at hcl;obtain ⟨d0,d1,_,_⟩:=HS.out wr hg;obtain ⟨ot,hot⟩:∃ ot,cIn s u k (2^v) oj t=ot:=⟨_,rfl⟩;have Hs1:=Lib.hid (show cIn s u k (2^v) oj (t+1)=if p≠k then ot.set p (bits .andNot .i64 (nth ot p) (2^v)) else ot by simp only [cIn];rw [hpc,hot]);rw [hot] at ho;clear hp hpc hot
     by_cases hpk:p=k
     ·have hne:((p:Int) != (k:Int))=false:=(by simp;omega);have Hs1':=Lib.hid (show cIn s u k (2^v) oj (t+1)=ot by rw [Hs1.out,if_neg (by simpa using hpk)]);clear hpk Hs1
      go_wp2
      go_roundw
      case rel=>exact ⟨t+1,by omega,by go_num,by rw [Hs1'.out];exact ho,hoL,hg⟩
      case measure=>simp [intOf];omega
     ·have hne:((p:Int) != (k:Int))=true:=(by simp;omega);obtain ⟨hcn,hfn⟩:=ho.cell hpn;have hpI:(p:Int)<(n:Int):=(by omega);obtain ⟨z,hz⟩:∃ z,bits .andNot .i64 (nth ot p) (2^v)=z:=⟨_,rfl⟩;have Hs1':=Lib.hid (show cIn s u k (2^v) oj (t+1)=ot.set p z by rw [Hs1.out,if_pos hpk,hz]);have Hz:=Lib.hid hz;have hput:=Lib.hid (ho.putN p z);have hLp:=Lib.hid (hoL.far (w':=wr.setCell ⟨g,p,none⟩ (.int .i64 z)) grown_set (fun b hb e=>by have h1:=hoL.own_lo b hb;injection e with e;omega));have hgp:=Lib.hid (hg.trans (grown_set (w:=wr) (G:=g) (i:=p) (v:=(.int .i64 z))))
      clear hpk Hs1 hz
      go_wp2
      go_region
      rw [Hz.out]
      go_wp2
      go_roundw
      case rel=>exact ⟨t+1,by omega,by go_num,by rw [Hs1'.out];exact hput.out,hLp.out,grown_drew hgp.out⟩
      case measure=>simp [intOf];omega
    ·obtain rfl:t=s:=by omega
     go_wp2
     go_roundw
     case rel=>exact ⟨j+1,by omega,by go_num,by rw [Hst.out];exact ho,hg⟩
     case measure=>simp [intOf];omega
  ·have hj2:j=2:=by omega
   have hjI:¬ (j:Int)<2:=(by omega);have ho':=Lib.hid (show Ow wr lo (some ⟨g,0,none⟩) n cc (clQ s o (k,v)) by rw [hj2] at ho;exact ho);clear hj2 hlt ho
   go_wp2
   go_end0
   exact ⟨rfl,ho'.out,HG2.out.trans hg⟩
set_option maxHeartbeats 2000000 in
theorem implNarrowSingles (A:Option Addr) (c n B:Nat) (m:List Int) (size:Int) (w:World) (h:Rd w B A n m) (hm64:B64 m) (hT:Tz w) (hBm:B<=w.heap.size) (hm:n<=1099511627776) (hsb: -9223372036854775808<=size/\size<=9223372036854775807):
 Calls Tryz.prog 186 #[.slice A n c,.int .i64 size] w (RetSl w (nsL m size n)):=by
 have hlen:=Lib.hid h.1;have HV:=Lib.hid (implMasksValid A c n B m size w h hm64 hBm hm hsb);cases hv:mvd m size
 ·have HL:=Lib.hid (show nsL m size n=[] by simp [nsL,hv])
  go_enter Tryz.func186,Tryz.ntmps186
  go_wp2_with (go_at_call 83;refine HV.out.mono ?_;rintro e w1 ⟨rfl,hb1⟩;rw [hv])
  go_ret
  rw [HL.out];exact ⟨_,_,rfl,Ow.nil_ _ _,hb1⟩
 ·obtain ⟨⟨s2,s4⟩,hsq,hn16,hrng⟩:=mvd_at hv;obtain ⟨s,rfl⟩:=Int.eq_ofNat_of_zero_le (by omega:0<=size)
  have hs:s∈[2,3,4]:=by simp;omega
  have hn:n=s*s:=by rw [<- hlen.out];exact len_of hs hv
  have hn0:0<n:=by
   simp at hs
   rcases hs with rfl|rfl|rfl<;>omega
  have HCl:=Lib.hid (fun w' (hb:Below w.heap.size w w')=>clone_any A n c B m w' (h.below (hb.mono hBm)) (Nat.le_trans hBm hb.size) hn0 hm);have HHi:=Lib.hid (fun w' (hb:Below w.heap.size w w')=>singlesIn_any A c n B m s w' (h.below (hb.mono hBm)) (Nat.le_trans hBm hb.size) hv (hT.below hT.lt hb));have Hin:=Lib.hid (sQ_in hv n);have HQ:=sQ_len m n
  have HF:=Lib.hid (show nsL m s n=(sQ m n).foldl (clQ s) m by
   rw [hn,sQ_fold hs hv (s*s) (Nat.le_refl _)];simp [nsL,hv])
  have Hs:=Lib.hid hs;have Hn:=Lib.hid hn;obtain ⟨q,hq⟩:∃ q,q=sQ m n:=⟨_,rfl⟩;rw [<- hq] at HHi Hin HQ HF;obtain ⟨K,hK⟩:∃ K,K=q.length:=⟨_,rfl⟩;rw [<- hK] at HHi HQ;have HK:=Lib.hid hK;clear hrng hsq hq hK hn hs hn16
  go_enter Tryz.func186,Tryz.ntmps186
  go_wp2_with (first
   |(go_at_call 83;refine HV.out.mono ?_;rintro e w1 ⟨rfl,hb1⟩;rw [hv])
   |(go_at_call 70;refine (HCl.out _ hb1).mono ?_;rintro e w2 ⟨Ac,cc,rfl,ho2,hb2⟩;have hb12:=step hb1 hb2)
   |(go_at_call 193;refine (HHi.out _ hb12).mono ?_;rintro e w3 ⟨Aq,cq,rfl,hoq,hb3⟩))
  have hb13:=step hb12 hb3;have ho3:=(ho2.mono hb1.size).below hb3;obtain ⟨g,rfl,hgl,hgw⟩:=ho3.form hn0;have hoq':OwF w3 (g+1) Aq K cq q:=World.ownsRow.mono hoq (show g+1<=w2.heap.size from (ho2.mono hb1.size).own_hi g rfl)
  go_loopw [17] (fun i wr=>∃ k:Nat,k<=K/\i=.int .i64 k/\Ow wr w.heap.size (some ⟨g,0,none⟩) n cc ((q.take k).foldl (clQ s) m)/\OwF wr (g+1) Aq K cq q/\Below w.heap.size w wr) (fun i _=>K-(intOf i).toNat)
  case atStart=>exact ⟨0,Nat.zero_le _,rfl,ho3,hoq',hb13⟩
  case round=>
   clear ho3 hoq hoq' hb13 hb12 hb1 hb2 hb3 ho2;obtain ⟨k,hk,rfl,ho,hof,hb⟩:=hrel
   by_cases hlt:k<K
   ·obtain ⟨gq,rfl,hgq,hcx,hcy⟩:=hof.cells hlt;have hkq:k<q.length:=(by rw [<- HK.out];exact hlt)
    have hmem:q.getD k (0,0)∈q:=by
     rw [List.getD_eq_getElem?_getD,List.getElem?_eq_getElem hkq];exact List.getElem_mem _
    obtain ⟨hx,hy1,hy4⟩:=Hin.out _ hmem
    have HT:=Lib.hid (show (q.take (k+1)).foldl (clQ s) m=clQ s ((q.take k).foldl (clQ s) m) ((q.getD k (0,0)).1,(q.getD k (0,0)).2) by
     rw [List.take_add_one,List.getElem?_eq_getElem hkq]
     simp only [Option.toList_some,List.foldl_append,List.foldl_cons,List.foldl_nil,List.getD_eq_getElem?_getD,List.getElem?_eq_getElem hkq,Option.getD_some])
    obtain ⟨x,hxe⟩:∃ x,x=(q.getD k (0,0)).1:=⟨_,rfl⟩;obtain ⟨y,hye⟩:∃ y,y=(q.getD k (0,0)).2:=⟨_,rfl⟩;rw [<- hxe] at hcx hx HT;rw [<- hye] at hcy hy1 hy4 HT;obtain ⟨o,hoe⟩:∃ o,o=(q.take k).foldl (clQ s) m:=⟨_,rfl⟩;rw [<- hoe] at ho HT;clear hxe hye hmem hoe;have hgr:=ho.own_hi g rfl;have hgl2:=ho.own_lo g rfl;obtain ⟨W,hW⟩:∃ W,wr.alloc (.cells #[.int .i64 (x:Int),.int .i64 (y:Int)] 197)=W:=⟨_,rfl⟩;have hoW:Ow W w.heap.size (some ⟨g,0,none⟩) n cc o:=(by rw [<- hW];exact World.ownsRow.alloc ho _);have hofW:OwF W (g+1) (some ⟨gq,0,none⟩) K cq q:=(by rw [<- hW];exact World.ownsRow.alloc hof _);have hbW:Below w.heap.size w W:=(by rw [<- hW];exact hb.alloc hb.size _);have hz0:W.cell? ⟨wr.heap.size,0,none⟩=some (.int .i64 (x:Int)):=(by rw [<- hW];exact cell_of_row _ _ 0 _ _ (0,0) (heap_alloc_new wr _));have hz1:W.cell? ⟨wr.heap.size,1,none⟩=some (.int .i64 (y:Int)):=(by rw [<- hW];exact cell_of_row _ _ 1 _ _ (0,0) (heap_alloc_new wr _));have HCL:=Lib.hid (clearLines_any g n cc w.heap.size s x y o W hoW Hs.out Hn.out hx hy1 hy4);have HW:=Lib.hid hW;clear hW
    go_wp2_with (go_at_call 194;rw [HW.out];refine HCL.out.mono ?_;rintro e w5 ⟨rfl,ho5,hg5⟩)
    have hof5:OwF w5 (g+1) (some ⟨gq,0,none⟩) K cq q:=World.ownsRow.kept hofW hg5 (.inr (fun e=>by
     have h1:=(World.ownsRow.lt hofW g e).1;omega))
    have hb5:Below w.heap.size w w5:=hbW.grown hg5 hbW.size (fun j hj=>by injection hj with hj;omega)
    go_roundw
    case rel=>exact ⟨k+1,by omega,by go_num,by rw [HT.out];exact ho5,hof5,hb5⟩
    case measure=>simp [intOf];omega
   ·obtain rfl:k=K:=by omega
    rw [show q.take k=q by rw [HK.out];exact List.take_length] at ho
    go_wp2
    go_ret
    rw [HF.out];exact retSl_mk ho hb
theorem an_an:∀ x,x<32->∀ y,y<32->∀ z,z<32->bits .andNot .i64 (x:Nat) (z:Nat)=0->bits .andNot .i64 (bits .andNot .i64 (x:Nat) (y:Nat)) (z:Nat)=0:=by decide +kernel
theorem an_bit:∀ x,x<32->∀ y,y<32->∀ v,v<5->(bits .andNot .i64 (x:Nat) (y:Nat)).toNat.testBit v=(x.testBit v&& !y.testBit v):=by decide +kernel
def twoB (M a b v:Nat):Bool:= !((maskVals (M:Int)).length==2&&M.testBit a&&M.testBit b&&a != b&&v != a&&v != b)|| !M.testBit v
theorem two_key:∀ M,M<32->∀ a,a<5->∀ b,b<5->∀ v,v<5->twoB M a b v=true:=by decide +kernel
theorem sol_ne {g:List Int} {s:Nat} (hs:s∈[2,3,4]) (hl:g.length=s*s) (h:sqSolved g s=true) {u:Nat} (hu:u<2*s) {i j:Nat} (hij:i≠j) (hi:i<s) (hj:j<s):lineV g s (u:Nat) i≠lineV g s (u:Nat) j:=by
 obtain ⟨h1,h2,h3⟩:=(solved_iff hl).1 h
 have hd:dupTo (lineV g s (u:Nat)) s=false:=by
  cases e:dupTo (lineV g s (u:Nat)) s
  ·rfl
  ·have:=clash_at (xs:=g) (size:=(s:Int)) (l:=u) (by omega) (by rw [Int.toNat_natCast];exact e);rw [h2] at this;cases this
 have hp:∀ k,k<s->0<lineV g s (u:Nat) k:=fun k hk=>by
  have hp:=line_at hs hu k hk;have hz:=h3 _ hp;obtain ⟨q0,_⟩:=gv_nth h1 (k:=(lineAt s u k).toNat) (by rw [hl];exact hp);unfold lineV;omega
 intro e
 have:dupTo (lineV g s (u:Nat)) s=true:=by
  rw [dupTo_iff]
  rcases Nat.lt_or_gt_of_ne hij with hlt|hlt
  ·exact ⟨i,j,hlt,hj,e,hp j hj⟩
  ·exact ⟨j,i,hlt,hi,e.symm,hp i hi⟩
 rw [hd] at this;cases this
theorem len_of {m:List Int} {s:Nat} (hs:s∈[2,3,4]) (hm:mvd m s=true):m.length=s*s:=by
 have:=(mvd_at hm).2.1
 simp at hs
 rcases hs with rfl|rfl|rfl<;>omega
theorem pIn_in {m g o:List Int} {s u a b:Nat} (hs:s∈[2,3,4]) (hm:mvd m s=true) (hsb:Sub o m) (hu:u<2*s) (hno:∀ k,k<s->k≠a->k≠b->inMask (m.set (lcN s u k) (nth m (lcN s u a))) g (lcN s u k)=false) (hg4:∀ k,k<s*s->(nth g k).toNat<5)
 (ho:∀ k,k<s*s->inMask o g k=true) (K:Nat) (hK:K<=s):∀ k,k<s*s->inMask (pIn m s u a b o K) g k=true:=by
 induction K with
 |zero=>exact ho
 |succ K ih=>
  have ih:=ih (by omega);simp only [pIn]
  split
  ·next hne=>
   have hp:lcN s u K<s*s:=line_at hs hu K (by omega);have hln:=len_of hs hm;have hsub:=pIn_sub (u:=(u:Int)) (S:=(s:Int)) (a:=a) (b:=b) hm hsb K;have hlo:(pIn m s u a b o K).length=s*s:=(by rw [hsub.1,hln]);intro k hk;unfold inMask;rw [nth_set (by rw [hlo];exact hp)]
   split
   ·next e=>
    subst e;obtain ⟨⟨x0,x1,_⟩,_⟩:=hsub.at_ hm (k:=lcN s u K) (by rw [hln];exact hp);obtain ⟨y0,y1,_⟩:=mvd_nth hm (lcN s u a);have h1:=ih _ hp;have h2:=hno K (by omega) hne.1 hne.2;unfold inMask at h1 h2;rw [nth_set (by rw [hln];exact hp),if_pos rfl] at h2;obtain ⟨x,hx⟩:=Int.eq_ofNat_of_zero_le x0;obtain ⟨y,hy⟩:=Int.eq_ofNat_of_zero_le y0;rw [hx] at h1 ⊢;rw [hy] at h2 ⊢;rw [Int.toNat_natCast] at h1 h2;rw [an_bit x (by omega) y (by omega) _ (hg4 _ hp),h1,h2];rfl
   ·exact ih k hk
  ·exact ih
theorem pB_in {m g o:List Int} {s u a:Nat} (hs:s∈[2,3,4]) (hm:mvd m s=true) (hsb:Sub o m) (hu:u<2*s) (hl:g.length=s*s) (hg:sqSolved g s=true) (hin:∀ k,k<s*s->inMask m g k=true) (ha:a<s) (ho:∀ k,k<s*s->inMask o g k=true) (b:Nat) (hb:b<=a):∀ k,k<s*s->inMask (pB m s s u a o b) g k=true:=by
 have hg4:∀ k,k<s*s->(nth g k).toNat<5:=fun k hk=>by
  obtain ⟨h1,_,_⟩:=(solved_iff hl).1 hg;obtain ⟨q0,q1⟩:=gv_nth h1 (k:=k) (by omega);have:=gv_size h1;omega
 induction b with
 |zero=>exact ho
 |succ b ih=>
  have ih:=ih (by omega);simp only [pB]
  split
  ·next hc=>
   refine pIn_in hs hm (pB_sub hm hsb b) hu (fun k hk hka hkb=>?_) hg4 ih s (Nat.le_refl _);have hln:=len_of hs hm;have hpa:lcN s u a<s*s:=line_at hs hu a ha;have hpb:lcN s u b<s*s:=line_at hs hu b (by omega);have hpk:lcN s u k<s*s:=line_at hs hu k hk;have ma:=hin _ hpa;have mb:=hin _ hpb;have n1:nth g (lcN s u a)≠nth g (lcN s u b):=sol_ne hs hl hg hu (by omega) ha (by omega);have n2:nth g (lcN s u k)≠nth g (lcN s u a):=sol_ne hs hl hg hu hka hk ha;have n3:nth g (lcN s u k)≠nth g (lcN s u b):=sol_ne hs hl hg hu hkb hk (by omega);obtain ⟨h1,_,_⟩:=(solved_iff hl).1 hg;have p1:=(gv_nth h1 (k:=lcN s u a) (by omega)).1;have p2:=(gv_nth h1 (k:=lcN s u b) (by omega)).1;have p3:=(gv_nth h1 (k:=lcN s u k) (by omega)).1;obtain ⟨y0,y1,_⟩:=mvd_nth hm (lcN s u a);unfold inMask at ma mb ⊢;rw [<- hc.1] at mb;rw [nth_set (by rw [hln];exact hpk),if_pos rfl];obtain ⟨M,hM⟩:=Int.eq_ofNat_of_zero_le y0;have h2:=hc.2;rw [hM] at ma mb h2 ⊢;rw [Int.toNat_natCast] at ma mb ⊢;have:=two_key M (by omega) _ (hg4 _ hpa) _ (hg4 _ hpb) _ (hg4 _ hpk);unfold twoB at this;rw [ma,mb,h2,bne_iff_ne.2 (show (nth g (lcN s u a)).toNat≠(nth g (lcN s u b)).toNat by omega),bne_iff_ne.2 (show (nth g (lcN s u k)).toNat≠(nth g (lcN s u a)).toNat by omega),bne_iff_ne.2 (show (nth g (lcN s u k)).toNat≠(nth g (lcN s u b)).toNat by omega)] at this
   simpa using this
  ·exact ih
theorem pA_in {m g o:List Int} {s u:Nat} (hs:s∈[2,3,4]) (hm:mvd m s=true) (hsb:Sub o m) (hu:u<2*s) (hl:g.length=s*s) (hg:sqSolved g s=true) (hin:∀ k,k<s*s->inMask m g k=true) (ho:∀ k,k<s*s->inMask o g k=true) (a:Nat) (ha:a<=s):∀ k,k<s*s->inMask (pA m s s u o a) g k=true:=by
 induction a with
 |zero=>exact ho
 |succ a ih=>
  simp only [pA];exact pB_in hs hm (pA_sub hm hsb a) hu hl hg hin (by omega) (ih (by omega)) a (Nat.le_refl _)
theorem pU_in {m g:List Int} {s:Nat} (hs:s∈[2,3,4]) (hm:mvd m s=true) (hl:g.length=s*s) (hg:sqSolved g s=true) (hin:∀ k,k<s*s->inMask m g k=true) (u:Nat) (hu:u<=2*s):∀ k,k<s*s->inMask (pU m s s u) g k=true:=by
 induction u with
 |zero=>exact hin
 |succ u ih=>
  simp only [pU];exact pA_in hs hm (pU_sub hm u) (by omega) hl hg hin (ih (by omega)) s (Nat.le_refl _)
theorem np_keeps {m g:List Int} {s:Int} (hm:mvd m s=true) (hg:sqSolved g s=true) (h:mhB m s g=true):mhB (npL m s) s g=true:=by
 obtain ⟨⟨s2,s4⟩,_,_,_⟩:=mvd_at hm;obtain ⟨t,rfl⟩:∃ t:Nat,s=t:=⟨s.toNat,by omega⟩
 have hs:t∈[2,3,4]:=by simp;omega
 simp only [mhB,Bool.and_eq_true,List.all_eq_true,List.mem_range] at h ⊢;obtain ⟨⟨_,hgv⟩,hin⟩:=h;have hlg:=gv_len hgv
 have hln:g.length=t*t:=by
  simp at hs
  rcases hs with rfl|rfl|rfl<;>omega
 refine ⟨⟨(np_sub hm).mvd_ hm,hgv⟩,?_⟩;rw [hln] at hin ⊢;have:=pU_in hs hm hln hg hin (2*t) (Nat.le_refl _);unfold npL;rw [if_pos hm,Int.toNat_natCast];exact this
theorem Wi.anput {o m:List Int} {s y:Int} (h:Wi o m) (hs:Sub o m) (hm:mvd m s=true) (hy:0<=y/\y<=30) (p:Nat):Wi (o.set p (bits .andNot .i64 (nth o p) y)) m:=fun k hk=>by
 by_cases hp:p<o.length
 ·rw [nth_set hp]
  split
  ·next e=>
   subst e;obtain ⟨⟨x0,x1,_⟩,_⟩:=hs.at_ hm hk;obtain ⟨z0,z1,_⟩:=mvd_nth hm p;have hz:=h p hk;obtain ⟨x,hx⟩:=Int.eq_ofNat_of_zero_le x0;obtain ⟨z,hzz⟩:=Int.eq_ofNat_of_zero_le z0;obtain ⟨yy,hyy⟩:=Int.eq_ofNat_of_zero_le hy.1;rw [hx,hzz] at hz ⊢;rw [hyy];exact an_an x (by omega) yy (by omega) z (by omega) hz
  ·exact h k hk
 ·rw [List.set_eq_of_length_le (by omega)];exact h k hk
theorem pIn_wi {m o:List Int} {s S u:Int} {a b:Nat} (hm:mvd m s=true) (hs:Sub o m) (h:Wi o m) (k:Nat):Wi (pIn m S u a b o k) m:=by
 induction k with
 |zero=>exact h
 |succ k ih=>
  simp only [pIn]
  split
  ·exact ih.anput (pIn_sub hm hs k) hm ⟨(mvd_nth hm _).1,(mvd_nth hm _).2.1⟩ _
  ·exact ih
theorem pB_wi {m o:List Int} {s S u:Int} {N a:Nat} (hm:mvd m s=true) (hs:Sub o m) (h:Wi o m) (b:Nat):Wi (pB m S N u a o b) m:=by
 induction b with
 |zero=>exact h
 |succ b ih=>
  simp only [pB]
  split
  ·exact pIn_wi hm (pB_sub hm hs b) ih N
  ·exact ih
theorem pA_wi {m o:List Int} {s S u:Int} {N:Nat} (hm:mvd m s=true) (hs:Sub o m) (h:Wi o m) (a:Nat):Wi (pA m S N u o a) m:=by
 induction a with
 |zero=>exact h
 |succ a ih=>simp only [pA];exact pB_wi hm (pA_sub hm hs a) ih a
theorem pU_wi {m:List Int} {s S:Int} {N:Nat} (hm:mvd m s=true) (u:Nat):Wi (pU m S N u) m:=by
 induction u with
 |zero=>exact Wi.refl hm
 |succ u ih=>simp only [pU];exact pA_wi hm (pU_sub hm u) ih N
theorem np_wi {m:List Int} {s:Int} (hm:mvd m s=true):Wi (npL m s) m:=by
 unfold npL;rw [if_pos hm];exact pU_wi hm _
def cN (v:Nat->Nat) (x:Nat):Nat->Nat
 |0=>0
 |k+1=>if v k=x then cN v x k+1 else cN v x k
def two (x:Nat):Bool:=Lib.onesCount x==2
def tkC (C:Nat->Nat) (x P:Nat):Bool:=two P&&(decide (2<C P)||(C P==2&&P != x))
def tkF (C:Nat->Nat) (x:Nat):Nat->Nat
 |0=>0
 |P+1=>if tkC C x P=true then tkF C x P|||P else tkF C x P
theorem cN_le (v:Nat->Nat) (x k:Nat):cN v x k<=k:=by
 induction k with
 |zero=>exact Nat.le_refl _
 |succ k ih=>simp only [cN];split<;>omega
theorem tkF_bit {C:Nat->Nat} {x j:Nat}:∀ K,(tkF C x K).testBit j=true↔∃ P,P<K/\tkC C x P=true/\P.testBit j=true:=by
 intro K
 induction K with
 |zero=>simp [tkF]
 |succ K ih=>
  simp only [tkF]
  constructor
  ·intro h
   split at h
   ·next hc=>
    rw [Nat.testBit_or,Bool.or_eq_true] at h
    rcases h with h|h
    ·obtain ⟨P,h1,h2⟩:=ih.1 h;exact ⟨P,by omega,h2⟩
    ·exact ⟨K,by omega,hc,h⟩
   ·obtain ⟨P,h1,h2⟩:=ih.1 h;exact ⟨P,by omega,h2⟩
  ·rintro ⟨P,h1,h2,h3⟩
   by_cases e:P=K
   ·subst e;rw [if_pos h2,Nat.testBit_or,h3,Bool.or_true]
   ·have:=ih.2 ⟨P,by omega,h2,h3⟩
    split
    ·rw [Nat.testBit_or,this,Bool.true_or]
    ·exact this
theorem tkF_lt (C:Nat->Nat) (x K:Nat) (hK:K<=32):tkF C x K<32:=by
 induction K with
 |zero=>simp [tkF]
 |succ K ih=>
  simp only [tkF]
  split
  ·exact Nat.or_lt_two_pow (n:=5) (ih (by omega)) (by omega)
  ·exact ih (by omega)
def tB (v:Nat->Nat) (k a:Nat):Nat->Nat
 |0=>0
 |b+1=>if (v a=v b/\two (v a)=true)/\(k≠a/\k≠b) then tB v k a b|||v a else tB v k a b
def tA (v:Nat->Nat) (k:Nat):Nat->Nat
 |0=>0
 |a+1=>tA v k a|||tB v k a a
theorem tB_bit {v:Nat->Nat} {k a j:Nat}:∀ b,(tB v k a b).testBit j=true↔∃ i,i<b/\v a=v i/\two (v a)=true/\k≠a/\k≠i/\(v a).testBit j=true:=by
 intro b
 induction b with
 |zero=>simp [tB]
 |succ b ih=>
  simp only [tB]
  constructor
  ·intro h
   split at h
   ·next hc=>
    rw [Nat.testBit_or,Bool.or_eq_true] at h
    rcases h with h|h
    ·obtain ⟨i,h1,h2⟩:=ih.1 h;exact ⟨i,by omega,h2⟩
    ·exact ⟨b,by omega,hc.1.1,hc.1.2,hc.2.1,hc.2.2,h⟩
   ·obtain ⟨i,h1,h2⟩:=ih.1 h;exact ⟨i,by omega,h2⟩
  ·rintro ⟨i,h1,h2,h3,h4,h5,h6⟩
   by_cases e:i=b
   ·subst e;rw [if_pos ⟨⟨h2,h3⟩,h4,h5⟩,Nat.testBit_or,h6,Bool.or_true]
   ·have:=ih.2 ⟨i,by omega,h2,h3,h4,h5,h6⟩
    split
    ·rw [Nat.testBit_or,this,Bool.true_or]
    ·exact this
theorem tA_bit {v:Nat->Nat} {k j:Nat}:∀ n,(tA v k n).testBit j=true↔∃ a b,a<n/\b<a/\v a=v b/\two (v a)=true/\k≠a/\k≠b/\(v a).testBit j=true:=by
 intro n
 induction n with
 |zero=>simp [tA]
 |succ n ih=>
  simp only [tA];rw [Nat.testBit_or,Bool.or_eq_true,ih,tB_bit]
  constructor
  ·rintro (⟨a,b,h1,h2⟩|⟨i,h1,h2⟩)
   ·exact ⟨a,b,by omega,h2⟩
   ·exact ⟨n,i,by omega,h1,h2⟩
  ·rintro ⟨a,b,h1,h2,h3⟩
   by_cases e:a=n
   ·subst e;exact .inr ⟨b,h2,h3⟩
   ·exact .inl ⟨a,b,by omega,h2,h3⟩
theorem tB_lt {v:Nat->Nat} {k a:Nat} (ha:v a<32) (b:Nat):tB v k a b<32:=by
 induction b with
 |zero=>simp [tB]
 |succ b ih=>
  simp only [tB]
  split
  ·exact Nat.or_lt_two_pow (n:=5) ih ha
  ·exact ih
theorem tA_lt {v:Nat->Nat} {k:Nat} (n:Nat) (hv:∀ i,i<n->v i<32):tA v k n<32:=by
 induction n with
 |zero=>simp [tA]
 |succ n ih=>exact Nat.or_lt_two_pow (n:=5) (ih fun i hi=>hv i (by omega)) (tB_lt (hv n (by omega)) n)
def cX (v:Nat->Nat) (P k:Nat):Nat->Nat
 |0=>0
 |a+1=>if v a=P/\k≠a then cX v P k a+1 else cX v P k a
theorem cX_pos {v:Nat->Nat} {P k:Nat}:∀ n,1<=cX v P k n↔∃ b,b<n/\v b=P/\k≠b:=by
 intro n
 induction n with
 |zero=>simp [cX]
 |succ n ih=>
  simp only [cX]
  constructor
  ·intro h
   split at h
   ·next hc=>exact ⟨n,by omega,hc⟩
   ·obtain ⟨b,h1,h2⟩:=ih.1 h;exact ⟨b,by omega,h2⟩
  ·rintro ⟨b,h1,h2⟩
   by_cases e:b=n
   ·subst e;rw [if_pos h2];omega
   ·have:=ih.2 ⟨b,by omega,h2⟩
    split<;>omega
theorem cX_two {v:Nat->Nat} {P k:Nat}:∀ n,2<=cX v P k n↔∃ a b,a<n/\b<a/\v a=P/\v b=P/\k≠a/\k≠b:=by
 intro n
 induction n with
 |zero=>simp [cX]
 |succ n ih=>
  simp only [cX]
  constructor
  ·intro h
   split at h
   ·next hc=>
    obtain ⟨b,h1,h2,h3⟩:=(cX_pos (v:=v) (P:=P) (k:=k) n).1 (by omega);exact ⟨n,b,by omega,h1,hc.1,h2,hc.2,h3⟩
   ·obtain ⟨a,b,h1,h2⟩:=ih.1 h;exact ⟨a,b,by omega,h2⟩
  ·rintro ⟨a,b,h1,h2,h3,h4,h5,h6⟩
   by_cases e:a=n
   ·subst e;have:=(cX_pos a).2 ⟨b,h2,h4,h6⟩;rw [if_pos ⟨h3,h5⟩];omega
   ·have:=ih.2 ⟨a,b,by omega,h2,h3,h4,h5,h6⟩
    split<;>omega
theorem cN_X {v:Nat->Nat} {P k:Nat}:∀ n,cN v P n=cX v P k n+if k<n/\v k=P then 1 else 0:=by
 intro n
 induction n with
 |zero=>simp [cN,cX]
 |succ n ih=>
  by_cases e:k=n
  ·subst e;have e1:(if k<k/\v k=P then 1 else 0)=0:=if_neg (fun h=>absurd h.1 (by omega));rw [e1] at ih;have e2:cX v P k (k+1)=cX v P k k:=(by simp only [cX];rw [if_neg (fun h=>h.2 rfl)]);rw [e2];simp only [cN]
   by_cases h:v k=P
   ·rw [if_pos h,if_pos ⟨by omega,h⟩];omega
   ·rw [if_neg h,if_neg (fun h'=>h h'.2)];omega
  ·have e3:(if k<n+1/\v k=P then 1 else 0)=if k<n/\v k=P then 1 else 0:=by
    by_cases h2:k<n/\v k=P
    ·rw [if_pos h2,if_pos ⟨by omega,h2.2⟩]
    ·rw [if_neg h2,if_neg (fun h'=>h2 ⟨by omega,h'.2⟩)]
   rw [e3];simp only [cN,cX]
   by_cases h:v n=P
   ·rw [if_pos h,if_pos ⟨h,e⟩];omega
   ·rw [if_neg h,if_neg (fun h'=>h h'.1)];exact ih
theorem tk_is {v:Nat->Nat} {k N:Nat} (hk:k<N) (hv:∀ i,i<N->v i<32):tkF (fun x=>cN v x N) (v k) 32=tA v k N:=by
 apply Nat.eq_of_testBit_eq
 intro j;rw [Bool.eq_iff_iff,tkF_bit,tA_bit]
 have key:∀ P,tkC (fun x=>cN v x N) (v k) P=true↔two P=true/\2<=cX v P k N:=fun P=>by
  have h:=cN_X (v:=v) (P:=P) (k:=k) N;simp only [tkC,Bool.and_eq_true,Bool.or_eq_true,decide_eq_true_eq,beq_iff_eq,bne_iff_ne]
  by_cases e:v k=P
  ·rw [if_pos ⟨hk,e⟩] at h
   constructor
   ·rintro ⟨h1,h2|h2⟩
    ·exact ⟨h1,by omega⟩
    ·exact absurd e.symm h2.2
   ·rintro ⟨h1,h2⟩;exact ⟨h1,.inl (by omega)⟩
  ·rw [if_neg (fun h'=>e h'.2)] at h
   constructor
   ·rintro ⟨h1,h2|h2⟩
    ·exact ⟨h1,by omega⟩
    ·exact ⟨h1,by omega⟩
   ·rintro ⟨h1,h2⟩;refine ⟨h1,?_⟩
    by_cases h3:2<cN v P N
    ·exact .inl h3
    ·exact .inr ⟨by omega,fun e'=>e e'.symm⟩
 constructor
 ·rintro ⟨P,h1,h2,h3⟩;obtain ⟨h4,h5⟩:=(key P).1 h2;obtain ⟨a,b,ha,hb,ea,eb,na,nb⟩:=(cX_two N).1 h5;exact ⟨a,b,ha,hb,by rw [ea,eb],by rw [ea];exact h4,na,nb,by rw [ea];exact h3⟩
 ·rintro ⟨a,b,ha,hb,e,h2,na,nb,h3⟩;exact ⟨v a,hv a ha,(key _).2 ⟨h2,(cX_two N).2 ⟨a,b,ha,hb,rfl,e.symm,na,nb⟩⟩,h3⟩
def lv (m:List Int) (S u:Int) (k:Nat):Nat:=(nth m (lcN S u k)).toNat
theorem lv_lt {m:List Int} {S u:Int} {s:Int} (hm:mvd m s=true) (k:Nat):lv m S u k<32:=by
 have:=mvd_nth hm (lcN S u k);unfold lv;omega
theorem lv_int {m:List Int} {S u:Int} {s:Int} (hm:mvd m s=true) (k:Nat):nth m (lcN S u k)=(lv m S u k:Nat):=by
 have:=mvd_nth hm (lcN S u k);unfold lv;omega
theorem lv_even {m:List Int} {S u:Int} {s:Int} (hm:mvd m s=true) (k:Nat):lv m S u k%2=0:=by
 obtain ⟨h0,h1,h2⟩:=mvd_nth hm (lcN S u k);rw [Int.tmod_eq_emod_of_nonneg h0] at h2;unfold lv;omega
theorem mv_two {M:Nat} (h:M<32) (he:M%2=0):(maskVals (M:Int)).length=2↔two M=true:=by
 have e:maskVals (M:Int)=bitsTo M 4:=by
  simp only [maskVals];rw [if_pos (by simp only [mvOk,inr,Bool.and_eq_true,decide_eq_true_eq,beq_iff_eq];exact ⟨⟨by omega,by omega⟩,by rw [Int.tmod_eq_emod_of_nonneg (by omega)];omega⟩),Int.toNat_natCast]
 rw [e,<-ones_bits M h he,two,beq_iff_eq]
theorem cond_is {m:List Int} {S u s:Int} (hm:mvd m s=true) (a b:Nat):(nth m (lcN S u a)=nth m (lcN S u b)/\(maskVals (nth m (lcN S u a))).length=2)↔(lv m S u a=lv m S u b/\two (lv m S u a)=true):=by
 rw [lv_int hm a,lv_int hm b,mv_two (lv_lt hm a) (lv_even hm a)]
 constructor
 ·rintro ⟨h1,h2⟩;exact ⟨by omega,h2⟩
 ·rintro ⟨h1,h2⟩;exact ⟨by omega,h2⟩
theorem an_or:∀ x,x<32->∀ y,y<32->∀ z,z<32->bits .andNot .i64 (bits .andNot .i64 (x:Nat) (y:Nat)) (z:Nat)=bits .andNot .i64 (x:Nat) ((y|||z:Nat):Int):=by decide +kernel
theorem an_nil:∀ x,x<32->bits .andNot .i64 (x:Nat) 0=(x:Nat):=by decide +kernel
theorem lc_inj {s u:Nat} (hs:s∈[2,3,4]) {i j:Nat} (hi:i<s) (hj:j<s) (h:lcN s u i=lcN s u j):i=j:=by
 simp only [lcN] at h
 simp at hs
 by_cases hx:(u:Int)<(s:Int)
 ·rw [lineAt_row hx,lineAt_row hx] at h
  rcases hs with rfl|rfl|rfl<;>omega
 ·rw [lineAt_col hx,lineAt_col hx] at h
  rcases hs with rfl|rfl|rfl<;>omega
theorem pIn_nth {m o:List Int} {s u a b:Nat} (hs:s∈[2,3,4]) (hu:u<2*s) (hl:o.length=s*s) {k:Nat} (hk:k<s) (K:Nat) (hK:K<=s):
 nth (pIn m s u a b o K) (lcN s u k)=if k<K/\(k≠a/\k≠b) then bits .andNot .i64 (nth o (lcN s u k)) (nth m (lcN s u a)) else nth o (lcN s u k):=by
 induction K with
 |zero=>simp [pIn]
 |succ K ih=>
  have ih:=ih (by omega);simp only [pIn];have hp:lcN s u K<s*s:=line_at hs hu K (by omega)
  by_cases e:k=K
  ·subst e;rw [if_neg (fun h=>absurd h.1 (by omega))] at ih
   by_cases hc:k≠a/\k≠b
   ·rw [if_pos hc,if_pos ⟨by omega,hc⟩,nth_set (by rw [pIn_len,hl];exact hp),if_pos rfl,ih]
   ·rw [if_neg hc,if_neg (fun h=>hc h.2),ih]
  ·have hne:lcN s u K≠lcN s u k:=fun h=>e (lc_inj hs hk (by omega) h.symm)
   have h2:nth (if K≠a/\K≠b then (pIn m s u a b o K).set (lcN s u K) (bits .andNot .i64 (nth (pIn m s u a b o K) (lcN s u K)) (nth m (lcN s u a))) else pIn m s u a b o K) (lcN s u k)=nth (pIn m s u a b o K) (lcN s u k):=by
    split
    ·rw [nth_set (by rw [pIn_len,hl];exact hp),if_neg hne]
    ·rfl
   rw [h2,ih]
   by_cases hc:k<K/\(k≠a/\k≠b)
   ·rw [if_pos hc,if_pos ⟨by omega,hc.2⟩]
   ·rw [if_neg hc,if_neg (fun h=>hc ⟨by omega,h.2⟩)]
theorem pIn_off {m o:List Int} {s u a b:Nat} (hs:s∈[2,3,4]) (hu:u<2*s) (hl:o.length=s*s) {p:Nat} (hp:∀ k,k<s->lcN s u k≠p) (K:Nat) (hK:K<=s):nth (pIn m s u a b o K) p=nth o p:=by
 induction K with
 |zero=>rfl
 |succ K ih=>
  simp only [pIn]
  split
  ·rw [nth_set (by rw [pIn_len,hl];exact line_at hs hu K (by omega)),if_neg (hp K (by omega)),ih (by omega)]
  ·exact ih (by omega)
theorem pB_nth {m o:List Int} {s u a:Nat} (hs:s∈[2,3,4]) (hm:mvd m s=true) (hu:u<2*s) (hl:o.length=s*s) {k X:Nat} (hk:k<s) (hX:X<32) (ho:nth o (lcN s u k)=(X:Nat)) (b:Nat):
 nth (pB m s s u a o b) (lcN s u k)=bits .andNot .i64 (X:Nat) ((tB (lv m s u) k a b:Nat):Int):=by
 induction b with
 |zero=>simp only [pB,tB];rw [ho];exact (an_nil X hX).symm
 |succ b ih=>
  simp only [pB,tB]
  by_cases hc:lv m s u a=lv m s u b/\two (lv m s u a)=true
  ·rw [if_pos ((cond_is hm a b).2 hc),pIn_nth hs hu (by rw [pB_len,hl]) hk s (Nat.le_refl _),ih]
   by_cases hk2:k≠a/\k≠b
   ·rw [if_pos ⟨hk,hk2⟩,if_pos ⟨hc,hk2⟩,lv_int hm a];exact an_or X hX _ (tB_lt (lv_lt hm a) b) _ (lv_lt hm a)
   ·rw [if_neg (fun h=>hk2 h.2),if_neg (fun h=>hk2 h.2)]
  ·rw [if_neg (fun h=>hc ((cond_is hm a b).1 h)),if_neg (fun h=>hc h.1),ih]
theorem pB_off {m o:List Int} {s u a:Nat} (hs:s∈[2,3,4]) (hu:u<2*s) (hl:o.length=s*s) {p:Nat} (hp:∀ k,k<s->lcN s u k≠p) (b:Nat):nth (pB m s s u a o b) p=nth o p:=by
 induction b with
 |zero=>rfl
 |succ b ih=>
  simp only [pB]
  split
  ·rw [pIn_off hs hu (by rw [pB_len,hl]) hp s (Nat.le_refl _),ih]
  ·exact ih
theorem anN_lt:∀ x,x<32->∀ y,y<32->∃ z,z<32/\bits .andNot .i64 (x:Nat) (y:Nat)=(z:Nat):=fun x hx y hy=>by
 obtain ⟨q1,q2,_⟩:=an_key x hx y hy;exact ⟨(bits .andNot .i64 (x:Nat) (y:Nat)).toNat,by omega,by omega⟩
theorem pA_nth {m o:List Int} {s u:Nat} (hs:s∈[2,3,4]) (hm:mvd m s=true) (hu:u<2*s) (hl:o.length=s*s) {k X:Nat} (hk:k<s) (hX:X<32) (ho:nth o (lcN s u k)=(X:Nat)) (a:Nat):
 nth (pA m s s u o a) (lcN s u k)=bits .andNot .i64 (X:Nat) ((tA (lv m s u) k a:Nat):Int):=by
 induction a with
 |zero=>simp only [pA,tA];rw [ho];exact (an_nil X hX).symm
 |succ a ih=>
  simp only [pA,tA]
  have hA:tA (lv m s u) k a<32:=tA_lt a fun i _=>lv_lt hm i
  obtain ⟨z,hz,ez⟩:=anN_lt X hX _ hA;rw [pB_nth hs hm hu (by rw [pA_len,hl]) hk hz (by rw [ih,ez]) a,<-ez];exact an_or X hX _ hA _ (tB_lt (lv_lt hm a) a)
theorem pA_off {m o:List Int} {s u:Nat} (hs:s∈[2,3,4]) (hu:u<2*s) (hl:o.length=s*s) {p:Nat} (hp:∀ k,k<s->lcN s u k≠p) (a:Nat):nth (pA m s s u o a) p=nth o p:=by
 induction a with
 |zero=>rfl
 |succ a ih=>simp only [pA];rw [pB_off hs hu (by rw [pA_len,hl]) hp a,ih]
def gL (m:List Int) (S u:Int) (C:Nat->Nat) (o:List Int):Nat->List Int
 |0=>o
 |k+1=>(gL m S u C o k).set (lcN S u k) (bits .andNot .i64 (nth (gL m S u C o k) (lcN S u k)) ((tkF C (lv m S u k) 32:Nat):Int))
theorem gL_len (m:List Int) (S u:Int) (C:Nat->Nat) (o:List Int) (k:Nat):(gL m S u C o k).length=o.length:=by
 induction k with
 |zero=>rfl
 |succ k ih=>simp only [gL];rw [List.length_set,ih]
theorem gL_nth {m o:List Int} {s u:Nat} {C:Nat->Nat} (hs:s∈[2,3,4]) (hu:u<2*s) (hl:o.length=s*s) {k:Nat} (hk:k<s) (K:Nat) (hK:K<=s):
 nth (gL m s u C o K) (lcN s u k)=if k<K then bits .andNot .i64 (nth o (lcN s u k)) ((tkF C (lv m s u k) 32:Nat):Int) else nth o (lcN s u k):=by
 induction K with
 |zero=>simp [gL]
 |succ K ih=>
  have ih:=ih (by omega);simp only [gL];rw [nth_set (by rw [gL_len,hl];exact line_at hs hu K (by omega))]
  by_cases e:k=K
  ·subst e;rw [if_neg (by omega)] at ih;rw [if_pos rfl,if_pos (by omega),ih]
  ·rw [if_neg (fun h=>e (lc_inj hs hk (by omega) h.symm)),ih]
   by_cases h:k<K
   ·rw [if_pos h,if_pos (by omega)]
   ·rw [if_neg h,if_neg (by omega)]
theorem gL_off {m o:List Int} {s u:Nat} {C:Nat->Nat} (hs:s∈[2,3,4]) (hu:u<2*s) (hl:o.length=s*s) {p:Nat} (hp:∀ k,k<s->lcN s u k≠p) (K:Nat) (hK:K<=s):nth (gL m s u C o K) p=nth o p:=by
 induction K with
 |zero=>rfl
 |succ K ih=>simp only [gL];rw [nth_set (by rw [gL_len,hl];exact line_at hs hu K (by omega)),if_neg (hp K (by omega)),ih (by omega)]
theorem gL_is {m o:List Int} {s u:Nat} (hs:s∈[2,3,4]) (hm:mvd m s=true) (hu:u<2*s) (ho:Sub o m):gL m s u (fun x=>cN (lv m s u) x s) o s=pA m s s u o s:=by
 have hln:=len_of hs hm
 have hl:o.length=s*s:=by rw [ho.1,hln]
 apply ext_nth
 ·rw [gL_len,pA_len]
 ·intro p hp;rw [gL_len,hl] at hp
  by_cases h:∃ k,k<s/\lcN s u k=p
  ·obtain ⟨k,hk,rfl⟩:=h;obtain ⟨⟨x0,x1,_⟩,_⟩:=ho.at_ hm (k:=lcN s u k) (by rw [hln];exact hp);obtain ⟨X,hX⟩:=Int.eq_ofNat_of_zero_le x0;rw [gL_nth hs hu hl hk s (Nat.le_refl _),if_pos hk,pA_nth hs hm hu hl hk (by omega) hX s,hX,tk_is hk (fun i _=>lv_lt hm i)]
  ·have hp':∀ k,k<s->lcN s u k≠p:=fun k hk e=>h ⟨k,hk,e⟩
   rw [gL_off hs hu hl hp' s (Nat.le_refl _),pA_off hs hu hl hp' s]
def gU (m:List Int) (N:Nat):Nat->List Int
 |0=>m
 |u+1=>gL m N u (fun x=>cN (lv m N u) x N) (gU m N u) N
theorem gU_is {m:List Int} {s:Nat} (hs:s∈[2,3,4]) (hm:mvd m s=true):∀ u,u<=2*s->gU m s u=pU m s s u:=by
 intro u
 induction u with
 |zero=>intro _;rfl
 |succ u ih=>
  intro hu;simp only [gU,pU];rw [ih (by omega)];exact gL_is hs hm (by omega) (pU_sub hm u)
theorem ones64_odd (M:Nat) (h:M<32) (he:M%2=1) (w:World):Calls Tryz.prog 147 #[.int .u64 M] w fun e w'=>e=.returned (.int .i64 (Lib.onesCount M:Nat))/\w=w':=by
 have:M=1\/M=3\/M=5\/M=7\/M=9\/M=11\/M=13\/M=15\/M=17\/M=19\/M=21\/M=23\/M=25\/M=27\/M=29\/M=31:=by omega
 rcases this with rfl|rfl|rfl|rfl|rfl|rfl|rfl|rfl|rfl|rfl|rfl|rfl|rfl|rfl|rfl|rfl
 all_goals
  go_enter Tryz.func147,Tryz.ntmps147
  go_wp2
  go_ret
  exact ⟨by kernel_rfl,rfl⟩
theorem ones_all (M:Nat) (h:M<32) (w:World):Calls Tryz.prog 100 #[.int .u64 M] w fun e w'=>e=.returned (.int .i64 (Lib.onesCount M:Nat))/\w=w':=by
 by_cases he:M%2=0
 ·exact ones_any M h he w
 ·go_enter Tryz.func100,Tryz.ntmps100
  go_wp2_with (go_at_call 147;refine (ones64_odd M h (by omega) _).mono ?_;rintro e w' ⟨rfl,rfl⟩)
  go_ret
  exact ⟨rfl,rfl⟩
theorem pairMask_any (M:Nat) (h:M<32) (w:World):Calls Tryz.prog 203 #[.int .i64 M] w fun e w'=>e=.returned (.bool (two M))/\w=w':=by
 have hl:=ones_lt M h;have Ho:=Lib.hid (fun w=>ones_all M h w)
 have Ht:=Lib.hid (show two M=decide (((Lib.onesCount M:Nat):Int)=2) by
  rw [two,Bool.eq_iff_iff,beq_iff_eq,decide_eq_true_eq];omega)
 obtain ⟨p,hp⟩:∃ p,Lib.onesCount M=p:=⟨_,rfl⟩;rw [hp] at Ho Ht hl;clear hp
 go_enter Tryz.func203,Tryz.ntmps203
 go_wp2_with (go_at_call 100;refine (Ho.out _).mono ?_;rintro e w' ⟨rfl,rfl⟩)
 go_ret
 exact ⟨by rw [Ht.out];rfl,rfl⟩
end Go.Proofs.YtkeoflnmbcdmfaaGreatDoor
