import Derived.Test.YtkeoflnmbcdmfaaGreatDoorMRP
import Derived.StillTailTactics
import Derived.Deep.RegionWith
import Derived.Test.YtkeoflnmbcdmfaaGreatDoorMSol
import Derived.Test.YtkeoflnmbcdmfaaGreatDoorBase
import Derived.Test.YtkeoflnmbcdmfaaGreatDoorPn
import Derived.Lib.SliceRun
import Derived.Test.YtkeoflnmbcdmfaaGreatDoorP5S
import Derived.Test.YtkeoflnmbcdmfaaGreatDoorMSix
import Derived.Test.YtkeoflnmbcdmfaaGreatDoorMSe
import Derived.Test.YtkeoflnmbcdmfaaGreatDoorC1
import Derived.Test.YtkeoflnmbcdmfaaGreatDoorMCt
import Derived.Test.YtkeoflnmbcdmfaaGreatDoorMMadeA
set_option maxRecDepth 8000
namespace Go.Proofs.YtkeoflnmbcdmfaaGreatDoor
open Go.ChangeShapes Go.WideShapes Go.ChangeAt Go.RowKit
def SBase (W0:World) (B0 PB s:Nat) (Ag:Option Addr) (n cg:Nat) (Ar:Option Addr) (nr cr:Nat) (X:World):Prop:=Below B0 W0 X/\PBox X PB s Ag n cg Ar nr cr
theorem cov_seq {W0:World} {B0 s n l:Nat} {gi:List Int} {rs:List RuleM} {J:List (List Int)->World->Prop} {Jx:World->Prop} {W:World} (hB0:B0<=W0.heap.size) (hs:s∈[2,3,4]) (hn:n=s*s) (hv:pvB s gi rs=true) (hT:∀ X,Below B0 W0 X->Tz X)
 (hok:∀ i,i<n->0<=nth gi i/\nth gi i<=(s:Int)) (hJ0:∀ pre X,J pre X->Below B0 W0 X)
 (hJs:∀ pre X Y,J pre X->Below W.heap.size X Y->J pre Y)
 (hY:∀ pre x X b n c,J pre X->(∃ zs,cv s gi rs (s*s) []=pre++x::zs)->W.heap.size<=b->Rd X X.heap.size (some ⟨b,0,none⟩) n x->
   YieldAt Fence.wide 0 Tryz.prog l #[.slice (some ⟨b,0,none⟩) n c] X fun e Y=>Mid W.heap.size X Y/\((e=.returned (.bool true)/\J (pre++[x]) Y)\/(e=.returned (.bool false)/\Jx Y)))
 (h0:J [] W) (G OB RB L:Nat) (X:World) (hM:W.heap.size<=G/\W.heap.size<=OB/\W.heap.size<=RB/\W.heap.size<=L/\G<L/\OB≠G/\RB≠G/\OB<L/\RB<L) (hLX:L<=X.heap.size) (hSR:SR W0 B0 s gi rs OB RB L X) (ho:Ow X W.heap.size (some ⟨G,0,none⟩) n n (zeros n)) (hb:Below W.heap.size W X):
   Calls Tryz.prog 125 #[sVal G OB RB n,.int .u64 (lf s [] 0:Nat),.func (.yield l) #[] #[]] X fun e Y=>(∃ v,e=.returned v)/\(J (cv s gi rs (s*s) []) Y\/Jx Y):=by
 subst hn;refine Calls.mono (cover_any (T:=cv s gi rs (s*s) []) (l:=l) (W0:=W0) (B0:=B0) (G:=G) (OB:=OB) (RB:=RB) (L:=L) (M:=W.heap.size) (lo:=W.heap.size) (s:=s) (n:=s*s) (gi:=gi) (rs:=rs) (J:=fun pre X=>J pre X/\W.heap.size<=X.heap.size) (Jx:=Jx) hv hs rfl hok hB0 hT ⟨hM.1,hM.2.1,hM.2.2.1,hM.2.2.2.1,hM.2.2.2.2.1,hM.2.2.2.2.2.1,hM.2.2.2.2.2.2.1,hM.2.2.2.2.2.2.2.1,hM.2.2.2.2.2.2.2.2,hM.1⟩ (fun pre X h=>hJ0 _ _ h.1) (fun pre X Y h hg=>⟨hJs _ _ _ h.1 (Below.of_grown hg h.2 hM.1),Nat.le_trans h.2 hg.size⟩) ?cb (s*s) 0 [] (zeros (s*s)) [] X (Nat.zero_add _) rfl ⟨hJs _ _ _ h0 hb,hb.size⟩ hLX hSR ho (fun i hi=>absurd hi (Nat.not_lt_zero i)) (fun i hi=>absurd hi (Nat.not_lt_zero i)) (fun q hq=>absurd hq (Nat.not_lt_zero q)) ⟨[],by simp⟩) ?fin
 case cb=>
  intro pre ys X hm h ho
  have hGX:G<X.heap.size:=by
   obtain ⟨g,e,_,hg⟩:=ho.form (by simp at hs;rcases hs with rfl|rfl|rfl<;>omega);cases e;exact hg
  obtain ⟨fn,tmps,assign,body,hyy,hR⟩:=hY _ ys X G (s*s) (s*s) h.1 hm hM.1 (ho.rd);refine ⟨fn,tmps,assign,body,hyy,hR.mono ?_⟩;rintro e Y ⟨hm2,(⟨rfl,hj⟩|⟨rfl,hx⟩)⟩
  ·exact ⟨true,rfl,.inl ⟨rfl,⟨hj,Nat.le_trans h.2 hm2.size⟩,hm2.x,ho.same (hm2.same G hM.1 hGX)⟩⟩
  ·exact ⟨false,rfl,.inr ⟨rfl,hx⟩⟩
 case fin=>
  rintro e Y (⟨rfl,hj,_⟩|⟨rfl,hx⟩)
  ·exact ⟨⟨_,rfl⟩,.inl (by simpa using hj.1)⟩
  ·exact ⟨⟨_,rfl⟩,.inr hx⟩
end Go.Proofs.YtkeoflnmbcdmfaaGreatDoor
set_option maxRecDepth 8000
namespace Go.Proofs.YtkeoflnmbcdmfaaGreatDoor
open Go.ChangeShapes Go.WideShapes Go.ChangeAt Go.RowKit
set_option maxHeartbeats 1000000 in
theorem sols_seq (W0:World) (B0 PB s n:Nat) (Ag:Option Addr) (cg:Nat) (gi:List Int) (Ar:Option Addr) (nr cr:Nat) (rs:List RuleM) (hB0:B0<=W0.heap.size) (hs:s∈[2,3,4]) (hn:n=s*s) (hg:Rd W0 B0 Ag n gi) (hr:RdRc W0 B0 Ar nr rs) (hmr:nr<=20) (hv:pvB s gi rs=true) (hT:∀ X,Below B0 W0 X->Tz X):
 SeqP Tryz.prog 123 #[.pointer (some ⟨PB,0,none⟩)] (SBase W0 B0 PB s Ag n cg Ar nr cr) (cv s gi rs (s*s) []):=by
 intro l J Jx W hJb hJs hY h0;obtain ⟨w0,w1⟩:=hJb _ _ h0;have hPB:PB<W.heap.size:=cell_lt w1.1
 have hok:∀ i,i<n->0<=nth gi i/\nth gi i<=(s:Int):=fun i hi=>gv_nth (pv_gv hv).1 (by rw [hg.1];exact hi)
 have HSe:=Lib.hid (search_any W0 B0 s n Ag cg gi Ar nr cr rs W w0 hB0 hs hn hg hr hmr hv);have HAl:=Lib.hid (fun w'=>allItems_any s w' hs);have HC:=Lib.hid (cov_seq hB0 hs hn hv hT hok (fun pre X h=>(hJb _ _ h).1) hJs hY h0);have hlf:lf s [] 0=2^(3*s*s)-1:=rfl;obtain ⟨AL,hAL⟩:∃ AL,AL=2^(3*s*s)-1:=⟨_,rfl⟩;rw [hlf,<-hAL] at HC;rw [<- hAL] at HAl;obtain ⟨CV,hCV⟩:∃ CV,CV=cv s gi rs (s*s) []:=⟨_,rfl⟩;rw [<- hCV] at HC ⊢
 show Calls Tryz.prog 123 #[.func (.yield l) #[] #[],.pointer (some ⟨PB,0,none⟩)] W _
 have HPB:=Lib.hid (fun X (hb:Below W.heap.size W X)=>w1.below hPB hb);obtain ⟨b0,b1,b2⟩:=id w1;clear hJb hJs hY h0 w0 hAL hCV hlf hok hg hr hv hT w1 hn
 go_enter Tryz.func123,Tryz.ntmps123
 go_wp2_with (go_at_call 124;refine HSe.out.mono ?_;rintro e X1 ⟨G,OB,RB,L,rfl,hrest⟩;have HRest:=Lib.hid hrest;clear hrest;unfold sVal)
 obtain ⟨hM,hLX,hSR,ho,hb1⟩:=HRest.out;have hbd:Below X1.heap.size X1 (X1.alloc (.cells #[.slice (some ⟨G,0,none⟩) n n,.slice (some ⟨OB,0,none⟩) n n,.slice (some ⟨RB,0,none⟩) n n] 133)):=(Below.refl _ _).alloc (Nat.le_refl _) _;have HCX:=Lib.hid (fun X' (hb':Below X1.heap.size X1 X')=>HC.out G OB RB L X' hM (Nat.le_trans hLX hb'.size) (hSR.midx (midx_below (lo:=W.heap.size) (G:=G) hb') ⟨hM.2.1,hM.2.2.2.2.2.1⟩ ⟨hM.2.2.1,hM.2.2.2.2.2.2.1⟩ hM.2.2.2.1 hM.2.2.2.2.1) (ho.below hb') (hb1.trans (hb'.mono hb1.size)));unfold sVal at HCX;obtain ⟨c0,c1,c2⟩:=sbox_new X1 G OB RB n 133
 obtain ⟨p0,p1,p2⟩:=HPB.out _ (hb1.trans (hbd.mono hb1.size));clear hSR ho hM hLX HC HSe;clear hb1
 go_wp2
 go_region_with (first
  |(go_at_call 126;refine (HAl.out _).mono ?_;rintro e wq ⟨rfl,rfl⟩)
  |(go_at_call 125;refine (HCX.out _ (by first|exact hbd|exact hbd.drew)).mono ?_;rintro e Y ⟨⟨v,rfl⟩,hYY⟩))
 all_goals
  go_end0
  exact ⟨⟨_,rfl⟩,hYY⟩
theorem solutions_any (s n:Nat) (Ag:Option Addr) (cg:Nat) (Ar:Option Addr) (nr cr:Nat) (w:World):
 Calls Tryz.prog 69 #[.agg #[.int .i64 s,.slice Ag n cg,.slice Ar nr cr]] w fun e w'=>∃ PB,e=.returned (.func (.func 123) #[] #[.pointer (some ⟨PB,0,none⟩)])/\w.heap.size<=PB/\PBox w' PB s Ag n cg Ar nr cr/\Below w.heap.size w w':=by
 have hx0:=pbox_new w s Ag n cg Ar nr cr 26;have hb0:Below w.heap.size w (w.alloc (.cells #[.int .i64 s,.slice Ag n cg,.slice Ar nr cr] 26)):=(Below.refl _ _).alloc (Nat.le_refl _) _
 go_enter Tryz.func69,Tryz.ntmps69
 go_wp2
 go_ret
 exact ⟨w.heap.size,rfl,Nat.le_refl _,hx0,hb0⟩
end Go.Proofs.YtkeoflnmbcdmfaaGreatDoor
set_option maxRecDepth 8000
namespace Go.Proofs.YtkeoflnmbcdmfaaGreatDoor
open Go.ChangeShapes Go.WideShapes Go.ChangeAt Go.RowKit
def sfL (s:Int) (n:Nat) (gi:List Int) (rs:List RuleM):List Int:=(allS s 1 n gi rs).getD 0 []
def sfB (s:Int) (n:Nat) (gi:List Int) (rs:List RuleM):Bool:= !(allS s 1 n gi rs).isEmpty
set_option maxHeartbeats 1000000 in
theorem specSolveFirst (s:Int) (Ag:Option Addr) (n cg Bg:Nat) (gi:List Int) (Ar:Option Addr) (nr cr Br:Nat) (rs:List RuleM) (w:World) (hp:PGs w s Ag n cg Bg gi Ar nr cr Br rs):
 Calls Tryz.prog 23 #[.agg #[.int .i64 s,.slice Ag n cg,.slice Ar nr cr]] w fun e w'=>∃ A m c,e=.returned (.tuple #[.slice A m c,.bool (sfB s n gi rs)])/\(sfB s n gi rs=true->m=n)/\Ow w' w.heap.size A m c (sfL s n gi rs)/\Below w.heap.size w w':=by
 have hx0:=pbox_new w s Ag n cg Ar nr cr 26;have hb0:Below w.heap.size w (w.alloc (.cells #[.int .i64 s,.slice Ag n cg,.slice Ar nr cr] 26)):=(Below.refl _ _).alloc (Nat.le_refl _) _
 have hs0:w.heap.size<(w.alloc (.cells #[.int .i64 s,.slice Ag n cg,.slice Ar nr cr] 26)).heap.size:=by simp
 obtain ⟨z0,z1,z2⟩:=id hx0
 go_enter Tryz.func23,Tryz.ntmps23
 go_wp2_with fail
 refine (specAll s 1 Ag n cg Bg gi Ar nr cr Br rs _ (hp.below hb0) (by omega) (by omega)).mono ?_;rintro e w1 ⟨P,v,rfl,⟨A,c,vs,rfl,hown,_,hin⟩,hb1⟩;have h01:=step hb0 hb1
 cases hL:allS s 1 n gi rs with
 |nil=>
  have H1:=Lib.hid (show sfL s n gi rs=[] by simp [sfL,hL]);have H2:=Lib.hid (show sfB s n gi rs=false by simp [sfB,hL]);simp only [List.length_nil];clear hin hown
  go_wp2
  go_ret2
  rw [H1.out,H2.out];exact ⟨_,_,_,rfl,fun h=>(by cases h),Ow.made0 _ _ h01.size,h01.alloc h01.size _⟩
 |cons y L=>
  have H1:=Lib.hid (show sfL s n gi rs=y by simp [sfL,hL]);have H2:=Lib.hid (show sfB s n gi rs=true by simp [sfB,hL]);rw [hL] at hown hin;simp only [List.length_cons] at hown hin ⊢;obtain ⟨A',c',hv,ho,_⟩:=hin 0 (by omega);obtain ⟨g,cap,he,_,hg⟩:=World.ownsRow.form hown (by omega)
  injection he with hA _ hc
  subst hA
  have hcell:w1.cell? ⟨g,0,none⟩=some (.slice A' n c'):=by
   have hk:=hv;subst hc;have:=World.ownsRow.cellAt hown 0 (by omega);rw [this]
   simpa using hk
  have hl0:((L.length+1:Nat):Int)≠0:=by omega
  have hl1:(0:Int)<((L.length+1:Nat):Int):=by omega
  have hl2:(((L.length+1:Nat):Int)==0)=false:=by simp only [beq_eq_false_iff_ne];omega
  obtain ⟨l,hl⟩:∃ l,L.length+1=l:=⟨_,rfl⟩;rw [hl] at hl0 hl1 hl2 ⊢;clear hin hown hL hl hv
  go_wp2
  go_ret2
  rw [H1.out,H2.out];simp only [List.getD_cons_zero] at ho;exact ⟨_,_,_,rfl,fun _=>rfl,ho.mono (Nat.le_succ_of_le (Nat.le_of_lt hs0)),h01⟩
end Go.Proofs.YtkeoflnmbcdmfaaGreatDoor
set_option maxRecDepth 8000
namespace Go.Proofs.YtkeoflnmbcdmfaaGreatDoor
open Go.ChangeShapes Go.WideShapes Go.ChangeAt Go.RowKit
theorem clone_any (A:Option Addr) (n c B:Nat) (xs:List Int) (w:World) (h:Rd w B A n xs) (hB:B<=w.heap.size) (hn:0<n) (hm:n<=1099511627776):
 Calls Tryz.prog 70 #[.slice A n c] w fun e w'=>∃ A' c',e=.returned (.slice A' n c')/\Ow w' w.heap.size A' n c' xs/\Below w.heap.size w w':=by
 obtain ⟨b,off,rfl,_,_⟩:=h.at_ hn;have hb0:Below w.heap.size w (w.alloc (.cells #[] 3)):=(Below.refl _ _).alloc (Nat.le_refl _) _;have HO:=Lib.hid (Ow.made0 w w.heap.size (Nat.le_refl _));have HR:=Lib.hid (h.below (hb0.mono hB))
 have hsO:w.heap.size<=(w.alloc (.cells #[] 3)).heap.size:=by simp
 have hcmp:=fun w'=>Lib.run_eql_slice_nil (P:=Tryz.prog) w' 23 3 (some ⟨b,off,none⟩) n c 0 0 Tryz.underlying23
 go_enter Tryz.func70,Tryz.ntmps70
 go_wp2_with (at_builtin;(refine push_new rfl (.tmp 5) (.tmp 6) rfl w.heap.size (some ⟨w.heap.size,0,none⟩) (some ⟨b,off,none⟩) n c B xs rfl rfl HO.out HR.out hm hsO ?_);intro A1 c1 w1 ho1 hg1;have hb1:=hb0.grown hg1 hb0.size (fun k hk=>HO.out.own_lo k hk))
 go_ret
 exact ⟨_,_,rfl,ho1,hb1⟩
end Go.Proofs.YtkeoflnmbcdmfaaGreatDoor
set_option maxRecDepth 8000
namespace Go.Proofs.YtkeoflnmbcdmfaaGreatDoor
theorem nth_set0 (g:List Int) (c i:Nat):nth (g.set c 0) i=nth g i\/nth (g.set c 0) i=0:=by
 by_cases e:c=i
 ·subst e
  by_cases h:c<g.length
  ·right;simp [nth,List.getD_eq_getElem?_getD,h]
  ·left;rw [List.set_eq_of_length_le (by omega)]
 ·left;simp [nth,List.getD_eq_getElem?_getD,e]
theorem give_less {gi g:List Int} {c i:Nat} (h:giveOk gi g i=true):giveOk gi (g.set c 0) i=true:=by
 rcases nth_set0 g c i with e|e
 ·unfold giveOk at h ⊢;rw [e];exact h
 ·unfold giveOk;rw [e];simp
theorem fp_parts {s:Int} {gi g:List Int} {rs:List RuleM}:fpB s gi rs g=true↔pvB s gi rs=true/\gv g s=true/\(∀ i,i<g.length->giveOk gi g i=true)/\(∀ i,i<rs.length->rpR s g (rat rs i)=true)/\clash g s=false:=by
 simp only [fpB,fitB,Bool.and_eq_true,List.all_eq_true,List.mem_range,Bool.not_eq_true']
 constructor
 ·rintro ⟨⟨a,b⟩,⟨c,d⟩,e⟩;exact ⟨a,b,c,d,e⟩
 ·rintro ⟨a,b,c,d,e⟩;exact ⟨⟨a,b⟩,⟨c,d⟩,e⟩
theorem fp_less {s:Int} {gi g:List Int} {rs:List RuleM} (h:fpB s gi rs g=true) (c:Nat):fpB s gi rs (g.set c 0)=true:=by
 obtain ⟨hp,hg,h1,h2,h3⟩:=fp_parts.1 h;refine fp_parts.2 ⟨hp,gv_put hg c,fun i hi=>give_less (h1 i (by simpa using hi)),fun i hi=>(rp_less ((pv_gv hp).2.2 i hi) hg (h2 i hi) c).1,?_⟩;obtain ⟨a,b⟩:=gv_size hg;have hl:=gv_len hg;obtain ⟨t,rfl⟩:=Int.eq_ofNat_of_zero_le (show 0<=s by omega);exact clash_set0 (by simp;omega) (by exact_mod_cast hl) h3
theorem fp_nil {s:Int} {gi g:List Int} {rs:List RuleM} (h:fpB s gi rs g=true):fpB s gi [] g=true:=by
 obtain ⟨hp,hg,h1,h2,h3⟩:=fp_parts.1 h;refine fp_parts.2 ⟨?_,hg,h1,fun i hi=>absurd hi (by simp),h3⟩;simp only [pvB,(pv_gv hp).1]
 simp
theorem fp_sq {s:Int} {gi g:List Int} {rs:List RuleM} (h:fpB s gi rs g=true):sqFits g s=true:=by
 obtain ⟨hp,hg,h1,h2,h3⟩:=fp_parts.1 h
 simp [sqFits,hg,h3]
theorem ps_is {s:Int} {gi g:List Int} {rs:List RuleM} (hp:pvB s gi rs=true) (hg:gv g s=true):psB s gi rs g=(sqSolved g s&&((List.range rs.length).all fun i=>rhB (rat rs i).k (rat rs i).xs (rat rs i).v g s)&&((List.range g.length).all fun i=>nth gi i==0||nth gi i==nth g i)):=by
 have hl:=gv_len hg
 have hgf:gf g s=(cnz g g.length:Int):=by simp [gf,hg]
 have hli:=gv_len (pv_gv hp).1;unfold psB sqSolved sqFits;rw [hgf,<-hl]
 by_cases hf:cnz g g.length=g.length
 ·have hn:=cnz_all hf
  have e1:((cnz g g.length:Int)==(g.length:Int))=true:=by rw [hf];simp
  rw [e1,Bool.and_true,Bool.and_true,Bool.eq_iff_iff,fp_parts];simp only [Bool.and_eq_true,List.all_eq_true,List.mem_range,Bool.not_eq_true',Bool.or_eq_true,beq_iff_eq,hp,hg,true_and]
  have q1:∀ i,i<rs.length->(rhB (rat rs i).k (rat rs i).xs (rat rs i).v g s=true↔rpR s g (rat rs i)=true):=fun i hi=>by
   rw [rh_full ((pv_gv hp).2.2 i hi) hg hf];exact Iff.rfl
  have q2:∀ i,i<g.length->(giveOk gi g i=true↔(nth gi i=0\/nth gi i=nth g i)):=fun i hi=>by
   have h1:=hn i hi;have h2:=(gv_nth hg hi).1;have h3:=(gv_nth (pv_gv hp).1 (show i<gi.length by omega)).1;simp only [giveOk,Bool.not_eq_true',Bool.and_eq_false_iff,decide_eq_false_iff_not,bne_eq_false_iff_eq];omega
  constructor
  ·rintro ⟨a,b,c⟩;exact ⟨⟨c,fun i hi=>(q1 i hi).2 (b i hi)⟩,fun i hi=>(q2 i hi).1 (a i hi)⟩
  ·rintro ⟨⟨c,b⟩,a⟩;exact ⟨fun i hi=>(q2 i hi).2 (a i hi),fun i hi=>(q1 i hi).1 (b i hi),c⟩
 ·have e1:((cnz g g.length:Int)==(g.length:Int))=false:=by simp only [beq_eq_false_iff_ne];omega
  rw [e1]
  simp
end Go.Proofs.YtkeoflnmbcdmfaaGreatDoor
set_option maxRecDepth 8000
namespace Go.Proofs.YtkeoflnmbcdmfaaGreatDoor
open Go.ChangeShapes Go.WideShapes Go.ChangeAt Go.RowKit
def sqL (s:Nat):List (List Int):=sols s (s*s) (zeros (s*s)) 0
theorem sqL_len {s:Nat} (hs:s∈[2,3,4]):((sqL s).length:Int)=sqCnt s:=by
 have h:=sols_cnt (s:=(s:Int)) (by simp at hs;omega) (by simp at hs;omega);rw [<- h];unfold sqL;rw [show ((s:Int)*s).toNat=s*s by rw [<- Int.natCast_mul];exact Int.toNat_natCast _]
theorem sqn_sqL {s:Nat} (hs:s∈[2,3,4]) (j:Nat):sqn s j=(sqL s).getD j []:=by
 unfold sqn sqL;rw [if_pos ⟨by simp [inr];simp at hs;omega,by omega⟩,show ((s:Int)*s).toNat=s*s by rw [<- Int.natCast_mul];exact Int.toNat_natCast _,Int.toNat_natCast,List.getD_eq_getElem?_getD]
theorem clash_ext {s:Nat} {g y:List Int} (hs:s∈[2,3,4]) (h:∀ i,i<s*s->nth g i=nth y i\/nth g i=0) (hc:clash g s=true):clash y s=true:=by
 obtain ⟨i,j,hi,hj,ha,e,h0⟩:=(clash_iff hs).1 hc;have ej:nth g j=nth y j:=(h j hj).resolve_right (by omega);have ei:nth g i=nth y i:=(h i hi).resolve_right (by omega);exact (clash_iff hs).2 ⟨i,j,hi,hj,ha,by rw [<- ei,<-ej,e],by rw [<- ej];exact h0⟩
theorem sols_enS {s:Nat} (hs:s∈[2,3,4]):∀ (f p:Nat) (z:List Int),p+f=s*s->z.length=s*s->0<f->(∀ i,p<=i->nth z i=0)->sols s f z p=(enS s f z p).filter fun y=> !clash y s:=by
 intro f
 induction f with
 |zero=>intro p z _ _ h;omega
 |succ f ih=>
  intro p z hp hl _ hz
  have hs4:s<=4:=by simp at hs;omega
  simp only [sols,enS];rw [if_neg (by rw [hz p (Nat.le_refl _)];omega),List.filter_flatMap,Int.toNat_natCast];unfold rep
  have one:∀ v:Nat,(if clash (z.set p (v:Int)) s=true then [] else sols s f (z.set p (v:Int)) (p+1))=(enS s f (z.set p (v:Int)) (p+1)).filter fun y=> !clash y s:=fun v=>by
   have hzs:∀ i,p+1<=i->nth (z.set p (v:Int)) i=0:=fun i hi=>by
    have:nth (z.set p (v:Int)) i=nth z i:=(by simp only [nth,List.getD_eq_getElem?_getD,List.getElem?_set];rw [if_neg (by omega)]);rw [this];exact hz i (by omega)
   by_cases hc:clash (z.set p (v:Int)) s=true
   ·rw [if_pos hc]
    symm
    rw [List.filter_eq_nil_iff];intro y hy hn;obtain ⟨a,b,c⟩:=enS_in f _ _ y hy (by rw [List.length_set];omega)
    have:=clash_ext (g:=z.set p (v:Int)) (y:=y) hs (fun i hi=>by
     by_cases h:i<p+1
     ·exact .inl (b i h).symm
     ·exact .inr (hzs i (by omega))) hc
    rw [this] at hn;cases hn
   ·rw [if_neg hc]
    by_cases hf:0<f
    ·exact ih (p+1) _ (by omega) (by rw [List.length_set];exact hl) hf hzs
    ·obtain rfl:f=0:=by omega
     simp only [sols,enS];rw [List.filter_cons_of_pos (by simpa using hc),List.filter_nil]
  have key:∀ r v,solsFrom (fun ys=>sols s f ys (p+1)) z s p r v=(seqN v r).flatMap fun x=>(enS s f (z.set p x) (p+1)).filter fun y=> !clash y s:=by
   intro r
   induction r with
   |zero=>intro v;rfl
   |succ r ihr=>
    intro v;simp only [solsFrom,seqN,List.flatMap_cons];rw [ihr (v+1),one v]
  exact key s 1
theorem sqL_is {s:Nat} (hs:s∈[2,3,4]):sqL s=(enS s (s*s) (zeros (s*s)) 0).filter fun y=> !clash y s:=
 sols_enS hs (s*s) 0 _ (by omega) (zeros_length _) (by simp at hs;rcases hs with rfl|rfl|rfl<;>decide) (fun i _=>zeros_nth _ i)
theorem flat_one {α β:Type} {L:List α} {f:α->List β} {a:α} (hn:L.Nodup) (ha:a∈L) (h:∀ x∈L,x≠a->f x=[]):L.flatMap f=f a:=by
 induction L with
 |nil=>cases ha
 |cons b L ih=>
  rw [List.flatMap_cons];rw [List.nodup_cons] at hn
  rcases List.mem_cons.1 ha with rfl|h2
  ·rw [flat_none (fun x hx=>h x (List.mem_cons_of_mem _ hx) (fun e=>hn.1 (by rw [<- e];exact hx))),List.append_nil]
  ·rw [h b (List.mem_cons_self ..) (fun e=>hn.1 (by rw [e];exact h2)),List.nil_append];exact ih hn.2 h2 (fun x hx=>h x (List.mem_cons_of_mem _ hx))
theorem seqN_nodup:∀ r v,(seqN v r).Nodup:=by
 intro r
 induction r with
 |zero=>intro v;simp [seqN]
 |succ r ih=>
  intro v;simp only [seqN,List.nodup_cons];refine ⟨fun h=>?_,ih (v+1)⟩;obtain ⟨u,e,h1,_⟩:=seqN_mem.1 h;omega
def agF (g y:List Int) (p m:Nat):Bool:=(List.range m).all fun i=>decide (i<p)|| !(decide (0<nth g i))||(nth y i==nth g i)
theorem agF_iff {g y:List Int} {p m:Nat}:agF g y p m=true↔∀ i,p<=i->i<m->0<nth g i->nth y i=nth g i:=by
 simp only [agF,List.all_eq_true,List.mem_range,Bool.or_eq_true,decide_eq_true_eq,Bool.not_eq_true',decide_eq_false_iff_not,beq_iff_eq]
 constructor
 ·intro h i h1 h2 h3
  rcases h i h2 with (h|h)|h
  ·omega
  ·exact absurd h3 h
  ·exact h
 ·intro h i hi
  by_cases h1:i<p
  ·exact .inl (.inl h1)
  ·by_cases h2:0<nth g i
   ·exact .inr (h i (by omega) hi h2)
   ·exact .inl (.inr h2)
theorem enS_agree {s:Nat}:∀ (f p:Nat) (g z:List Int),p+f=z.length->g.length=z.length->(∀ i,i<p->nth g i=nth z i)->(∀ i,p<=i->nth z i=0)->(∀ i,p<=i->i<p+f->0<nth g i->nth g i∈rep s)->enS s f g p=(enS s f z p).filter fun y=>agF g y p (p+f):=by
 intro f
 induction f with
 |zero=>
  intro p g z hp hl hpre hz hin;obtain rfl:g=z:=ext_nth hl (fun k hk=>hpre k (by omega));simp only [enS];rw [List.filter_cons_of_pos (by exact agF_iff.2 (fun i h1 h2=>by omega)),List.filter_nil]
 |succ f ih=>
  intro p g z hp hl hpre hz hin
  have hset:∀ (x:Int) (i:Nat),p+1<=i->nth (z.set p x) i=0:=fun x i hi=>by
   rw [nth_set (by omega),if_neg (by omega)];exact hz i (by omega)
  have hq:∀ (x:Int) y,y∈enS s f (z.set p x) (p+1)->nth y p=x:=fun x y hy=>by
   obtain ⟨_,b,_⟩:=enS_in f _ _ y hy (by rw [List.length_set];omega);rw [b p (by omega),nth_set (by omega),if_pos rfl]
  simp only [enS];rw [if_neg (show ¬ 0<nth z p by rw [hz p (Nat.le_refl _)];omega),List.filter_flatMap]
  by_cases h0:0<nth g p
  ·rw [if_pos h0,flat_one (a:=nth g p) (show (rep s).Nodup from seqN_nodup s 1) (hin p (Nat.le_refl _) (by omega) h0)]
   ·rw [ih (p+1) g (z.set p (nth g p)) (by rw [List.length_set];omega) (by rw [List.length_set];exact hl) (fun i hi=>by
      rw [nth_set (by omega)]
      by_cases e:p=i
      ·subst e;rw [if_pos rfl]
      ·rw [if_neg e];exact hpre i (by omega)) (hset _) (fun i h1 h2=>hin i (by omega) (by omega))]
    apply List.filter_congr
    intro y hy;rw [Bool.eq_iff_iff,agF_iff,agF_iff]
    constructor
    ·intro h i h1 h2 h3
     by_cases e:i=p
     ·subst e;exact hq _ y hy
     ·exact h i (by omega) (by omega) h3
    ·intro h i h1 h2 h3;exact h i (by omega) (by omega) h3
   ·intro x _ hne;rw [List.filter_eq_nil_iff];intro y hy hag;have:=agF_iff.1 hag p (Nat.le_refl _) (by omega) h0;rw [hq x y hy] at this;exact hne this
  ·rw [if_neg h0]
   apply flat_congr
   intro x hx
   rw [ih (p+1) (g.set p x) (z.set p x) (by rw [List.length_set];omega) (by rw [List.length_set,List.length_set];exact hl) (fun i hi=>by
       rw [nth_set (by omega),nth_set (by omega)]
       split
       ·rfl
       ·exact hpre i (by omega)) (hset x) (fun i h1 h2 h3=>by
        rw [nth_set (by omega),if_neg (by omega)] at h3 ⊢
        exact hin i (by omega) (by omega) h3)]
   apply List.filter_congr
   intro y hy;rw [Bool.eq_iff_iff,agF_iff,agF_iff]
   constructor
   ·intro h i h1 h2 h3
    by_cases e:i=p
    ·subst e;exact absurd h3 h0
    ·have:=h i (by omega) (by omega) (by rw [nth_set (by omega),if_neg (by omega)];exact h3);rw [nth_set (by omega),if_neg (by omega)] at this;exact this
   ·intro h i h1 h2 h3;rw [nth_set (by omega),if_neg (by omega)] at h3 ⊢;exact h i (by omega) (by omega) h3
theorem solL_is {s:Nat} {gi:List Int} {rs:List RuleM} (hv:pvB s gi rs=true):solL s gi rs=(sqL s).filter (psB s gi rs):=by
 obtain ⟨t,ht,hs,hn,_,hok⟩:=pv_grid hv rfl
 obtain rfl:s=t:=by omega
 obtain ⟨hgi,_,hr⟩:=pv_gv hv
 have hl:gi.length=s*s:=by
  simp at hs
  rcases hs with rfl|rfl|rfl<;>omega
 rw [hl] at hok;have hzl:=zeros_length (s*s);unfold solL
 rw [hl,sqL_is hs,enS_agree (s*s) 0 gi (zeros (s*s)) (by omega) (by omega) (fun i hi=>absurd hi (by omega)) (fun i _=>zeros_nth _ i) (fun i _ h2 h3=>by
   have:=hok i (by omega)
   exact rep_mem.2 ⟨(nth gi i).toNat,by omega,by omega,by omega⟩),List.filter_filter,List.filter_filter]
 apply List.filter_congr
 intro y hy;obtain ⟨a,_,c⟩:=enS_in _ _ _ y hy (by omega);rw [hzl] at a c
 have hfull:∀ i,i<s*s->1<=nth y i/\nth y i<=(s:Int):=fun i hi=>by
  obtain ⟨u,e,u1,u2⟩:=rep_mem.1 ((c i (by omega) hi).2 (by rw [zeros_nth];omega));omega
 have hgy:gv y s=true:=okAll_gv' hs a (fun i hi=>by have:=hfull i hi;omega)
 have hps:psB s gi rs y=fpB s gi rs y:=by
  unfold psB
  have:gf y s=(y.length:Int):=by
   unfold gf;rw [if_pos hgy];have:=cnz_full.2 (fun k (hk:k<y.length)=>show nth y k≠0 by have:=hfull k (by omega);omega);rw [this]
  rw [this];simp
 rw [hps,Bool.eq_iff_iff,Bool.and_eq_true,Bool.and_eq_true,agF_iff,fp_parts];simp only [fitB,Bool.and_eq_true,List.all_eq_true,List.mem_range,Bool.not_eq_true']
 constructor
 ·rintro ⟨⟨⟨f1,f2⟩,f3⟩,ag⟩;exact ⟨⟨hv,hgy,f1,f2,f3⟩,f3⟩
 ·rintro ⟨⟨_,_,f1,f2,f3⟩,_⟩;refine ⟨⟨⟨f1,f2⟩,f3⟩,fun i h1 h2 h3=>?_⟩;have:=f1 i (by omega);have hy1:=hfull i (by omega);unfold giveOk at this;simp only [Bool.not_eq_true',Bool.and_eq_false_iff,decide_eq_false_iff_not,bne_eq_false_iff_eq] at this
  rcases this with (h|h)|h
  ·exact absurd h3 h
  ·omega
  ·exact h
end Go.Proofs.YtkeoflnmbcdmfaaGreatDoor
set_option maxRecDepth 8000
namespace Go.Proofs.YtkeoflnmbcdmfaaGreatDoor
open Go.ChangeShapes Go.WideShapes Go.ChangeAt Go.RowKit Go.Shelf
attribute [local go_sem] Oper.semAt_some
theorem RdRc.more {w:World} {B B':Nat} {A:Option Addr} {n:Nat} {rs:List RuleM} (h:RdRc w B A n rs) (hB:B<=B'):RdRc w B' A n rs:=by
 refine ⟨h.1,fun hn=>?_⟩;obtain ⟨b,off,e,hb,hc⟩:=h.2 hn
 exact ⟨b,off,e,Nat.lt_of_lt_of_le hb hB,fun i hi=>by
  obtain ⟨A',c',e0,e1,e2,e3,e4⟩:=hc i hi
  exact ⟨A',c',e0,e1,e2,e3.more hB,e4⟩⟩
theorem allS_cv {s:Nat} {gi:List Int} {rs:List RuleM} {most n:Nat} (hl:gi.length=n) (hv:pvB s gi rs=true) (h0:0<most) (hn:n=s*s):allS s most n gi rs=(cv s gi rs (s*s) []).take most:=by
 rw [allS_is hl hv h0,<-cv_is hv,hl,hn]
theorem sf_cons {s:Nat} {gi:List Int} {rs:List RuleM} {n:Nat} {y:List Int} {zs:List (List Int)} (hl:gi.length=n) (hv:pvB s gi rs=true) (hn:n=s*s) (h:cv s gi rs (s*s) []=y::zs):sfL s n gi rs=y/\sfB s n gi rs=true:=by
 unfold sfL sfB;rw [allS_cv hl hv (by omega) hn,h];exact ⟨rfl,rfl⟩
theorem sf_nil {s:Nat} {gi:List Int} {rs:List RuleM} {n:Nat} (hl:gi.length=n) (hv:pvB s gi rs=true) (hn:n=s*s) (h:cv s gi rs (s*s) []=[]):sfL s n gi rs=[]/\sfB s n gi rs=false:=by
 unfold sfL sfB;rw [allS_cv hl hv (by omega) hn,h];exact ⟨rfl,rfl⟩
theorem allS_none {s:Int} {gi:List Int} {rs:List RuleM} {most n:Nat} (hv:pvB s gi rs=false):allS s most n gi rs=[]:=by
 unfold allS fpB;rw [hv];rfl
theorem cv_len {s:Nat} {gi:List Int} {rs:List RuleM} {n:Nat} {y:List Int} (hl:gi.length=n) (hv:pvB s gi rs=true) (hn:n=s*s) (hs:s∈[2,3,4]) (h:y∈cv s gi rs (s*s) []):y.length=n:=by
 have e:cv s gi rs (s*s) []=solL s gi rs:=by rw [<- hn,<-hl];exact cv_is hv
 rw [e,solL_is hv] at h;have h1:=(List.mem_filter.1 h).2;unfold psB fpB at h1;simp only [Bool.and_eq_true] at h1;have:=gv_len h1.1.1.2
 simp at hs
 rcases hs with rfl|rfl|rfl<;>omega
theorem below_put_at {N l:Nat} {X:World} (o':Obj) (hN:N<=l) (hl:l<X.heap.size):Below N X (X.putObj l o'):=
 below_put o' hN (Array.getElem?_eq_getElem hl)
theorem Ow.same_own {w w':World} {lo n c:Nat} {A:Option Addr} {xs:List Int} (h:Ow w lo A n c xs) (hn:0<n) (hs:∀ g,(Value.slice A n c).ownBlock=some g->w'.heap[g]? =w.heap[g]?):Ow w' lo A n c xs:=by
 obtain ⟨g,rfl,_,_⟩:=h.form hn;exact h.same (hs g rfl)
theorem cell_none_of_deferred {W:World} {D i:Nat} {o:Option (List Deferred)} (h:W.heap[D]? =some (.deferred o)):W.cell? ⟨D,i,none⟩=none:=by
 unfold World.cell?
 simp [h]
theorem sf_results (tm:Array Value) (X:World) (g h:Nat) (A:Option Addr) (m c:Nat) (b:Bool) (h2:tm[2]?.getD undef=.pointer (some ⟨g,0,none⟩)) (h3:tm[3]?.getD undef=.pointer (some ⟨h,0,none⟩)) (c1:X.cell? ⟨g,0,none⟩=some (.slice A m c)) (c2:X.cell? ⟨h,0,none⟩=some (.bool b)):(results Tryz.f22 tm).run Tryz.prog X=.ok (.tuple #[.slice A m c,.bool b]) X:=by
 simp [results,Tryz.f22,go_sem,h2,h3,c1,c2]
set_option maxHeartbeats 1000000 in
theorem implSolveFirst (s:Int) (Ag:Option Addr) (n cg Bg:Nat) (gi:List Int) (Ar:Option Addr) (nr cr Br:Nat) (rs:List RuleM) (w:World) (hp:PGc w s Ag n cg Bg gi Ar nr cr Br rs) (hT:Tz w):
 Calls Tryz.prog 22 #[.agg #[.int .i64 s,.slice Ag n cg,.slice Ar nr cr]] w fun e w'=>∃ A m c,e=.returned (.tuple #[.slice A m c,.bool (sfB s n gi rs)])/\(sfB s n gi rs=true->m=n)/\Ow w' w.heap.size A m c (sfL s n gi rs)/\Below w.heap.size w w':=by
 have hx0:=pbox_new w s Ag n cg Ar nr cr 26;obtain ⟨W1,hW1⟩:∃ W1,w.alloc (.cells #[.int .i64 s,.slice Ag n cg,.slice Ar nr cr] 26)=W1:=⟨_,rfl⟩;rw [hW1] at hx0
 have hb1:Below w.heap.size w W1:=by rw [<- hW1];exact (Below.refl _ _).alloc (Nat.le_refl _) _
 have hs1:W1.heap.size=w.heap.size+1:=by rw [<- hW1];simp
 obtain ⟨W2,hW2⟩:∃ W2,W1.alloc (.cells #[.slice none 0 0] 23)=W2:=⟨_,rfl⟩
 have hb2:Below W1.heap.size W1 W2:=by rw [<- hW2];exact (Below.refl _ _).alloc (Nat.le_refl _) _
 have hs2:W2.heap.size=w.heap.size+1+1:=by rw [<- hW2];simp [hs1]
 have hr2:W2.heap[w.heap.size+1]? =some (.cells #[.slice none 0 0] 23):=by rw [<- hW2,<-hs1];exact heap_alloc_new _ _
 obtain ⟨W3,hW3⟩:∃ W3,W2.alloc (.cells #[.bool false] 4)=W3:=⟨_,rfl⟩
 have hb3:Below W2.heap.size W2 W3:=by rw [<- hW3];exact (Below.refl _ _).alloc (Nat.le_refl _) _
 have hs3:W3.heap.size=w.heap.size+1+1+1:=by rw [<- hW3];simp [hs2]
 have hr3:W3.heap[w.heap.size+1]? =some (.cells #[.slice none 0 0] 23):=(hb3.block _ (by omega)).trans hr2
 have hq3:W3.heap[w.heap.size+1+1]? =some (.cells #[.bool false] 4):=by rw [<- hW3,<-hs2];exact heap_alloc_new _ _
 have hx3:=(hx0.below (by omega) hb2).below (by omega) hb3;have hbW:Below w.heap.size w W3:=(hb1.trans (hb2.mono (by omega))).trans (hb3.mono (by omega));have HV:=Lib.hid (valid_any s Ag n cg Bg gi Ar nr cr Br rs W3 (hp.below hbW));have HB3:=Lib.hid hbW;have HX3:=Lib.hid hx3;have HR3:=Lib.hid (And.intro hr3 hq3);obtain ⟨z0,z1,z2⟩:=id hx3;clear hb1 hb2 hb3 hr2 hr3 hq3 hx0 hx3 hbW;refine (callsIn_wide (n:=9)).1 ?_;refine callsIn_of_wp_marks Tryz.func22 rfl trivial ?_ rfl;simp only [Tryz.ntmps22,List.size_toArray,List.length_cons,List.length_nil,Nat.reduceAdd,Nat.reduceSub,Array.replicate_succ,Array.replicate_zero,List.push_toArray,List.append_toArray,List.nil_append,List.cons_append]
 cases hv:pvB s gi rs
 ·have H1:sfB s n gi rs=false/\sfL s n gi rs=[]:=by unfold sfB sfL;rw [allS_none hv];exact ⟨rfl,rfl⟩
  rw [H1.1,H1.2];clear H1
  gi_wp2_with ((try refine ⟨trivial,?_⟩);gi_at_call 60;refine (callsIn_wide.2 HV.out).mono ?_;rintro e w4 ⟨rfl,hb4⟩;rw [hv];obtain ⟨hr3,hq3⟩:=HR3.out;have hr4:=(hb4.block _ (by omega)).trans hr3;have hq4:=(hb4.block _ (by omega)).trans hq3;have hcr:=cell_of_row _ _ 0 _ _ (0,0) hr4;have hfr:=frozen_of_row _ _ 0 _ _ hr4;have hcq:=cell_of_row _ _ 0 _ _ (0,0) hq4;have hfq:=frozen_of_row _ _ 0 _ _ hq4)
  have e1:=heap_setCell_same w4 (w.heap.size+1) 0 _ _ (.slice none 0 0) hr4;have e2:=(heap_setCell_other w4 ⟨w.heap.size+1,0,none⟩ (w.heap.size+1+1) (.slice none 0 0) (fun e=>by dsimp only at e;omega)).trans hq4;have e3:=(heap_setCell_other _ ⟨w.heap.size+1+1,0,none⟩ (w.heap.size+1) (.bool false) (fun e=>by dsimp only at e;omega)).trans e1;have e4:=heap_setCell_same _ (w.heap.size+1+1) 0 _ _ (.bool false) e2;exact ⟨_,sf_results _ _ (w.heap.size+1) (w.heap.size+1+1) none 0 0 false rfl rfl (cell_of_row _ _ 0 _ _ (0,0) e3) (cell_of_row _ _ 0 _ _ (0,0) e4),none,0,0,rfl,(fun h=>by cases h),Ow.nil_ _ _,((step HB3.out hb4).setCell (p:=⟨w.heap.size+1,0,none⟩) (by show w.heap.size<=w.heap.size+1;omega) _).setCell (p:=⟨w.heap.size+1+1,0,none⟩) (by show w.heap.size<=w.heap.size+1+1;omega) _⟩
 ·obtain ⟨t,rfl,hs,hnn,hn16,hok⟩:=pv_grid hv hp.g.1
  have hn:n=t*t:=by simp at hs;rcases hs with rfl|rfl|rfl<;>omega
  have hn0:0<n:=by simp at hs;rcases hs with rfl|rfl|rfl<;>omega
  have hgl:=hp.g.1
  have hmr:nr<=20:=by have:=(pv_gv hv).2.1;have:=hp.r.1;omega
  have HG:=Lib.hid (hp.g.more hp.gB);have HR:=Lib.hid (hp.r.more hp.rB);have HT:=Lib.hid (fun X (hb:Below w.heap.size w X)=>hT.below hT.lt hb);have HN:=Lib.hid hn;have HV2:=Lib.hid hv;have Hgl:=Lib.hid hgl;clear hok hnn hn hgl hp hT
  gi_wp2_with (first
   |((try refine ⟨trivial,?_⟩);gi_at_call 60;refine (callsIn_wide.2 HV.out).mono ?_;rintro e w4 ⟨rfl,hb4⟩;rw [hv];have hx4:=HX3.out.below (show w.heap.size<W3.heap.size by omega) hb4;obtain ⟨y0,y1,y2⟩:=id hx4)
   |((try refine ⟨trivial,?_⟩);gi_at_call 69;refine (callsIn_wide.2 (solutions_any t n Ag cg Ar nr cr w4)).mono ?_;rintro e w5 ⟨PB,rfl,hPl,hpb,hb5⟩))
  have h45:=hb5.size;have h34:=hb4.size;have hb35:Below W3.heap.size W3 w5:=hb4.trans (hb5.mono h34);have hb05:Below w.heap.size w w5:=HB3.out.trans (hb35.mono (by omega));obtain ⟨hr3,hq3⟩:=HR3.out;have hr5:=(hb35.block _ (by omega)).trans hr3;have hq5:=(hb35.block _ (by omega)).trans hq3;have hPB:=cell_lt hpb.1
  have d1:w.heap.size+1+1<w5.heap.size:=by omega
  clear z0 z1 z2 y0 y1 y2 hx4 hb4 hb5 hb35 hr3 hq3 hW1 hW2 hW3 hs1 hs2 hs3 h45 h34 hPl hv HV
  refine range_twoP 9 (q:=4) (by rfl) (enters_of Tryz.func123 (by kernel_rfl) rfl) (sols_seq w w.heap.size PB t n Ag cg gi Ar nr cr rs (Nat.le_refl _) hs HN.out HG.out HR.out hmr HV2.out HT.out)
   (fun pre X=>pre=[]/\SBase w w.heap.size PB t Ag n cg Ar nr cr X/\X.heap[w.heap.size+1]? =some (.cells #[.slice none 0 0] 23)/\X.heap[w.heap.size+1+1]? =some (.cells #[.bool false] 4))
   (fun cc X=>cc=.ret/\∃ y zs A c,cv t gi rs (t*t) []=y::zs/\Below w.heap.size w X/\X.heap[w.heap.size+1]? =some (.cells #[.slice A n c] 23)/\Ow X w.heap.size A n c y/\X.heap[w.heap.size+1+1]? =some (.cells #[.bool true] 4)/\∀ g,(Value.slice A n c).ownBlock=some g->w5.heap.size+1<g)
   (fun pre X h=>h.2.1)
   (fun pre X Y h hb=>⟨h.1,⟨h.2.1.1.trans (hb.mono (by omega)),h.2.1.2.below hPB hb⟩,(hb.block _ (by omega)).trans h.2.2.1,(hb.block _ d1).trans h.2.2.2⟩)
   (fun cc X o h hX=>by
     obtain ⟨h1,y,zs,A,c,h2,h3,h4,h5,h6,h7⟩:=h;refine ⟨h1,y,zs,A,c,h2,h3.trans (below_put_at _ (by omega) hX),(World.putObj_heap_other (by omega)).trans h4,?_,(World.putObj_heap_other (by omega)).trans h6,h7⟩
     exact h5.same_own hn0 (fun g e=>World.putObj_heap_other (by have:=h7 g e;omega)))
   ⟨rfl,⟨hb05,hpb⟩,hr5,hq5⟩ ?assign ?body ?done ?stop
  case assign=>
   intro l v W K hK;simp only [List.setIfInBounds_toArray,List.set_cons_zero,List.set_cons_succ] at hK ⊢
   gi_wp2
   exact hK
  case body=>
   rintro l pre x X b n' c' ⟨rfl,⟨hBX,hpX⟩,hrX,hqX⟩ ⟨zs,hzs⟩ hbb hXs hrd;have hxl:=cv_len Hgl.out HV2.out HN.out hs (show x∈cv t gi rs (t*t) [] by rw [hzs];simp)
   obtain rfl:n'=n:=by rw [<- hrd.1];exact hxl
   have HCl:=Lib.hid (clone_any (some ⟨b,0,none⟩) n' c' X.heap.size x X hrd (Nat.le_refl _) hn0 (by omega));have hXl:w.heap.size+1+1<X.heap.size:=(Array.getElem?_eq_some_iff.1 hqX).1;have Hzs:=Lib.hid hzs;have HBX:=Lib.hid hBX;have Hrd:=Lib.hid hrd;clear hzs hxl hpX hBX hrd;simp only [List.setIfInBounds_toArray,List.set_cons_zero,List.set_cons_succ]
   gi_wp2_with ((try refine ⟨trivial,?_⟩);gi_at_call 70;refine (callsIn_wide.2 HCl.out).mono ?_;rintro e w6 ⟨A6,c6,rfl,ho6,hb6⟩;have hr6:=(hb6.block _ (by omega)).trans hrX;have hq6:=(hb6.block _ hXl).trans hqX;have hcr:=cell_of_row _ _ 0 _ _ (0,0) hr6;have hfr:=frozen_of_row _ _ 0 _ _ hr6;have hcq:=cell_of_row _ _ 0 _ _ (0,0) hq6;have hfq:=frozen_of_row _ _ 0 _ _ hq6)
   obtain ⟨g6,rfl,hg6,hgw6⟩:=ho6.form hn0;have e1:=heap_setCell_same w6 (w.heap.size+1) 0 _ _ (.slice (some ⟨g6,0,none⟩) n' c6) hr6;have e2:=(heap_setCell_other w6 ⟨w.heap.size+1,0,none⟩ (w.heap.size+1+1) (.slice (some ⟨g6,0,none⟩) n' c6) (fun e=>by dsimp only at e;omega)).trans hq6;have e3:=(heap_setCell_other _ ⟨w.heap.size+1+1,0,none⟩ (w.heap.size+1) (.bool true) (fun e=>by dsimp only at e;omega)).trans e1;have e4:=heap_setCell_same _ (w.heap.size+1+1) 0 _ _ (.bool true) e2;have hX6:=hb6.size
   have hoE:Ow ((w6.setCell ⟨w.heap.size+1,0,none⟩ (.slice (some ⟨g6,0,none⟩) n' c6)).setCell ⟨w.heap.size+1+1,0,none⟩ (.bool true)) w.heap.size (some ⟨g6,0,none⟩) n' c6 x:=
    (ho6.mono (by omega)).same ((heap_setCell_other _ ⟨w.heap.size+1+1,0,none⟩ g6 (.bool true) (fun e=>by dsimp only at e;omega)).trans (heap_setCell_other w6 ⟨w.heap.size+1,0,none⟩ g6 (.slice (some ⟨g6,0,none⟩) n' c6) (fun e=>by dsimp only at e;omega)))
   refine ⟨(Mid.of_below hb6).trans ((Mid.setCell _ _ _ _ _ (by omega)).trans (Mid.setCell _ _ _ _ _ (by omega))),rfl,x,zs,_,c6,Hzs.out,((HBX.out.trans (hb6.mono (by omega))).setCell (p:=⟨w.heap.size+1,0,none⟩) (by show w.heap.size<=w.heap.size+1;omega) _).setCell (p:=⟨w.heap.size+1+1,0,none⟩) (by show w.heap.size<=w.heap.size+1+1;omega) _,e3,hoE,e4,fun g e=>?_⟩;have e:g6=g:=Option.some.inj e;omega
  case done=>
   rintro D W hD ⟨he,⟨hBX,_⟩,hrX,hqX⟩ hK;obtain ⟨q1,q2⟩:=sf_nil Hgl.out HV2.out HN.out he;have hcr:=cell_of_row _ _ 0 _ _ (0,0) hrX;have hfr:=frozen_of_row _ _ 0 _ _ hrX;have hcq:=cell_of_row _ _ 0 _ _ (0,0) hqX;have hfq:=frozen_of_row _ _ 0 _ _ hqX
   gi_wp2
   have e1:=heap_setCell_same W (w.heap.size+1) 0 _ _ (.slice none 0 0) hrX;have e2:=(heap_setCell_other W ⟨w.heap.size+1,0,none⟩ (w.heap.size+1+1) (.slice none 0 0) (fun e=>by dsimp only at e;omega)).trans hqX;have e3:=(heap_setCell_other _ ⟨w.heap.size+1+1,0,none⟩ (w.heap.size+1) (.bool false) (fun e=>by dsimp only at e;omega)).trans e1;have e4:=heap_setCell_same _ (w.heap.size+1+1) 0 _ _ (.bool false) e2;have e5:=(heap_setCell_other _ ⟨w.heap.size+1+1,0,none⟩ D (.bool false) (fun e=>by dsimp only at e;omega)).trans ((heap_setCell_other W ⟨w.heap.size+1,0,none⟩ D (.slice none 0 0) (fun e=>by dsimp only at e;omega)).trans hK)
   have hbE:=((hBX.setCell (p:=⟨w.heap.size+1,0,none⟩) (by show w.heap.size<=w.heap.size+1;omega) (.slice none 0 0)).setCell (p:=⟨w.heap.size+1+1,0,none⟩) (by show w.heap.size<=w.heap.size+1+1;omega) (.bool false)).trans (below_put (.deferred none) (show w.heap.size<=D by omega) e5);refine ⟨by simp,.inl ⟨_,_,rfl,run_takeDeferred e5,?_⟩⟩;refine ⟨_,sf_results _ _ (w.heap.size+1) (w.heap.size+1+1) none 0 0 false rfl rfl (cell_of_row _ _ 0 _ _ (0,0) ((World.putObj_heap_other (by omega)).trans e3)) (cell_of_row _ _ 0 _ _ (0,0) ((World.putObj_heap_other (by omega)).trans e4)),?_⟩
   exact ⟨none,0,0,rfl,Ow.nil_ _ _,hbE⟩
  case stop=>
   rintro D cc W hD ⟨rfl,y,zs,A,c,hc,hBX,hrX,hoX,hqX,hlo⟩ hK;obtain ⟨q1,q2⟩:=sf_cons Hgl.out HV2.out HN.out hc
   gi_wp2
   refine ⟨by simp,.inl ⟨_,_,rfl,run_takeDeferred hK,?_⟩⟩
   have hgD:∀ g,(Value.slice A n c).ownBlock=some g->g≠D:=fun g e e2=>by
    subst e2;obtain ⟨g',e3,_,_⟩:=hoX.form hn0;subst e3;obtain ⟨h1,h2⟩:=hoX.cell (show 0<n from hn0)
    injection e with e
    subst e;rw [cell_none_of_deferred hK] at h1;cases h1
   refine ⟨_,sf_results _ _ (w.heap.size+1) (w.heap.size+1+1) A n c true rfl rfl (cell_of_row _ _ 0 _ _ (0,0) ((World.putObj_heap_other (by omega)).trans hrX)) (cell_of_row _ _ 0 _ _ (0,0) ((World.putObj_heap_other (by omega)).trans hqX)),?_⟩;exact ⟨A,n,c,rfl,rfl,hoX.same_own hn0 (fun g e=>World.putObj_heap_other (fun e2=>hgD g e e2)),hBX.trans (below_put _ (by omega) hK)⟩
end Go.Proofs.YtkeoflnmbcdmfaaGreatDoor
set_option maxRecDepth 8000
namespace Go.Proofs.YtkeoflnmbcdmfaaGreatDoor
open Go.ChangeShapes Go.WideShapes Go.ChangeAt Go.RowKit
attribute [local go_sem] Oper.semAt_some
theorem below_putC {N l:Nat} {X:World} (o':Obj) (hN:N<=l) (hl:l<X.heap.size):Below N X (X.putObj l o'):=
 below_put (o:=X.heap[l]) o' hN (Array.getElem?_eq_getElem hl)
set_option maxHeartbeats 2000000 in
theorem countUpTo_any {gf:Nat} {lb:Array Value} {Base:World->Prop} {ways:List (List Int)} (M:Nat) (w:World) (hsq:SeqP Tryz.prog gf lb Base ways) (eg:∀ args w,(callFunc gf args).run Tryz.prog w=.ok (.enter gf args) w) (hBs:∀ X,Below w.heap.size w X->Base X) (hM1:0<M) (hM6:M<=600):
 Calls Tryz.prog 114 #[.func (.func gf) #[] lb,.int .i64 (M:Nat)] w fun e w'=>e=.returned (.int .i64 ((ways.take M).length:Nat))/\Below w.heap.size w w':=by
 obtain ⟨W2,hW2⟩:∃ W2,w.alloc (.cells #[.int .i64 (M:Nat)] 3)=W2:=⟨_,rfl⟩
 have hb2:Below w.heap.size w W2:=by rw [<- hW2];exact (Below.refl _ _).alloc (Nat.le_refl _) _
 have hs2:W2.heap.size=w.heap.size+1:=by rw [<- hW2];simp
 have hr2:W2.heap[w.heap.size]? =some (.cells #[.int .i64 (M:Nat)] 3):=by rw [<- hW2];exact heap_alloc_new _ _
 obtain ⟨V5,hV5⟩:∃ V5,W2.alloc (.cells #[.int .i64 0] 3)=V5:=⟨_,rfl⟩
 have hvb:Below W2.heap.size W2 V5:=by rw [<- hV5];exact (Below.refl _ _).alloc (Nat.le_refl _) _
 have hvr:V5.heap[W2.heap.size]? =some (.cells #[.int .i64 0] 3):=by rw [<- hV5];exact heap_alloc_new _ _
 have hvc:=cell_of_row _ _ 0 _ _ (0,0) hvr;have hvf:=frozen_of_row _ _ 0 _ _ hvr
 have hvs:V5.heap.size=W2.heap.size+1:=by rw [<- hV5];simp
 obtain ⟨W5,hW5⟩:∃ W5,V5.setCell ⟨W2.heap.size,0,none⟩ (.int .i64 0)=W5:=⟨_,rfl⟩
 have hb5:Below W2.heap.size W2 W5:=by rw [<- hW5];exact hvb.setCell (p:=⟨W2.heap.size,0,none⟩) (Nat.le_refl _) _
 have hs5:W5.heap.size=W2.heap.size+1:=by rw [<- hW5];simp [World.setCell,hvs]
 have hq5:W5.heap[W2.heap.size]? =some (.cells #[.int .i64 0] 3):=by rw [<- hW5];exact heap_setCell_same V5 W2.heap.size 0 _ _ _ hvr
 rw [hs2] at hvc hvf hW5;have HB5:=Lib.hid (hb2.trans (hb5.mono (by omega)));have HM5:Hid (W5.heap[w.heap.size]? =some (.cells #[.int .i64 (M:Int)] 3)):=Lib.hid ((hb5.block _ (by omega)).trans hr2);have HC5:Hid (W5.heap[w.heap.size+1]? =some (.cells #[.int .i64 ((0:Nat):Int)] 3)):=Lib.hid (by rw [<- hs2];exact hq5)
 have hs55:W5.heap.size=w.heap.size+2:=by omega
 have HS5:=Lib.hid hs55;clear hb2 hr2 hvb hvr hb5 hq5 hs5 hvs hs55;refine (callsIn_wide (n:=9)).1 ?_;refine callsIn_of_wp_marks Tryz.func114 rfl trivial ?_ rfl;simp only [Tryz.ntmps114,List.size_toArray,List.length_cons,List.length_nil,Nat.reduceAdd,Nat.reduceSub,Array.replicate_succ,Array.replicate_zero,List.push_toArray,List.append_toArray,List.nil_append,List.cons_append]
 gi_wp2
 have h5:=HS5.out;obtain ⟨CB,hCB⟩:∃ CB,CB=w.heap.size+1:=⟨_,rfl⟩
 have hq6:W5.heap[CB]? =some (.cells #[.int .i64 ((0:Nat):Int)] 3):=by rw [hCB];exact HC5.out
 have hm6:=HM5.out;have hb06:=HB5.out
 have d1:CB<W5.heap.size:=by omega
 have d2:w.heap.size<CB:=by omega
 have d3:w.heap.size<W5.heap.size:=by omega
 rw [<- hCB];clear hW2 hW5 hV5 hvc hvf hs2 h5 hCB HS5 HC5 HM5 HB5
 refine range_skipP 9 (by rfl) eg hsq
  (fun pre X=>Below w.heap.size w X/\X.heap[CB]? =some (.cells #[.int .i64 ((pre.length:Nat):Int)] 3)/\pre.length<M/\X.heap[w.heap.size]? =some (.cells #[.int .i64 (M:Int)] 3))
  (fun cc X=>cc=.exit 0/\Below w.heap.size w X/\X.heap[CB]? =some (.cells #[.int .i64 (M:Int)] 3)/\M<=ways.length)
  (fun pre X h=>hBs X h.1)
  (fun pre X Y h hb=>⟨h.1.trans (hb.mono (by omega)),(hb.block _ d1).trans h.2.1,h.2.2.1,(hb.block _ d3).trans h.2.2.2⟩)
  (fun cc X o h hX=>⟨h.1,h.2.1.trans (below_putC _ (by omega) hX),(World.putObj_heap_other (by omega)).trans h.2.2.1,h.2.2.2⟩)
  ⟨hb06,hq6,hM1,hm6⟩ ?body ?done ?stop
 case body=>
  rintro l pre x X b n' c' ⟨hBX,hcX,hlt,hmX⟩ ⟨zs,hzs⟩ hbb hXs hrd
  have hlen:(pre++[x]).length=pre.length+1:=by simp
  have hCl:pre.length+1<=ways.length:=by rw [hzs];simp
  obtain ⟨k,hk⟩:∃ k,k=pre.length:=⟨_,rfl⟩;rw [<- hk] at hcX hlt hlen hCl;have hcc:=cell_of_row _ _ 0 _ _ (0,0) hcX;have hfc:=frozen_of_row _ _ 0 _ _ hcX;have hcm:=cell_of_row _ _ 0 _ _ (0,0) hmX;have Hlen:=Lib.hid hlen;have HBX:=Lib.hid hBX;have HcX:=Lib.hid hcX;have HmX:=Lib.hid hmX
  have hk6:k<600:=by omega
  clear hlen hBX hcX hmX hrd hzs hk;simp only [List.setIfInBounds_toArray,List.set_cons_zero,List.set_cons_succ]
  have hm1:W5.heap.size<=X.heap.size:=by omega
  have HCl:=Lib.hid hCl
  have HE:Hid (∀ v:Int,v=(k:Int)+1->(X.setCell ⟨CB,0,none⟩ (.int .i64 ((k:Int)+1))).heap[CB]? =some (.cells #[.int .i64 v] 3)/\(X.setCell ⟨CB,0,none⟩ (.int .i64 ((k:Int)+1))).heap[w.heap.size]? =some (.cells #[.int .i64 (M:Int)] 3)/\Below w.heap.size w (X.setCell ⟨CB,0,none⟩ (.int .i64 ((k:Int)+1)))):=Lib.hid (fun v hv=>by
   subst hv
   exact ⟨heap_setCell_same X CB 0 _ _ (.int .i64 ((k:Int)+1)) HcX.out,(heap_setCell_other X ⟨CB,0,none⟩ w.heap.size _ (fun e=>by dsimp only at e;omega)).trans HmX.out,HBX.out.setCell (p:=⟨CB,0,none⟩) (by show w.heap.size<=CB;omega) _⟩)
  have HM:=Lib.hid (Mid.setCell W5.heap.size CB 0 X (.int .i64 ((k:Int)+1)) d1)
  by_cases e:k+1=M
  ·have hq:((k:Int)+1==(M:Int))=true:=by rw [beq_iff_eq];omega
   have he:=Lib.hid e;clear e hlt hCl
   gi_wp2
   obtain ⟨e1,e2,e3⟩:=HE.out M (by have:=he.out;omega);exact ⟨HM.out,rfl,e3,e1,by have:=he.out;have:=HCl.out;omega⟩
  ·have hq:((k:Int)+1==(M:Int))=false:=by rw [beq_eq_false_iff_ne];omega
   have he:=Lib.hid e;have hl:=Lib.hid hlt;clear e hlt hCl
   gi_wp2
   obtain ⟨e1,e2,e3⟩:=HE.out (((pre++[x]).length:Nat):Int) (by rw [Hlen.out];omega);exact ⟨HM.out,e3,e1,by rw [Hlen.out];have:=he.out;have:=hl.out;omega,e2⟩
 case done=>
  rintro D W hD ⟨hBX,hcX,hlt,_⟩ hK;have hcc:=cell_of_row _ _ 0 _ _ (0,0) hcX;have H2:=Lib.hid (show (ways.take M).length=ways.length by rw [List.length_take];omega);clear hlt
  gi_wp2
  refine ⟨by simp,.inl ⟨_,_,rfl,run_takeDeferred hK,?_⟩⟩;exact ⟨_,results_tmp rfl _ _ _,by rw [H2.out];rfl,hBX.trans (below_put _ (by omega) hK)⟩
 case stop=>
  rintro D cc W hD ⟨rfl,hBX,hcX,hM⟩ hK;have hcc:=cell_of_row _ _ 0 _ _ (0,0) hcX;have H2:=Lib.hid (show (ways.take M).length=M by rw [List.length_take];omega);clear hM
  gi_wp2
  refine ⟨by simp,.inl ⟨_,_,rfl,run_takeDeferred hK,?_⟩⟩;exact ⟨_,results_tmp rfl _ _ _,by rw [H2.out];rfl,hBX.trans (below_put _ (by omega) hK)⟩
end Go.Proofs.YtkeoflnmbcdmfaaGreatDoor
set_option maxRecDepth 8000
namespace Go.Proofs.YtkeoflnmbcdmfaaGreatDoor
open Go.ChangeShapes Go.WideShapes Go.ChangeAt Go.RowKit
def oneB (s:Int) (n:Nat) (gi:List Int) (rs:List RuleM):Bool:=(allS s 2 n gi rs).length==1
set_option maxHeartbeats 1000000 in
theorem specOne (s:Int) (Ag:Option Addr) (n cg Bg:Nat) (gi:List Int) (Ar:Option Addr) (nr cr Br:Nat) (rs:List RuleM) (w:World) (hp:PGs w s Ag n cg Bg gi Ar nr cr Br rs):
 Calls Tryz.prog 152 #[.agg #[.int .i64 s,.slice Ag n cg,.slice Ar nr cr]] w fun e w'=>e=.returned (.bool (oneB s n gi rs))/\Below w.heap.size w w':=by
 have hx0:=pbox_new w s Ag n cg Ar nr cr 26;have hb0:Below w.heap.size w (w.alloc (.cells #[.int .i64 s,.slice Ag n cg,.slice Ar nr cr] 26)):=(Below.refl _ _).alloc (Nat.le_refl _) _;have HA:=Lib.hid (fun w' (hb:Below w.heap.size w w')=>(show Calls Tryz.prog 63 #[.agg #[.int .i64 s,.slice Ag n cg,.slice Ar nr cr],.int .i64 2] w' _ from specAll s 2 Ag n cg Bg gi Ar nr cr Br rs w' (hp.below hb) (by omega) (by omega)));have hL:=allS_len s 2 n gi rs (by omega)
 have HQ:=Lib.hid (show (((allS s 2 n gi rs).length:Int)==1)=oneB s n gi rs by
  unfold oneB;rw [Bool.eq_iff_iff];simp only [beq_iff_eq]
  omega)
 go_enter Tryz.func152,Tryz.ntmps152
 go_wp2_with (go_at_call 63;(refine (HA.out _ hb0).mono ?_);rintro e w1 ⟨P,v,rfl,hrows,hb1⟩;obtain ⟨A1,c1,vs,rfl,_⟩:=hrows)
 go_ret
 exact ⟨by rw [HQ.out];rfl,step hb0 hb1⟩
set_option maxHeartbeats 1000000 in
theorem specWithout (s:Int) (Ag:Option Addr) (n cg Bg:Nat) (gi:List Int) (Ar:Option Addr) (nr cr:Nat) (k:Nat) (w:World) (hg:Rd w Bg Ag n gi) (hB:Bg<=w.heap.size) (hm:n<=1099511627776) (hk:k<n):
 Calls Tryz.prog 154 #[.agg #[.int .i64 s,.slice Ag n cg,.slice Ar nr cr],.int .i64 k] w fun e w'=>∃ A' c',e=.returned (.agg #[.int .i64 s,.slice A' n c',.slice Ar nr cr])/\Ow w' w.heap.size A' n c' (gi.set k 0)/\Below w.heap.size w w':=by
 have hx0:=pbox_new w s Ag n cg Ar nr cr 26;have hb0:Below w.heap.size w (w.alloc (.cells #[.int .i64 s,.slice Ag n cg,.slice Ar nr cr] 26)):=(Below.refl _ _).alloc (Nat.le_refl _) _
 have hs0:w.heap.size<(w.alloc (.cells #[.int .i64 s,.slice Ag n cg,.slice Ar nr cr] 26)).heap.size:=by simp
 obtain ⟨b,off,rfl,hbB,_⟩:=hg.at_ hk
 have hn0:0<n:=by omega
 obtain ⟨V,hV⟩:∃ V,V=(w.alloc (.cells #[.int .i64 s,.slice (some ⟨b,off,none⟩) n cg,.slice Ar nr cr] 26)).alloc (.cells #[.int .i64 0,.slice none 0 0,.slice none 0 0] 26):=⟨_,rfl⟩
 have hbV:Below w.heap.size w V:=by rw [hV];exact hb0.alloc hb0.size _
 have hsV:V.heap.size=w.heap.size+1+1:=by rw [hV];simp
 have hwV:w.heap.size<V.heap.size:=by omega
 have hwV1:w.heap.size+1<V.heap.size:=by omega
 obtain ⟨c0,c1',c2⟩:PBox V w.heap.size s (some ⟨b,off,none⟩) n cg Ar nr cr:=by
  rw [hV];exact hx0.below hs0 ((Below.refl _ _).alloc (Nat.le_refl _) _)
 have hrow:V.heap[w.heap.size+1]? =some (.cells #[.int .i64 0,.slice none 0 0,.slice none 0 0] 26):=by rw [hV];exact heap_alloc2_new w _ _
 have HO:Hid (Ow (V.alloc (.cells #[] 3)) (w.heap.size+1+1) (some ⟨w.heap.size+1+1,0,none⟩) 0 0 []):=Lib.hid (by
  have:=Ow.made0 V (w.heap.size+1+1) (by omega);rw [hsV] at this
  exact this)
 have hbO:Below V.heap.size V (V.alloc (.cells #[] 3)):=(Below.refl _ _).alloc (Nat.le_refl _) _;have HR:=Lib.hid ((hg.below (hbV.mono hB)).below (hbO.mono (Nat.le_trans hB (Nat.le_of_lt hwV))))
 have hsO:w.heap.size+1+1<=(V.alloc (.cells #[] 3)).heap.size:=by simp;omega
 have Hone:=Lib.hid puz_one;have Hi:=Lib.hid puz_info
 go_enter Tryz.func154,Tryz.ntmps154
 go_wp2_with (first
  |(at_builtin;(rw [<- hV]);(refine push_some rfl (.tmp 6) (.tmp 8) rfl (w.heap.size+1+1) (some ⟨w.heap.size+1+1,0,none⟩) 0 0 [] b off n cg Bg gi rfl rfl HO.out HR.out (by omega) hm hsO ?_);intro A1 c1 w1 ho1 hg1;simp only [Nat.zero_add,List.nil_append] at ho1;(obtain ⟨gb,rfl,hlog,hgw1⟩:=ho1.form hn0);(obtain ⟨hcq,hfq⟩:=ho1.cell hk);have hbw1:Below V.heap.size V w1:=hbO.grown hg1 hbO.size (fun k hk=>Nat.le_trans (Nat.le_of_eq hsV) (HO.out.own_lo k hk));have hgb0:w.heap.size≠gb:=Nat.ne_of_lt (Nat.lt_of_lt_of_le (Nat.lt_of_lt_of_le (Nat.lt_succ_self _) (Nat.le_succ _)) hlog);have hgb1:w.heap.size+1≠gb:=Nat.ne_of_lt hlog;(have d0:=(cell_other5 (k:=k) (v:=.int .i64 0) hgb0).trans ((hbw1.cell (p:=⟨w.heap.size,0,none⟩) hwV).trans c0));have d2:=(cell_other5 (k:=k) (v:=.int .i64 0) hgb0).trans ((hbw1.cell (p:=⟨w.heap.size,2,none⟩) hwV).trans c2);(have hr2:=(heap_setCell_other w1 ⟨gb,k,none⟩ (w.heap.size+1) (.int .i64 0) hgb1).trans ((hbw1.block (w.heap.size+1) hwV1).trans hrow)))
  |((refine wpList_store_row rfl 26 _ _ rfl (w.heap.size+1) #[.int .i64 s,.slice (some ⟨gb,0,none⟩) n c1,.slice Ar nr cr] rfl rfl 26 #[.int .i64 0,.slice none 0 0,.slice none 0 0] hr2 (Hi.out _ _ _ _ _ _ _) rfl (Hone.out _ _ _ _ _ _ _) ?_)))
 have ho2:Ow (w1.setCell ⟨gb,k,none⟩ (.int .i64 0)) (w.heap.size+1+1) (some ⟨gb,0,none⟩) n c1 (gi.set k 0):=by
  have:=(World.ownsRow.stored ho1 k (.int .i64 0)).1;rw [vals_set] at this;exact this
 have hBe:Below w.heap.size w ((w1.setCell ⟨gb,k,none⟩ (.int .i64 0)).setRow (w.heap.size+1) #[.int .i64 s,.slice (some ⟨gb,0,none⟩) n c1,.slice Ar nr cr]):=setRow_below5 ((hbV.trans (hbw1.mono hbV.size)).setCell (show w.heap.size<=gb by omega) _) (by omega);refine bodyPost_ret (v:=.agg #[.int .i64 s,.slice (some ⟨gb,0,none⟩) n c1,.slice Ar nr cr]) (results_cell_row (by rfl) _ _ (w.heap.size+1) 26 _ (0,0) _ rfl (setRow_heap _ _ _ _ _ _ hr2) Tryz.underlying26 rfl (Hi.out _ _ _ _ _ _ _)) rfl ⟨_,_,rfl,(ho2.row5 (fun b hb=>?_)).mono (by omega),hBe⟩;have:=ho2.own_lo b hb
 omega
end Go.Proofs.YtkeoflnmbcdmfaaGreatDoor
set_option maxRecDepth 8000
namespace Go.Proofs.YtkeoflnmbcdmfaaGreatDoor
open Go.ChangeShapes Go.WideShapes Go.ChangeAt Go.RowKit Go.Shelf
attribute [local go_sem] Oper.semAt_some
def csI (s:Int) (n:Nat) (gi:List Int) (rs:List RuleM) (most:Int):Int:=if (pvB s gi rs&&inr most 1 600)=true then ((allS s most.toNat n gi rs).length:Nat) else -1
set_option maxHeartbeats 1000000 in
theorem specCountSolutions (s:Int) (Ag:Option Addr) (n cg Bg:Nat) (gi:List Int) (Ar:Option Addr) (nr cr Br:Nat) (rs:List RuleM) (most:Int) (w:World) (hp:PGs w s Ag n cg Bg gi Ar nr cr Br rs):
 Calls Tryz.prog 17 #[.agg #[.int .i64 s,.slice Ag n cg,.slice Ar nr cr],.int .i64 most] w fun e w'=>e=.returned (.int .i64 (csI s n gi rs most))/\Below w.heap.size w w':=by
 have hx0:=pbox_new w s Ag n cg Ar nr cr 26;have hb0:Below w.heap.size w (w.alloc (.cells #[.int .i64 s,.slice Ag n cg,.slice Ar nr cr] 26)):=(Below.refl _ _).alloc (Nat.le_refl _) _
 have hs0:w.heap.size<(w.alloc (.cells #[.int .i64 s,.slice Ag n cg,.slice Ar nr cr] 26)).heap.size:=by simp
 obtain ⟨z0,z1,z2⟩:=id hx0;have HP:=Lib.hid (fun w' (hb:Below w.heap.size w w')=>specPuzzleValid s Ag n cg Bg gi Ar nr cr Br rs w' (hp.below hb).g (hp.below hb).gB hp.gm (hp.below hb).r (hp.below hb).rB hp.rm);cases hv:pvB s gi rs
 ·have HL:=Lib.hid (show csI s n gi rs most= -1 by simp [csI,hv])
  go_enter Tryz.func17,Tryz.ntmps17
  go_wp2_with (go_at_call 25;refine (HP.out _ hb0).mono ?_;rintro e w1 ⟨rfl,hb1⟩;rw [hv];have h01:=step hb0 hb1)
  go_ret
  exact ⟨by rw [HL.out];rfl,h01⟩
 ·cases hin:inr most 1 600
  ·have HL:=Lib.hid (show csI s n gi rs most= -1 by simp [csI,hin])
   go_enter Tryz.func17,Tryz.ntmps17
   go_wp2_with (first
    |(go_at_call 25;refine (HP.out _ hb0).mono ?_;rintro e w1 ⟨rfl,hb1⟩;rw [hv];have h01:=step hb0 hb1;obtain ⟨c0,c1,c2⟩:=hx0.below hs0 hb1)
    |(go_at_call 62;refine (l1In_any _ _ _ _).mono ?_;rintro e wq ⟨rfl,rfl⟩;rw [hin]))
   go_ret
   exact ⟨by rw [HL.out];rfl,h01⟩
  ·obtain ⟨m1,m6⟩:=inr_t hin;obtain ⟨M,rfl⟩:=Int.eq_ofNat_of_zero_le (show 0<=most by omega);have HL:=Lib.hid (show csI s n gi rs (M:Nat)=((allS s M n gi rs).length:Nat) by simp [csI,hv,hin]);have HA:=Lib.hid (fun w' (hb:Below w.heap.size w w')=>specAll s M Ag n cg Bg gi Ar nr cr Br rs w' (hp.below hb) (by omega) (by omega))
   go_enter Tryz.func17,Tryz.ntmps17
   go_wp2_with (first
    |(go_at_call 25;refine (HP.out _ hb0).mono ?_;rintro e w1 ⟨rfl,hb1⟩;rw [hv];have h01:=step hb0 hb1;obtain ⟨c0,c1,c2⟩:=hx0.below hs0 hb1)
    |(go_at_call 62;refine (l1In_any _ _ _ _).mono ?_;rintro e wq ⟨rfl,rfl⟩;rw [hin])
    |(go_at_call 63;refine (HA.out _ h01).mono ?_;rintro e w2 ⟨P,v,rfl,⟨A,c,vs,rfl,hown,_,hin2⟩,hb2⟩))
   go_ret
   exact ⟨by rw [HL.out];rfl,step h01 hb2⟩
theorem cs_take {L:List (List Int)} {M:Nat} (h:L.length<M):(L.take M).length=L.length:=by rw [List.length_take];omega
set_option maxHeartbeats 2000000 in
theorem countP_any (s:Int) (Ag:Option Addr) (n cg Bg:Nat) (gi:List Int) (Ar:Option Addr) (nr cr Br:Nat) (rs:List RuleM) (M:Nat) (w:World) (hp:PGc w s Ag n cg Bg gi Ar nr cr Br rs) (hv:pvB s gi rs=true) (hM1:0<M) (hM6:M<=600) (hT:Tz w):
 Calls Tryz.prog 61 #[.agg #[.int .i64 s,.slice Ag n cg,.slice Ar nr cr],.int .i64 (M:Nat)] w fun e w'=>e=.returned (.int .i64 ((allS s M n gi rs).length:Nat))/\Below w.heap.size w w':=by
 have hx0:=pbox_new w s Ag n cg Ar nr cr 26;have hb0:Below w.heap.size w (w.alloc (.cells #[.int .i64 s,.slice Ag n cg,.slice Ar nr cr] 26)):=(Below.refl _ _).alloc (Nat.le_refl _) _;obtain ⟨z0,z1,z2⟩:=id hx0;obtain ⟨t,rfl,hs,hnn,hn16,hok⟩:=pv_grid hv hp.g.1
 have hn:n=t*t:=by simp at hs;rcases hs with rfl|rfl|rfl<;>omega
 have hmr:nr<=20:=by have:=(pv_gv hv).2.1;have:=hp.r.1;omega
 have H1:=Lib.hid (show ((allS t M n gi rs).length:Nat)=((cv t gi rs (t*t) []).take M).length by rw [allS_cv hp.g.1 hv hM1 hn]);have hg:=hp.g.more hp.gB;have hr:=hp.r.more hp.rB;have HC:=Lib.hid (fun (PB:Nat) (w6:World) (hPB:w.heap.size<=PB) (hpb:PBox w6 PB t Ag n cg Ar nr cr) (h06:Below w.heap.size w w6)=>countUpTo_any M w6 (sols_seq w w.heap.size PB t n Ag cg gi Ar nr cr rs (Nat.le_refl _) hs hn hg hr hmr hv (fun X hX=>hT.below hT.lt hX)) (enters_of Tryz.func123 (by kernel_rfl) rfl) (fun X hX=>⟨h06.trans (hX.mono h06.size),hpb.below (cell_lt hpb.1) hX⟩) hM1 hM6)
 have HSL:=Lib.hid (fun W=>solutions_any t n Ag cg Ar nr cr W);clear hok hnn hn hg hr hv hp hT hx0
 go_enter Tryz.func61,Tryz.ntmps61
 go_wp2_with (first
  |(go_at_call 69;refine (HSL.out _).mono ?_;rintro e w6 ⟨PB,rfl,hPl,hpb,hb6⟩;have h06:=step hb0 hb6;have hPl2:=Nat.le_trans hb0.size hPl)
  |(go_at_call 114;refine (HC.out PB w6 hPl2 hpb h06).mono ?_;rintro e w7 ⟨rfl,hb7⟩))
 go_ret
 exact ⟨by rw [H1.out,List.length_take];rfl,step h06 hb7⟩
set_option maxHeartbeats 2000000 in
theorem implCountSolutions (s:Int) (Ag:Option Addr) (n cg Bg:Nat) (gi:List Int) (Ar:Option Addr) (nr cr Br:Nat) (rs:List RuleM) (most:Int) (w:World) (hp:PGc w s Ag n cg Bg gi Ar nr cr Br rs) (hT:Tz w):
 Calls Tryz.prog 16 #[.agg #[.int .i64 s,.slice Ag n cg,.slice Ar nr cr],.int .i64 most] w fun e w'=>e=.returned (.int .i64 (csI s n gi rs most))/\Below w.heap.size w w':=by
 have hx0:=pbox_new w s Ag n cg Ar nr cr 26;have hb0:Below w.heap.size w (w.alloc (.cells #[.int .i64 s,.slice Ag n cg,.slice Ar nr cr] 26)):=(Below.refl _ _).alloc (Nat.le_refl _) _
 have hs0:w.heap.size<(w.alloc (.cells #[.int .i64 s,.slice Ag n cg,.slice Ar nr cr] 26)).heap.size:=by simp
 obtain ⟨z0,z1,z2⟩:=id hx0;have HV:=Lib.hid (valid_any s Ag n cg Bg gi Ar nr cr Br rs _ (hp.below hb0));cases hv:pvB s gi rs
 ·have H1:=Lib.hid (show csI s n gi rs most= -1 by simp [csI,hv])
  go_enter Tryz.func16,Tryz.ntmps16
  go_wp2_with (go_at_call 60;refine HV.out.mono ?_;rintro e w4 ⟨rfl,hb4⟩;rw [hv])
  go_ret
  exact ⟨by rw [H1.out];rfl,step hb0 hb4⟩
 ·by_cases hlo:most<1
  ·have H1:=Lib.hid (show csI s n gi rs most= -1 by
    have:inr most 1 600=false:=(by unfold inr;simp;omega)
    simp [csI,this])
   go_enter Tryz.func16,Tryz.ntmps16
   go_wp2_with (go_at_call 60;refine HV.out.mono ?_;rintro e w4 ⟨rfl,hb4⟩;rw [hv])
   go_ret
   exact ⟨by rw [H1.out];rfl,step hb0 hb4⟩
  ·by_cases hhi:600<most
   ·have H1:=Lib.hid (show csI s n gi rs most= -1 by
     have:inr most 1 600=false:=(by unfold inr;simp;omega)
     simp [csI,this])
    go_enter Tryz.func16,Tryz.ntmps16
    go_wp2_with (go_at_call 60;refine HV.out.mono ?_;rintro e w4 ⟨rfl,hb4⟩;rw [hv])
    go_ret
    exact ⟨by rw [H1.out];rfl,step hb0 hb4⟩
   ·obtain ⟨M,rfl⟩:=Int.eq_ofNat_of_zero_le (show 0<=most by omega)
    have H1:=Lib.hid (show csI s n gi rs (M:Nat)=((allS s M n gi rs).length:Nat) by
     have:inr (M:Int) 1 600=true:=(by unfold inr;simp;omega)
     simp only [csI,hv,this,Bool.true_and,if_true,Int.toNat_natCast])
    have HC:=Lib.hid (fun w' (hb:Below w.heap.size w w')=>countP_any s Ag n cg Bg gi Ar nr cr Br rs M w' (hp.below hb) hv (by omega) (by omega) (hT.below hT.lt hb))
    go_enter Tryz.func16,Tryz.ntmps16
    go_wp2_with (first
     |(go_at_call 60;refine HV.out.mono ?_;rintro e w4 ⟨rfl,hb4⟩;rw [hv];have h04:=step hb0 hb4;obtain ⟨y0,y1,y2⟩:=hx0.below hs0 hb4)
     |(go_at_call 61;refine (HC.out _ h04).mono ?_;rintro e w5 ⟨rfl,hb5⟩))
    go_ret
    exact ⟨by rw [H1.out];rfl,step h04 hb5⟩
end Go.Proofs.YtkeoflnmbcdmfaaGreatDoor
namespace Go.Proofs.YtkeoflnmbcdmfaaGreatDoor
open Go.ChangeShapes Go.WideShapes Go.ChangeAt Go.RowKit
def ISquareFits:Prop:=∀ (A:Option Addr) (c n B:Nat) (xs:List Int) (size:Int) (w:World),Rd w B A n xs->B<=w.heap.size->n<=1099511627776->
    Calls Tryz.prog 158 #[.slice A n c,.int .i64 size] w fun e w'=>e=.returned (.bool (sqFits xs size))/\Below w.heap.size w w'
def ISquareNumber:Prop:=∀ (size number:Int) (w:World),(-9223372036854775808<=size/\size<=9223372036854775807)->(-9223372036854775808<=number/\number<=9223372036854775807)->Calls Tryz.prog 20 #[.int .i64 size,.int .i64 number] w (RetSl w (sqn size number))
theorem sqOfL_length (size:Int):(sqOfL size).length<=16:=by
 unfold sqOfL
 split
 ·next h=>
  obtain ⟨h2,h4⟩:=inr_t h;have:=sq_bd h2 h4;rw [mapTo_length];omega
 ·simp
end Go.Proofs.YtkeoflnmbcdmfaaGreatDoor
namespace Go.Proofs.YtkeoflnmbcdmfaaGreatDoor
open Go.ChangeShapes Go.WideShapes Go.ChangeAt Go.RowKit
theorem implSquareFits:ISquareFits:=by
 intro A c n B xs size w h hB hm;have hlen:=Lib.hid h.1;cases hg:gv xs size
 ·have HL:=Lib.hid (show sqFits xs size=false by simp [sqFits,hg]);have h1:=h.alloc hB (.cells #[.slice A n c,.int .i64 size] 75)
  have hB1:B<=(w.alloc (.cells #[.slice A n c,.int .i64 size] 75)).heap.size:=by simp;omega
  have hB0:Below w.heap.size w (w.alloc (.cells #[.slice A n c,.int .i64 size] 75)):=(Below.refl _ _).alloc (Nat.le_refl _) _
  go_enter Tryz.func158,Tryz.ntmps158
  go_wp2_with (go_at_call 117;refine (implValid _ _ _ _ _ _ _ h1 hB1 hm).mono ?_;rintro e w1 ⟨rfl,hb1⟩;rw [hg])
  go_ret
  exact ⟨by rw [HL.out];rfl,step hB0 hb1⟩
 ·obtain ⟨s,rfl,hs,hls⟩:=size_nat hg
  have hn:n=s*s:=by have:=hlen.out;omega
  have hok:=Lib.hid (gv_okAll hg hlen.out);have HL:=Lib.hid (show sqFits xs s= !(twice xs s n) by rw [twice_clash hs hn hok.out,sqFits,hg];rfl);have Hn:=Lib.hid hn;clear hn hls;have h1:=h.alloc hB (.cells #[.slice A n c,.int .i64 s] 75)
  have hB1:B<=(w.alloc (.cells #[.slice A n c,.int .i64 s] 75)).heap.size:=by simp;omega
  have hB0:Below w.heap.size w (w.alloc (.cells #[.slice A n c,.int .i64 s] 75)):=(Below.refl _ _).alloc (Nat.le_refl _) _
  have hz0:∀ u:World,MBox (u.alloc (.cells #[.int .i64 0,.int .i64 0,.int .i64 0,.int .i64 0,.int .i64 0,.int .i64 0,.int .i64 0,.int .i64 0,.int .i64 0] 81)) u.heap.size (fun _=>0) 0:=fun u=>heap_alloc_new u _
  have Hz0:=Lib.hid hz0;clear hz0;have Hi9:=Lib.hid (show (Tryz.prog.info? 81).map (·.size)=some (mcells (lmask xs s n) s).size by rw [mcells_size];kernel_rfl);have Hone:=Lib.hid (mone (lmask xs s n) s)
  go_enter Tryz.func158,Tryz.ntmps158
  go_wp2_with (go_at_call 117;refine (implValid _ _ _ _ _ _ _ h1 hB1 hm).mono ?_;rintro e w1 ⟨rfl,hb1⟩;rw [hg];have hr1:=(h1.below (hb1.mono (Nat.le_trans hB1 (Nat.le_refl _))));have hbox:=box_cell hb1;have hB2:=step hB0 hb1)
  have c0:=hbox 0;have c1:=hbox 1
  simp at c0 c1
  clear hbox;have hBw:B<=w1.heap.size:=Nat.le_trans hB hB2.size
  go_wp2_with (first|(go_at_call 179;refine (lines_any _ _ _ _ _ _ _ hr1 hBw hs Hn.out hok).mono ?_;rintro e w2 ⟨rfl,hb2⟩;have hB3:=step hB2 hb2)|(refine wpList_store_row rfl 81 _ _ rfl w2.heap.size (mcells (lmask xs s n) s) rfl rfl 81 (mcells (fun _=>0) 0) (Hz0.out w2) Hi9.out rfl Hone.out ?_))
  go_ret
  exact ⟨by rw [HL.out];rfl,setRow_below (hB3.alloc hB3.size _) hB3.size⟩
end Go.Proofs.YtkeoflnmbcdmfaaGreatDoor
set_option maxRecDepth 8000
namespace Go.Proofs.YtkeoflnmbcdmfaaGreatDoor
open Go.ChangeShapes Go.WideShapes Go.ChangeAt Go.RowKit
end Go.Proofs.YtkeoflnmbcdmfaaGreatDoor
set_option maxRecDepth 8000
namespace Go.Proofs.YtkeoflnmbcdmfaaGreatDoor
open Go.ChangeShapes Go.WideShapes Go.ChangeAt Go.RowKit
end Go.Proofs.YtkeoflnmbcdmfaaGreatDoor
namespace Go.Proofs.YtkeoflnmbcdmfaaGreatDoor
open Go.ChangeShapes Go.WideShapes Go.ChangeAt Go.RowKit
def agree (ys xs:List Int) (p:Nat):Prop:=∀ j,j<p->nth ys j=nth xs j
theorem lmask_agree {xs ys:List Int} {s:Nat}:∀ k,agree ys xs k->lmask ys s k=lmask xs s k/\twice ys s k=twice xs s k:=by
 intro k
 induction k with
 |zero=>intro _;exact ⟨rfl,rfl⟩
 |succ k ih=>
  intro h;obtain ⟨h1,h2⟩:=ih (fun j hj=>h j (by omega));have h3:=h k (by omega);simp only [lmask,twice,h1,h2,h3];exact ⟨trivial,trivial⟩
theorem twice_tail {xs:List Int} {s p:Nat}:∀ k,p<=k->(∀ j,p<=j->j<k->nth xs j=0)->twice xs s k=twice xs s p:=by
 intro k
 induction k with
 |zero=>intro h _;have:p=0:=by omega
        subst this;rfl
 |succ k ih=>
  intro h hz
  by_cases e:p=k+1
  ·subst e;rfl
  ·rw [(lmask_z (s:=s) (hz k (by omega) (by omega))).2];exact ih (by omega) (fun j h1 h2=>hz j h1 (by omega))
def zfrom (xs:List Int) (p n:Nat):Prop:=∀ j,p<=j->j<n->nth xs j=0
theorem zfrom_set {xs:List Int} {p n:Nat} {v:Int} (h:zfrom xs p n) (hl:xs.length=n) (hp:p<n):zfrom (xs.set p v) (p+1) n:=fun j h1 h2=>by
 rw [nth_set (by omega),if_neg (by omega)];exact h j (by omega) h2
theorem agree_set (xs:List Int) {p n:Nat} (v:Int) (hl:xs.length=n) (hp:p<n):agree (xs.set p v) xs p:=fun j h1=>by
 rw [nth_set (by omega),if_neg (by omega)]
theorem clash_put {xs:List Int} {s n p v:Nat} (hs:s∈[2,3,4]) (hn:n=s*s) (hl:xs.length=n) (hok:okAll xs s n) (hz:zfrom xs p n) (hc:clash xs s=false) (hp:p<n) (v1:1<=v) (v2:v<=s):
 clash (xs.set p (v:Int)) s=((lmask xs s p (p/s)).testBit v||(lmask xs s p (s+p%s)).testBit v):=by
 have hok':=okAll_set (v:=(v:Int)) hok hl hp (by omega) (by omega);have ha:=agree_set xs (v:Int) hl hp
 have hat:nth (xs.set p (v:Int)) p=(v:Int):=by rw [nth_set (by omega),if_pos rfl]
 rw [<- twice_clash hs hn hok',twice_tail n (by omega) (zfrom_set (v:=(v:Int)) hz hl hp),(lmask_nz (s:=s) hat (by omega)).2,(lmask_agree p ha).1,(lmask_agree p ha).2];rw [<- twice_clash hs hn hok,twice_tail n (by omega) hz] at hc;rw [hc,Bool.false_or]
theorem lmask_put {xs:List Int} {s n p v:Nat} (hl:xs.length=n) (hp:p<n) (v1:1<=v):lmask (xs.set p (v:Int)) s (p+1)=mput (mput (lmask xs s p) (p/s) v) (s+p%s) v:=by
 have ha:=agree_set xs (v:Int) hl hp
 have hat:nth (xs.set p (v:Int)) p=(v:Int):=by rw [nth_set (by omega),if_pos rfl]
 rw [(lmask_nz (s:=s) hat (by omega)).1,(lmask_agree p ha).1]
def Chg (w w':World) (P G:Nat):Prop:=w'.os=w.os/\w'.tape=w.tape/\w'.output=w.output/\w.heap.size<=w'.heap.size/\∀ k,k<w.heap.size->k≠P->k≠G->w'.heap[k]? =w.heap[k]?
theorem Chg.refl (w:World) (P G:Nat):Chg w w P G:=⟨rfl,rfl,rfl,Nat.le_refl _,fun _ _ _ _=>rfl⟩
theorem Chg.trans {w w1 w2:World} {P G:Nat} (h:Chg w w1 P G) (h2:Chg w1 w2 P G):Chg w w2 P G:=
 ⟨h2.1.trans h.1,h2.2.1.trans h.2.1,h2.2.2.1.trans h.2.2.1,Nat.le_trans h.2.2.2.1 h2.2.2.2.1,fun k hk hP hG=>(h2.2.2.2.2 k (Nat.lt_of_lt_of_le hk h.2.2.2.1) hP hG).trans (h.2.2.2.2 k hk hP hG)⟩
theorem Chg.ofBelow {w w':World} {P G:Nat} (h:Below w.heap.size w w'):Chg w w' P G:=⟨h.os,h.tape,h.output,h.size,fun k hk _ _=>h.block k hk⟩
theorem Chg.setP (w:World) (P G i:Nat) (v:Value):Chg w (w.setCell ⟨P,i,none⟩ v) P G:=⟨rfl,rfl,rfl,by simp,fun k _ hk _=>heap_setCell_other w _ k v hk⟩
theorem Chg.setG (w:World) (P G i:Nat) (v:Value):Chg w (w.setCell ⟨G,i,none⟩ v) P G:=⟨rfl,rfl,rfl,by simp,fun k _ _ hk=>heap_setCell_other w _ k v hk⟩
theorem Chg.below {w w':World} {P G B:Nat} (h:Chg w w' P G) (hP:B<=P) (hG:B<=G) (hB:B<=w.heap.size):Below B w w':=⟨h.1,h.2.1,h.2.2.1,h.2.2.2.1,fun k hk=>h.2.2.2.2 k (Nat.lt_of_lt_of_le hk hB) (by omega) (by omega)⟩
theorem Chg.mbox {w w':World} {P G g:Nat} {M:Nat->Nat} {s:Int} (h:Chg w w' P G) (hx:MBox w g M s) (hP:g≠P) (hG:g≠G):MBox w' g M s:=(h.2.2.2.2 g hx.lt hP hG).trans hx
def SB (w:World) (P G n:Nat) (s sk:Int) (ys:List Int):Prop:=
 w.heap[P]? =some (.cells #[.slice (some ⟨G,0,none⟩) n n,.int .i64 s,.int .i64 sk] 77)/\w.heap[G]? =some (.cells (vals ys).toArray 3)/\ys.length=n/\P≠G
section
variable {w w' : World} {P G n : Nat} {s sk : Int} {ys : List Int}
theorem SB.c0 (h:SB w P G n s sk ys):w.cell? ⟨P,0,none⟩=some (.slice (some ⟨G,0,none⟩) n n):=cell_of_row _ _ 0 _ _ _ h.1
theorem SB.c1 (h:SB w P G n s sk ys):w.cell? ⟨P,1,none⟩=some (.int .i64 s):=cell_of_row _ _ 1 _ _ _ h.1
theorem SB.c2 (h:SB w P G n s sk ys):w.cell? ⟨P,2,none⟩=some (.int .i64 sk):=cell_of_row _ _ 2 _ _ _ h.1
theorem SB.f2 (h:SB w P G n s sk ys):w.frozen? ⟨P,2,none⟩=false:=frozen_of_row _ _ 2 _ _ h.1
theorem SB.ltP (h:SB w P G n s sk ys):P<w.heap.size:=(Array.getElem?_eq_some_iff.1 h.1).1
theorem SB.ltG (h:SB w P G n s sk ys):G<w.heap.size:=(Array.getElem?_eq_some_iff.1 h.2.1).1
theorem SB.g (h:SB w P G n s sk ys) {k:Nat} (hk:k<n):w.cell? ⟨G,k,none⟩=some (.int .i64 (nth ys k))/\w.frozen? ⟨G,k,none⟩=false:=
 ⟨(cell_of_row _ _ k _ _ _ h.2.1).trans (by rw [List.getElem?_toArray];exact vals_get (by rw [h.2.2.1];exact hk)),frozen_of_row _ _ k _ _ h.2.1⟩
theorem SB.below {B:Nat} (h:SB w P G n s sk ys) (hb:Below B w w') (hP:P<B) (hG:G<B):SB w' P G n s sk ys:=⟨(hb.block P hP).trans h.1,(hb.block G hG).trans h.2.1,h.2.2⟩
theorem SB.setP (h:SB w P G n s sk ys) (u:Int):SB (w.setCell ⟨P,2,none⟩ (.int .i64 u)) P G n s u ys:=
 ⟨by rw [heap_setCell_same w P 2 _ _ _ h.1];rfl,(heap_setCell_other w _ G _ (fun e=>h.2.2.2 e.symm)).trans h.2.1,h.2.2⟩
theorem SB.setG (h:SB w P G n s sk ys) (k:Nat) (u:Int):SB (w.setCell ⟨G,k,none⟩ (.int .i64 u)) P G n s sk (ys.set k u):=
 ⟨(heap_setCell_other w _ P _ h.2.2.2).trans h.1,by rw [heap_setCell_same w G k _ _ _ h.2.1,<-vals_set,List.setIfInBounds_toArray],by rw [List.length_set];exact h.2.2.1,h.2.2.2⟩
end
def FillPost (w:World) (P G n s:Nat) (xs:List Int) (p:Nat) (r:Option (List Int)×Int) (e:Ending) (w':World):Prop:=
 Chg w w' P G/\
  match r.1 with
  |some y=>e=.returned (.bool true)/\∃ sk,SB w' P G n s sk y
  |none=>e=.returned (.bool false)/\∃ ys,SB w' P G n s r.2 ys/\agree ys xs p
end Go.Proofs.YtkeoflnmbcdmfaaGreatDoor
namespace Go.Proofs.YtkeoflnmbcdmfaaGreatDoor
open Go.ChangeShapes Go.WideShapes Go.ChangeAt Go.RowKit
set_option maxHeartbeats 1000000 in
theorem fill_any (P G n s:Nat) (hs:s∈[2,3,4]) (hn:n=s*s) (f:Nat):∀ (xs ys:List Int) (p:Nat) (sk:Int) (w:World),
 p+f=n->xs.length=n->Hid (okAll xs s n)->Hid (zfrom xs p n)->clash xs s=false->agree ys xs p->SB w P G n s sk ys->0<=sk->sk<=9223372036854775807->
 Calls Tryz.prog 68 #[.pointer (some ⟨P,0,none⟩),.int .i64 p,.agg (mcells (lmask xs s p) s)] w (FillPost w P G n s xs p (srch s f xs p sk)):=by
 have hs2:2<=s:=by simp at hs;omega
 have hs4:s<=4:=by simp at hs;omega
 have hn16:n<=16:=by simp at hs;rcases hs with rfl|rfl|rfl<;>omega
 have Hn:=Lib.hid hn;clear hn
 induction f with
 |zero=>
  intro xs ys p sk w hp hl hok hz hcl hag hS k0 k1
  obtain rfl:p=n:=by omega
  have hnn:((p:Int)==(p:Int))=true:=by simp
  have hys:ys=xs:=ext_nth (by rw [hS.2.2.1,hl]) (fun k hk=>hag k (by rw [hS.2.2.1] at hk;exact hk));subst hys;have Hl:=Lib.hid hl;clear hl;have Hcl:=Lib.hid hcl;clear hcl;have hB:=(Below.refl w.heap.size w).alloc (Nat.le_refl _) (.cells (mcells (lmask ys s p) s) 81);have hS1:=hS.below hB hS.ltP hS.ltG;have hS2:=hS1.setP (sk-1);have hC:Chg w ((w.alloc (.cells (mcells (lmask ys s p) s) 81)).setCell ⟨P,2,none⟩ (.int .i64 (sk-1))) P G:=(Chg.ofBelow hB).trans (Chg.setP _ P G 2 _);have a0:=hS1.c0;have a2:=hS1.c2;have a3:=hS1.f2;have b2:=hS2.c2;have HS2:=Lib.hid hS2;clear hS2
  by_cases h0:sk=0
  ·have hsr:=Lib.hid (show srch s 0 ys p sk=(some ys,sk) by rw [srch,if_pos h0]);have hlt:sk-1<0:=(by omega);clear h0
   go_enter Tryz.func68,Tryz.ntmps68
   go_wp2
   go_ret
   rw [hsr.out];exact ⟨hC,rfl,_,HS2.out⟩
  ·have hsr:=Lib.hid (show srch s 0 ys p sk=(none,sk-1) by rw [srch,if_neg h0]);have hlt:¬ sk-1<0:=(by omega);clear h0
   go_enter Tryz.func68,Tryz.ntmps68
   go_wp2
   go_ret
   rw [hsr.out];exact ⟨hC,rfl,_,HS2.out,fun _ _=>rfl⟩
 |succ f ih=>
  intro xs ys p sk w hp hl hok hz hcl hag hS k0 k1
  have hpn:p<n:=by omega
  have hpp:((p:Int)==(n:Int))=false:=by simp;omega
  have Hp:=Lib.hid (show (p+1)+f=n by omega);clear hp;have Ih:=Lib.hid ih;clear ih;have Hl:=Lib.hid hl;clear hl;have Hc0:=Lib.hid hcl;clear hcl;have Hag:=Lib.hid hag;clear hag;have hT:=Lib.hid (show srch s (f+1) xs p sk=tryFrom (fun ys l=>srch s f ys (p+1) l) xs s p (s+1-1) 1 sk from by rw [srch,Int.toNat_natCast];rfl);have Hi9:=Lib.hid (show (Tryz.prog.info? 81).map (·.size)=some (mcells (lmask xs s p) s).size by rw [mcells_size];kernel_rfl);obtain ⟨hr8,hc8⟩:=rc_lt s hs p (by have:=Hn.out;omega);have Hr:Hid ((p:Int)/(s:Int)=((p/s:Nat):Int)):=Lib.hid (by simp)
  have Hc:Hid ((s:Int)+(p:Int)%(s:Int)=((s+p%s:Nat):Int)):=Lib.hid (by simp);have Hm:=Lib.hid (lmask_lt (xs:=xs) (by omega:(s:Int)<=4) hok.out p (by omega));have hB:=(Below.refl w.heap.size w).alloc (Nat.le_refl _) (.cells (mcells (lmask xs s p) s) 81);have hS1:=hS.below hB hS.ltP hS.ltG;have hx1:Hid (MBox (w.alloc (.cells (mcells (lmask xs s p) s) 81)) w.heap.size (lmask xs s p) s):=Lib.hid (heap_alloc_new _ _);have hPw:=hS.ltP;have hGw:=hS.ltG;have hC1:Chg w (w.alloc (.cells (mcells (lmask xs s p) s) 81)) P G:=Chg.ofBelow hB;have a0:=hS1.c0
  clear hS hB
  go_enter Tryz.func68,Tryz.ntmps68
  go_wp2
  go_loopw [7] (fun i wr=>∃ (v:Nat) (l:Int) (zs:List Int),1<=v/\v<=s+1/\i=.int .i64 v/\Hid (srch s (f+1) xs p sk=tryFrom (fun ys l=>srch s f ys (p+1) l) xs s p (s+1-v) v l)/\Chg w wr P G/\SB wr P G n s l zs/\Hid (agree zs xs p)/\Hid (MBox wr w.heap.size (lmask xs s p) s)/\0<=l/\l<=9223372036854775807) (fun i _=>(s+1-intOf i).toNat)
  case atStart=>exact ⟨1,sk,ys,by omega,by omega,rfl,hT,hC1,hS1,Hag,hx1,k0,k1⟩
  case round=>
   clear a0 hS1 hx1 hC1 hT;obtain ⟨v,l,zs,v1,v2,rfl,hS',hC,hS,hag,hx,l0,l1⟩:=hrel;have a1:=hS.c1
   by_cases hlt:v<=s
   ·have Hcl:=Lib.hid (clash_put hs Hn.out Hl.out hok.out hz.out Hc0.out hpn v1 hlt);have Hr2:=Lib.hid (show s+1-v=(s-v)+1 by omega);have Hr3:=Lib.hid (show s-v=s+1-(v+1) by omega);have HS':=Lib.hid (show srch s (f+1) xs p sk=tryFrom (fun ys l=>srch s f ys (p+1) l) xs s p ((s-v)+1) v l by rw [<- Hr2.out];exact hS'.out);clear hS';cases hcc:clash (xs.set p (v:Int)) s
    ·have Hlm:=Lib.hid (lmask_put (s:=s) Hl.out hpn v1);have hok2:=Lib.hid (okAll_set hok.out Hl.out hpn (by omega:(0:Int)<=(v:Int)) (by omega:(v:Int)<=s));have hz2:=Lib.hid (zfrom_set (v:=(v:Int)) hz.out Hl.out hpn);have Hl2:=Lib.hid (show (xs.set p (v:Int)).length=n by rw [List.length_set];exact Hl.out)
     have hag2:Hid (agree (zs.set p (v:Int)) (xs.set p (v:Int)) (p+1)):=Lib.hid (fun j hj=>by
      rw [nth_set (by rw [hS.2.2.1];exact hpn),nth_set (by rw [Hl.out];exact hpn)]
      split
      ·rfl
      ·exact hag.out j (by omega))
     have hagx:=Lib.hid (agree_set xs (v:Int) Hl.out hpn)
     cases hrr:srch s f (xs.set p (v:Int)) (p+1) l with
     |mk o l2=>
      have Hrr:=Lib.hid hrr
      obtain ⟨bd0,bd1⟩:0<=l2/\l2<=l:=by
       have hbd:=srch_bd (size:=s) (f:=f) (xs:=xs.set p (v:Int)) (p:=p+1) l0;rw [hrr] at hbd;exact hbd
      clear hrr;have Hcc:=Lib.hid hcc
      cases o with
      |none=>
       have Hno:=Lib.hid (tryFrom_none (rec:=fun ys l=>srch s f ys (p+1) l) (r:=s-v) hcc Hrr.out)
       go_wp2_with (first|(refine wpList_load_row rfl 81 _ rfl w.heap.size rfl 81 (mcells (lmask xs s p) s) (0,0) _ hx.out Tryz.underlying81 rfl Hi9.out ?_)|(go_at_call 121;refine (meets_any (lmask xs s p) s p (p/s) (s+p%s) v _ (by omega) (by omega) Hr.out Hc.out hr8 hc8 (by omega) (by omega) Hm.out).mono ?_;rintro e w1 ⟨rfl,hb1⟩;rw [<- Hcl.out];have hS1:=hS.below hb1 hS.ltP hS.ltG;have hx1:=Lib.hid (MBox.below hx.out hx.out.lt hb1);have hC1:=hC.trans (Chg.ofBelow hb1);clear hb1;rw [Hcc.out];have a0:=hS1.c0;obtain ⟨g1,g2⟩:=hS1.g hpn;have hS2:=Lib.hid (hS1.setG p (v:Int));have hC2:=hC1.trans (Chg.setG _ P G p (.int .i64 (v:Int)));have hx2:=Lib.hid (MBox.other (k:=p) (v:=.int .i64 (v:Int)) hx1.out (show w.heap.size≠G by omega)))|(refine wpList_load_row rfl 81 _ rfl w.heap.size rfl 81 (mcells (lmask xs s p) s) (0,0) _ hx2.out Tryz.underlying81 rfl Hi9.out ?_)|(go_at_call 122;refine (with_any (lmask xs s p) s p (p/s) (s+p%s) v _ (by omega) (by omega) Hr.out Hc.out hr8 hc8 (by omega) (by omega) Hm.out).mono ?_;rintro e w3 ⟨rfl,hb3⟩;rw [<- Hlm.out];have hS3:=hS2.out.below hb3 (by have:=hS2.out.ltP;exact this) (by have:=hS2.out.ltG;exact this);have hx3:=Lib.hid (MBox.below hx2.out hx2.out.lt hb3);have hC3:=hC2.trans (Chg.ofBelow hb3);clear hb3)|(go_at_call 68;rw [show ((p:Int)+1)=((p+1:Nat):Int) from by omega];refine (Ih.out _ _ (p+1) l _ Hp.out Hl2.out hok2 hz2 Hcc.out hag2.out hS3 l0 l1).mono ?_;rintro e w4 hpost;rw [Hrr.out] at hpost;obtain ⟨hC4,rfl,zs4,hS4,hag4⟩:=hpost))
       have hx4:=Lib.hid (hC4.mbox hx3.out (by omega) (by omega))
       go_roundw
       case rel=>exact ⟨v+1,l2,zs4,by omega,by omega,by go_num,by rw [<- Hr3.out];exact Lib.hid (HS'.out.trans Hno.out),hC3.trans hC4,hS4,Lib.hid (fun j hj=>(hag4 j (by omega)).trans (hagx.out j hj)),hx4,bd0,by omega⟩
       case measure=>simp [intOf];omega
      |some y=>
       have Hno:=Lib.hid (tryFrom_some (rec:=fun ys l=>srch s f ys (p+1) l) (r:=s-v) hcc Hrr.out)
       go_wp2_with (first|(refine wpList_load_row rfl 81 _ rfl w.heap.size rfl 81 (mcells (lmask xs s p) s) (0,0) _ hx.out Tryz.underlying81 rfl Hi9.out ?_)|(go_at_call 121;refine (meets_any (lmask xs s p) s p (p/s) (s+p%s) v _ (by omega) (by omega) Hr.out Hc.out hr8 hc8 (by omega) (by omega) Hm.out).mono ?_;rintro e w1 ⟨rfl,hb1⟩;rw [<- Hcl.out];have hS1:=hS.below hb1 hS.ltP hS.ltG;have hx1:=Lib.hid (MBox.below hx.out hx.out.lt hb1);have hC1:=hC.trans (Chg.ofBelow hb1);clear hb1;rw [Hcc.out];have a0:=hS1.c0;obtain ⟨g1,g2⟩:=hS1.g hpn;have hS2:=Lib.hid (hS1.setG p (v:Int));have hC2:=hC1.trans (Chg.setG _ P G p (.int .i64 (v:Int)));have hx2:=Lib.hid (MBox.other (k:=p) (v:=.int .i64 (v:Int)) hx1.out (show w.heap.size≠G by omega)))|(refine wpList_load_row rfl 81 _ rfl w.heap.size rfl 81 (mcells (lmask xs s p) s) (0,0) _ hx2.out Tryz.underlying81 rfl Hi9.out ?_)|(go_at_call 122;refine (with_any (lmask xs s p) s p (p/s) (s+p%s) v _ (by omega) (by omega) Hr.out Hc.out hr8 hc8 (by omega) (by omega) Hm.out).mono ?_;rintro e w3 ⟨rfl,hb3⟩;rw [<- Hlm.out];have hS3:=hS2.out.below hb3 (by have:=hS2.out.ltP;exact this) (by have:=hS2.out.ltG;exact this);have hx3:=Lib.hid (MBox.below hx2.out hx2.out.lt hb3);have hC3:=hC2.trans (Chg.ofBelow hb3);clear hb3)|(go_at_call 68;rw [show ((p:Int)+1)=((p+1:Nat):Int) from by omega];refine (Ih.out _ _ (p+1) l _ Hp.out Hl2.out hok2 hz2 Hcc.out hag2.out hS3 l0 l1).mono ?_;rintro e w4 hpost;rw [Hrr.out] at hpost;obtain ⟨hC4,rfl,sk4,hS4⟩:=hpost))
       go_ret
       rw [HS'.out,Hno.out];exact ⟨hC3.trans hC4,rfl,sk4,hS4⟩
    ·have Hno:=Lib.hid (tryFrom_clash (rec:=fun ys l=>srch s f ys (p+1) l) (r:=s-v) (l:=l) hcc);have Hcc:=Lib.hid hcc;clear hcc
     go_wp2_with (first|(refine wpList_load_row rfl 81 _ rfl w.heap.size rfl 81 (mcells (lmask xs s p) s) (0,0) _ hx.out Tryz.underlying81 rfl Hi9.out ?_)|(go_at_call 121;refine (meets_any (lmask xs s p) s p (p/s) (s+p%s) v _ (by omega) (by omega) Hr.out Hc.out hr8 hc8 (by omega) (by omega) Hm.out).mono ?_;rintro e w1 ⟨rfl,hb1⟩;rw [<- Hcl.out];have hS1:=hS.below hb1 hS.ltP hS.ltG;have hx1:=Lib.hid (MBox.below hx.out hx.out.lt hb1);have hC1:=hC.trans (Chg.ofBelow hb1);clear hb1;rw [Hcc.out]))
     go_roundw
     case rel=>exact ⟨v+1,l,zs,by omega,by omega,by go_num,by rw [<- Hr3.out];exact Lib.hid (HS'.out.trans Hno.out),hC1,hS1,hag,hx1,l0,l1⟩
     case measure=>simp [intOf];omega
   ·go_wp2
    go_ret
    have e:s+1-v=0:=(by omega);rw [hS'.out,e];exact ⟨hC,rfl,zs,hS,hag.out⟩
end Go.Proofs.YtkeoflnmbcdmfaaGreatDoor
set_option maxRecDepth 8000
namespace Go.Proofs.YtkeoflnmbcdmfaaGreatDoor
open Go.ChangeShapes Go.WideShapes Go.ChangeAt Go.RowKit
theorem SB.ret {w0 w:World} {P G n:Nat} {s sk:Int} {ys:List Int} (h:SB w P G n s sk ys) (hG:w0.heap.size<=G) (hn:n<=1099511627776) (hb:Below w0.heap.size w0 w):RetSl w0 ys (.returned (.slice (some ⟨G,0,none⟩) n n)) w:=by
 have hl:=h.2.2.1;refine retSl_mk (n:=n) ⟨by rw [vals_length];omega,.inr ⟨G,n,_,rfl,hG,h.2.1,Nat.le_refl _,by simp only [maxLen];omega,?_,?_⟩⟩ hb
 ·simp [vals_length,hl]
 ·simp only [Nat.mul_one];rw [List.take_of_length_le (by rw [vals_length];omega)]
theorem ow_heap {w:World} {lo g n:Nat} {xs:List Int} (h:Ow w lo (some ⟨g,0,none⟩) n n xs):w.heap[g]? =some (.cells (vals xs).toArray 3):=by
 obtain ⟨hl,h|⟨g',cap,cur,hv,_,hg,h1,h2,h3,h4⟩⟩:=h
 ·cases h.1
 ·cases hv;rw [hg];rw [List.take_of_length_le (by rw [Array.length_toList];omega)] at h4;rw [<- h4]
theorem clash_zeros {s n:Nat} (hs:s∈[2,3,4]) (hn:n=s*s):clash (zeros n) s=false:=by
 rw [<- twice_clash hs hn (okAll_zeros (by omega) n)];exact twice_tail (p:=0) n (Nat.zero_le _) (fun j _ _=>zeros_nth n j)
theorem implSquareNumber:ISquareNumber:=by
 intro size number w hsz hnb;obtain ⟨i0,hi,hz0,hz1,hz2⟩:=info_parts int_info;cases hi2:inr size 2 4
 ·have HL:=Lib.hid (show sqn size number=[] by simp [sqn,hi2])
  go_enter Tryz.func20,Tryz.ntmps20
  go_wp2_with (go_at_call 67;refine (sizeValid_any _ _).mono ?_;rintro e w' ⟨rfl,rfl⟩)
  go_ret
  rw [HL.out];exact ⟨_,_,rfl,Ow.nil_ _ _,Below.refl _ _⟩
 ·obtain ⟨h2,h4⟩:=inr_t hi2
  by_cases h0:number<0
  ·have HL:=Lib.hid (show sqn size number=[] by unfold sqn;rw [if_neg (by intro h;omega)])
   go_enter Tryz.func20,Tryz.ntmps20
   go_wp2_with (go_at_call 67;refine (sizeValid_any _ _).mono ?_;rintro e w' ⟨rfl,rfl⟩)
   go_ret
   rw [HL.out];exact ⟨_,_,rfl,Ow.nil_ _ _,Below.refl _ _⟩
  ·have h0':0<=number:=by omega
   obtain ⟨s,rfl⟩:=Int.eq_ofNat_of_zero_le (by omega:0<=size);have hs:s∈[2,3,4]:=(by simp;omega);obtain ⟨q4,q16⟩:=sq_bd h2 h4;obtain ⟨n,hnn⟩:∃ n:Nat,n=s*s:=⟨_,rfl⟩;have hnI:((s:Int)*(s:Int))=(n:Int):=(by rw [hnn];simp);have hw:wrap64 ((s:Int)*(s:Int))=(n:Int):=(by rw [sq_wrap h2 h4,hnI]);have hn16:n<=16:=(by omega);have hn4:4<=n:=(by omega);have Hnn:=Lib.hid hnn
   have HL:=Lib.hid (show sqn s number=((sols s n (zeros n) 0)[number.toNat]?).getD [] by
    unfold sqn;rw [if_pos ⟨hi2,h0'⟩,hnI,Int.toNat_natCast])
   have hpk:=(congrArg Prod.fst (srch_sols s n (zeros n) 0 number h0')).trans (pickL_getD _ _);have hcz:=Lib.hid (clash_zeros hs hnn);have hok:=Lib.hid (okAll_zeros (by omega:(0:Int)<=s) n);have hzz:Hid (zfrom (zeros n) 0 n):=Lib.hid (fun j _ _=>zeros_nth n j);clear hnn hnI q4 q16 h0
   cases hrr:srch s n (zeros n) 0 number with
   |mk o l2=>
    have Hrr:=Lib.hid hrr;rw [hrr] at hpk;have Hpk:=Lib.hid hpk;clear hrr hpk
    cases o with
    |none=>
     have HL':=Lib.hid (show sqn s number=[] by rw [HL.out,<-Hpk.out];rfl)
     go_enter Tryz.func20,Tryz.ntmps20
     go_wp2_with (first|(go_at_call 67;refine (sizeValid_any _ _).mono ?_;rintro e w' ⟨rfl,rfl⟩)|(refine wpList_make_full _ rfl (.tmp 15) (.tmp 15) 23 rfl w.heap.size 3 i0 (.int .i64 0) 1 Tryz.underlying23 hi hz0 hz1 .i64 .i64 _ _ n rfl rfl hw hw (by rw [hz2];omega) (by simp only [maxLen];omega) (Nat.le_refl _) ?_;intro w1 hown hgr;have ho1:=made_part (zeros n) hown;rw [part_zeros] at ho1;have hb1:=made_below hgr (Nat.le_refl _);clear hown hgr))
     have hg1:=ow_heap ho1;have hG1:w.heap.size<w1.heap.size:=(Array.getElem?_eq_some_iff.1 hg1).1
     have hSB:SB (w1.alloc (.cells #[.slice (some ⟨w.heap.size,0,none⟩) n n,.int .i64 s,.int .i64 number] 77)) w1.heap.size w.heap.size n s number (zeros n):=
      ⟨heap_alloc_new w1 _,(heap_alloc_old _ _ hG1).trans hg1,zeros_length n,by omega⟩
     have hB1:Below w.heap.size w (w1.alloc (.cells #[.slice (some ⟨w.heap.size,0,none⟩) n n,.int .i64 s,.int .i64 number] 77)):=hb1.alloc hb1.size _
     have hC0:∀ (w2:World),Chg (w1.alloc (.cells #[.slice (some ⟨w.heap.size,0,none⟩) n n,.int .i64 s,.int .i64 number] 77)) w2 w1.heap.size w.heap.size->Below w.heap.size w w2:=fun w2 h=>hB1.trans (h.below (by omega) (Nat.le_refl _) hB1.size)
     have HC0:=Lib.hid hC0;clear hC0;clear hg1 ho1;refine (fill_any w1.heap.size w.heap.size n s hs Hnn.out n (zeros n) (zeros n) 0 number _ (by omega) (zeros_length n) hok hzz hcz.out (fun _ _=>rfl) hSB h0' hnb.2).mono ?_;rintro e w2 hpost;rw [Hrr.out] at hpost;obtain ⟨hC,rfl,zs,hS2,hag⟩:=hpost
     go_wp2
     go_ret
     rw [HL'.out];exact ⟨_,_,rfl,Ow.nil_ _ _,HC0.out w2 hC⟩
    |some y=>
     have HL':=Lib.hid (show sqn s number=y by rw [HL.out,<-Hpk.out];rfl)
     go_enter Tryz.func20,Tryz.ntmps20
     go_wp2_with (first|(go_at_call 67;refine (sizeValid_any _ _).mono ?_;rintro e w' ⟨rfl,rfl⟩)|(refine wpList_make_full _ rfl (.tmp 15) (.tmp 15) 23 rfl w.heap.size 3 i0 (.int .i64 0) 1 Tryz.underlying23 hi hz0 hz1 .i64 .i64 _ _ n rfl rfl hw hw (by rw [hz2];omega) (by simp only [maxLen];omega) (Nat.le_refl _) ?_;intro w1 hown hgr;have ho1:=made_part (zeros n) hown;rw [part_zeros] at ho1;have hb1:=made_below hgr (Nat.le_refl _);clear hown hgr))
     have hg1:=ow_heap ho1;have hG1:w.heap.size<w1.heap.size:=(Array.getElem?_eq_some_iff.1 hg1).1
     have hSB:SB (w1.alloc (.cells #[.slice (some ⟨w.heap.size,0,none⟩) n n,.int .i64 s,.int .i64 number] 77)) w1.heap.size w.heap.size n s number (zeros n):=
      ⟨heap_alloc_new w1 _,(heap_alloc_old _ _ hG1).trans hg1,zeros_length n,by omega⟩
     have hB1:Below w.heap.size w (w1.alloc (.cells #[.slice (some ⟨w.heap.size,0,none⟩) n n,.int .i64 s,.int .i64 number] 77)):=hb1.alloc hb1.size _
     have hC0:∀ (w2:World),Chg (w1.alloc (.cells #[.slice (some ⟨w.heap.size,0,none⟩) n n,.int .i64 s,.int .i64 number] 77)) w2 w1.heap.size w.heap.size->Below w.heap.size w w2:=fun w2 h=>hB1.trans (h.below (by omega) (Nat.le_refl _) hB1.size)
     have HC0:=Lib.hid hC0;clear hC0;clear hg1 ho1;refine (fill_any w1.heap.size w.heap.size n s hs Hnn.out n (zeros n) (zeros n) 0 number _ (by omega) (zeros_length n) hok hzz hcz.out (fun _ _=>rfl) hSB h0' hnb.2).mono ?_;rintro e w2 hpost;rw [Hrr.out] at hpost;obtain ⟨hC,rfl,sk2,hS2⟩:=hpost;have a0:=hS2.c0;have Hb2:=Lib.hid (HC0.out w2 hC);have HS2:=Lib.hid hS2;clear hS2
     go_wp2
     go_ret
     rw [HL'.out];exact HS2.out.ret (Nat.le_refl _) (by omega) Hb2.out
end Go.Proofs.YtkeoflnmbcdmfaaGreatDoor
