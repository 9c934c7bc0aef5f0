import Derived.Test.YtkeoflnmbcdmfaaGreatDoorHBNR
set_option maxRecDepth 8000
namespace Go.Proofs.YtkeoflnmbcdmfaaGreatDoor
open Go.ChangeShapes Go.WideShapes Go.ChangeAt Go.RowKit Go.Shelf
attribute [local go_sem] Oper.semAt_some
theorem Ow.same_own8 {w w':World} {lo n c:Nat} {A:Option Addr} {xs:List Int} (h:Ow w lo A n c xs) (hn:0<n) (hs:∀ g,(Value.slice A n c).ownBlock=some g->w'.heap[g]? =w.heap[g]?):Ow w' lo A n c xs:=by
 obtain ⟨g,rfl,_,_⟩:=h.form hn;exact h.same (hs g rfl)
theorem none_of_deferred8 {W:World} {D i:Nat} {o:Option (List Deferred)} (h:W.heap[D]? =some (.deferred o)):W.cell? ⟨D,i,none⟩=none:=by
 unfold World.cell?
 simp [h]
structure Two (X Y:World) (N1 N2:Nat) (o1 o2:Obj):Prop where
 os:Y.os=X.os
 tape:Y.tape=X.tape
 output:Y.output=X.output
 size:Y.heap.size=X.heap.size
 b1:Y.heap[N1]? =some o1
 b2:Y.heap[N2]? =some o2
 other:∀ k,k≠N1->k≠N2->Y.heap[k]? =X.heap[k]?
theorem Two.mk12 {X:World} {N1 N2:Nat} {u1 u2 v1 v2:Value} {t1 t2:TypeId} (h1:X.heap[N1]? =some (.cells #[u1] t1)) (h2:X.heap[N2]? =some (.cells #[u2] t2)) (hne:N1≠N2):Two X ((X.setCell ⟨N1,0,none⟩ v1).setCell ⟨N2,0,none⟩ v2).drew N1 N2 (.cells #[v1] t1) (.cells #[v2] t2):=
 ⟨rfl,rfl,rfl,by show ((X.setCell ⟨N1,0,none⟩ v1).setCell ⟨N2,0,none⟩ v2).heap.size=_;simp,(heap_setCell_other _ ⟨N2,0,none⟩ N1 v2 (fun e=>hne e)).trans (heap_setCell_same X N1 0 _ _ v1 h1),heap_setCell_same _ N2 0 _ _ v2 ((heap_setCell_other X ⟨N1,0,none⟩ N2 v1 (fun e=>hne e.symm)).trans h2),fun k k1 k2=>(heap_setCell_other _ ⟨N2,0,none⟩ k v2 (fun e=>k2 e)).trans (heap_setCell_other X ⟨N1,0,none⟩ k v1 (fun e=>k1 e))⟩
theorem Two.mk21 {X:World} {N1 N2:Nat} {u1 u2 v1 v2:Value} {t1 t2:TypeId} (h1:X.heap[N1]? =some (.cells #[u1] t1)) (h2:X.heap[N2]? =some (.cells #[u2] t2)) (hne:N1≠N2):Two X ((X.setCell ⟨N2,0,none⟩ v2).setCell ⟨N1,0,none⟩ v1).drew N1 N2 (.cells #[v1] t1) (.cells #[v2] t2):=
 have h:=Two.mk12 (v1:=v2) (v2:=v1) h2 h1 hne.symm
 ⟨h.os,h.tape,h.output,h.size,h.b2,h.b1,fun k k1 k2=>h.other k k2 k1⟩
theorem Two.below {X Y:World} {N1 N2 B:Nat} {o1 o2:Obj} (h:Two X Y N1 N2 o1 o2) (h1:B<=N1) (h2:B<=N2):Below B X Y:=⟨h.os,h.tape,h.output,Nat.le_of_eq h.size.symm,fun k hk=>h.other k (by omega) (by omega)⟩
theorem RBase.below {NB MB SB s L Br:Nat} {At:Option Addr} {nt ct Bt:Nat} {rs:List RuleM} {Am:Option Addr} {nm cm Bm:Nat} {ms:List Int} {most D:Nat} {X Y:World} (h:RBase NB MB SB s L Br At nt ct Bt rs Am nm cm Bm ms most X) (hb:Below D X Y) (hN:NB<D) (hM:MB<D) (hS:SB<D) (hBt:Bt<=D) (hBm:Bm<=D) (hz:0<D):RBase NB MB SB s L Br At nt ct Bt rs Am nm cm Bm ms most Y:=
 ⟨(hb.block _ hN).trans h.n,(hb.cell (p:=⟨MB,0,none⟩) hM).trans h.m,(hb.cell (p:=⟨SB,0,none⟩) hS).trans h.o,fun e=>(h.t e).below (hb.mono hBt) h.tr,Nat.le_trans h.tB hb.size,h.tr,h.r.below (hb.mono hBm),Nat.le_trans h.rB hb.size,h.z.below hz hb⟩
theorem RBase.keep {NB MB SB s L Br:Nat} {At:Option Addr} {nt ct Bt:Nat} {rs:List RuleM} {Am:Option Addr} {nm cm Bm:Nat} {ms:List Int} {most L0:Nat} {X Y:World} (h:RBase NB MB SB s L Br At nt ct Bt rs Am nm cm Bm ms most X) (hk:∀ k,L<=k->k<X.heap.size->Y.heap[k]? =X.heap[k]?) (hb:Below L0 X Y) (h0:Br<=L0) (hBm:Bm<=L0) (hz:0<L0) (hN:L<=NB) (hM:L<=MB) (hS:L<=SB):RBase NB MB SB s L Br At nt ct Bt rs Am nm cm Bm ms most Y:=
 ⟨(hk NB hN (Array.getElem?_eq_some_iff.1 h.n).1).trans h.n,(World.cell?_of_block (a:=⟨MB,0,none⟩) (hk MB hM (cell_lt h.m))).trans h.m,(World.cell?_of_block (a:=⟨SB,0,none⟩) (hk SB hS (cell_lt h.o))).trans h.o,fun e=>(h.t e).keep (fun k h1 h2=>hk k h1 (Nat.lt_of_lt_of_le h2 h.tB)) (hb.mono h0),Nat.le_trans h.tB hb.size,h.tr,h.r.below (hb.mono hBm),Nat.le_trans h.rB hb.size,h.z.below hz hb⟩
theorem na_bad {s:Int} {gi:List Int} {rs:List RuleM} {m:List Int} {most:Int} (h:nvB s gi rs m most=false):naL s gi rs m most=[]/\naR s gi rs m most= -1:=by
 have:(pvB s gi rs&&mvd m s&&inr most 1 4)=false:=by
  unfold nvB at h;rw [Bool.and_comm,<-Bool.and_assoc];exact h
 unfold naL naR;rw [this];exact ⟨rfl,rfl⟩
theorem na_good {s:Int} {gi:List Int} {rs:List RuleM} {m:List Int} {most:Nat} (h:nvB s gi rs m (most:Nat)=true):naL s gi rs m (most:Nat)=lastO m (roE s gi rs most m)/\naR s gi rs m (most:Nat)=((roE s gi rs most m).length:Nat):=by
 have:(pvB s gi rs&&mvd m s&&inr (most:Nat) 1 4)=true:=by
  unfold nvB at h;rw [Bool.and_comm,<-Bool.and_assoc];exact h
 unfold naL naR;rw [if_pos this,if_pos this,Int.toNat_natCast,naE_ro];exact ⟨rfl,by simp⟩
set_option maxHeartbeats 4000000 in
theorem implNarrowAll (s:Int) (Ag:Option Addr) (n cg Bg:Nat) (gi:List Int) (Ar:Option Addr) (nr cr Br:Nat) (rs:List RuleM) (A:Option Addr) (c nm B:Nat) (m:List Int) (most:Int) (w:World) (hp:PGc w s Ag n cg Bg gi Ar nr cr Br rs) (h:Rd w B A nm m) (hBm:B<=w.heap.size) (hm64:B64 m) (hm:nm<=1099511627776) (hT:Tz w) (hsb: -9223372036854775808<=s/\s<=9223372036854775807):
 Calls Tryz.prog 29 #[.agg #[.int .i64 s,.slice Ag n cg,.slice Ar nr cr],.slice A nm c,.int .i64 most] w fun e w'=>∃ A' n' c',e=.returned (.tuple #[.slice A' n' c',.int .i64 (naR s gi rs m most)])/\Ow w' w.heap.size A' n' c' (naL s gi rs m most)/\Below w.heap.size w w':=by
 have hx0:=pbox_new w s Ag n cg Ar nr cr 26;obtain ⟨Wa,hWa⟩:∃ Wa,w.alloc (.cells #[.int .i64 s,.slice Ag n cg,.slice Ar nr cr] 26)=Wa:=⟨_,rfl⟩;rw [hWa] at hx0
 have hba:Below w.heap.size w Wa:=by rw [<- hWa];exact (Below.refl _ _).alloc (Nat.le_refl _) _
 have hsa:Wa.heap.size=w.heap.size+1:=by rw [<- hWa];simp
 obtain ⟨z0,z1,z2⟩:=id hx0;have HV:=Lib.hid (narrowingValid_any s Ag n cg Bg gi Ar nr cr Br rs A nm c B m most Wa (hp.below hba) (h.below (hba.mono hBm)) (Nat.le_trans hBm hba.size) hm64 hm hsb);have HX:=Lib.hid (fun w' (hb:Below Wa.heap.size Wa w')=>hx0.below (show w.heap.size<Wa.heap.size by omega) hb);have HBa:=Lib.hid hba;refine (callsIn_wide (n:=9)).1 ?_;refine callsIn_of_wp_marks Tryz.func29 rfl trivial ?_ rfl;simp only [Tryz.ntmps29,List.size_toArray,List.length_cons,List.length_nil,Nat.reduceAdd,Nat.reduceSub,Array.replicate_succ,Array.replicate_zero,List.push_toArray,List.append_toArray,List.nil_append,List.cons_append]
 cases hv:nvB s gi rs m most
 ·obtain ⟨e1,e2⟩:=na_bad hv;rw [e1,e2];rw [hv] at HV
  gi_wp2_with ((try refine ⟨trivial,?_⟩);gi_at_call 79;refine (callsIn_wide.2 HV.out).mono ?_;rintro e w1 ⟨rfl,hb1⟩)
  exact ⟨_,results_tmp2 rfl _ _ _,none,0,0,rfl,Ow.nil_ _ _,step HBa.out hb1⟩
 ·obtain ⟨⟨t1,t4⟩,hpv,hmv,S,rfl,hS⟩:=nv_ok hv;obtain ⟨M,rfl⟩:=Int.eq_ofNat_of_zero_le (show 0<=most by omega);obtain ⟨e1,e2⟩:=na_good hv;rw [e1,e2];rw [hv] at HV;obtain ⟨_,hsq,hnm16,_⟩:=mvd_at hmv;rw [h.1] at hsq hnm16
  have hnm0:0<nm:=by
   simp at hS
   rcases hS with rfl|rfl|rfl<;>omega
  have HN:=Lib.hid (fun (w':World) (hb:Below w.heap.size w w')=>narrower_any S Ag n cg Bg gi Ar nr cr Br rs M w' (hp.below hb) hpv hS (by omega));have HM:=Lib.hid (fun (w':World) (hb:Below w.heap.size w w')=>h.below (hb.mono hBm));have HCl:=Lib.hid (fun (w':World) (hb:Below w.heap.size w w')=>clone_any A nm c B m w' (h.below (hb.mono hBm)) (Nat.le_trans hBm hb.size) hnm0 hm);have HTz:=Lib.hid (fun (w':World) (hb:Below w.heap.size w w')=>hT.below hT.lt hb);have Hml:=Lib.hid h.1;have Hpv:=Lib.hid hpv;have Hmv:=Lib.hid hmv;have hp0:=hp.rB;have HTl:=Lib.hid hT.lt;have HLen:=Lib.hid (roE_len (rs:=rs) (gi:=gi) hpv (show M<=4 by omega) hmv);have HMem:=Lib.hid (roE_mem (rs:=rs) (gi:=gi) hpv (show M<=4 by omega) hmv);clear e1 e2 hv hpv hmv hsq h hp hT hx0 hba;have hBr0:=hp0
  gi_wp2_with (first
   |((try refine ⟨trivial,?_⟩);gi_at_call 79;refine (callsIn_wide.2 HV.out).mono ?_;rintro e w1 ⟨rfl,hb1⟩;obtain ⟨c0,c1,c2⟩:=HX.out _ hb1;have h01:=step HBa.out hb1)
   |((try refine ⟨trivial,?_⟩);gi_at_call 70;refine (callsIn_wide.2 (HCl.out _ h01)).mono ?_;rintro e w2 ⟨A1,c1',rfl,ho1,hb2⟩;have h02:=step h01 hb2;have ha4:Below w2.heap.size w2 ((w2.alloc (.cells #[.slice A1 nm c1'] 23)).alloc (.cells #[.int .i64 0] 3)):=(((Below.refl _ _).alloc (Nat.le_refl _) _).alloc (by simp) _);have h04:=step h02 ha4;obtain ⟨d0,d1,d2⟩:=HX.out _ (step (step hb1 hb2) ha4))
   |((try refine ⟨trivial,?_⟩);gi_at_call 80;refine (callsIn_wide.2 (HN.out _ h04)).mono ?_;rintro e w5 ⟨A2,n2,c2',rfl,hN2,hb5⟩)
   |((try refine ⟨trivial,?_⟩);gi_at_call 81;refine (callsIn_wide.2 (rounds_any S A2 n2 c2' A nm c M w5)).mono ?_;rintro e w6 ⟨NB,MB,SB,rfl,hnb,hmb,hsb',hNl,hMl,hSl,hb6⟩))
  obtain ⟨w4,hw4⟩:∃ w4,(w2.alloc (.cells #[.slice A1 nm c1'] 23)).alloc (.cells #[.int .i64 0] 3)=w4:=⟨_,rfl⟩
  have hs4:w4.heap.size=w2.heap.size+2:=by rw [<- hw4];simp
  have hr1:w4.heap[w2.heap.size]? =some (.cells #[.slice A1 nm c1'] 23):=by
   rw [<- hw4];exact (Below.heap_alloc _ _ _ (by simp)).trans (heap_alloc_new w2 _)
  have hr2:w4.heap[w2.heap.size+1]? =some (.cells #[.int .i64 0] 3):=by
   rw [<- hw4];have:=heap_alloc_new (w2.alloc (.cells #[.slice A1 nm c1'] 23)) (.cells #[.int .i64 0] 3);rwa [World.size_alloc] at this
  rw [hw4] at ha4 h04 hN2 hb5;have h45:=hb5.size;have h56:=hb6.size;have h24:=h02.size;have hb46:Below w4.heap.size w4 w6:=step hb5 hb6;have h06:=step h04 hb46;have hr16:=(hb46.block _ (by omega)).trans hr1;have hr26:=(hb46.block _ (by omega)).trans hr2;have ho16:=((ho1.mono h01.size).below ha4).below hb46;have hNBl:=(Array.getElem?_eq_some_iff.1 hnb).1;have hMBl:=cell_lt hmb;have hSBl:=cell_lt hsb';have HM6:=HM.out _ h06;have HT6:=HTz.out _ h06;have hTl:=HT6.lt;have hTz0:=HTl.out
  have hNl8:w4.heap.size<=NB:=by omega
  have hMl8:w4.heap.size<=MB:=by omega
  have hSl8:w4.heap.size<=SB:=by omega
  have hN6:4<=M->TbR w6 w4.heap.size w5.heap.size Br S rs A2 n2:=fun e=>(hN2 e).below hb6 (by omega)
  have hgA:∀ g,(Value.slice A1 nm c1').ownBlock=some g->g<w4.heap.size:=fun g hg=>by have:=ho1.own_hi g hg;omega
  clear d0 d1 d2 c0 c1 c2 z0 z1 z2 HX HV HCl HN hr1 hr2 hw4 hN2
  refine range_rounds2 9 (q:=11) (by rfl) (enters_of Tryz.func131 (by kernel_rfl) rfl) (rounds_seq NB MB SB S w4.heap.size Br A2 n2 c2' w5.heap.size gi rs A nm c B m M hS Hpv.out Hmv.out (by omega) Hml.out)
   (fun pre X=>RBase NB MB SB S w4.heap.size Br A2 n2 c2' w5.heap.size rs A nm c B m M X/\(∃ A' c',X.heap[w2.heap.size]? =some (.cells #[.slice A' nm c'] 23)/\Ow X w.heap.size A' nm c' (lastO m pre)/\∀ g,(Value.slice A' nm c').ownBlock=some g->g≠w6.heap.size/\g≠w6.heap.size+1)/\X.heap[w2.heap.size+1]? =some (.cells #[.int .i64 (pre.length:Nat)] 3)/\Below w.heap.size w X/\w6.heap.size<=X.heap.size)
   (fun cc X=>False)
   (fun pre X h=>h.1)
   (fun pre X Y h hA=>by
     obtain ⟨h1,⟨A',c',h2,h3,h4⟩,h5,h6,h7⟩:=h;have hb:=hA.below h7
     exact ⟨h1.below hb hNBl hMBl hSBl (by omega) (by omega) (by omega),⟨A',c',(hb.block _ (by omega)).trans h2,h3.same_own8 hnm0 (fun g e=>hA.block g (h3.own_hi g e) (h4 g e).1 (h4 g e).2),h4⟩,(hb.block _ (by omega)).trans h5,h6.trans (hb.mono (by omega)),Nat.le_trans h7 hA.size⟩)
   (fun cc X Y h hA=>h)
   ⟨⟨hnb,hmb,hsb',hN6,by omega,by omega,HM6,by omega,HT6⟩,⟨A1,c1',hr16,ho16,fun g hg=>by have:=hgA g hg;omega⟩,hr26,h06,Nat.le_refl _⟩ ?assign ?body ?done ?stop
  case assign=>
   intro l u v W K hK;simp only [List.setIfInBounds_toArray,List.set_cons_zero,List.set_cons_succ] at hK ⊢
   gi_wp2
   exact hK
  case body=>
   rintro l pre t x X b n' c' ⟨hbX,⟨A',cc,hrX,hoX,hgX⟩,hqX,hBX,hDX⟩ ⟨tl,htl⟩ hbb hXs hrd hDo hLo
   have hxl:x.length=nm:=by
    have:=(HMem.out (t,x) (by rw [htl];simp)).2.2.2.1;rw [this,Hml.out]
   obtain rfl:n'=nm:=by rw [<- hrd.len];exact hxl
   have hpl:pre.length<480:=by
    have:=HLen.out;rw [htl,List.length_append,List.length_cons] at this;omega
   have hcr:=cell_of_row _ _ 0 _ _ (0,0) hrX;have hfr:=frozen_of_row _ _ 0 _ _ hrX;have hcq:=cell_of_row _ _ 0 _ _ (0,0) hqX;have hfq:=frozen_of_row _ _ 0 _ _ hqX
   have hwr:IntKind.i64.wrap ((pre.length:Int)+1)=((pre.length+1:Nat):Int):=by
    have:=HLen.out;rw [IntWalk.i64_in _ (by omega)];simp
   have HPost:=Lib.hid (fun (Y:World) (a':Act) (hY:Two X Y w2.heap.size (w2.heap.size+1) (.cells #[.slice (some ⟨b,0,none⟩) n' c'] 23) (.cells #[.int .i64 (IntKind.i64.wrap ((pre.length:Int)+1))] 3))=>show rndPost w6.heap.size b (fun pre X=>RBase NB MB SB S w4.heap.size Br A2 n2 c2' w5.heap.size rs A n' c B m M X/\(∃ A' c',X.heap[w2.heap.size]? =some (.cells #[.slice A' n' c'] 23)/\Ow X w.heap.size A' n' c' (lastO m pre)/\∀ g,(Value.slice A' n' c').ownBlock=some g->g≠w6.heap.size/\g≠w6.heap.size+1)/\X.heap[w2.heap.size+1]? =some (.cells #[.int .i64 (pre.length:Nat)] 3)/\Below w.heap.size w X/\w6.heap.size<=X.heap.size) (fun cc X=>False) (pre++[(t,x)]) X Exit.normal a' Y from by
    refine ⟨⟨Nat.le_of_eq hY.size.symm,fun k hk=>hY.other k (by omega) (by omega)⟩,hbX.keep (fun k k1 _=>hY.other k (by omega) (by omega)) (hY.below (B:=w.heap.size) (by omega) (by omega)) hBr0 hBm hTz0 hNl8 hMl8 hSl8,⟨some ⟨b,0,none⟩,c',hY.b1,?_,fun g hg=>?_⟩,?_,hBX.trans (hY.below (by omega) (by omega)),by rw [hY.size];exact hDX⟩
    ·rw [lastO_push];exact (hrd.mono (by omega)).same (hY.other b (by omega) (by omega))
    ·have e:b=g:=Option.some.inj hg;omega
    ·rw [hY.b2,hwr,List.length_append];rfl)
   simp only [List.setIfInBounds_toArray,List.set_cons_zero,List.set_cons_succ];clear hwr hbX hBX hrd hgX hoX hDo hLo
   gi_wp2
   gi_region
   all_goals
    gi_wp2
    first
     |exact HPost.out _ _ (Two.mk12 hrX hqX (by omega))
     |exact HPost.out _ _ (Two.mk21 hrX hqX (by omega))
  case done=>
   rintro D W hD ⟨hbX,⟨A',cc,hrX,hoX,hgX⟩,hqX,hBX,hDX⟩ hK;have hcr:=cell_of_row _ _ 0 _ _ (0,0) hrX;have hcq:=cell_of_row _ _ 0 _ _ (0,0) hqX
   have hgD:∀ g,(Value.slice A' nm cc).ownBlock=some g->g≠D:=fun g e e2=>by
    subst e2;obtain ⟨g',e3,_,_⟩:=hoX.form hnm0;subst e3;obtain ⟨h1,h2⟩:=hoX.cell hnm0
    injection e with e
    subst e;rw [none_of_deferred8 hK] at h1;cases h1
   have HO:=Lib.hid hoX;have HBX:=Lib.hid hBX;clear hbX hoX hBX
   gi_wp2
   gi_region
   all_goals
    gi_wp2
    have hK2:W.drew.heap[D]? =some (.deferred (some [])):=hK;refine ⟨by simp,.inl ⟨_,_,rfl,run_takeDeferred hK2,?_⟩⟩;refine ⟨_,results_tmp2 rfl _ _ _,?_⟩;have hOd:Ow W.drew w.heap.size A' nm cc (lastO m (roE (S:Int) gi rs M m)):=World.ownsRow.drew HO.out;exact ⟨A',nm,cc,rfl,hOd.same_own8 hnm0 (fun g e=>World.putObj_heap_other (fun e2=>hgD g e e2)),HBX.out.drew.trans (below_put _ (by omega) hK2)⟩
  case stop=>
   rintro D cc W hD h hK;exact h.elim
attribute [local go_sem] Oper.semAt_some
set_option maxHeartbeats 1000000 in
theorem hasOne_any (s:Int) (Ag:Option Addr) (n cg Bg:Nat) (gi:List Int) (Ar:Option Addr) (nr cr Br:Nat) (rs:List RuleM) (w:World) (hp:PGc w s Ag n cg Bg gi Ar nr cr Br rs) (hv:pvB s gi rs=true) (hT:Tz w):
 Calls Tryz.prog 73 #[.agg #[.int .i64 s,.slice Ag n cg,.slice Ar nr cr]] w fun e w'=>e=.returned (.bool (oneB s n gi rs))/\Below w.heap.size w w':=by
 have hx0:=pbox_new w s Ag n cg Ar nr cr 26;have hb0:Below w.heap.size w (w.alloc (.cells #[.int .i64 s,.slice Ag n cg,.slice Ar nr cr] 26)):=(Below.refl _ _).alloc (Nat.le_refl _) _;have HC:=Lib.hid (show Calls Tryz.prog 61 #[.agg #[.int .i64 s,.slice Ag n cg,.slice Ar nr cr],.int .i64 2] _ _ from countP_any s Ag n cg Bg gi Ar nr cr Br rs 2 _ (hp.below hb0) hv (by omega) (by omega) (hT.below hT.lt hb0));obtain ⟨z0,z1,z2⟩:=id hx0
 have HQ:=Lib.hid (show ((((allS s 2 n gi rs).length:Nat):Int)==1)=oneB s n gi rs by
  unfold oneB;rw [Bool.eq_iff_iff];simp only [beq_iff_eq]
  omega)
 go_enter Tryz.func73,Tryz.ntmps73
 go_wp2_with (go_at_call 61;refine HC.out.mono ?_;rintro e w1 ⟨rfl,hb1⟩)
 go_ret
 exact ⟨by rw [HQ.out];rfl,step hb0 hb1⟩
end Go.Proofs.YtkeoflnmbcdmfaaGreatDoor
namespace Go.Proofs.YtkeoflnmbcdmfaaGreatDoor
open Go.ChangeShapes Go.WideShapes Go.ChangeAt Go.RowKit
theorem implMasksGrid:IMasksGrid:=by
 intro A c n B xs size w h hx64 hT hB hm hsz;have hlen:=Lib.hid h.1;have Hmv:=Lib.hid (fun w (h:Rd w B A n xs) hB=>implMasksValid A c n B xs size w h hx64 hB hm hsz);cases hg:mvd xs size
 ·have HL:=Lib.hid (show mgL xs size=[] by simp [mgL,hg])
  go_enter Tryz.func31,Tryz.ntmps31
  go_wp2_with (go_at_call 83;refine (Hmv.out _ h hB).mono ?_;rintro e w1 ⟨rfl,hb1⟩;rw [hg])
  go_ret
  rw [HL.out];exact ⟨_,_,rfl,Ow.nil_ _ _,hb1⟩
 ·obtain ⟨i0,hi,hz0,hz1,hz2⟩:=info_parts int_info;have HL:=Lib.hid (show mgL xs size=mapTo (mgG xs) n by simp [mgL,hg,hlen.out]);obtain ⟨_,_,h16,hat⟩:=mvd_at hg;rw [hlen.out] at h16 hat;have Hat:=Lib.hid hat;clear hat
  go_enter Tryz.func31,Tryz.ntmps31
  go_wp2_with (first
   |(go_at_call 83;refine (Hmv.out _ h hB).mono ?_;rintro e w1 ⟨rfl,hb1⟩;rw [hg])
   |(refine wpList_make_full _ rfl (.tmp 13) (.tmp 13) 23 rfl w.heap.size 3 i0 (.int .i64 0) 1 Tryz.underlying23 hi hz0 hz1 .i64 .i64 n n n rfl rfl rfl rfl (by rw [hz2];omega) (by simp only [maxLen];omega) hb1.size ?_;intro w2 hown hgr))
  have ho2:=made_part (mapTo (mgG xs) n) hown;have hb2:=step hb1 (made_below hgr (Nat.le_refl _));obtain ⟨M,hM⟩:∃ M,M=w1.heap.size:=⟨_,rfl⟩;rw [<- hM] at ho2;rw [<- hM]
  have hlo:w.heap.size<=M:=by have:=hb1.size;omega
  clear hown hgr hz0 hz1 hz2 hi hM
  go_loopw [17] (fun i wr=>∃ k:Nat,k<=n/\i=.int .i64 k/\Ow wr w.heap.size (some ⟨M,0,none⟩) n n (part (mapTo (mgG xs) n) k n)/\Below w.heap.size w wr) (fun i _=>n-(intOf i).toNat)
  case atStart=>exact ⟨0,Nat.zero_le _,rfl,ho2,hb2⟩
  case round=>
   obtain ⟨k,hk,rfl,ho,hb⟩:=hrel
   by_cases hlt:k<n
   ·obtain ⟨b,off,rfl,hbB,hck⟩:=(h.below (hb.mono hB)).at_ hlt;obtain ⟨x0,x1,x2⟩:=Hat.out k hlt;have hst:=(World.ownsRow.stored ho k (.int .i64 (nth (mapTo (mgG xs) n) k))).1;rw [part_set,mapTo_nth hlt] at hst;have Hst:=Lib.hid hst;clear hst;obtain ⟨m,hv⟩:=Int.eq_ofNat_of_zero_le x0;rw [hv] at hck;have hm2:m%2=0:=(by rw [hv,Int.tmod_eq_emod_of_nonneg (by omega)] at x2;omega)
    have Hg:=Lib.hid (show oneOf (bitsTo m 4)=mgG xs k by
     simp only [mgG,hv,maskVals];rw [if_pos (by simp only [mvOk,inr,Bool.and_eq_true,decide_eq_true_eq,beq_iff_eq];rw [<- hv];exact ⟨⟨x0,x1⟩,x2⟩)]
     rfl)
    have Hone:=Lib.hid (fun w hT=>onlyValue_any m (by omega) hm2 w hT);have hTr:=hT.below hT.lt hb;obtain ⟨hold,hfr⟩:=ho.cell hlt;clear hm2 x0 x1 x2
    go_wp2_with (go_at_call 84;refine (Hone.out _ hTr).mono ?_;rintro e w' ⟨rfl,rfl⟩;rw [Hg.out])
    go_roundw
    case rel=>exact ⟨k+1,by omega,by go_num,Hst.out,hb.setCell (p:=(⟨M,k,none⟩:Addr)) hlo _⟩
    case measure=>simp [intOf];omega
   ·obtain rfl:k=n:=by omega
    have hp:part (mapTo (mgG xs) k) k k=mapTo (mgG xs) k:=part_all' (mapTo_length _ _);rw [hp] at ho
    go_wp2
    go_ret
    rw [HL.out];exact retSl_mk ho hb
def mgC9 (t M:Nat):Bool:=Nat.ble (2^(t+1)-1) M||(decide (0<=oneOf (bitsTo M 4))&&decide (oneOf (bitsTo M 4)<=(t:Int)))
theorem mgC9_all:∀ t∈[2,3,4],∀ M,M<32->mgC9 t M=true:=by decide +kernel
theorem mask_top9 {m:List Int} {s M k:Nat} (hs:s∈[2,3,4]) (hm:mvd m s=true) (hk:k<m.length) (hM:nth m k=(M:Int)):M<=2^(s+1)-2:=by
 simp only [mvd,Bool.and_eq_true,List.all_eq_true] at hm;have h1:=hm.2 m[k] (List.getElem_mem hk);simp only [mkOk,Bool.and_eq_true] at h1;obtain ⟨_,y2⟩:=inr_t h1.1
 have e:nth m k=m[k]:=by simp [nth,List.getD_eq_getElem?_getD,hk]
 rw [<- e,hM,Int.toNat_natCast] at y2
 have e2:((2:Int)^(s+1)-2)=((2^(s+1)-2:Nat):Int):=by
  simp at hs
  rcases hs with rfl|rfl|rfl<;>decide
 rw [e2] at y2;omega
theorem mgL_valid9 {m:List Int} {s:Int} (hm:mvd m s=true):gv (mgL m s) s=true:=by
 obtain ⟨⟨s2,s4⟩,_,_,_⟩:=mvd_at hm;obtain ⟨t,rfl⟩:∃ t:Nat,s=t:=⟨s.toNat,by omega⟩
 have hs:t∈[2,3,4]:=by simp;omega
 have hl:=len_of hs hm
 have e:mgL m t=mapTo (mgG m) m.length:=by simp [mgL,hm]
 rw [e];refine okAll_gv' hs (by rw [mapTo_length,hl]) (fun i hi=>?_);rw [mapTo_nth (by omega)];unfold mgG;obtain ⟨M,hM,hM32,eM⟩:=mv_bits' hm i;have hb:M<=2^(t+1)-2:=mask_top9 hs hm (by omega) hM;have h:=mgC9_all t hs M hM32;rw [eM];unfold mgC9 at h
 rcases Bool.or_eq_true_iff.1 h with h|h
 ·have h1:=Nat.le_of_ble_eq_true h
  have h2:2<=2^(t+1):=by
   have:=Nat.two_pow_pos t;rw [Nat.pow_succ];omega
  omega
 ·simp only [Bool.and_eq_true,decide_eq_true_eq] at h;exact h
theorem cnz_of {xs:List Int}:∀ {k:Nat},(∀ j,j<k->nth xs j≠0)->cnz xs k=k
 |0,_=>by simp [cnz]
 |k+1,h=>by rw [cnz_nz (h k (by omega)),cnz_of (fun j hj=>h j (by omega))]
def sbB (s:Int) (n:Nat) (gi:List Int) (rs:List RuleM) (t:Int):Bool:=(let g:=mgL (naL s gi rs (startL s gi rs n) t) s;!memTo g 0 g.length)
def gpF (s:Int) (n:Nat) (gi:List Int) (rs:List RuleM):Nat->Nat->Int
 |0,_=>5
 |d+1,t=>if sbB s n gi rs (t:Nat)=true then (t:Nat) else gpF s n gi rs d (t+1)
def gpI (s:Int) (n:Nat) (gi:List Int) (rs:List RuleM):Int:=if pvB s gi rs=true then (if (allS s 2 n gi rs).length=1 then gpF s n gi rs 4 1 else 0) else -1
theorem memTo_at9 {xs:List Int} {v:Int}:∀ {n:Nat},memTo xs v n=true->∃ k,k<n/\nth xs k=v
 |0,h=>by simp [memTo] at h
 |n+1,h=>by
  simp only [memTo,Bool.or_eq_true,beq_iff_eq] at h
  rcases h with h|h
  ·obtain ⟨k,hk,e⟩:=memTo_at9 h;exact ⟨k,by omega,e⟩
  ·exact ⟨n,by omega,h⟩
theorem gp_fill {m:List Int} {s:Int} (hm:mvd m s=true):(gf (mgL m s) s=(m.length:Int))↔memTo (mgL m s) 0 (mgL m s).length=false:=by
 have hl:(mgL m s).length=m.length:=by simp [mgL,hm,mapTo_length]
 unfold gf;rw [if_pos (mgL_valid9 hm),hl]
 constructor
 ·intro e
  have e2:cnz (mgL m s) m.length=m.length:=by omega
  have h:=cnz_all e2
  cases hm0:memTo (mgL m s) 0 (mgL m s).length with
  |false=>rw [<- hl];exact hm0
  |true=>
   obtain ⟨k,hk,e0⟩:=memTo_at9 hm0;exact absurd e0 (h k (by omega))
 ·intro e
  have:cnz (mgL m s) m.length=m.length:=cnz_of (fun j hj h0=>by
   have:=memTo_hit (xs:=mgL m s) (v:=0) (by omega:j<(mgL m s).length) h0
   rw [hl,e] at this;cases this)
  omega
set_option maxHeartbeats 2000000 in
theorem solvedBy_any (t:Nat) (Ag:Option Addr) (n cg Bg:Nat) (gi:List Int) (Ar:Option Addr) (nr cr Br:Nat) (rs:List RuleM) (M:Nat) (w:World) (hp:PGc w (t:Nat) Ag n cg Bg gi Ar nr cr Br rs) (hT:Tz w) (hv:pvB (t:Nat) gi rs=true) (hM:1<=M/\M<=4):
 Calls Tryz.prog 74 #[.agg #[.int .i64 (t:Nat),.slice Ag n cg,.slice Ar nr cr],.int .i64 (M:Nat)] w fun e w'=>e=.returned (.bool (sbB (t:Nat) n gi rs (M:Nat)))/\Below w.heap.size w w':=by
 have hx0:=pbox_new w (t:Nat) Ag n cg Ar nr cr 26;obtain ⟨W,hW⟩:∃ W,w.alloc (.cells #[.int .i64 (t:Nat),.slice Ag n cg,.slice Ar nr cr] 26)=W:=⟨_,rfl⟩
 have hb0:Below w.heap.size w W:=by rw [<- hW];exact (Below.refl _ _).alloc (Nat.le_refl _) _
 have hs0:w.heap.size<W.heap.size:=by rw [<- hW];simp
 rw [hW] at hx0;obtain ⟨hXl,hXv⟩:=start_mvdM (rs:=rs) hp.g.1 hv
 have hn16:n<=16:=by
  have:=(mvd_at hXv).2.2.1;omega
 have hts: -9223372036854775808<=((t:Nat):Int)/\((t:Nat):Int)<=9223372036854775807:=by
  have:=(mvd_at hXv).1;omega
 obtain ⟨X,hX⟩:∃ X,X=startL (t:Nat) gi rs n:=⟨_,rfl⟩;rw [<- hX] at hXl hXv;obtain ⟨Y,hY⟩:∃ Y,Y=naL (t:Nat) gi rs X (M:Nat):=⟨_,rfl⟩
 have hYv:mvd Y (t:Nat)=true:=by
  rw [hY];unfold naL;rw [if_pos (by simp [hv,hXv,inr];omega),Int.toNat_natCast];exact (na_wi hv hM.2 hXv).2.1
 have hYl:Y.length<=16:=(mvd_at hYv).2.2.1;have HS:=Lib.hid (show sbB (t:Nat) n gi rs (M:Nat)= !memTo (mgL Y (t:Nat)) 0 (mgL Y (t:Nat)).length by rw [hY,hX];rfl)
 have HI0:=Lib.hid (fun w' (hb:Below W.heap.size W w')=>by
  have:=implStartMasks _ _ _ _ _ _ _ _ _ _ _ _ (hp.below (step hb0 hb));rw [<- hX] at this
  exact this)
 have hdr:Below W.heap.size W W.drew:=(Below.refl _ _).drew;have hX64:=b64_mvd hXv;have hY64:=b64_mvd hYv;have HTz:=Lib.hid (fun w' (hb:Below W.heap.size W w')=>hT.below hT.lt (step hb0 hb))
 have HI:=Lib.hid (fun (A9:Option Addr) (c9 n9 B9:Nat) (w':World) (hb:Below W.heap.size W w') (hr:Rd w' B9 A9 n9 X) (hB:B9<=w'.heap.size) (h9:n9<=1099511627776)=>by
  have:=implNarrowAll _ _ _ _ _ _ _ _ _ _ _ A9 c9 n9 B9 X (M:Nat) w' (hp.below (step hb0 hb)) hr hB hX64 h9 (HTz.out _ hb) hts;rw [<- hY] at this
  exact this)
 have HMG:=Lib.hid (fun (A9:Option Addr) (c9 n9 B9:Nat) (w':World) (hb:Below W.heap.size W w') (hr:Rd w' B9 A9 n9 Y) (hB:B9<=w'.heap.size) (h9:n9<=1099511627776)=>implMasksGrid A9 c9 n9 B9 Y (t:Nat) w' hr hY64 (HTz.out _ hb) hB h9 hts);have HX:=Lib.hid (fun w' (hb:Below W.heap.size W w')=>hx0.below hs0 hb);have HB:=Lib.hid (fun w' (hb:Below W.heap.size W w')=>step hb0 hb);have HW:=Lib.hid hW
 have hgl:(mgL Y (t:Nat)).length<=16:=by simp [mgL,hYv,mapTo_length];omega
 have hX16:X.length<=1099511627776:=by omega
 have hY16:Y.length<=1099511627776:=by omega
 obtain ⟨z0,z1,z2⟩:=id hx0;clear hW hx0 hb0 hY hX hYv hXv hXl hYl hts hv hM hp hs0 hX64 hY64
 go_enter Tryz.func74,Tryz.ntmps74
 go_wp2_with fail
 rw [HW.out]
 go_region_with (first
  |(go_at_call 30;refine (HI0.out _ hdr).mono ?_;rintro e w2 ⟨Ax,cx,rfl,hox,hb2⟩;have h02:=step hdr hb2;obtain ⟨y0,y1,y2⟩:=HX.out _ h02)
  |(go_at_call 29;refine (HI.out _ _ _ _ _ h02 hox.rd (Nat.le_refl _) hX16).mono ?_;rintro e w3 ⟨A3,n3,c3,rfl,ho3,hb3⟩))
 all_goals
  obtain rfl:=ho3.len;have h03:=step h02 hb3;obtain ⟨x0,x1,x2⟩:=HX.out _ h03
  go_wp2_with (first
   |(go_at_call 31;refine (HMG.out _ _ _ _ _ h03 ho3.rd (Nat.le_refl _) hY16).mono ?_;rintro e w4 ⟨A4,c4,rfl,ho4,hb4⟩)
   |(go_at_call 66;refine (contains_any _ _ _ _ _ 0 _ ho4.rd (by omega)).mono ?_;rintro e w5 ⟨rfl,rfl⟩))
  go_ret
  exact ⟨by rw [HS.out];rfl,HB.out _ (step h03 hb4)⟩
set_option maxHeartbeats 2000000 in
theorem implGradePuzzle (s:Int) (Ag:Option Addr) (n cg Bg:Nat) (gi:List Int) (Ar:Option Addr) (nr cr Br:Nat) (rs:List RuleM) (w:World) (hp:PGc w s Ag n cg Bg gi Ar nr cr Br rs) (hT:Tz w):
 Calls Tryz.prog 27 #[.agg #[.int .i64 s,.slice Ag n cg,.slice Ar nr cr]] w fun e w'=>e=.returned (.int .i64 (gpI s n gi rs))/\Below w.heap.size w w':=by
 have hx0:=pbox_new w s Ag n cg Ar nr cr 26;obtain ⟨W,hW⟩:∃ W,w.alloc (.cells #[.int .i64 s,.slice Ag n cg,.slice Ar nr cr] 26)=W:=⟨_,rfl⟩
 have hb0:Below w.heap.size w W:=by rw [<- hW];exact (Below.refl _ _).alloc (Nat.le_refl _) _
 have hs0:w.heap.size<W.heap.size:=by rw [<- hW];simp
 rw [hW] at hx0;have HV:=Lib.hid (valid_any s Ag n cg Bg gi Ar nr cr Br rs W (hp.below hb0));have HX:=Lib.hid (fun w' (hb:Below W.heap.size W w')=>hx0.below hs0 hb);have HB:=Lib.hid (fun w' (hb:Below W.heap.size W w')=>step hb0 hb);have HW:=Lib.hid hW;obtain ⟨z0,z1,z2⟩:=id hx0;cases hv:pvB s gi rs
 ·have HL:=Lib.hid (show gpI s n gi rs= -1 by simp [gpI,hv])
  go_enter Tryz.func27,Tryz.ntmps27
  clear hW
  go_wp2_with fail
  rw [HW.out]
  go_wp2_with (go_at_call 60;refine HV.out.mono ?_;rintro e w1 ⟨rfl,hb1⟩;rw [hv])
  go_ret
  exact ⟨by rw [HL.out];rfl,HB.out _ hb1⟩
 ·obtain ⟨t,rfl,hs,_,_,_⟩:=pv_grid hv hp.g.1;have HCS:=Lib.hid (fun w' (hb:Below W.heap.size W w')=>hasOne_any _ _ _ _ _ _ _ _ _ _ _ w' (hp.below (step hb0 hb)) hv (hT.below hT.lt (step hb0 hb)));obtain ⟨q,hq⟩:∃ q,q=(allS t 2 n gi rs).length:=⟨_,rfl⟩;have HSB:=Lib.hid (fun (M:Nat) (h1:1<=M) (h4:M<=4) w' (hb:Below W.heap.size W w')=>solvedBy_any _ _ _ _ _ _ _ _ _ _ _ M w' (hp.below (step hb0 hb)) (hT.below hT.lt (step hb0 hb)) hv ⟨h1,h4⟩)
  by_cases h1:q=1
  ·have HL:=Lib.hid (show gpI t n gi rs=gpF t n gi rs 4 1 by simp [gpI,hv,<-hq,h1]);have HC:=Lib.hid (show oneB t n gi rs=true by unfold oneB;rw [<- hq,h1];rfl);subst h1;clear hW hx0 hb0 hs0 hp hq hs
   go_enter Tryz.func27,Tryz.ntmps27
   go_wp2_with fail
   rw [HW.out]
   go_wp2_with (first
    |(go_at_call 60;refine HV.out.mono ?_;rintro e w1 ⟨rfl,hb1⟩;rw [hv];obtain ⟨y0,y1,y2⟩:=HX.out _ hb1)
    |(go_at_call 73;refine (HCS.out _ hb1).mono ?_;rintro e w2 ⟨rfl,hb2⟩;rw [HC.out];have h02:=step hb1 hb2))
   go_loopw [3] (fun i wr=>∃ M:Nat,1<=M/\M<=5/\i=.int .i64 M/\gpF t n gi rs 4 1=gpF t n gi rs (5-M) M/\Below W.heap.size W wr) (fun i _=>5-(intOf i).toNat)
   case atStart=>exact ⟨1,by omega,by omega,rfl,rfl,h02⟩
   case round=>
    obtain ⟨M,m1,m5,rfl,hg,hb⟩:=hrel;obtain ⟨x0,x1,x2⟩:=HX.out _ hb
    by_cases hlt:M<=4
    ·have hltI:(M:Int)<=4:=(by omega)
     have HG:=Lib.hid (show gpF t n gi rs 4 1=if sbB t n gi rs (M:Nat)=true then ((M:Nat):Int) else gpF t n gi rs (4-M) (M+1) by
      rw [hg,show 5-M=(4-M)+1 by omega];rfl)
     clear hg;cases hsb:sbB t n gi rs (M:Nat)
     ·go_wp2_with (go_at_call 74;refine (HSB.out M m1 hlt _ hb).mono ?_;rintro e w3 ⟨rfl,hb3⟩;rw [hsb])
      go_roundw
      case rel=>exact ⟨M+1,by omega,by omega,by go_num,by rw [HG.out,hsb,if_neg (by simp),show 5-(M+1)=4-M by omega],step hb hb3⟩
      case measure=>simp [intOf];omega
     ·go_wp2_with (go_at_call 74;refine (HSB.out M m1 hlt _ hb).mono ?_;rintro e w3 ⟨rfl,hb3⟩;rw [hsb])
      go_ret
      exact ⟨by rw [HL.out,HG.out,hsb,if_pos rfl];rfl,HB.out _ (step hb hb3)⟩
    ·obtain rfl:M=5:=by omega
     have HG:=Lib.hid (show gpF t n gi rs 4 1=5 by rw [hg];rfl);clear hg
     go_wp2
     go_ret
     exact ⟨by rw [HL.out,HG.out];rfl,HB.out _ hb⟩
  ·have HL:=Lib.hid (show gpI t n gi rs=0 by
    unfold gpI;rw [if_pos hv,<-hq,if_neg h1])
   have HC:=Lib.hid (show oneB t n gi rs=false by unfold oneB;rw [<- hq,beq_eq_false_iff_ne];exact h1);clear hW hx0 hb0 hs0 hp hq hs
   go_enter Tryz.func27,Tryz.ntmps27
   go_wp2_with fail
   rw [HW.out]
   go_wp2_with (first
    |(go_at_call 60;refine HV.out.mono ?_;rintro e w1 ⟨rfl,hb1⟩;rw [hv];obtain ⟨y0,y1,y2⟩:=HX.out _ hb1)
    |(go_at_call 73;refine (HCS.out _ hb1).mono ?_;rintro e w2 ⟨rfl,hb2⟩;rw [HC.out];have h02:=step hb1 hb2))
   go_ret
   exact ⟨by rw [HL.out];rfl,HB.out _ h02⟩
set_option maxHeartbeats 4000000 in
theorem specGradePuzzle (s:Int) (Ag:Option Addr) (n cg Bg:Nat) (gi:List Int) (Ar:Option Addr) (nr cr Br:Nat) (rs:List RuleM) (w:World) (hp:PGs w s Ag n cg Bg gi Ar nr cr Br rs):
 Calls Tryz.prog 28 #[.agg #[.int .i64 s,.slice Ag n cg,.slice Ar nr cr]] w fun e w'=>e=.returned (.int .i64 (gpI s n gi rs))/\Below w.heap.size w w':=by
 have hx0:=pbox_new w s Ag n cg Ar nr cr 26;obtain ⟨W,hW⟩:∃ W,w.alloc (.cells #[.int .i64 s,.slice Ag n cg,.slice Ar nr cr] 26)=W:=⟨_,rfl⟩
 have hb0:Below w.heap.size w W:=by rw [<- hW];exact (Below.refl _ _).alloc (Nat.le_refl _) _
 have hs0:w.heap.size<W.heap.size:=by rw [<- hW];simp
 rw [hW] at hx0;have HP:=Lib.hid (specPuzzleValid s Ag n cg Bg gi Ar nr cr Br rs W (hp.below hb0).g (hp.below hb0).gB hp.gm (hp.below hb0).r (hp.below hb0).rB hp.rm);have HX:=Lib.hid (fun w' (hb:Below W.heap.size W w')=>hx0.below hs0 hb);have HB:=Lib.hid (fun w' (hb:Below W.heap.size W w')=>step hb0 hb);have HW:=Lib.hid hW;have HA:=Lib.hid (fun w' (hb:Below W.heap.size W w')=>(show Calls Tryz.prog 63 #[.agg #[.int .i64 s,.slice Ag n cg,.slice Ar nr cr],.int .i64 2] w' _ from specAll s 2 Ag n cg Bg gi Ar nr cr Br rs w' (hp.below (step hb0 hb)) (by omega) (by omega)))
 obtain ⟨z0,z1,z2⟩:=id hx0;cases hv:pvB s gi rs
 ·have HL:=Lib.hid (show gpI s n gi rs= -1 by simp [gpI,hv]);clear hW
  go_enter Tryz.func28,Tryz.ntmps28
  go_wp2_with fail
  rw [HW.out]
  go_wp2_with (go_at_call 25;refine HP.out.mono ?_;rintro e w1 ⟨rfl,hb1⟩;rw [hv])
  go_ret
  exact ⟨by rw [HL.out];rfl,HB.out _ hb1⟩
 ·obtain ⟨t,rfl,hs,_,_,_⟩:=pv_grid hv hp.g.1;obtain ⟨q,hq⟩:∃ q,q=(allS t 2 n gi rs).length:=⟨_,rfl⟩;obtain ⟨LA,hLA⟩:∃ LA,LA=allS t 2 n gi rs:=⟨_,rfl⟩;rw [<- hLA] at HA hq
  by_cases h1:q=1
  ·have HL:=Lib.hid (show gpI t n gi rs=gpF t n gi rs 4 1 by simp [gpI,hv,<-hLA,<-hq,h1]);obtain ⟨hXl,hXv⟩:=start_mvdM (rs:=rs) hp.g.1 hv;have hX16:=(mvd_at hXv).2.2.1
   have hts: -9223372036854775808<=((t:Nat):Int)/\((t:Nat):Int)<=9223372036854775807:=by
    have:=(mvd_at hXv).1;omega
   have HSM:=Lib.hid (fun w' (hb:Below W.heap.size W w')=>specStartMasks _ _ _ _ _ _ _ _ _ _ _ _ (hp.below (step hb0 hb)));have HNA:=Lib.hid (fun (A9:Option Addr) (c9 n9 B9 M:Nat) (w':World) (hb:Below W.heap.size W w') (hr:Rd w' B9 A9 n9 (startL t gi rs n)) (hB:B9<=w'.heap.size) (h9:n9<=1099511627776)=>specNarrowAllX _ _ _ _ _ _ _ _ _ _ _ A9 c9 n9 B9 _ (M:Nat) w' (hp.below (step hb0 hb)) hr hB h9 hts);have HMG:=Lib.hid (fun (A9:Option Addr) (c9 n9 B9:Nat) (Y:List Int) (w':World) (hr:Rd w' B9 A9 n9 Y) (hB:B9<=w'.heap.size) (h9:n9<=1099511627776)=>specMasksGrid A9 c9 n9 B9 Y (t:Nat) w' hr hB h9 hts)
   have HYv:=Lib.hid (fun (M:Nat) (h1:1<=M) (h4:M<=4)=>show mvd (naL t gi rs (startL t gi rs n) (M:Nat)) t=true by
    unfold naL;rw [if_pos (by simp [hv,hXv,inr];omega),Int.toNat_natCast]
    exact (na_wi hv h4 hXv).2.1)
   have HXl:Hid ((startL t gi rs n).length<=16):=Lib.hid hX16
   have HYc:=Lib.hid (fun (M:Nat) (h1:1<=M) (h4:M<=4)=>show ((gf (mgL (naL t gi rs (startL t gi rs n) (M:Nat)) t) t==((naL t gi rs (startL t gi rs n) (M:Nat)).length:Int))=sbB t n gi rs (M:Nat)) by
    rw [Bool.eq_iff_iff];simp only [beq_iff_eq,sbB];rw [gp_fill (HYv.out M h1 h4)]
    simp)
   have HYl:=Lib.hid (fun (M:Nat) (h1:1<=M) (h4:M<=4)=>(mvd_at (HYv.out M h1 h4)).2.2.1)
   have HGl:=Lib.hid (fun (M:Nat) (h1:1<=M) (h4:M<=4)=>show (mgL (naL t gi rs (startL t gi rs n) (M:Nat)) t).length<=16 by
    have:=HYl.out M h1 h4;simp only [mgL,HYv.out M h1 h4,if_true,mapTo_length]
    exact this)
   subst h1;have HQ:=Lib.hid hq;clear hq;obtain ⟨X,hX⟩:∃ X,X=startL t gi rs n:=⟨_,rfl⟩;rw [<- hX] at HSM HNA HYv HXl HYc HYl HGl;clear hW hx0 hb0 hs0 hp hs hX hXl hXv hX16 hts hLA
   go_enter Tryz.func28,Tryz.ntmps28
   go_wp2_with fail
   rw [HW.out]
   go_wp2_with (first
    |(go_at_call 25;refine HP.out.mono ?_;rintro e w1 ⟨rfl,hb1⟩;rw [hv];obtain ⟨y0,y1,y2⟩:=HX.out _ hb1)
    |(go_at_call 63;(refine (HA.out _ hb1).mono ?_);rintro e w2 ⟨P,v,rfl,hrows,hb2⟩;obtain ⟨A1,c1,vs,rfl,_⟩:=hrows;rw [<- HQ.out];have h02:=step hb1 hb2))
   go_loopw [3,4,5] (fun i _ _ wr=>∃ M:Nat,1<=M/\M<=5/\i=.int .i64 M/\gpF t n gi rs 4 1=gpF t n gi rs (5-M) M/\Below W.heap.size W wr) (fun i _ _ _=>5-(intOf i).toNat)
   case atStart=>exact ⟨1,by omega,by omega,rfl,rfl,h02⟩
   case round=>
    obtain ⟨M,m1,m5,rfl,hg,hb⟩:=hrel;obtain ⟨x0,x1,x2⟩:=HX.out _ hb
    by_cases hlt:M<=4
    ·have hltI:(M:Int)<=4:=(by omega)
     have HG:=Lib.hid (show gpF t n gi rs 4 1=if sbB t n gi rs (M:Nat)=true then ((M:Nat):Int) else gpF t n gi rs (4-M) (M+1) by
      rw [hg,show 5-M=(4-M)+1 by omega];rfl)
     obtain ⟨Y,hY⟩:∃ Y,Y=naL t gi rs X (M:Nat):=⟨_,rfl⟩
     have hNA:=fun (A9:Option Addr) (c9 n9 B9:Nat)=>HNA.out A9 c9 n9 B9 M
     have hYc:=HYc.out M m1 hlt;have hYl:=HYl.out M m1 hlt;have hGl:=HGl.out M m1 hlt;rw [<- hY] at hNA hYc hYl hGl;have hNA:=Lib.hid hNA;have hYc:=Lib.hid hYc;have hY16:Y.length<=1099511627776:=(by omega);have hg16:(mgL Y t).length<=1099511627776:=(by omega);have hd:Below W.heap.size W wr.drew:=hb.drew;have hX16:X.length<=1099511627776:=(by have:=HXl.out;omega);clear hg hY hYl hGl
     go_wp2
     go_region_with (first
      |(go_at_call 76;refine (HSM.out _ hd).mono ?_;rintro e w3 ⟨Ax,cx,rfl,hox,hb3⟩;have h03:=step hd hb3;obtain ⟨y0,y1,y2⟩:=HX.out _ h03)
      |(go_at_call 75;refine (hNA.out _ _ _ _ _ h03 hox.rd (Nat.le_refl _) hX16).mono ?_;rintro e w4 ⟨A4,n4,c4,rfl,ho4,hb4⟩))
     all_goals
      obtain rfl:=ho4.len;have h04:=step h03 hb4;have h4d:Below W.heap.size W w4.drew:=h04.drew;obtain ⟨u0,u1,u2⟩:=HX.out _ h04;have ho4d:=ho4.rd.below (Below.refl _ w4).drew
      go_wp2
      go_region_with (first
       |(go_at_call 78;refine (HMG.out _ _ _ _ _ _ ho4d (Nat.le_refl _) hY16).mono ?_;rintro e w5 ⟨A5,c5,rfl,ho5,hb5⟩;have h05:=step h4d hb5;obtain ⟨p0,p1,p2⟩:=HX.out _ h05)
       |(go_at_call 77;refine (specGridFilled _ _ _ _ _ _ _ ho5.rd hg16).mono ?_;rintro e w6 ⟨rfl,rfl⟩))
      all_goals
       have h6B:=step h05 (Below.refl _ _);cases hsb:sbB t n gi rs (M:Nat)
       ·have hcq:(gf (mgL Y t) t==(Y.length:Int))=false:=(by rw [hYc.out,hsb])
        go_wp2
        go_roundw
        case rel=>exact ⟨M+1,by omega,by omega,by go_num,by rw [HG.out,hsb,if_neg (by simp),show 5-(M+1)=4-M by omega],h6B⟩
        case measure=>simp [intOf];omega
       ·have hcq:(gf (mgL Y t) t==(Y.length:Int))=true:=(by rw [hYc.out,hsb])
        go_wp2
        go_ret
        exact ⟨by rw [HL.out,HG.out,hsb,if_pos rfl];rfl,HB.out _ h6B⟩
    ·obtain rfl:M=5:=by omega
     have HG:=Lib.hid (show gpF t n gi rs 4 1=5 by rw [hg];rfl);clear hg
     go_wp2
     go_ret
     exact ⟨by rw [HL.out,HG.out];rfl,HB.out _ hb⟩
  ·have HL:=Lib.hid (show gpI t n gi rs=0 by
    unfold gpI;rw [if_pos hv,<-hLA,<-hq,if_neg h1])
   have hne:((q:Int) != 1)=true:=(by rw [bne_iff_ne];omega);have HQ:=Lib.hid hq;clear hW hx0 hb0 hs0 hp hs hLA hq
   go_enter Tryz.func28,Tryz.ntmps28
   go_wp2_with fail
   rw [HW.out]
   go_wp2_with (first
    |(go_at_call 25;refine HP.out.mono ?_;rintro e w1 ⟨rfl,hb1⟩;rw [hv];obtain ⟨y0,y1,y2⟩:=HX.out _ hb1)
    |(go_at_call 63;(refine (HA.out _ hb1).mono ?_);rintro e w2 ⟨P,v,rfl,hrows,hb2⟩;obtain ⟨A1,c1,vs,rfl,_⟩:=hrows;rw [<- HQ.out];have h02:=step hb1 hb2))
   go_ret
   exact ⟨by rw [HL.out];rfl,HB.out _ h02⟩
set_option maxHeartbeats 4000000 in
theorem draw_DrawGradePuzzle (A:Option Addr) (n c:Nat) (bs:List Int) (w:World) (h:Code_ w A n c bs):Calls Tryz.prog 26 #[.slice A n c] w (DrawnP w):=by
 have Hone:=Lib.hid puz_one;have Hi:=Lib.hid puz_info;have h1:=h.1.alloc_ (.cells #[.int .i64 0,.slice none 0 0,.slice none 0 0] 26);obtain ⟨w0,hW⟩:∃ w0,w0=w.alloc (.cells #[.int .i64 0,.slice none 0 0,.slice none 0 0] 26):=⟨_,rfl⟩;rw [<- hW] at h1
 have hRw:w.heap.size<w0.heap.size:=by rw [hW];simp
 have hb00:Below w.heap.size w w0:=by rw [hW];exact (Below.refl _ _).alloc (Nat.le_refl _) _
 have hR0:w0.heap[w.heap.size]? =some (.cells #[.int .i64 0,.slice none 0 0,.slice none 0 0] 26):=by rw [hW];exact heap_alloc_new w _
 have HW:=Lib.hid hW;clear hW
 go_enter Tryz.func26,Tryz.ntmps26
 go_wp2_with fail
 rw [<- HW.out];refine (specOpen A c n bs w0 h1 h.2.1 h.2.2).mono ?_;rintro e w1 ⟨rfl,hr,hb⟩;have hR1:=(hb.block w.heap.size hRw).trans hR0;have hG1:=hr.lt
 go_wp2_with fail
 refine (l20Puzzle_any w0.heap.size w0.heap.size 0 12 w1 hr (Nat.le_refl _) (by omega) (by omega)).mono ?_;rintro e w2 ⟨s,A1,n1,c1,gi,A2,nr,c2,rs,rfl,s2,s4,hrd,hn16,hlo,hR,hl,hnr,hr2,hg,_⟩;have h12:=hg.size;have hR4:=(hg.block w.heap.size (Nat.lt_of_lt_of_le hRw hb.size) (fun e=>by injection e with e;omega)).trans hR1;have hb17:Below w.heap.size w w2:=(hb00.trans (hb.mono hb00.size)).trans ⟨hg.os,hg.tape,hg.output,hg.size,fun j hj=>hg.block j (Nat.lt_of_lt_of_le hj (Nat.le_trans hb00.size hb.size)) (fun e=>by injection e with e;omega)⟩
 have hf:DrawnP w (.returned (.agg #[.int .i64 s,.slice A1 n1 c1,.slice A2 nr c2])) (w2.setRow w.heap.size #[.int .i64 s,.slice A1 n1 c1,.slice A2 nr c2]):=by
  have hgr:w2.grownBy (w2.setRow w.heap.size #[.int .i64 s,.slice A1 n1 c1,.slice A2 nr c2]) (some w.heap.size):=grown_row;have hsz:=hgr.size;exact ⟨s,A1,n1,c1,gi,A2,nr,c2,rs,rfl,s2,s4,(rd_keepV hrd (Nat.le_refl _) hgr (fun b off e=>by have:=hlo b off e;omega)).more hsz,hn16,(hR.setX hR4).mono (by omega),hl,hnr,setRow_below5 hb17 (Nat.le_refl _)⟩
 clear hrd hR hlo hr hr2 hg
 go_wp2_with (refine wpList_store_row rfl 26 _ _ rfl w.heap.size #[.int .i64 s,.slice A1 n1 c1,.slice A2 nr c2] rfl rfl 26 #[.int .i64 0,.slice none 0 0,.slice none 0 0] hR4 (Hi.out _ _ _ _ _ _ _) rfl (Hone.out _ _ _ _ _ _ _) ?_)
 exact bodyPost_ret (v:=.agg #[.int .i64 s,.slice A1 n1 c1,.slice A2 nr c2]) (results_cell_row (by rfl) _ _ w.heap.size 26 _ (0,0) _ rfl (setRow_heap _ _ _ _ _ _ hR4) Tryz.underlying26 rfl (Hi.out _ _ _ _ _ _ _)) rfl hf
theorem na_more {s:Int} {gi m:List Int} {rs:List RuleM} {g most:Nat} (hv:pvB s gi rs=true) (hg:g<=most) (h4:most<=4) (hm:mvd m s=true):Wi (naE s gi rs most m 0).1 (naE s gi rs g m 0).1:=by
 obtain ⟨L,hL⟩:=roE_more (most:=most) hv hg h4 (sumTo m m.length+1) m hm (by omega);obtain ⟨hq,hr,_⟩:=roE_split (most:=most) hv h4 _ m hm hL
 have e1:(naE s gi rs g m 0).1=lastO m (roE s gi rs g m):=by rw [naE_ro]
 have e2:(naE s gi rs most m 0).1=(naE s gi rs most (lastO m (roE s gi rs g m)) 0).1:=by
  rw [naE_ro,naE_ro,hr,hL,lastO_app]
 rw [e1,e2];exact (na_wi hv h4 hq).1
def oneQ (M y:Nat):Bool:= !(M.testBit y&&Nat.ble 1 y&&Nat.ble y 4)||(oneOf (bitsTo M 4)==0)||(oneOf (bitsTo M 4)==(y:Int))
theorem oneQ_all:∀ M,M<32->∀ y,y<5->oneQ M y=true:=by decide +kernel
def subQ (A B y:Nat):Bool:= !(A.testBit y&&Nat.ble 1 y&&(bits .andNot .i64 (A:Nat) (B:Nat)==0)&&(oneOf (bitsTo B 4)==(y:Int)))||(oneOf (bitsTo A 4)==(y:Int))
theorem subQ_all:∀ A,A<32->∀ B,B<32->∀ y,y<5->subQ A B y=true:=by decide +kernel
theorem mh_at9 {m g:List Int} {s:Int} (h:mhB m s g=true) (hg0:∀ k,k<g.length->nth g k≠0) {k:Nat} (hk:k<g.length):∃ y:Nat,nth g k=y/\1<=y/\y<5/\(nth m k).toNat.testBit y=true:=by
 simp only [mhB,Bool.and_eq_true,List.all_eq_true,List.mem_range] at h;obtain ⟨p0,p1⟩:=gv_nth h.1.2 hk;have:=gv_size h.1.2;have:=hg0 k hk;obtain ⟨y,hy⟩:=Int.eq_ofNat_of_zero_le p0;have hb:=h.2 k hk;unfold inMask at hb;rw [hy,Int.toNat_natCast] at hb;exact ⟨y,hy,by omega,by omega,hb⟩
theorem mg_one {m g:List Int} {s:Int} (h:mhB m s g=true) (hg0:∀ k,k<g.length->nth g k≠0) {k:Nat} (hk:k<g.length):mgG m k=0\/mgG m k=nth g k:=by
 have hm:mvd m s=true:=by simp only [mhB,Bool.and_eq_true] at h;exact h.1.1
 obtain ⟨y,hy,y1,y5,hb⟩:=mh_at9 h hg0 hk;obtain ⟨M,hM,hM32,eM⟩:=mv_bits' hm k;rw [hM,Int.toNat_natCast] at hb;have q:=oneQ_all M hM32 y y5;unfold mgG;rw [eM,hy];simp only [oneQ,hb,Nat.ble_eq_true_of_le y1,Nat.ble_eq_true_of_le (show y<=4 by omega),Bool.and_self,Bool.not_true,Bool.false_or,Bool.or_eq_true,beq_iff_eq] at q;exact q
theorem mg_len {m g:List Int} {s:Int} (h:mhB m s g=true):m.length=g.length:=by
 simp only [mhB,Bool.and_eq_true] at h;have h1:=(mvd_at h.1.1).2.1;have h2:=gv_len h.1.2;omega
theorem mg_is {m g:List Int} {s:Int} (h:mhB m s g=true) (hg0:∀ k,k<g.length->nth g k≠0):same (mgL m s) g= !memTo (mgL m s) 0 (mgL m s).length:=by
 have hm:mvd m s=true:=by simp only [mhB,Bool.and_eq_true] at h;exact h.1.1
 have hl:=mg_len h
 have e:mgL m s=mapTo (mgG m) m.length:=by simp [mgL,hm]
 have hll:(mgL m s).length=g.length:=by rw [e,mapTo_length,hl]
 cases hz:memTo (mgL m s) 0 (mgL m s).length
 ·have:mgL m s=g:=ext_nth hll (fun k hk=>by
   have hk2:k<m.length:=(by omega);have hn:nth (mgL m s) k=mgG m k:=(by rw [e];exact mapTo_nth hk2)
   rcases mg_one h hg0 (show k<g.length by omega) with h0|h0
   ·have:=memTo_hit (xs:=mgL m s) (v:=0) hk (by rw [hn,h0]);rw [hz] at this;cases this
   ·rw [hn,h0])
  rw [this];simp [same]
 ·obtain ⟨k,hk,h0⟩:=memTo_at9 hz
  have hne:mgL m s≠g:=fun e2=>hg0 k (by omega) (by rw [<- e2];exact h0)
  cases hs:same (mgL m s) g with
  |false=>rfl
  |true=>exact absurd (by simpa [same] using hs) hne
theorem mg_more {a b g:List Int} {s:Int} (ha:mhB a s g=true) (hb:mhB b s g=true) (hw:Wi a b) (hg0:∀ k,k<g.length->nth g k≠0) (h:memTo (mgL b s) 0 (mgL b s).length=false):memTo (mgL a s) 0 (mgL a s).length=false:=by
 have hma:mvd a s=true:=by simp only [mhB,Bool.and_eq_true] at ha;exact ha.1.1
 have hmb:mvd b s=true:=by simp only [mhB,Bool.and_eq_true] at hb;exact hb.1.1
 have la:=mg_len ha;have lb:=mg_len hb
 have ea:mgL a s=mapTo (mgG a) a.length:=by simp [mgL,hma]
 have eb:mgL b s=mapTo (mgG b) b.length:=by simp [mgL,hmb]
 cases hz:memTo (mgL a s) 0 (mgL a s).length with
 |false=>rfl
 |true=>
  obtain ⟨k,hk,h0⟩:=memTo_at9 hz
  have hka:k<a.length:=by rw [ea,mapTo_length] at hk;exact hk
  have hkb:k<b.length:=by omega
  rw [ea,mapTo_nth hka] at h0;obtain ⟨y,hy,y1,y5,hbit⟩:=mh_at9 ha hg0 (show k<g.length by omega);obtain ⟨M,hM,hM32,eM⟩:=mv_bits' hma k;obtain ⟨K,hK,hK32,eK⟩:=mv_bits' hmb k;have hwk:=hw k hkb;rw [hM,Int.toNat_natCast] at hbit;rw [hM,hK] at hwk
  have hbk:mgG b k=(y:Int):=by
   rcases mg_one hb hg0 (show k<g.length by omega) with h1|h1
   ·have:=memTo_hit (xs:=mgL b s) (v:=0) (n:=(mgL b s).length) (k:=k) (by rw [eb,mapTo_length];exact hkb) (by rw [eb,mapTo_nth hkb];exact h1);rw [h] at this;cases this
   ·rw [h1,hy]
  unfold mgG at hbk h0;rw [eK] at hbk;rw [eM] at h0;have q:=subQ_all M hM32 K hK32 y y5;simp only [subQ,hbit,Nat.ble_eq_true_of_le y1,hwk,hbk,beq_self_eq_true,Bool.and_self,Bool.not_true,Bool.false_or,beq_iff_eq] at q;rw [q] at h0;omega
theorem gp_iff {s:Int} {n:Nat} {gi:List Int} {rs:List RuleM} (hmono:∀ t:Nat,1<=t->t<4->sbB s n gi rs (t:Nat)=true->sbB s n gi rs ((t+1:Nat):Int)=true) {t:Nat} (h1:1<=t) (h4:t<=4):(decide (gpF s n gi rs 4 1<=(t:Nat)))=sbB s n gi rs (t:Nat):=by
 have a1:=hmono 1 (by omega) (by omega);have a2:=hmono 2 (by omega) (by omega);have a3:=hmono 3 (by omega) (by omega)
 have e:gpF s n gi rs 4 1=if sbB s n gi rs ((1:Nat):Int)=true then ((1:Nat):Int) else if sbB s n gi rs ((2:Nat):Int)=true then ((2:Nat):Int) else if sbB s n gi rs ((3:Nat):Int)=true then ((3:Nat):Int) else if sbB s n gi rs ((4:Nat):Int)=true then ((4:Nat):Int) else 5:=rfl
 rw [e]
 have ht:t=1\/t=2\/t=3\/t=4:=by omega
 have a2:sbB s n gi rs ((2:Nat):Int)=true->sbB s n gi rs ((3:Nat):Int)=true:=a2;have a1:sbB s n gi rs ((1:Nat):Int)=true->sbB s n gi rs ((2:Nat):Int)=true:=a1;have a3:sbB s n gi rs ((3:Nat):Int)=true->sbB s n gi rs ((4:Nat):Int)=true:=a3;clear hmono e
 rcases ht with rfl|rfl|rfl|rfl<;>revert a1 a2 a3<;>generalize sbB s n gi rs ((1:Nat):Int)=c1<;>generalize sbB s n gi rs ((2:Nat):Int)=c2<;>generalize sbB s n gi rs ((3:Nat):Int)=c3<;>generalize sbB s n gi rs ((4:Nat):Int)=c4<;>revert c1 c2 c3 c4<;>decide
theorem gpF_bd {s:Int} {n:Nat} {gi:List Int} {rs:List RuleM}:1<=gpF s n gi rs 4 1/\gpF s n gi rs 4 1<=5:=by
 simp only [gpF]
 repeat (first|omega|split)
theorem one_first {t n:Nat} {gi:List Int} {rs:List RuleM} (hl:gi.length=n) (hv:pvB t gi rs=true) (hn:n=t*t) (h:(allS t 2 n gi rs).length=1):sfB t n gi rs=true:=by
 have h1:=allS_cv (most:=1) hl hv (by decide) hn;have h2:=allS_cv (most:=2) hl hv (by decide) hn;rw [h2,List.length_take] at h;unfold sfB;rw [h1]
 cases e:cv t gi rs (t*t) [] with
 |nil=>rw [e] at h;simp at h
 |cons x xs=>simp
set_option maxHeartbeats 8000000 in
theorem gradePuzzle_walk (A:Option Addr) (c n:Nat) (bs:List Int) (w:World) (h:Code_ w A n c bs) (hT:Tz w):
 Calls Tryz.prog 5 #[.slice A n c] w fun e w'=>e=.returned (.bool true)/\Below w.heap.size w w':=by
 by_cases hn:n<=1048576
 ·go_enter Tryz.func5,Tryz.ntmps5
  go_wp2_with fail
  refine (draw_DrawGradePuzzle _ _ _ _ _ h).mono ?_;rintro e w1 ⟨s,A1,n1,c1,gi,A2,nr,c2,rs,rfl,s2,s4,hrd,hn16,hR,hl,hnr,hb1⟩;have hx0:=pbox_new w1 s A1 n1 c1 A2 nr c2 26;have hbA:Below w1.heap.size w1 (w1.alloc (.cells #[.int .i64 s,.slice A1 n1 c1,.slice A2 nr c2] 26)):=(Below.refl _ _).alloc (Nat.le_refl _) _;have hpc0:PGc w1 s A1 n1 c1 w1.heap.size gi A2 nr c2 w1.heap.size rs:=⟨hrd,Nat.le_refl _,by omega,hR.rdc hl,Nat.le_refl _,by omega⟩;have hpcA:=hpc0.below hbA
  have hsA:w1.heap.size<(w1.alloc (.cells #[.int .i64 s,.slice A1 n1 c1,.slice A2 nr c2] 26)).heap.size:=by simp
  obtain ⟨W,hW⟩:∃ W,w1.alloc (.cells #[.int .i64 s,.slice A1 n1 c1,.slice A2 nr c2] 26)=W:=⟨_,rfl⟩;rw [hW] at hx0 hbA hpcA hsA;have hb0W:Below w.heap.size w W:=step hb1 hbA
  have hsb: -9223372036854775808<=s/\s<=9223372036854775807:=by omega
  have HX:=Lib.hid (fun w' (hb:Below W.heap.size W w')=>hx0.below (by omega:w1.heap.size<W.heap.size) hb);have HB:=Lib.hid (fun w' (hb:Below W.heap.size W w')=>step hb0W hb);have HTz:=Lib.hid (fun w' (hb:Below W.heap.size W w')=>hT.below hT.lt (step hb0W hb));have HPV:=Lib.hid (fun w' (hb:Below W.heap.size W w')=>specPuzzleValid s A1 n1 c1 _ gi A2 nr c2 _ rs w' (hpcA.below hb).rd.g (hpcA.below hb).rd.gB hpcA.rd.gm (hpcA.below hb).rd.r (hpcA.below hb).rd.rB hpcA.rd.rm);have HCS:=Lib.hid (fun w' (hb:Below W.heap.size W w')=>implCountSolutions _ _ _ _ _ _ _ _ _ _ _ 2 w' (hpcA.below hb) (HTz.out _ hb))
  obtain ⟨gp,hgp⟩:∃ gp,gp=gpI s n1 gi rs:=⟨_,rfl⟩
  have HGI:=Lib.hid (fun w' (hb:Below W.heap.size W w')=>by
   have:=implGradePuzzle _ _ _ _ _ _ _ _ _ _ _ _ (hpcA.below hb) (HTz.out _ hb);rw [<- hgp] at this
   exact this)
  have HGS:=Lib.hid (fun w' (hb:Below W.heap.size W w')=>by
   have:=specGradePuzzle _ _ _ _ _ _ _ _ _ _ _ _ (hpcA.below hb).rd;rw [<- hgp] at this
   exact this)
  obtain ⟨X,hX⟩:∃ X,X=startL s gi rs n1:=⟨_,rfl⟩;have hgl:=hrd.1
  have hX16:X.length<=16:=by
   rw [hX];unfold startL
   split
   ·rw [mapTo_length];exact hn16
   ·simp
  have HI0:=Lib.hid (fun w' (hb:Below W.heap.size W w')=>by
   have:=implStartMasks _ _ _ _ _ _ _ _ _ _ _ _ (hpcA.below hb);rw [<- hX] at this
   exact this)
  obtain ⟨FL,hFL⟩:∃ FL,FL=sfL s n1 gi rs:=⟨_,rfl⟩;obtain ⟨bb,hbb⟩:∃ bb,bb=sfB s n1 gi rs:=⟨_,rfl⟩
  have HSF:=Lib.hid (fun w' (hb:Below W.heap.size W w')=>by
   have:=implSolveFirst _ _ _ _ _ _ _ _ _ _ _ _ (hpcA.below hb) (HTz.out _ hb);rw [<- hFL,<-hbb] at this
   exact this)
  have HI:=Lib.hid (fun (A9:Option Addr) (c9 n9 B9:Nat) (o:List Int) (M:Int) (w':World) (hb:Below W.heap.size W w') (hr:Rd w' B9 A9 n9 o) (hB:B9<=w'.heap.size) (h64:B64 o) (h9:n9<=1099511627776)=>implNarrowAll _ _ _ _ _ _ _ _ _ _ _ A9 c9 n9 B9 o M w' (hpcA.below hb) hr hB h64 h9 (HTz.out _ hb) hsb);have HW:=Lib.hid hW;obtain ⟨z0,z1,z2⟩:=id hx0
  have hX17:X.length<=1099511627776:=by omega
  have hne:(gp != gp)=false:=by simp
  have hdr:Below W.heap.size W W.drew:=(Below.refl _ _).drew;clear hW hpc0 hpcA hbA hx0 hR hrd;cases hv:pvB s gi rs
  ·have eg:gp= -1:=by rw [hgp];simp [gpI,hv]
   subst eg;clear hbb hFL hX hgp
   go_wp2_with fail
   rw [HW.out]
   go_wp2_with (first
    |(go_at_call 27;refine (HGI.out _ (Below.refl _ _)).mono ?_;rintro e w2 ⟨rfl,hb2⟩;obtain ⟨y0,y1,y2⟩:=HX.out _ hb2)
    |(go_at_call 28;refine (HGS.out _ hb2).mono ?_;rintro e w3 ⟨rfl,hb3⟩;have h03:=step hb2 hb3;obtain ⟨v0,v1,v2⟩:=HX.out _ h03)
    |(go_at_call 25;refine (HPV.out _ h03).mono ?_;rintro e w4 ⟨rfl,hb4⟩;rw [hv];have h04:=step h03 hb4)
    |(go_at_call 18;(with_reducible refine (alive_any _).mono ?_);rintro e w6 ⟨rfl,hb6⟩))
   go_ret
   exact ⟨rfl,HB.out _ (step h04 hb6)⟩
  ·obtain ⟨t,rfl,hs,hnn,_,hok⟩:=pv_grid hv hgl;have hnn2:n1=t*t:=(by simp at hs;rcases hs with rfl|rfl|rfl<;>omega);obtain ⟨q,hq⟩:∃ q,q=(allS t 2 n1 gi rs).length:=⟨_,rfl⟩;have HC:Hid (csI t n1 gi rs 2=(q:Int)):=Lib.hid (by rw [hq];simp [csI,hv,inr])
   by_cases h1:q=1
   ·have hbt:bb=true:=(by rw [hbb];exact one_first hgl hv hnn2 (by rw [<- hq,h1]));subst hbt;have eg:gp=gpF t n1 gi rs 4 1:=(by rw [hgp];unfold gpI;rw [if_pos hv,<-hq,if_pos h1])
    obtain ⟨g1,g5⟩:1<=gp/\gp<=5:=by rw [eg];exact gpF_bd
    obtain ⟨hXl,hXv⟩:=start_mvdM (rs:=rs) hgl hv;have hps:=sf_psM hgl hv hnn2 hbb.symm;have hsh:=start_have hs hgl hps;rw [<- hX] at hXl hXv hsh;rw [<- hFL] at hps hsh;have hgvF:=(ps_rules hps).2.1
    have hg0:∀ k,k<FL.length->nth FL k≠0:=by
     have h2:=hps;simp only [psB,Bool.and_eq_true,beq_iff_eq] at h2;have h3:=h2.2;unfold gf at h3;rw [if_pos hgvF] at h3;exact cnz_all (by omega)
    have eN:∀ M:Nat,1<=M->M<=4->naL t gi rs X (M:Nat)=(naE t gi rs M X 0).1:=fun M h1 h4=>by
     unfold naL;rw [if_pos (by simp [hv,hXv,inr];omega),Int.toNat_natCast]
    have hkeep:∀ M:Nat,1<=M->M<=4->mhB (naL t gi rs X (M:Nat)) t FL=true:=fun M h1 h4=>by
     rw [eN M h1 h4];exact na_keeps h4 hXv hps hsh
    have eS:∀ M:Nat,sbB t n1 gi rs (M:Nat)= !memTo (mgL (naL t gi rs X (M:Nat)) t) 0 (mgL (naL t gi rs X (M:Nat)) t).length:=fun M=>by rw [hX];rfl
    have hmono:∀ M:Nat,1<=M->M<4->sbB t n1 gi rs (M:Nat)=true->sbB t n1 gi rs ((M+1:Nat):Int)=true:=fun M m1 m4 hb=>by
     rw [eS] at hb ⊢;have:=mg_more (hkeep (M+1) (by omega) (by omega)) (hkeep M m1 (by omega)) (by rw [eN _ (by omega) (by omega),eN M m1 (by omega)];exact na_more hv (by omega) (by omega) hXv) hg0 (by simpa using hb);rw [this];rfl
    have HSame:=Lib.hid (fun (M:Nat) (m1:1<=M) (m4:M<=4)=>show same (mgL (naL t gi rs X (M:Nat)) t) FL=decide (gp<=(M:Nat)) by
     rw [mg_is (hkeep M m1 m4) hg0,eg,gp_iff hmono m1 m4,eS])
    have HYv:=Lib.hid (fun (M:Nat) (m1:1<=M) (m4:M<=4)=>show mvd (naL t gi rs X (M:Nat)) t=true by
     have:=hkeep M m1 m4;simp only [mhB,Bool.and_eq_true] at this
     exact this.1.1)
    have hX64:=b64_mvd hXv;have hFLl:FL.length<=16:=(by have:=gv_len hgvF;have:=mg_len (hkeep 1 (by omega) (by omega));have:=(mvd_at (HYv.out 1 (by omega) (by omega))).2.2.1;omega);have HMG:=Lib.hid (fun (A9:Option Addr) (c9 n9 B9:Nat) (Y:List Int) (w':World) (hb:Below W.heap.size W w') (h64:B64 Y) (hr:Rd w' B9 A9 n9 Y) (hB:B9<=w'.heap.size) (h9:n9<=1099511627776)=>implMasksGrid A9 c9 n9 B9 Y (t:Nat) w' hr h64 (HTz.out _ hb) hB h9 hsb);have hq1:((q:Int) != 1)=false:=(by rw [h1];rfl);have hq2:((q:Int)==1)=true:=(by rw [h1];rfl);clear hbb hFL hX hgp hq h1 hok hnn hnn2 hs hgvF hg0 eN hkeep eS hmono hps hsh hXl hXv eg hgl
    go_wp2_with fail
    rw [HW.out]
    go_wp2_with (first
     |(go_at_call 27;refine (HGI.out _ (Below.refl _ _)).mono ?_;rintro e w2 ⟨rfl,hb2⟩;obtain ⟨y0,y1,y2⟩:=HX.out _ hb2)
     |(go_at_call 28;refine (HGS.out _ hb2).mono ?_;rintro e w3 ⟨rfl,hb3⟩;have h03:=step hb2 hb3;obtain ⟨v0,v1,v2⟩:=HX.out _ h03)
     |(go_at_call 25;refine (HPV.out _ h03).mono ?_;rintro e w4 ⟨rfl,hb4⟩;rw [hv];have h04:=step h03 hb4;obtain ⟨u0,u1,u2⟩:=HX.out _ h04)
     |(go_at_call 22;refine (HSF.out _ h04).mono ?_;rintro e w5 ⟨A5,m5,c5,rfl,hm5,ho5,hb5⟩;obtain rfl:=hm5 (by trivial);clear hm5;have h05:=step h04 hb5))
    have hm5l:m5<=1099511627776:=(by omega);have HRF:=Lib.hid (fun w' (hb:Below w5.heap.size w5 w')=>ho5.rd.below hb);have H05:=Lib.hid h05;clear ho5 hb2 hb3 hb4 hb5 h03 h04 h05 y0 y1 y2 v0 v1 v2 u0 u1 u2 hv
    go_loopw [7,8,9] (fun i _ _ wr=>∃ M:Nat,1<=M/\M<=5/\i=.int .i64 M/\Below w5.heap.size w5 wr) (fun i _ _ _=>5-(intOf i).toNat)
    case atStart=>exact ⟨1,by omega,by omega,rfl,Below.refl _ _⟩
    case round=>
     obtain ⟨M,m1,m5',rfl,hb⟩:=hrel;have h0:=step H05.out hb;obtain ⟨x0,x1,x2⟩:=HX.out _ h0
     by_cases hlt:M<=4
     ·have hltI:(M:Int)<=4:=(by omega);obtain ⟨Y,hY⟩:∃ Y,Y=naL t gi rs X (M:Nat):=⟨_,rfl⟩;have hYv:=HYv.out M m1 hlt;have hsm:=HSame.out M m1 hlt
      have hNA:=fun (A9:Option Addr) (c9 n9 B9:Nat) (w':World) (hb:Below W.heap.size W w') (hr:Rd w' B9 A9 n9 X) (hB:B9<=w'.heap.size) (h9:n9<=1099511627776)=>HI.out A9 c9 n9 B9 X (M:Nat) w' hb hr hB hX64 h9
      rw [<- hY] at hYv hsm hNA;have hNA:=Lib.hid hNA;have hY64:=b64_mvd hYv;have hY16:Y.length<=1099511627776:=(by have:=(mvd_at hYv).2.2.1;omega);have hG16:(mgL Y t).length<=1099511627776:=(by simp only [mgL,hYv,if_true,mapTo_length];omega);have Hsm:=Lib.hid hsm;have hd:Below W.heap.size W wr.drew:=h0.drew;have Hb:=Lib.hid hb;clear hY hYv hsm hb h0
      go_wp2
      go_region_with (first
       |(go_at_call 30;refine (HI0.out _ hd).mono ?_;rintro e w6 ⟨Ax,cx,rfl,hox,hb6⟩;have h06:=step hd hb6;obtain ⟨y0,y1,y2⟩:=HX.out _ h06)
       |(go_at_call 29;refine (hNA.out _ _ _ _ _ h06 hox.rd (Nat.le_refl _) hX17).mono ?_;rintro e w7 ⟨A7,n7,c7,rfl,ho7,hb7⟩))
      all_goals
       obtain rfl:=ho7.len;have h07:=step h06 hb7;have hx7:Below w5.heap.size w5 w7:=step (Hb.out.drew) (step hb6 hb7);obtain ⟨u0,u1,u2⟩:=HX.out _ h07
       by_cases hle:gp<=(M:Int)
       ·have Hs2:=Lib.hid (show same (mgL Y t) FL=true by rw [Hsm.out];exact decide_eq_true hle)
        go_wp2_with (first
         |(go_at_call 31;refine (HMG.out _ _ _ _ _ _ h07 hY64 ho7.rd (Nat.le_refl _) hY16).mono ?_;rintro e w8 ⟨A8,c8,rfl,ho8,hb8⟩;have hx8:=step hx7 hb8)
         |(go_at_call 24;refine (sameInts_any _ _ _ _ _ _ _ _ _ FL _ ho8.rd (HRF.out _ hx8) hG16).mono ?_;rintro e w9 ⟨rfl,hb9⟩;rw [Hs2.out]))
        go_roundw
        case rel=>exact ⟨M+1,by omega,by omega,by go_num,step hx8 hb9⟩
        case measure=>simp [intOf];omega
       ·have Hs2:=Lib.hid (show same (mgL Y t) FL=false by rw [Hsm.out];exact decide_eq_false hle)
        go_wp2_with (first
         |(go_at_call 31;refine (HMG.out _ _ _ _ _ _ h07 hY64 ho7.rd (Nat.le_refl _) hY16).mono ?_;rintro e w8 ⟨A8,c8,rfl,ho8,hb8⟩;have hx8:=step hx7 hb8)
         |(go_at_call 24;refine (sameInts_any _ _ _ _ _ _ _ _ _ FL _ ho8.rd (HRF.out _ hx8) hG16).mono ?_;rintro e w9 ⟨rfl,hb9⟩;rw [Hs2.out]))
        go_roundw
        case rel=>exact ⟨M+1,by omega,by omega,by go_num,step hx8 hb9⟩
        case measure=>simp [intOf];omega
     ·obtain rfl:M=5:=by omega
      go_wp2_with (go_at_call 16;refine (HCS.out _ h0).mono ?_;rintro e w9 ⟨rfl,hb9⟩;rw [HC.out])
      go_ret
      exact ⟨by trivial,HB.out _ (step h0 hb9)⟩
   ·have eg:gp=0:=(by rw [hgp];unfold gpI;rw [if_pos hv,<-hq,if_neg h1]);subst eg;have hq1:((q:Int) != 1)=true:=(by rw [bne_iff_ne];omega);clear hbb hFL hX hgp hq h1 hok hnn hnn2 hs
    go_wp2_with fail
    rw [HW.out]
    go_wp2_with (first
     |(go_at_call 27;refine (HGI.out _ (Below.refl _ _)).mono ?_;rintro e w2 ⟨rfl,hb2⟩;obtain ⟨y0,y1,y2⟩:=HX.out _ hb2)
     |(go_at_call 28;refine (HGS.out _ hb2).mono ?_;rintro e w3 ⟨rfl,hb3⟩;have h03:=step hb2 hb3;obtain ⟨v0,v1,v2⟩:=HX.out _ h03)
     |(go_at_call 25;refine (HPV.out _ h03).mono ?_;rintro e w4 ⟨rfl,hb4⟩;rw [hv];have h04:=step h03 hb4;obtain ⟨u0,u1,u2⟩:=HX.out _ h04)
     |(go_at_call 16;refine (HCS.out _ h04).mono ?_;rintro e w5 ⟨rfl,hb5⟩;rw [HC.out];have h05:=step h04 hb5))
    go_ret
    exact ⟨rfl,HB.out _ h05⟩
 ·go_enter Tryz.func5,Tryz.ntmps5
  go_wp2
  go_ret
  exact ⟨rfl,Below.refl _ _⟩
end Go.Proofs.YtkeoflnmbcdmfaaGreatDoor
