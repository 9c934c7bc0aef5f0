import Derived.Test.YtcjdjcpappfkgaaGreatDoorJYI6C
set_option maxRecDepth 8000
namespace Go.Proofs.YtcjdjcpappfkgaaGreatDoor
open Go.ChangeShapes Go.WideShapes Go.ChangeAt Go.RowKit
set_option maxHeartbeats 8000000 in
theorem narrowAll_walk (A:Option Addr) (c n:Nat) (bs:List Int) (w:World) (h:Code_ w A n c bs) (hT:Tz w):
 Calls Tryz.prog 7 #[.slice A n c] w fun e w'=>e=.returned (.bool true)/\Below w.heap.size w w':=by
 by_cases hn:n<=1048576
 ·go_enter Tryz.func7,Tryz.ntmps7
  go_wp2_with fail
  refine (draw_DrawNarrowAll _ _ _ _ _ h).mono ?_;rintro e w1 ⟨s,A1,n1,c1,gi,A2,nr,c2,rs,A3,k,c3,m,most,rfl,s2,s4,hrd,hn16,hR,hl,hnr,ho,hk,hsm,t0,t5,hb1⟩;have hx0:=pbox_new w1 s A1 n1 c1 A2 nr c2 26;have hbA:Below w1.heap.size w1 (w1.alloc (.cells #[.int .i64 s,.slice A1 n1 c1,.slice A2 nr c2] 26)):=(Below.refl _ _).alloc (Nat.le_refl _) _;have hpc0:PGc w1 s A1 n1 c1 w1.heap.size gi A2 nr c2 w1.heap.size rs:=⟨hrd,Nat.le_refl _,by omega,hR.rdc hl,Nat.le_refl _,by omega⟩;have hpcA:=hpc0.below hbA
  have hsA:w1.heap.size<(w1.alloc (.cells #[.int .i64 s,.slice A1 n1 c1,.slice A2 nr c2] 26)).heap.size:=by simp
  have hm64:=smallM_b64 hsm.out ho.len;obtain ⟨W,hW⟩:∃ W,w1.alloc (.cells #[.int .i64 s,.slice A1 n1 c1,.slice A2 nr c2] 26)=W:=⟨_,rfl⟩;rw [hW] at hx0 hbA hpcA hsA;have hmW:=ho.rd.below hbA;have hb0W:Below w.heap.size w W:=step hb1 hbA
  have hsb: -9223372036854775808<=s/\s<=9223372036854775807:=by omega
  have HX:=Lib.hid (fun w' (hb:Below W.heap.size W w')=>hx0.below (by omega:w1.heap.size<W.heap.size) hb);have HPc:=Lib.hid (fun w' (hb:Below W.heap.size W w')=>hpcA.below hb);have HTz:=Lib.hid (fun w' (hb:Below W.heap.size W w')=>hT.below hT.lt (step hb0W hb));have HB:=Lib.hid (fun w' (hb:Below W.heap.size W w')=>step hb0W hb);have HM:=Lib.hid (fun w' (hb:Below W.heap.size W w')=>(⟨hmW.below (hb.mono (Nat.le_of_lt hsA)),Nat.le_trans (Nat.le_of_lt hsA) hb.size⟩:Rd w' w1.heap.size A3 k m/\w1.heap.size<=w'.heap.size));obtain ⟨X,hX⟩:∃ X,X=naL s gi rs m most:=⟨_,rfl⟩
  obtain ⟨R,hRR⟩:∃ R,R=naR s gi rs m most:=⟨_,rfl⟩;have hgl:=hrd.1;have hml:=ho.len
  have hX17:X.length<=17:=by rw [hX];have:=naL_len (s:=s) (gi:=gi) (rs:=rs) (m:=m) (most:=most);omega
  have HI:=Lib.hid (fun (A9:Option Addr) (c9 n9 B9:Nat) (o:List Int) (w':World) (hb:Below W.heap.size W w') (hr:Rd w' B9 A9 n9 o) (hB:B9<=w'.heap.size) (h64:B64 o) (h9:n9<=1099511627776)=>implNarrowAll _ _ _ _ _ _ _ _ _ _ _ A9 c9 n9 B9 o most w' (hpcA.below hb) hr hB h64 h9 (hT.below hT.lt (step hb0W hb)) hsb);have HI0:=HI.out A3 c3 k w1.heap.size m W (Below.refl _ _) hmW (Nat.le_of_lt hsA) hm64 (by omega);rw [<- hX,<-hRR] at HI0;have HI0:=Lib.hid HI0
  have HS:=Lib.hid (fun w' (hb:Below W.heap.size W w')=>by
   have:=specNarrowAllX _ _ _ _ _ _ _ _ _ _ _ _ c3 _ _ _ most _ (hpcA.below hb).rd (HM.out _ hb).1 (HM.out _ hb).2 (by omega) hsb;rw [<- hX,<-hRR] at this
   exact this)
  have HBy:=Lib.hid (fun (A9:Option Addr) (c9 n9 B9:Nat) (o:List Int) (t:Int) (w':World) (hb:Below W.heap.size W w') (hr:Rd w' B9 A9 n9 o) (hB:B9<=w'.heap.size) (h64:B64 o) (h9:n9<=1099511627776)=>implNarrowBy _ _ _ _ _ _ _ _ _ _ _ A9 c9 n9 B9 o t w' (hpcA.below hb) hr hB h64 h9 (hT.below hT.lt (step hb0W hb)) hsb);have HW:=Lib.hid hW;obtain ⟨z0,z1,z2⟩:=id hx0;clear hW hpc0 hpcA hbA hx0 hR hrd hmW ho hsm
  have hsame:same X X=true:=by simp [same]
  have hne:(R != R)=false:=by simp
  cases hnv:nvB s gi rs m most
  ·obtain ⟨e1,e2⟩:=na_bad hnv;rw [<- hX] at e1;rw [<- hRR] at e2;subst e1;subst e2;clear hX hRR
   go_wp2_with (first
    |(go_at_call 34;rw [HW.out];refine HI0.out.mono ?_;rintro e w2 ⟨Ax,nx,cx,rfl,hox,hb2⟩;obtain rfl:=hox.len;obtain ⟨y0,y1,y2⟩:=HX.out _ hb2)
    |(go_at_call 35;refine (HS.out _ hb2).mono ?_;rintro e w3 ⟨Ay,ny,cy,rfl,hoy,hb3⟩;obtain rfl:=hoy.len;have h23:=step hb2 hb3;have hox3:=hox.rd.below hb3)
    |(go_at_call 20;refine (sameInts_any _ _ _ _ _ _ _ _ [] [] _ hox3 hoy.rd (by simp)).mono ?_;rintro e w4 ⟨rfl,hb4⟩;rw [hsame];have h24:=step h23 hb4)
    |(go_at_call 14;(with_reducible refine (alive_any _).mono ?_);rintro e w6 ⟨rfl,hb6⟩))
   go_ret
   exact ⟨by trivial,HB.out _ (step h24 hb6)⟩
  ·obtain ⟨⟨t1,t4⟩,hv,hmv,S,rfl,hS⟩:=nv_ok hnv;obtain ⟨M,rfl⟩:=Int.eq_ofNat_of_zero_le t0
   have hcond:(pvB S gi rs&&mvd m S&&inr (M:Nat) 1 4)=true:=by
    unfold nvB at hnv;rw [Bool.and_comm,<-Bool.and_assoc];exact hnv
   have eX:X=(naE S gi rs M m 0).1:=(by rw [hX];unfold naL;rw [if_pos hcond,Int.toNat_natCast]);have eR:R=((naE S gi rs M m 0).2:Nat):=(by rw [hRR];unfold naR;rw [if_pos hcond,Int.toNat_natCast]);obtain ⟨r,hr⟩:∃ r:Nat,r=(naE S gi rs M m 0).2:=⟨_,rfl⟩;rw [<- hr] at eR;subst eR;obtain ⟨hwi,hXv,hXl⟩:=na_wi (r:=0) (rs:=rs) (gi:=gi) hv (show M<=4 by omega) hmv;obtain ⟨hend,hag⟩:=na_end (rs:=rs) (gi:=gi) hv (show M<=4 by omega) hmv;have hrle:=naR_le (rs:=rs) (gi:=gi) hv (show M<=4 by omega) hmv;rw [<- eX] at hwi hXv hXl hend hag;rw [<- hr] at hrle
   rw [hml] at hXl;have hX64:=b64_mvd hXv;have HEnd:=Lib.hid hend
   have HAg:=Lib.hid (show naR S gi rs X (M:Nat)=0 by
    unfold naR
    rw [show (pvB S gi rs&&mvd X S&&inr (M:Nat) 1 4)=true by
      simp only [Bool.and_eq_true] at hcond ⊢
      exact ⟨⟨hcond.1.1,hXv⟩,hcond.2⟩,if_pos rfl,Int.toNat_natCast,hag];rfl)
   have HWi:Hid (Wi X m):=Lib.hid hwi
   have hnn:n1=S*S:=by
    obtain ⟨t',ht',_,hnn,_,_⟩:=pv_grid hv hgl;have:t'=S:=(by omega);subst this
    simp at hS
    rcases hS with rfl|rfl|rfl<;>omega
   obtain ⟨FL,hFL⟩:∃ FL,FL=sfL S n1 gi rs:=⟨_,rfl⟩;obtain ⟨bb,hbb⟩:∃ bb,bb=sfB S n1 gi rs:=⟨_,rfl⟩
   have HKp:=Lib.hid (fun (e:bb=true) (e2:mhB m S FL=true)=>show mhB X S FL=true from by
    rw [eX];exact na_keeps (by omega) hmv (by rw [hFL];exact sf_psM hgl hv hnn (by rw [<- hbb];exact e)) e2)
   have HSF:=Lib.hid (fun w' (hb:Below W.heap.size W w')=>by
    have:=implSolveFirst _ _ _ _ _ _ _ _ _ _ _ _ (HPc.out _ hb) (HTz.out _ hb);rw [<- hFL,<-hbb] at this
    exact this)
   obtain ⟨qq,hqq⟩:∃ qq,qq=mhB m S FL:=⟨_,rfl⟩
   have HMH:=Lib.hid (fun w' (hb:Below W.heap.size W w') (Ag:Option Addr) (cg ng Bg:Nat) (hg:Rd w' Bg Ag ng FL) (hB:Bg<=w'.heap.size) (hm:ng<=1099511627776)=>by
    have:=implMasksHave A3 c3 k w1.heap.size m S Ag cg ng Bg FL w' (HM.out _ hb).1 hm64 (HM.out _ hb).2 (by omega) hg hB hm hsb;rw [<- hqq] at this
    exact this)
   have HMC:=Lib.hid (fun w' (hb:Below W.heap.size W w')=>by
    have:=implMasksCount A3 c3 k w1.heap.size m S w' (HM.out _ hb).1 hm64 (HM.out _ hb).2 (by omega) hsb;rw [show mcI m S=(mcTo m m.length:Nat) by unfold mcI;rw [if_pos hmv]] at this
    exact this)
   have Hqq:=Lib.hid hqq;have hr9:¬ ((r:Nat):Int)<0:=(by omega);have hrleI:((r:Nat):Int)<=((mcTo m m.length:Nat):Int):=(by omega);obtain ⟨mc,hmc⟩:∃ mc:Nat,mc=mcTo m m.length:=⟨_,rfl⟩;rw [<- hmc] at HMC hrleI;obtain rfl:=hXl;have hk17:=hX17;clear hmc hqq hFL hbb hX hRR eX hr hwi hXv hend hag hrle hcond hnv hv hmv hnn hS
   go_wp2_with (first
    |(go_at_call 34;rw [HW.out];refine HI0.out.mono ?_;rintro e w2 ⟨Ax,nx,cx,rfl,hox,hb2⟩;obtain rfl:=hox.len;obtain ⟨y0,y1,y2⟩:=HX.out _ hb2)
    |(go_at_call 35;refine (HS.out _ hb2).mono ?_;rintro e w3 ⟨Ay,ny,cy,rfl,hoy,hb3⟩;obtain rfl:=hoy.len;have h23:=step hb2 hb3;have hox3:=hox.rd.below hb3)
    |(go_at_call 20;refine (sameInts_any _ _ _ _ _ _ _ _ X X _ hox3 hoy.rd (by omega)).mono ?_;rintro e w4 ⟨rfl,hb4⟩;rw [hsame];have h24:=step h23 hb4))
   have hox4:=hox3.below (hb4.mono hb3.size);have hB24:w2.heap.size<=w4.heap.size:=Nat.le_trans hb3.size hb4.size;have HXr:=Lib.hid (fun w' (hb:Below w4.heap.size w4 w')=>(⟨hox4.below (hb.mono hB24),Nat.le_trans hB24 hb.size⟩:Rd w' w2.heap.size Ax X.length X/\w2.heap.size<=w'.heap.size));have H24:=Lib.hid h24;clear hox3 hox4 hox hoy z0 z1 z2 y0 y1 y2 hb2 hb3 hb4 h23 h24
   go_loopw [10] (fun i wr=>∃ v:Nat,1<=v/\v<=M+1/\i=.int .i64 v/\Below w4.heap.size w4 wr) (fun i _=>M+1-(intOf i).toNat)
   case atStart=>exact ⟨1,by omega,by omega,rfl,Below.refl _ _⟩
   case round=>
    obtain ⟨v,v1,v5,rfl,hb⟩:=hrel;obtain ⟨x0,x1,x2⟩:=HX.out _ (step H24.out hb)
    by_cases hlt:v<=M
    ·have hltI:(v:Int)<=(M:Int):=(by omega);have HC:=HBy.out Ax cx X.length w2.heap.size X v wr (step H24.out hb) (HXr.out _ hb).1 (HXr.out _ hb).2 hX64 (by omega);rw [HEnd.out v v1 hlt] at HC;have HC:=Lib.hid HC;have Hb:=Lib.hid hb;clear hb
     go_wp2_with (first
      |(go_at_call 36;refine HC.out.mono ?_;rintro e w5 ⟨A5,c5,rfl,ho5,hb5⟩;have h45:=step Hb.out hb5)
      |(go_at_call 20;refine (sameInts_any _ _ _ _ _ _ _ _ X X _ ho5.rd (HXr.out _ h45).1 (by omega)).mono ?_;rintro e w6 ⟨rfl,hb6⟩;rw [hsame]))
     go_roundw
     case rel=>exact ⟨v+1,by omega,by omega,by go_num,step h45 hb6⟩
     case measure=>simp [intOf];omega
    ·obtain rfl:v=M+1:=by omega
     have hltI:¬ ((M+1:Nat):Int)<=(M:Int):=(by omega);have HC:=HI.out Ax cx X.length w2.heap.size X wr (step H24.out hb) (HXr.out _ hb).1 (HXr.out _ hb).2 hX64 (by omega);rw [HAg.out] at HC;have HC:=Lib.hid HC
     go_wp2_with (first
      |(go_at_call 34;refine HC.out.mono ?_;rintro e w5 ⟨A5,n5,c5,rfl,_,hb5⟩;have h45:=step hb hb5;obtain ⟨u0,u1,u2⟩:=HX.out _ (step H24.out h45))
      |(go_at_call 18;refine (HSF.out _ (step H24.out h45)).mono ?_;rintro e w6 ⟨A6,m6,c6,rfl,hm6,ho6,hb6⟩;have h46:=step h45 hb6))
     have H26:=Lib.hid (step H24.out h46);have H46:=Lib.hid h46;have HFr:=Lib.hid (fun w' (hb:Below w6.heap.size w6 w')=>ho6.rd.below hb);have HWn:=Lib.hid (fun w' (hb:Below w6.heap.size w6 w')=>within_any Ax A3 cx c3 X.length X.length _ _ X m w' (HXr.out _ (step H46.out hb)).1 (HM.out _ (step H26.out hb)).1 rfl HWi (by omega));obtain ⟨x0,x1,x2⟩:=HX.out _ H26.out;clear hb h45 h46 hb5 hb6 u0 u1 u2 v1 v5 hltI hlt;cases bb
     ·go_wp2_with (first
       |(go_at_call 31;refine (HWn.out _ (Below.refl _ _)).mono ?_;rintro e w7 ⟨rfl,hb7⟩;obtain ⟨x0',x1',x2'⟩:=HX.out _ (step H26.out hb7))
       |(go_at_call 37;refine (HMC.out _ (step H26.out hb7)).mono ?_;rintro e w8 ⟨rfl,hb8⟩))
      go_ret
      exact ⟨by trivial,HB.out _ (step H26.out (step hb7 hb8))⟩
     ·obtain rfl:=hm6 (by trivial);clear hm6;have HH1:=Lib.hid (fun w' (hb:Below w6.heap.size w6 w')=>HMH.out w' (step H26.out hb) _ c6 _ _ (HFr.out _ hb) hb.size (by omega));have HH2:=Lib.hid (fun w' (hb:Below w6.heap.size w6 w')=>implMasksHave Ax cx X.length w2.heap.size X S _ c6 _ _ FL w' (HXr.out _ (step H46.out hb)).1 hX64 (HXr.out _ (step H46.out hb)).2 (by omega) (HFr.out _ hb) hb.size (by omega) hsb);cases qq
      ·go_wp2_with (first
        |(go_at_call 31;refine (HWn.out _ (Below.refl _ _)).mono ?_;rintro e w7 ⟨rfl,hb7⟩;obtain ⟨x0',x1',x2'⟩:=HX.out _ (step H26.out hb7))
        |(go_at_call 32;(with_reducible refine (HH1.out _ hb7).mono ?_);rintro e w8 ⟨rfl,hb8⟩;have h78:=step hb7 hb8;obtain ⟨p0,p1,p2⟩:=HX.out _ (step H26.out h78))
        |(go_at_call 37;refine (HMC.out _ (step H26.out h78)).mono ?_;rintro e w9 ⟨rfl,hb9⟩))
       go_ret
       exact ⟨by trivial,HB.out _ (step H26.out (step h78 hb9))⟩
      ·have hkp:=HKp.out (by trivial) Hqq.out.symm;rw [hkp] at HH2
       go_wp2_with (first
        |(go_at_call 31;refine (HWn.out _ (Below.refl _ _)).mono ?_;rintro e w7 ⟨rfl,hb7⟩;obtain ⟨x0',x1',x2'⟩:=HX.out _ (step H26.out hb7))
        |(go_at_call 32;(with_reducible refine (HH2.out _ h78).mono ?_);rintro e w9 ⟨rfl,hb9⟩;have h79:=step h78 hb9;obtain ⟨r0,r1,r2⟩:=HX.out _ (step H26.out h79))
        |(go_at_call 32;(with_reducible refine (HH1.out _ hb7).mono ?_);rintro e w8 ⟨rfl,hb8⟩;have h78:=step hb7 hb8;obtain ⟨p0,p1,p2⟩:=HX.out _ (step H26.out h78))
        |(go_at_call 37;refine (HMC.out _ (step H26.out h79)).mono ?_;rintro e w10 ⟨rfl,hb10⟩))
       go_ret
       exact ⟨by trivial,HB.out _ (step H26.out (step h79 hb10))⟩
 ·go_enter Tryz.func7,Tryz.ntmps7
  go_wp2
  go_ret
  exact ⟨rfl,Below.refl _ _⟩
end Go.Proofs.YtcjdjcpappfkgaaGreatDoor
