import Derived.Test.YtkeoflnmbcdmfaaGreatDoorMFs
import Derived.Test.YtkeoflnmbcdmfaaGreatDoorMTenB
import Derived.Test.YtkeoflnmbcdmfaaGreatDoorMLE
import Derived.Deep.RegionWith
set_option maxRecDepth 8000
namespace Go.Proofs.YtkeoflnmbcdmfaaGreatDoor
open Go.ChangeShapes Go.WideShapes Go.ChangeAt Go.RowKit
theorem sf_none' {s:Int} {n:Nat} {gi:List Int} {rs:List RuleM} (h:sfB s n gi rs=false):sfL s n gi rs=[]:=by
 unfold sfB at h;unfold sfL
 cases hL:allS s 1 n gi rs with
 |nil=>rfl
 |cons y L=>rw [hL] at h;simp at h
theorem filt_head {p:List Int->Bool}:∀ (L:List (List Int)) (k:Nat),k<L.length->(∀ j,j<k->p (L.getD j [])=false)->p (L.getD k [])=true->∃ zs,L.filter p=L.getD k []::zs:=by
 intro L
 induction L with
 |nil=>intro k h;simp at h
 |cons a L ih=>
  intro k hk h0 h1
  cases k with
  |zero=>
   have:p a=true:=(by simpa using h1);exact ⟨L.filter p,by rw [List.filter_cons_of_pos this];rfl⟩
  |succ k=>
   have ha:p a=false:=(by simpa using h0 0 (by omega));obtain ⟨zs,e⟩:=ih k (by simpa using hk) (fun j hj=>by simpa using h0 (j+1) (by omega)) (by simpa using h1);exact ⟨zs,by rw [List.filter_cons_of_neg (by rw [ha];simp),e];simp⟩
theorem cv_sq {s:Nat} {gi:List Int} {rs:List RuleM} {n:Nat} (hl:gi.length=n) (hv:pvB s gi rs=true) (hn:n=s*s):cv s gi rs (s*s) []=(sqL s).filter (psB s gi rs):=by
 rw [<- solL_is hv,<-hn,<-hl];exact cv_is hv
theorem first_sol {s:Nat} {gi:List Int} {rs:List RuleM} {n k:Nat} (hs:s∈[2,3,4]) (hl:gi.length=n) (hv:pvB s gi rs=true) (hn:n=s*s) (hk:(k:Int)<sqCnt s) (h0:∀ j:Nat,j<k->psB s gi rs (sqn s j)=false) (h1:psB s gi rs (sqn s k)=true):sfL s n gi rs=sqn s k/\sfB s n gi rs=true:=by
 have hln:=sqL_len hs;obtain ⟨zs,e⟩:=filt_head (p:=psB s gi rs) (sqL s) k (by omega) (fun j hj=>by rw [<- sqn_sqL hs];exact h0 j hj) (by rw [<- sqn_sqL hs];exact h1);rw [<- cv_sq hl hv hn,<-sqn_sqL hs] at e;exact sf_cons hl hv hn e
theorem sf_ps {s:Nat} {gi:List Int} {rs:List RuleM} {n:Nat} (hl:gi.length=n) (hv:pvB s gi rs=true) (hn:n=s*s) (h:sfB s n gi rs=true):psB s gi rs (sfL s n gi rs)=true:=by
 cases e:cv s gi rs (s*s) [] with
 |nil=>rw [(sf_nil hl hv hn e).2] at h;cases h
 |cons y zs=>
  rw [(sf_cons hl hv hn e).1]
  have:y∈(sqL s).filter (psB s gi rs):=by rw [<- cv_sq hl hv hn,e];exact List.mem_cons_self ..
  exact (List.mem_filter.1 this).2
theorem cs_one {s:Nat} {gi:List Int} {rs:List RuleM} {n:Nat} (hv:pvB s gi rs=true):(csI s n gi rs 1==1)=sfB s n gi rs:=by
 unfold csI sfB;rw [hv]
 have h1:inr (1:Int) 1 600=true:=by decide
 rw [h1];simp only [Bool.and_self,if_true];have h2:=allS_len s 1 n gi rs (by omega);rw [show (1:Int).toNat=1 from rfl]
 cases e:allS s 1 n gi rs with
 |nil=>simp
 |cons y L=>
  rw [e] at h2
  have:L=[]:=by cases L with
   |nil=>rfl
   |cons a b=>simp at h2
  subst this
  simp
set_option maxHeartbeats 4000000 in
theorem solveFirst_walk (A:Option Addr) (c n:Nat) (bs:List Int) (w:World) (h:Code_ w A n c bs) (hT:Tz w):
 Calls Tryz.prog 4 #[.slice A n c] w fun e w'=>e=.returned (.bool true)/\Below w.heap.size w w':=by
 by_cases hn:n<=1048576
 ·go_enter Tryz.func4,Tryz.ntmps4
  go_wp2_with fail
  refine (draw_DrawSolveFirst _ _ _ _ _ h).mono ?_;rintro e w1 ⟨s,A1,n1,c1,gi,A2,nr,c2,rs,rfl,s2,s4,hrd,hn16,hR,hl,hnr,hb1⟩;have hx0:=pbox_new w1 s A1 n1 c1 A2 nr c2 26;have hbA:Below w1.heap.size w1 (w1.alloc (.cells #[.int .i64 s,.slice A1 n1 c1,.slice A2 nr c2] 26)):=(Below.refl _ _).alloc (Nat.le_refl _) _;have hpc0:PGc w1 s A1 n1 c1 w1.heap.size gi A2 nr c2 w1.heap.size rs:=⟨hrd,Nat.le_refl _,by omega,hR.rdc hl,Nat.le_refl _,by omega⟩;have hpcA:=hpc0.below hbA
  have hsA:(w1.alloc (.cells #[.int .i64 s,.slice A1 n1 c1,.slice A2 nr c2] 26)).heap.size=w1.heap.size+1:=by simp
  obtain ⟨W,hW⟩:∃ W,w1.alloc (.cells #[.int .i64 s,.slice A1 n1 c1,.slice A2 nr c2] 26)=W:=⟨_,rfl⟩;rw [hW] at hx0 hbA hpcA hsA;have hb0W:Below w.heap.size w W:=step hb1 hbA;have HX:=Lib.hid (fun w' (hb:Below W.heap.size W w')=>hx0.below (by omega:w1.heap.size<W.heap.size) hb);have HPc:=Lib.hid (fun w' (hb:Below W.heap.size W w')=>hpcA.below hb);have HTz:=Lib.hid (fun w' (hb:Below W.heap.size W w')=>hT.below hT.lt (step hb0W hb));have HB:=Lib.hid (fun w' (hb:Below W.heap.size W w')=>step hb0W hb);obtain ⟨FL,hFL⟩:∃ FL,FL=sfL s n1 gi rs:=⟨_,rfl⟩
  obtain ⟨bb,hbb⟩:∃ bb,bb=sfB s n1 gi rs:=⟨_,rfl⟩
  have hFl:(bb=true->FL.length=n1)->FL.length<=16:=fun h=>by
   cases hb:bb
   ·rw [hFL,sf_none' (by rw [<- hbb];exact hb)];simp
   ·rw [h hb];exact hn16
  have hgl:=hrd.1;have HI0:=implSolveFirst _ _ _ _ _ _ _ _ _ _ _ _ hpcA (HTz.out _ (Below.refl _ _));rw [<- hFL,<-hbb] at HI0;have HI0:=Lib.hid HI0
  have HS:=Lib.hid (fun w' (hb:Below W.heap.size W w')=>by
   have:=specSolveFirst _ _ _ _ _ _ _ _ _ _ _ _ (hpcA.below hb).rd;rw [<- hFL,<-hbb] at this
   exact this)
  have HPV:=Lib.hid (fun w' (hb:Below W.heap.size W w')=>specPuzzleValid s A1 n1 c1 w1.heap.size gi A2 nr c2 w1.heap.size rs w' (hpcA.below hb).rd.g (hpcA.below hb).rd.gB (hpcA.below hb).rd.gm (hpcA.below hb).rd.r (hpcA.below hb).rd.rB (hpcA.below hb).rd.rm);have HFL:=Lib.hid hFL;have Hbb:=Lib.hid hbb;have HW:=Lib.hid hW;obtain ⟨z0,z1,z2⟩:=id hx0
  have hne:(bb != bb)=false:=by simp
  have hsame:=same_refl FL;clear hW hFL hbb hpc0 hpcA hbA hx0 hR hrd
  have hsame:same FL FL=true:=by simp [same]
  cases hv:pvB s gi rs
  ·have hb0:bb=false:=by rw [Hbb.out];unfold sfB;rw [allS_none hv];rfl
   have hF0:FL=[]:=(by rw [HFL.out];exact sf_none' (by rw [<- Hbb.out];exact hb0));subst hb0;have hz:((FL.length:Int)==0)=true:=(by rw [hF0];rfl);clear hF0
   go_wp2_with (first
    |(go_at_call 22;rw [HW.out];refine HI0.out.mono ?_;rintro e w2 ⟨Ax,mx,cx,rfl,hmx,hox,hb2⟩;(obtain rfl:mx=FL.length:=hox.len.symm);obtain ⟨y0,y1,y2⟩:=HX.out _ hb2)
    |(go_at_call 23;refine (HS.out _ hb2).mono ?_;rintro e w3 ⟨Ay,my,cy,rfl,hmy,hoy,hb3⟩;(obtain rfl:my=FL.length:=hoy.len.symm);have h23:=step hb2 hb3;have hox3:=hox.rd.below hb3;have hB3:=hb3.size;have hlen:=hFl hmx)
    |(go_at_call 24;refine (sameInts_any _ _ _ _ _ _ _ _ FL FL _ hox3 hoy.rd (by omega)).mono ?_;rintro e w4 ⟨rfl,hb4⟩;rw [hsame];have h24:=step h23 hb4;obtain ⟨v0,v1,v2⟩:=HX.out _ h24)
    |(go_at_call 25;refine (HPV.out _ h24).mono ?_;rintro e w5 ⟨rfl,hb5⟩;rw [hv];have h25:=step h24 hb5;have hx5:=(hox3.below (hb4.mono hB3)).below (hb5.mono (Nat.le_trans hB3 hb4.size)))
    |(go_at_call 18;(with_reducible refine (alive_any _).mono ?_);rintro e w6 ⟨rfl,hb6⟩))
   go_ret
   exact ⟨rfl,HB.out _ (step h25 hb6)⟩
  ·obtain ⟨t,rfl,hs,hnn,_,hok⟩:=pv_grid hv hgl;have hnn2:n1=t*t:=(by simp at hs;rcases hs with rfl|rfl|rfl<;>omega);have hn0:0<n1:=(by simp at hs;rcases hs with rfl|rfl|rfl<;>omega);have HNn:=Lib.hid hnn2;have Hs:=Lib.hid hs;have Hgl:=Lib.hid hgl;have Hv:=Lib.hid hv;clear hok hnn hnn2 hs
   go_wp2_with (first
   |(go_at_call 22;rw [HW.out];refine HI0.out.mono ?_;rintro e w2 ⟨Ax,mx,cx,rfl,hmx,hox,hb2⟩;(obtain rfl:mx=FL.length:=hox.len.symm);obtain ⟨y0,y1,y2⟩:=HX.out _ hb2)
   |(go_at_call 23;refine (HS.out _ hb2).mono ?_;rintro e w3 ⟨Ay,my,cy,rfl,hmy,hoy,hb3⟩;(obtain rfl:my=FL.length:=hoy.len.symm);have h23:=step hb2 hb3;have hox3:=hox.rd.below hb3;have hB3:=hb3.size;have hlen:=hFl hmx)
   |(go_at_call 24;refine (sameInts_any _ _ _ _ _ _ _ _ FL FL _ hox3 hoy.rd (by omega)).mono ?_;rintro e w4 ⟨rfl,hb4⟩;rw [hsame];have h24:=step h23 hb4;obtain ⟨v0,v1,v2⟩:=HX.out _ h24)
   |(go_at_call 25;refine (HPV.out _ h24).mono ?_;rintro e w5 ⟨rfl,hb5⟩;rw [hv];have h25:=step h24 hb5;have hx5:=(hox3.below (hb4.mono hB3)).below (hb5.mono (Nat.le_trans hB3 hb4.size))))
   have hc1:=cs_one (n:=n1) Hv.out;rw [<- Hbb.out] at hc1;have Hps:=Lib.hid (fun (e:bb=true)=>show psB t gi rs FL=true from by rw [HFL.out];exact sf_ps Hgl.out Hv.out HNn.out (by rw [<- Hbb.out];exact e));have hB25:w2.heap.size<=w5.heap.size:=Nat.le_trans hB3 (Nat.le_trans hb4.size hb5.size);have HRx:=Lib.hid (fun w' (hb:Below w5.heap.size w5 w')=>hx5.below (hb.mono hB25));have HCS:=Lib.hid (fun w' (hb:Below w5.heap.size w5 w')=>implCountSolutions t A1 n1 c1 w1.heap.size gi A2 nr c2 w1.heap.size rs 1 w' (HPc.out _ (step h25 hb)) (HTz.out _ (step h25 hb)))
   have HPT:=Lib.hid (fun w' (hb:Below w5.heap.size w5 w') (g:List Int) (Ag:Option Addr) (cg Bg:Nat) (hg:Rd w' Bg Ag n1 g) (hB:Bg<=w'.heap.size)=>implPuzzleSolved t A1 n1 c1 w1.heap.size gi A2 nr c2 w1.heap.size rs Ag n1 cg Bg g w' (HPc.out _ (step h25 hb)) hg hB (by omega));have HPS:=Lib.hid (fun w' (hb:Below w5.heap.size w5 w') (g:List Int) (hg:Rd w' w2.heap.size Ax FL.length g)=>implPuzzleSolved t A1 n1 c1 w1.heap.size gi A2 nr c2 w1.heap.size rs Ax FL.length cx w2.heap.size g w' (HPc.out _ (step h25 hb)) hg (Nat.le_trans hB25 hb.size) (by omega));obtain ⟨q,hq⟩:∃ q,q=csI t n1 gi rs 1:=⟨_,rfl⟩
   rw [<- hq] at HCS hc1;clear hq hv hgl hx5 hox hox3 hoy hmx hmy h hb4 hb5 h24 h23 hb3;cases bb
   ·go_loopw [8] (fun i wr=>∃ k:Nat,k<=14/\i=.int .i64 k/\Below w5.heap.size w5 wr/\Hid (∀ j:Nat,j<k->psB t gi rs (sqn t j)=false)) (fun i _=>14-(intOf i).toNat)
    case atStart=>exact ⟨0,by omega,rfl,Below.refl _ _,Lib.hid (fun j hj=>absurd hj (by omega))⟩
    case round=>
     obtain ⟨k,hk14,rfl,hR,hpre⟩:=hrel;obtain ⟨p0,p1,p2⟩:=HX.out _ (step h25 hR)
     by_cases hlt:k<14
     ·have hltI:(k:Int)<14:=(by omega);have HN:=Lib.hid (implSquareNumber (t:Int) (k:Int) wr ⟨by omega,by omega⟩ ⟨by omega,by omega⟩)
      by_cases hc:(k:Int)<sqCnt t
      ·obtain ⟨hlk,_,_⟩:=sqn_some s2 s4 (by omega:(0:Int)<=k) hc;have hlk':(sqn (t:Int) k).length=n1:=(by rw [hlk,HNn.out,<-Int.natCast_mul];exact Int.toNat_natCast _);have hnz:((n1:Int)==0)=false:=(by simp only [beq_eq_false_iff_ne];omega);have Hlk:=Lib.hid hlk';have HFs:=Lib.hid (fun hp=>first_sol (s:=t) (n:=n1) Hs.out Hgl.out Hv.out HNn.out hc hpre.out hp);clear hlk hlk' hc
       have hpf:psB t gi rs (sqn (t:Int) k)=false:=by
        cases hp:psB t gi rs (sqn (t:Int) k)
        ·rfl
        ·have:=(HFs.out hp).2;rw [<- Hbb.out] at this;cases this
       obtain ⟨G,hG⟩:∃ G,G=sqn (t:Int) k:=⟨_,rfl⟩;rw [<- hG] at HN hpf Hlk;have HG:=Lib.hid hG;have Hpf:=Lib.hid hpf;clear hG HFs hpf
       go_wp2_with (first
        |(go_at_call 20;refine HN.out.mono ?_;rintro e w7 ⟨A7,c7,rfl,ho7,hb7⟩;rw [Hlk.out] at ho7 ⊢;have hR7:=hR.trans (hb7.mono hR.size);obtain ⟨q0,q1,q2⟩:=HX.out _ (step h25 hR7))
        |(go_at_call 19;refine (HPT.out _ hR7 G _ _ _ ho7.rd (Nat.le_refl _)).mono ?_;rintro e w9 ⟨rfl,hb9⟩;rw [Hpf.out];have hR9:=hR7.trans (hb9.mono hR7.size)))
       go_roundw
       case rel=>exact ⟨k+1,by omega,by go_num,hR9,Lib.hid (fun j hj=>by
        by_cases e:j=k
        ·subst e;rw [<- HG.out];exact Hpf.out
        ·exact hpre.out j (by omega))⟩
       case measure=>simp [intOf];omega
      ·have hnil:=sqn_none s2 s4 (Or.inr (by omega):(k:Int)<0\/sqCnt t<=k);rw [hnil] at HN;clear hc hnil
       go_wp2_with (first
        |(go_at_call 20;refine HN.out.mono ?_;rintro e w7 ⟨A7,c7,rfl,ho7,hb7⟩;have hR:=hR.trans (hb7.mono hR.size);obtain ⟨q0,q1,q2⟩:=HX.out _ (step h25 hR))
        |(go_at_call 16;refine (HCS.out _ hR).mono ?_;rintro e wa ⟨rfl,hba⟩;have hRa:=hR.trans (hba.mono hR.size)))
       go_ret
       exact ⟨rfl,HB.out _ (step h25 hRa)⟩
     ·obtain rfl:k=14:=by omega
      have hltI:¬ ((14:Nat):Int)<14:=(by omega)
      go_wp2_with (go_at_call 16;refine (HCS.out _ hR).mono ?_;rintro e wa ⟨rfl,hba⟩;have hRa:=hR.trans (hba.mono hR.size))
      go_ret
      exact ⟨rfl,HB.out _ (step h25 hRa)⟩
   ·have Hps:=Lib.hid (Hps.out rfl)
    go_loopw [8] (fun i wr=>∃ k:Nat,k<=14/\i=.int .i64 k/\Below w5.heap.size w5 wr/\Hid (∀ j:Nat,j<k->psB t gi rs (sqn t j)=false)) (fun i _=>14-(intOf i).toNat)
    case atStart=>exact ⟨0,by omega,rfl,Below.refl _ _,Lib.hid (fun j hj=>absurd hj (by omega))⟩
    case round=>
     obtain ⟨k,hk14,rfl,hR,hpre⟩:=hrel;obtain ⟨p0,p1,p2⟩:=HX.out _ (step h25 hR)
     by_cases hlt:k<14
     ·have hltI:(k:Int)<14:=(by omega);have HN:=Lib.hid (implSquareNumber (t:Int) (k:Int) wr ⟨by omega,by omega⟩ ⟨by omega,by omega⟩)
      by_cases hc:(k:Int)<sqCnt t
      ·obtain ⟨hlk,_,_⟩:=sqn_some s2 s4 (by omega:(0:Int)<=k) hc;have hlk':(sqn (t:Int) k).length=n1:=(by rw [hlk,HNn.out,<-Int.natCast_mul];exact Int.toNat_natCast _);have hnz:((n1:Int)==0)=false:=(by simp only [beq_eq_false_iff_ne];omega);have Hlk:=Lib.hid hlk';have HFs:=Lib.hid (fun hp=>first_sol (s:=t) (n:=n1) Hs.out Hgl.out Hv.out HNn.out hc hpre.out hp);clear hlk hlk' hc
       have hss:psB t gi rs (sqn (t:Int) k)=true->same (sqn (t:Int) k) FL=true:=fun hp=>by rw [HFL.out,(HFs.out hp).1];simp [same]
       obtain ⟨G,hG⟩:∃ G,G=sqn (t:Int) k:=⟨_,rfl⟩;rw [<- hG] at HN hss Hlk;have HG:=Lib.hid hG;clear hG HFs
       by_cases hsm:same G FL=true
       ·clear hss
        go_wp2_with (first
         |(go_at_call 20;refine HN.out.mono ?_;rintro e w7 ⟨A7,c7,rfl,ho7,hb7⟩;rw [Hlk.out] at ho7 ⊢;have hR7:=hR.trans (hb7.mono hR.size);obtain ⟨q0,q1,q2⟩:=HX.out _ (step h25 hR7))
         |(go_at_call 24;refine (sameInts_any _ _ _ _ _ _ _ _ G FL _ ho7.rd (HRx.out _ hR7) (by omega)).mono ?_;rintro e w8 ⟨rfl,hb8⟩;rw [hsm];have hR:=hR7.trans (hb8.mono hR7.size);obtain ⟨t0,t1,t2⟩:=HX.out _ (step h25 hR))
         |(go_at_call 16;refine (HCS.out _ hR).mono ?_;rintro e wa ⟨rfl,hba⟩;have hRa:=hR.trans (hba.mono hR.size);obtain ⟨p0,p1,p2⟩:=HX.out _ (step h25 hRa))
         |(go_at_call 19;refine (HPS.out _ hRa FL (HRx.out _ hRa)).mono ?_;rintro e wb ⟨rfl,hbb2⟩;rw [Hps.out]))
        go_ret
        exact ⟨rfl,HB.out _ (step (step h25 hRa) hbb2)⟩
        all_goals trivial
       ·have hsf:same G FL=false:=(by simpa using hsm)
        have hpf:psB t gi rs G=false:=by
         cases hp:psB t gi rs G
         ·rfl
         ·exact absurd (hss hp) hsm
        have Hpf:=Lib.hid hpf;clear hss hsm hpf
        go_wp2_with (first
         |(go_at_call 20;refine HN.out.mono ?_;rintro e w7 ⟨A7,c7,rfl,ho7,hb7⟩;rw [Hlk.out] at ho7 ⊢;have hR7:=hR.trans (hb7.mono hR.size);obtain ⟨q0,q1,q2⟩:=HX.out _ (step h25 hR7))
         |(go_at_call 24;refine (sameInts_any _ _ _ _ _ _ _ _ G FL _ ho7.rd (HRx.out _ hR7) (by omega)).mono ?_;rintro e w8 ⟨rfl,hb8⟩;rw [hsf];have hR8:=hR7.trans (hb8.mono hR7.size);have hr8:=ho7.rd.below hb8;have hB8:=hb8.size;obtain ⟨t0,t1,t2⟩:=HX.out _ (step h25 hR8))
         |(go_at_call 19;refine (HPT.out _ hR8 G _ _ _ hr8 hB8).mono ?_;rintro e w9 ⟨rfl,hb9⟩;rw [Hpf.out];have hR9:=hR8.trans (hb9.mono hR8.size)))
        go_roundw
        case rel=>exact ⟨k+1,by omega,by go_num,hR9,Lib.hid (fun j hj=>by
         by_cases e:j=k
         ·subst e;rw [<- HG.out];exact Hpf.out
         ·exact hpre.out j (by omega))⟩
        case measure=>simp [intOf];omega
      ·have hnil:=sqn_none s2 s4 (Or.inr (by omega):(k:Int)<0\/sqCnt t<=k);rw [hnil] at HN;clear hc hnil
       go_wp2_with (first
        |(go_at_call 20;refine HN.out.mono ?_;rintro e w7 ⟨A7,c7,rfl,ho7,hb7⟩;have hR:=hR.trans (hb7.mono hR.size);obtain ⟨q0,q1,q2⟩:=HX.out _ (step h25 hR))
        |(go_at_call 16;refine (HCS.out _ hR).mono ?_;rintro e wa ⟨rfl,hba⟩;have hRa:=hR.trans (hba.mono hR.size);obtain ⟨p0,p1,p2⟩:=HX.out _ (step h25 hRa))
        |(go_at_call 19;refine (HPS.out _ hRa FL (HRx.out _ hRa)).mono ?_;rintro e wb ⟨rfl,hbb2⟩;rw [Hps.out]))
       go_ret
       exact ⟨rfl,HB.out _ (step (step h25 hRa) hbb2)⟩
       all_goals trivial
     ·obtain rfl:k=14:=by omega
      have hltI:¬ ((14:Nat):Int)<14:=(by omega)
      go_wp2_with (first
       |(go_at_call 16;refine (HCS.out _ hR).mono ?_;rintro e wa ⟨rfl,hba⟩;have hRa:=hR.trans (hba.mono hR.size);obtain ⟨p0,p1,p2⟩:=HX.out _ (step h25 hRa))
       |(go_at_call 19;refine (HPS.out _ hRa FL (HRx.out _ hRa)).mono ?_;rintro e wb ⟨rfl,hbb2⟩;rw [Hps.out]))
      go_ret
      exact ⟨rfl,HB.out _ (step (step h25 hRa) hbb2)⟩
      all_goals trivial
 ·go_enter Tryz.func4,Tryz.ntmps4
  go_wp2
  go_ret
  exact ⟨rfl,Below.refl _ _⟩
end Go.Proofs.YtkeoflnmbcdmfaaGreatDoor
set_option maxRecDepth 8000
namespace Go.Proofs.YtkeoflnmbcdmfaaGreatDoor
open Go.ChangeShapes Go.WideShapes Go.ChangeAt Go.RowKit
set_option maxHeartbeats 1000000 in
theorem l20Most_any (B G P:Nat) (w:World) (h:Rdr w B G P) (hBG:B<=G) (hP:P<=1000000):
 Calls Tryz.prog 59 #[.pointer (some ⟨G,0,none⟩)] w fun e w'=>∃ v:Int,e=.returned (.int .i64 v)/\0<=v/\v<=601/\Rdr w' B G (P+2)/\w.grownBy w' (some G):=by
 go_enter Tryz.func59,Tryz.ntmps59
 go_wp2_with fail
 refine (pick_any B G P 4 _ h hBG (by omega)).mono ?_;rintro e w1 ⟨v,rfl,⟨v0,v1,_⟩,hr1,hg1⟩;have hv4:=v1 (by omega);have hr2:=(hr1.alloc (by have:=hr1.lt;omega) (.cells #[.int .i64 (1+v),.int .i64 600,.int .i64 0,.int .i64 601] 3));have hr3:=(hr2.alloc (by have:=hr2.lt;omega) (.cells #[.int .i64 0,.int .i64 0,.int .i64 0,.int .i64 1,.int .i64 1,.int .i64 2,.int .i64 3] 3));have hg3:=only_alloc (only_alloc hg1 (.cells #[.int .i64 (1+v),.int .i64 600,.int .i64 0,.int .i64 601] 3)) (.cells #[.int .i64 0,.int .i64 0,.int .i64 0,.int .i64 1,.int .i64 1,.int .i64 2,.int .i64 3] 3)
 have hrow1:((w1.alloc (.cells #[.int .i64 (1+v),.int .i64 600,.int .i64 0,.int .i64 601] 3)).alloc (.cells #[.int .i64 0,.int .i64 0,.int .i64 0,.int .i64 1,.int .i64 1,.int .i64 2,.int .i64 3] 3)).heap[w1.heap.size]? =some (.cells #[.int .i64 (1+v),.int .i64 600,.int .i64 0,.int .i64 601] 3):=by
  exact (((Below.refl _ (w1.alloc (.cells #[.int .i64 (1+v),.int .i64 600,.int .i64 0,.int .i64 601] 3))).alloc (Nat.le_refl _) _).block w1.heap.size (by simp)).trans (heap_alloc_new _ _)
 have hrow2:((w1.alloc (.cells #[.int .i64 (1+v),.int .i64 600,.int .i64 0,.int .i64 601] 3)).alloc (.cells #[.int .i64 0,.int .i64 0,.int .i64 0,.int .i64 1,.int .i64 1,.int .i64 2,.int .i64 3] 3)).heap[w1.heap.size+1]? =some (.cells #[.int .i64 0,.int .i64 0,.int .i64 0,.int .i64 1,.int .i64 1,.int .i64 2,.int .i64 3] 3):=heap_alloc2_new _ _ _;have hG1:=hr1.lt;obtain ⟨W,hW⟩:∃ W,(w1.alloc (.cells #[.int .i64 (1+v),.int .i64 600,.int .i64 0,.int .i64 601] 3)).alloc (.cells #[.int .i64 0,.int .i64 0,.int .i64 0,.int .i64 1,.int .i64 1,.int .i64 2,.int .i64 3] 3)=W:=⟨_,rfl⟩
 rw [hW] at hr3 hg3 hrow1 hrow2;have HW:=Lib.hid hW;have hwr:IntKind.i64.wrap (1+v)=1+v:=IntWalk.i64_in _ (by omega);clear v1 hr2 hr1 hg1 hW
 go_wp2_with fail
 rw [show (w1.alloc _).alloc _=W from HW.out];refine (pick_any B G (P+1) 7 _ hr3 hBG (by omega)).mono ?_;rintro e w2 ⟨u,rfl,⟨u0,u1,_⟩,hr4,hg4⟩;have hu7:=u1 (by omega);have hs3:w1.heap.size+1<W.heap.size:=(Array.getElem?_eq_some_iff.1 hrow2).1;have r1:=(hg4.block w1.heap.size (by omega) (fun e=>by have:=Option.some.inj e;omega)).trans hrow1;have r2:=(hg4.block (w1.heap.size+1) (by omega) (fun e=>by have:=Option.some.inj e;omega)).trans hrow2;have c0:=cell_of_row _ _ 0 _ _ (0,0) r1;have c1:=cell_of_row _ _ 1 _ _ (0,0) r1;have c2:=cell_of_row _ _ 2 _ _ (0,0) r1
 have c3:=cell_of_row _ _ 3 _ _ (0,0) r1;have d0:=cell_of_row _ _ 0 _ _ (0,0) r2;have d1:=cell_of_row _ _ 1 _ _ (0,0) r2;have d2:=cell_of_row _ _ 2 _ _ (0,0) r2;have d3:=cell_of_row _ _ 3 _ _ (0,0) r2;have d4:=cell_of_row _ _ 4 _ _ (0,0) r2;have d5:=cell_of_row _ _ 5 _ _ (0,0) r2;have d6:=cell_of_row _ _ 6 _ _ (0,0) r2;have hgE:=hg3.trans hg4
 have hu:u=0\/u=1\/u=2\/u=3\/u=4\/u=5\/u=6:=by omega
 clear r1 r2 u1 u0 hu7 hrow1 hrow2 hr3 hg3 hg4 hwr
 rcases hu with rfl|rfl|rfl|rfl|rfl|rfl|rfl
 all_goals
  go_wp2
  go_ret
  exact ⟨_,rfl,by omega,by omega,hr4.more (by omega),hgE⟩
theorem hgr_below {N:Nat} {X Y:World} (h:X.grownBy Y (some N)) (_hN:N<=X.heap.size):Below N X Y:=⟨h.os,h.tape,h.output,h.size,fun j hj=>h.block j (by omega) (fun e=>by have:=Option.some.inj e;omega)⟩
def DrawnC (w:World) (e:Ending) (w':World):Prop:=∃ s A1 n c1 gi A2 nr c2 rs m,e=.returned (.tuple #[.agg #[.int .i64 s,.slice A1 n c1,.slice A2 nr c2],.int .i64 m])/\2<=s/\s<=4/\Rd w' w'.heap.size A1 n gi/\n<=16/\OwR w' w.heap.size (.slice A2 nr c2) rs nr/\rs.length=nr/\nr<=100/\0<=m/\m<=601/\Below w.heap.size w w'
set_option maxHeartbeats 4000000 in
theorem draw_DrawCountSolutions (A:Option Addr) (n c:Nat) (bs:List Int) (w:World) (h:Code_ w A n c bs):Calls Tryz.prog 15 #[.slice A n c] w (DrawnC w):=by
 have Hi:=Lib.hid puz_info;have h1:=h.1.alloc_ (.cells #[.int .i64 0,.slice none 0 0,.slice none 0 0] 26);obtain ⟨w0,hW⟩:∃ w0,w0=w.alloc (.cells #[.int .i64 0,.slice none 0 0,.slice none 0 0] 26):=⟨_,rfl⟩;rw [<- hW] at h1
 have hRw:w.heap.size<w0.heap.size:=by rw [hW];simp
 have hb00:Below w.heap.size w w0:=by rw [hW];exact (Below.refl _ _).alloc (Nat.le_refl _) _
 have hR0:w0.heap[w.heap.size]? =some (.cells #[.int .i64 0,.slice none 0 0,.slice none 0 0] 26):=by rw [hW];exact heap_alloc_new w _
 have HW:=Lib.hid hW;clear hW
 go_enter Tryz.func15,Tryz.ntmps15
 go_wp2_with fail
 rw [<- HW.out];refine (specOpen A c n bs w0 h1 h.2.1 h.2.2).mono ?_;rintro e w1 ⟨rfl,hr,hb⟩;have hR1:=(hb.block w.heap.size hRw).trans hR0;have hG1:=hr.lt
 go_wp2_with fail
 refine (l20Puzzle_any w0.heap.size w0.heap.size 0 12 w1 hr (Nat.le_refl _) (by omega) (by omega)).mono ?_;rintro e w2 ⟨s,A1,n1,c1',gi,A2,nr,c2',rs,rfl,s2,s4,hrd,hn16,hlo,hR,hl,hnr,hr2,hg,_⟩;have h12:=hg.size;have hG2:=hr2.lt;have hx0:=pbox_new w2 s A1 n1 c1' A2 nr c2' 26;have hbA:Below w2.heap.size w2 (w2.alloc (.cells #[.int .i64 s,.slice A1 n1 c1',.slice A2 nr c2'] 26)):=(Below.refl _ _).alloc (Nat.le_refl _) _
 have hsA:(w2.alloc (.cells #[.int .i64 s,.slice A1 n1 c1',.slice A2 nr c2'] 26)).heap.size=w2.heap.size+1:=by simp
 have hrA:=hr2.alloc (show w0.heap.size<=w2.heap.size by omega) (.cells #[.int .i64 s,.slice A1 n1 c1',.slice A2 nr c2'] 26);have hgA:w1.grownBy (w2.alloc (.cells #[.int .i64 s,.slice A1 n1 c1',.slice A2 nr c2'] 26)) (some w0.heap.size):=only_alloc hg _;have hrdA:=hrd.below hbA;have hRA:=hR.below hbA;obtain ⟨W,hW2⟩:∃ W,w2.alloc (.cells #[.int .i64 s,.slice A1 n1 c1',.slice A2 nr c2'] 26)=W:=⟨_,rfl⟩;rw [hW2] at hx0 hsA hrA hgA hrdA hRA;have HW2:=Lib.hid hW2;have hG0:w0.heap.size<w1.heap.size:=hG1;have HK:=Lib.hid (fun wr (hg:W.grownBy wr (some w0.heap.size))=>(⟨(hg.cell_far ⟨w2.heap.size,0,none⟩ (by show w2.heap.size<_;omega) (fun e2=>by have e3:w2.heap.size=w0.heap.size:=Option.some.inj e2;omega)).trans hx0.1,(hg.cell_far ⟨w2.heap.size,1,none⟩ (by show w2.heap.size<_;omega) (fun e2=>by have e3:w2.heap.size=w0.heap.size:=Option.some.inj e2;omega)).trans hx0.2.1,(hg.cell_far ⟨w2.heap.size,2,none⟩ (by show w2.heap.size<_;omega) (fun e2=>by have e3:w2.heap.size=w0.heap.size:=Option.some.inj e2;omega)).trans hx0.2.2⟩:PBox wr w2.heap.size s A1 n1 c1' A2 nr c2'))
 have HR:=Lib.hid (fun wr (hg:W.grownBy wr (some w0.heap.size))=>show wr.heap[w.heap.size]? =some (.cells #[.int .i64 0,.slice none 0 0,.slice none 0 0] 26) from ((hgA.trans hg).block w.heap.size (by have:=hb.size;omega) (fun e=>by have:=Option.some.inj e;omega)).trans hR1)
 have HF:=Lib.hid (fun wr Y (m:Int) (m0:0<=m) (m6:m<=601) (hg:W.grownBy wr (some w0.heap.size)) (hgr:wr.grownBy Y (some w.heap.size))=>show DrawnC w (.returned (.tuple #[.agg #[.int .i64 s,.slice A1 n1 c1',.slice A2 nr c2'],.int .i64 m])) Y from by
  have hsz:=hgr.size;have hgs:=hg.size;have hb17:Below w.heap.size w wr:=(hb00.trans (hb.mono hb00.size)).trans ⟨(hgA.trans hg).os,(hgA.trans hg).tape,(hgA.trans hg).output,(hgA.trans hg).size,fun j hj=>(hgA.trans hg).block j (Nat.lt_of_lt_of_le hj (Nat.le_trans hb00.size hb.size)) (fun e=>by injection e with e;omega)⟩;have hrd1:Rd wr w2.heap.size A1 n1 gi:=rd_keepV hrdA (by omega) hg (fun b off e=>by have:=hlo b off e;omega)
  exact ⟨s,A1,n1,c1',gi,A2,nr,c2',rs,m,rfl,s2,s4,(rd_keepV hrd1 (by omega) hgr (fun b off e=>by have:=hlo b off e;have:=hb.size;omega)).more (by omega),hn16,((hRA.keptL hg (show w0.heap.size<w1.heap.size from hG0)).keptL hgr (by have:=hb.size;omega)).mono (by have:=hb.size;omega),hl,hnr,m0,m6,hb17.trans (hgr_below hgr hb17.size)⟩)
 have hr0:=hrA;have Hone:=Lib.hid puz_one;obtain ⟨z0,z1,z2⟩:=id hx0;clear hrd hR hlo hr hr2 hg hW2 hrA hgA hrdA hRA hx0 hbA;have hrD:Rdr W.drew w0.heap.size w0.heap.size (0+800):=hr0.below ((Below.refl _ _).drew) (by omega);have HgD:=Lib.hid (show W.grownBy W.drew (some w0.heap.size) from grown_drew (World.grownBy.refl W _));clear hr0
 go_wp2
 rw [HW2.out];obtain ⟨z0,z1,z2⟩:PBox W w2.heap.size s A1 n1 c1' A2 nr c2':=HK.out W (World.grownBy.refl W _)
 go_region_with (go_at_call 59;refine (l20Most_any w0.heap.size w0.heap.size _ _ hrD (Nat.le_refl _) (by omega)).mono ?_;rintro e w6 ⟨v,rfl,m0,m6,hr6,hg6⟩;have hgW:=HgD.out.trans hg6;obtain ⟨p0,p1,p2⟩:=HK.out _ hgW;have hrow:=HR.out _ hgW;have c0:=cell_of_row _ _ 0 _ _ (0,0) hrow;have c1:=cell_of_row _ _ 1 _ _ (0,0) hrow;have c2:=cell_of_row _ _ 2 _ _ (0,0) hrow;have f0:=frozen_of_row _ _ 0 _ _ hrow;have f1:=frozen_of_row _ _ 1 _ _ hrow;have f2:=frozen_of_row _ _ 2 _ _ hrow)
 all_goals
  go_wp2
  have e0:=heap_setCell_same w6 w.heap.size 0 _ _ (.int .i64 s) hrow;have e1:=heap_setCell_same _ w.heap.size 1 _ _ (.slice A1 n1 c1') e0;have e2:=heap_setCell_same _ w.heap.size 2 _ _ (.slice A2 nr c2') e1;have hgY:w6.grownBy (((w6.setCell ⟨w.heap.size,0,none⟩ (.int .i64 s)).setCell ⟨w.heap.size,1,none⟩ (.slice A1 n1 c1')).setCell ⟨w.heap.size,2,none⟩ (.slice A2 nr c2')) (some w.heap.size):=(grown_set.trans grown_set).trans grown_set;exact bodyPost_ret (v:=.tuple #[.agg #[.int .i64 s,.slice A1 n1 c1',.slice A2 nr c2'],.int .i64 v]) (results_ct (by rfl) _ _ w.heap.size 26 _ (0,0) _ _ rfl rfl e2 Tryz.underlying26 rfl (Hi.out _ _ _ _ _ _ _)) rfl (HF.out w6 _ v m0 m6 hgW hgY)
end Go.Proofs.YtkeoflnmbcdmfaaGreatDoor
set_option maxRecDepth 8000
namespace Go.Proofs.YtkeoflnmbcdmfaaGreatDoor
open Go.ChangeShapes Go.WideShapes Go.ChangeAt Go.RowKit
def cN (f:Nat->Bool):Nat->Nat
 |0=>0
 |k+1=>cN f k+if f k=true then 1 else 0
theorem cN_congr {f g:Nat->Bool}:∀ {K:Nat},(∀ j,j<K->f j=g j)->cN f K=cN g K:=by
 intro K
 induction K with
 |zero=>intro _;rfl
 |succ K ih=>intro h;simp only [cN];rw [ih (fun j hj=>h j (by omega)),h K (by omega)]
theorem cN_head (f:Nat->Bool):∀ n,cN f (n+1)=(if f 0=true then 1 else 0)+cN (fun j=>f (j+1)) n:=by
 intro n
 induction n with
 |zero=>simp [cN]
 |succ n ih=>rw [cN,ih,cN];omega
theorem cN_len {p:List Int->Bool}:∀ (L:List (List Int)),cN (fun j=>p (L.getD j [])) L.length=(L.filter p).length:=by
 intro L
 induction L with
 |nil=>rfl
 |cons a L ih=>
  rw [List.length_cons,cN_head];rw [show (fun j=>p ((a::L).getD (j+1) []))=fun j=>p (L.getD j []) from by funext j;rw [List.getD_cons_succ],ih,List.getD_cons_zero]
  by_cases e:p a=true
  ·rw [if_pos e,List.filter_cons_of_pos e,List.length_cons];omega
  ·rw [if_neg e,List.filter_cons_of_neg e];omega
theorem cN_all {p:List Int->Bool} {L:List (List Int)} (h0:p []=false) (r:Nat):cN (fun j=>p (L.getD j [])) (L.length+r)=(L.filter p).length:=by
 induction r with
 |zero=>exact cN_len L
 |succ r ih=>
  have e:p (L.getD (L.length+r) [])=false:=by
   rw [show L.getD (L.length+r) []=[] by rw [List.getD_eq_getElem?_getD,List.getElem?_eq_none (by omega)];rfl];exact h0
  show cN _ (L.length+r)+(if p (L.getD (L.length+r) [])=true then 1 else 0)=_
  rw [ih,e]
  simp
theorem ps_nil {s:Nat} {gi:List Int} {rs:List RuleM} (hs:s∈[2,3,4]):psB s gi rs []=false:=by
 cases h:psB s gi rs []
 ·rfl
 ·unfold psB fpB at h;simp only [Bool.and_eq_true] at h;have:=gv_len h.1.1.2
  simp at hs
  rcases hs with rfl|rfl|rfl<;>simp at this
theorem cs_len {s:Nat} {gi:List Int} {rs:List RuleM} {n M:Nat} (hl:gi.length=n) (hv:pvB s gi rs=true) (hn:n=s*s) (h1:1<=M) (h6:M<=600):csI s n gi rs (M:Nat)=((min M (cv s gi rs (s*s) []).length:Nat):Int):=by
 have:inr (M:Int) 1 600=true:=by unfold inr;simp;omega
 simp only [csI,hv,this,Bool.true_and,if_true,Int.toNat_natCast];rw [allS_cv hl hv (by omega) hn,List.length_take]
theorem cv_cnt {s:Nat} {gi:List Int} {rs:List RuleM} {n:Nat} (hs:s∈[2,3,4]) (hl:gi.length=n) (hv:pvB s gi rs=true) (hn:n=s*s):((cv s gi rs (s*s) []).length:Int)<=sqCnt s/\sqCnt s<=576/\(s<4->sqCnt s<=12):=by
 have h1:=sqL_len hs;refine ⟨?_,?_,?_⟩
 ·rw [cv_sq hl hv hn,<-h1];have:=List.length_filter_le (psB s gi rs) (sqL s);omega
 ·simp at hs;rcases hs with rfl|rfl|rfl<;>decide
 ·simp at hs;rcases hs with rfl|rfl|rfl<;>decide
theorem cN_sq {s:Nat} {gi:List Int} {rs:List RuleM} {n:Nat} (hs:s∈[2,3,4]) (hl:gi.length=n) (hv:pvB s gi rs=true) (hn:n=s*s) (h4:s<4):cN (fun j=>psB s gi rs (sqn s (j:Nat))) 12=(cv s gi rs (s*s) []).length:=by
 have h1:=sqL_len hs;have h2:=(cv_cnt (rs:=rs) hs hl hv hn).2.2 h4;obtain ⟨r,hr⟩:∃ r,12=(sqL s).length+r:=⟨12-(sqL s).length,by omega⟩;rw [cv_sq hl hv hn,cN_congr (g:=fun j=>psB s gi rs ((sqL s).getD j [])) (fun j _=>by rw [sqn_sqL hs]),hr];exact cN_all (ps_nil hs) r
set_option maxHeartbeats 4000000 in
theorem countSolutions_walk (A:Option Addr) (c n:Nat) (bs:List Int) (w:World) (h:Code_ w A n c bs) (hT:Tz w):
 Calls Tryz.prog 3 #[.slice A n c] w fun e w'=>e=.returned (.bool true)/\Below w.heap.size w w':=by
 by_cases hn:n<=1048576
 ·go_enter Tryz.func3,Tryz.ntmps3
  go_wp2_with fail
  refine (draw_DrawCountSolutions _ _ _ _ _ h).mono ?_;rintro e w1 ⟨s,A1,n1,c1,gi,A2,nr,c2,rs,m,rfl,s2,s4,hrd,hn16,hR,hl,hnr,m0,m6,hb1⟩;have hx0:=pbox_new w1 s A1 n1 c1 A2 nr c2 26;have hbA:Below w1.heap.size w1 (w1.alloc (.cells #[.int .i64 s,.slice A1 n1 c1,.slice A2 nr c2] 26)):=(Below.refl _ _).alloc (Nat.le_refl _) _;have hpc0:PGc w1 s A1 n1 c1 w1.heap.size gi A2 nr c2 w1.heap.size rs:=⟨hrd,Nat.le_refl _,by omega,hR.rdc hl,Nat.le_refl _,by omega⟩;have hpcA:=hpc0.below hbA
  have hsA:(w1.alloc (.cells #[.int .i64 s,.slice A1 n1 c1,.slice A2 nr c2] 26)).heap.size=w1.heap.size+1:=by simp
  obtain ⟨W,hW⟩:∃ W,w1.alloc (.cells #[.int .i64 s,.slice A1 n1 c1,.slice A2 nr c2] 26)=W:=⟨_,rfl⟩;rw [hW] at hx0 hbA hpcA hsA;have hb0W:Below w.heap.size w W:=step hb1 hbA;have HX:=Lib.hid (fun w' (hb:Below W.heap.size W w')=>hx0.below (by omega:w1.heap.size<W.heap.size) hb);have HPc:=Lib.hid (fun w' (hb:Below W.heap.size W w')=>hpcA.below hb);have HTz:=Lib.hid (fun w' (hb:Below W.heap.size W w')=>hT.below hT.lt (step hb0W hb));have HB:=Lib.hid (fun w' (hb:Below W.heap.size W w')=>step hb0W hb);have HCS:=Lib.hid (fun (M:Int) w' (hb:Below W.heap.size W w')=>implCountSolutions s A1 n1 c1 w1.heap.size gi A2 nr c2 w1.heap.size rs M w' (HPc.out _ hb) (HTz.out _ hb))
  have HSS:=Lib.hid (fun (M:Int) w' (hb:Below W.heap.size W w')=>specCountSolutions s A1 n1 c1 w1.heap.size gi A2 nr c2 w1.heap.size rs M w' (HPc.out _ hb).rd);have hgl:=hrd.1;have HW:=Lib.hid hW;obtain ⟨z0,z1,z2⟩:=id hx0;have hrefl:=Below.refl W.heap.size W
  by_cases hok:(pvB s gi rs&&inr m 1 600)=true
  ·rw [Bool.and_eq_true] at hok;obtain ⟨hv,hin⟩:=hok;obtain ⟨m1,_⟩:=inr_t hin;obtain ⟨M,rfl⟩:=Int.eq_ofNat_of_zero_le m0;obtain ⟨t,rfl,hs,hnn,_,hokk⟩:=pv_grid hv hgl;have hnn2:n1=t*t:=(by simp at hs;rcases hs with rfl|rfl|rfl<;>omega);have hM6:M<=600:=(by have:=(inr_t hin).2;omega);have hC:=cs_len (n:=n1) (M:=M) hgl hv hnn2 (by omega) hM6;have hC6:=cs_len (n:=n1) (M:=600) hgl hv hnn2 (by omega) (by omega);obtain ⟨hL1,hL2,hL3⟩:=cv_cnt (rs:=rs) hs hgl hv hnn2
   have hcN:=fun h4=>cN_sq (rs:=rs) hs hgl hv hnn2 h4
   obtain ⟨L,hL⟩:∃ L,L=(cv t gi rs (t*t) []).length:=⟨_,rfl⟩;rw [<- hL] at hC hC6 hL1 hcN;obtain ⟨q,hq⟩:∃ q,q=csI t n1 gi rs (M:Nat):=⟨_,rfl⟩;have HI1:=HCS.out (M:Int) W hrefl;rw [<- hq] at HI1 hC;have HI1:=Lib.hid HI1
   have HS1:=Lib.hid (fun w' (hb:Below W.heap.size W w')=>by
    have:=HSS.out (M:Int) w' hb;rw [<- hq] at this
    exact this)
   have hne:(q != q)=false:=(by simp);have HcN:=Lib.hid hcN;have Hs:=Lib.hid hs;have hq0:¬ q<0:=(by rw [hC];omega);have hq1:decide (q<0)=false:=(by rw [decide_eq_false_iff_not];exact hq0);have HqC:=Lib.hid hC;have HP:=Lib.hid (fun w' (hb:Below W.heap.size W w') (g:List Int) (Ag:Option Addr) (cg ng Bg:Nat) (hg:Rd w' Bg Ag ng g) (hB:Bg<=w'.heap.size) (hm:ng<=1099511627776)=>implPuzzleSolved t A1 n1 c1 w1.heap.size gi A2 nr c2 w1.heap.size rs Ag ng cg Bg g w' (HPc.out _ hb) hg hB hm);clear hW hbA hpc0 hpcA hx0 hR hrd hokk hnn hnn2 hL hq hC hcN hs hv hin hgl hq0
   by_cases h6:M=600/\t<4
   ·obtain ⟨rfl,h4⟩:=h6;have h4I:(t:Int)<4:=(by omega);have hqL:q=(L:Int):=(by rw [HqC.out];have:=hL3 h4;omega);have HcL:=Lib.hid (HcN.out h4);have HqL:=Lib.hid hqL;clear hqL hC6
    go_wp2_with (first
     |(go_at_call 16;rw [HW.out];refine HI1.out.mono ?_;rintro e w2 ⟨rfl,hb2⟩;obtain ⟨y0,y1,y2⟩:=HX.out _ hb2)
     |(go_at_call 17;refine (HS1.out _ hb2).mono ?_;rintro e w3 ⟨rfl,hb3⟩;have h23:=step hb2 hb3;obtain ⟨v0,v1,v2⟩:=HX.out _ h23))
    go_loopw [6,7] (fun mv iv wr=>∃ k:Nat,k<=12/\iv=.int .i64 k/\mv=.int .i64 (cN (fun j=>psB t gi rs (sqn t (j:Nat))) k:Nat)/\Below W.heap.size W wr) (fun _ iv _=>12-(intOf iv).toNat)
    case atStart=>exact ⟨0,by omega,rfl,rfl,h23⟩
    case round=>
     obtain ⟨k,hk12,rfl,rfl,hb⟩:=hrel;obtain ⟨p0,p1,p2⟩:=HX.out _ hb;obtain ⟨K,hK⟩:∃ K,K=cN (fun j=>psB t gi rs (sqn t (j:Nat))) k:=⟨_,rfl⟩;rw [<- hK]
     by_cases hlt:k<12
     ·have hltI:(k:Int)<12:=(by omega);have HN:=Lib.hid (fun w'=>implSquareNumber (t:Int) (k:Int) w' ⟨by omega,by omega⟩ ⟨by omega,by omega⟩)
      have hlen:(sqn (t:Int) k).length<=16:=by
       by_cases hc:(k:Int)<sqCnt t
       ·have:=(sqn_some s2 s4 (by omega:(0:Int)<=k) hc).1;have:=(sq_bd s2 s4).2;omega
       ·rw [sqn_none s2 s4 (Or.inr (by omega))];simp
      have HS:=Lib.hid (show cN (fun j=>psB t gi rs (sqn t (j:Nat))) (k+1)=K+if psB t gi rs (sqn t (k:Nat))=true then 1 else 0 by rw [hK];rfl);obtain ⟨G,hG⟩:∃ G,G=sqn (t:Int) k:=⟨_,rfl⟩;rw [<- hG] at HN hlen HS;obtain ⟨l,hl'⟩:∃ l,G.length=l:=⟨_,rfl⟩;have Hl:=Lib.hid hl';rw [hl'] at hlen;have HBd:=Lib.hid hb.drew
      have hKb:K<=12:=by
       rw [hK]
       have:∀ x,cN (fun j=>psB t gi rs (sqn t (j:Nat))) x<=x:=by
        intro x
        induction x with
        |zero=>exact Nat.le_refl _
        |succ x ih=>simp only [cN];split<;>omega
       have:=this k;omega
      clear hG hK hl';cases hp:psB t gi rs G
      all_goals
       rw [hp] at HS
       go_wp2
       go_region_with (first
        |(go_at_call 20;(with_reducible refine (HN.out _).mono ?_);rintro e w7 ⟨A7,c7,rfl,ho7,hb7d⟩;rw [Hl.out] at ho7 ⊢;have hb7:Below W.heap.size W w7:=HBd.out.trans (hb7d.mono HBd.out.size);clear hb7d;obtain ⟨q0,q1,q2⟩:=HX.out _ hb7)
        |(go_at_call 19;(with_reducible refine (HP.out _ hb7 G _ _ _ _ ho7.rd (Nat.le_refl _) (by omega)).mono ?_);rintro e w8 ⟨rfl,hb8⟩;rw [hp]))
      all_goals
       go_wp2
       go_roundw
       case rel=>exact ⟨k+1,by omega,by go_num,by rw [HS.out];simp,step hb7 hb8⟩
       case measure=>simp [intOf];omega
     ·obtain rfl:k=12:=by omega
      have hKL:((K:Int)==q)=true:=(by rw [HqL.out,hK,HcL.out];simp);clear hK
      go_wp2
      go_ret
      exact ⟨rfl,HB.out _ hb⟩
   ·have hg1:((M:Int)==600)=true->((t:Int)<4)->False:=fun e1 e2=>h6 ⟨by have:=beq_iff_eq.1 e1;omega,by omega⟩
    have HI6:=Lib.hid (fun w' (hb:Below W.heap.size W w')=>by
     have:=HCS.out 600 w' hb;rw [show (600:Int)=((600:Nat):Int) from rfl,hC6] at this
     exact this)
    have hqq:q=min (M:Int) (L:Int):=(by rw [HqC.out];omega);have hmin:(q==min (M:Int) ((min 600 L:Nat):Int))=true:=(by rw [beq_iff_eq,hqq];omega);have hle:((min 600 L:Nat):Int)<=576:=(by omega);clear hqq hC6
    by_cases e6:M=600
    ·subst e6
     have h4:¬ (t:Int)<4:=fun e=>hg1 (by rfl) e
     clear hg1 h6
     go_wp2_with (first
      |(go_at_call 16;rw [HW.out];refine HI1.out.mono ?_;rintro e w2 ⟨rfl,hb2⟩;obtain ⟨y0,y1,y2⟩:=HX.out _ hb2)
      |(go_at_call 17;refine (HS1.out _ hb2).mono ?_;rintro e w3 ⟨rfl,hb3⟩;have h23:=step hb2 hb3;obtain ⟨v0,v1,v2⟩:=HX.out _ h23)
      |(go_at_call 16;refine (HI6.out _ h23).mono ?_;rintro e w4 ⟨rfl,hb4⟩))
     go_ret
     exact ⟨rfl,HB.out _ (step h23 hb4)⟩
    ·have e6':((M:Int)==600)=false:=(by rw [beq_eq_false_iff_ne];omega);clear hg1 h6 e6;have Hmin:=Lib.hid hmin;clear hmin
     rcases Nat.lt_or_ge (min 600 L) M with hlt|hge
     ·have hqv:q=((min 600 L:Nat):Int):=(by have:=beq_iff_eq.1 Hmin.out;omega);clear Hmin;subst hqv
      go_wp2_with (first
       |(go_at_call 16;rw [HW.out];refine HI1.out.mono ?_;rintro e w2 ⟨rfl,hb2⟩;obtain ⟨y0,y1,y2⟩:=HX.out _ hb2)
       |(go_at_call 17;refine (HS1.out _ hb2).mono ?_;rintro e w3 ⟨rfl,hb3⟩;have h23:=step hb2 hb3;obtain ⟨v0,v1,v2⟩:=HX.out _ h23)
       |(go_at_call 16;refine (HI6.out _ h23).mono ?_;rintro e w4 ⟨rfl,hb4⟩))
      go_ret
      exact ⟨rfl,HB.out _ (step h23 hb4)⟩
     ·have hqv:q=(M:Int):=(by have:=beq_iff_eq.1 Hmin.out;omega);clear Hmin;subst hqv;have hMle:(M:Int)<=576:=(by omega)
      go_wp2_with (first
       |(go_at_call 16;rw [HW.out];refine HI1.out.mono ?_;rintro e w2 ⟨rfl,hb2⟩;obtain ⟨y0,y1,y2⟩:=HX.out _ hb2)
       |(go_at_call 17;refine (HS1.out _ hb2).mono ?_;rintro e w3 ⟨rfl,hb3⟩;have h23:=step hb2 hb3;obtain ⟨v0,v1,v2⟩:=HX.out _ h23)
       |(go_at_call 16;refine (HI6.out _ h23).mono ?_;rintro e w4 ⟨rfl,hb4⟩))
      go_ret
      exact ⟨rfl,HB.out _ (step h23 hb4)⟩
  ·have hC:csI s n1 gi rs m= -1:=by unfold csI;rw [if_neg hok]
   have HI1:=HCS.out m W hrefl;rw [hC] at HI1;have HI1:=Lib.hid HI1
   have HS1:=Lib.hid (fun w' (hb:Below W.heap.size W w')=>by
    have:=HSS.out m w' hb;rw [hC] at this
    exact this)
   clear hW hbA hpc0 hpcA hx0 hR hrd hok hC hgl
   go_wp2_with (first
    |(go_at_call 16;rw [HW.out];refine HI1.out.mono ?_;rintro e w2 ⟨rfl,hb2⟩;obtain ⟨y0,y1,y2⟩:=HX.out _ hb2)
    |(go_at_call 17;refine (HS1.out _ hb2).mono ?_;rintro e w3 ⟨rfl,hb3⟩;have h23:=step hb2 hb3)
    |(go_at_call 18;(with_reducible refine (alive_any _).mono ?_);rintro e w6 ⟨rfl,hb6⟩))
   go_ret
   exact ⟨rfl,HB.out _ (step h23 hb6)⟩
 ·go_enter Tryz.func3,Tryz.ntmps3
  go_wp2
  go_ret
  exact ⟨rfl,Below.refl _ _⟩
end Go.Proofs.YtkeoflnmbcdmfaaGreatDoor
