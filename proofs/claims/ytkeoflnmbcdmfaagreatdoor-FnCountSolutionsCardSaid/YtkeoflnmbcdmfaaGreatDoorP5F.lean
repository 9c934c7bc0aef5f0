import Derived.Test.YtkeoflnmbcdmfaaGreatDoorP5
set_option maxRecDepth 8000
namespace Go.Proofs.YtkeoflnmbcdmfaaGreatDoor
open Go.ChangeShapes Go.WideShapes Go.ChangeAt Go.RowKit
def giveOk (gi g:List Int) (i:Nat):Bool:= !(decide (0<nth gi i)&&decide (0<nth g i)&&(nth g i != nth gi i))
def rpR (s:Int) (g:List Int) (r:RuleM):Bool:=rpB r.k r.xs r.v g s
def fitB (s:Int) (gi:List Int) (rs:List RuleM) (g:List Int):Bool:=((List.range g.length).all fun i=>giveOk gi g i)&&((List.range rs.length).all fun i=>rpR s g (rat rs i))&& !clash g s
theorem fit_give {s:Int} {gi g:List Int} {rs:List RuleM} {n i:Nat} (hl:g.length=n) (hi:i<n) (h:giveOk gi g i=false):fitB s gi rs g=false:=by
 have:((List.range g.length).all fun i=>giveOk gi g i)=false:=by
  cases e:(List.range g.length).all fun i=>giveOk gi g i
  ·rfl
  ·have:=List.all_eq_true.1 e i (List.mem_range.2 (by omega));rw [h] at this;cases this
 simp only [fitB,this,Bool.false_and]
theorem fit_rule {s:Int} {gi g:List Int} {rs:List RuleM} {n i:Nat} (hl:rs.length=n) (hi:i<n) (h:rpR s g (rat rs i)=false):fitB s gi rs g=false:=by
 unfold fitB;rw [not_all_rat hl hi h,Bool.and_false,Bool.false_and]
theorem fit_end {s:Int} {gi g:List Int} {rs:List RuleM} {n m:Nat} (hl:g.length=n) (h1:∀ i,i<n->giveOk gi g i=true) (hm:rs.length=m) (h2:allR (rpR s g) rs m):fitB s gi rs g= !clash g s:=by
 have e:((List.range g.length).all fun i=>giveOk gi g i)=true:=List.all_eq_true.2 (fun i hi=>h1 i (by rw [List.mem_range] at hi;omega));unfold fitB;rw [e,all_rat hm h2,Bool.true_and,Bool.true_and]
set_option maxHeartbeats 2000000 in
theorem specFits (s:Nat) (Ag:Option Addr) (ng cg Bg:Nat) (gi:List Int) (Ar:Option Addr) (nr cr Br:Nat) (rs:List RuleM) (A:Option Addr) (c B:Nat) (g:List Int) (w:World) (hg:Rd w Bg Ag ng gi) (hBg:Bg<=w.heap.size) (hr:RdRs w Br Ar nr rs) (hBr:Br<=w.heap.size) (hmr:nr<=1099511627776)
 (h:Rd w B A ng g) (hB:B<=w.heap.size) (hs:s∈[2,3,4]) (hn:Hid ((ng:Int)=(s:Int)*s)) (hok:Hid (okAll g s ng)):
 Calls Tryz.prog 156 #[.agg #[.int .i64 s,.slice Ag ng cg,.slice Ar nr cr],.slice A ng c] w fun e w'=>e=.returned (.bool (fitB s gi rs g))/\Below w.heap.size w w':=by
 have hlen:=Lib.hid h.1;have hlenr:=Lib.hid hr.1
 have hs2:2<=(s:Int):=by simp at hs;omega
 have hs4:(s:Int)<=4:=by simp at hs;omega
 have hng:ng<=16:=by have:=(sq_bd hs2 hs4).2;have:=hn.out;omega
 have hx0:=pbox_new w s Ag ng cg Ar nr cr 26;have hb0:Below w.heap.size w (w.alloc (.cells #[.int .i64 s,.slice Ag ng cg,.slice Ar nr cr] 26)):=(Below.refl _ _).alloc (Nat.le_refl _) _
 have hs0:w.heap.size+1<=(w.alloc (.cells #[.int .i64 s,.slice Ag ng cg,.slice Ar nr cr] 26)).heap.size:=by simp
 go_enter Tryz.func156,Tryz.ntmps156
 go_wp2
 go_loopw [5] (fun i wr=>∃ u:Nat,u<=ng/\i=.int .i64 u/\Hid (∀ i,i<u->giveOk gi g i=true)/\PBox wr w.heap.size s Ag ng cg Ar nr cr/\Below w.heap.size w wr/\w.heap.size+1<=wr.heap.size) (fun i _=>ng-(intOf i).toNat)
 case atStart=>exact ⟨0,Nat.zero_le _,rfl,Lib.hid (fun j hj=>absurd hj (by omega)),hx0,hb0,hs0⟩
 case round=>
  obtain ⟨u,hu,rfl,hall,hx,hb,hsw⟩:=hrel;obtain ⟨c0,c1,c2⟩:=id hx
  by_cases hlt:u<ng
  ·obtain ⟨b,off,hA,hbB,hck⟩:=(h.below (hb.mono hB)).at_ hlt;obtain ⟨b1,off1,hA1,hbB1,hck1⟩:=(hg.below (hb.mono hBg)).at_ hlt;subst hA;subst hA1
   have hgood:giveOk gi g u=true->Hid (∀ i,i<u+1->giveOk gi g i=true):=fun e=>Lib.hid (fun i hi=>by
    by_cases h:i=u
    ·subst h;exact e
    ·exact hall.out i (by omega))
   have Hgood:=Lib.hid hgood;clear hgood;obtain ⟨xg,hxg⟩:∃ x,x=nth g u:=⟨_,rfl⟩;obtain ⟨xi,hxi⟩:∃ x,x=nth gi u:=⟨_,rfl⟩;have hdef:giveOk gi g u= !(decide (0<xi)&&decide (0<xg)&&(xg != xi)):=(by rw [hxg,hxi];rfl);have Hbad:=Lib.hid (fun e:giveOk gi g u=false=>fit_give (s:=(s:Int)) (gi:=gi) (rs:=rs) hlen.out hlt e);rw [<- hxg] at hck;rw [<- hxi] at hck1;clear hxg hxi
   by_cases h1:0<xi
   ·by_cases h2:0<xg
    ·cases h3:(xg != xi)
     ·have Ha:=Hgood.out (by rw [hdef,h3,Bool.and_false];rfl);clear hdef
      go_wp2
      go_quiet (fail)
      go_wp2
      go_roundw
      case rel=>exact ⟨u+1,by omega,by go_num,Ha,hx.below (show w.heap.size<wr.heap.size by omega) (below_drewN (Below.refl _ _) _),below_drewN hb _,hsw⟩
      case measure=>simp [intOf];omega
     ·have HL:=Lib.hid (Hbad.out (by rw [hdef,h3,decide_eq_true h1,decide_eq_true h2];rfl));clear hdef
      go_wp2
      go_quiet (fail)
      go_wp2
      go_ret
      exact ⟨by rw [HL.out];rfl,below_drewN hb _⟩
    ·have h2':decide (0<xg)=false:=decide_eq_false h2;have Ha:=Hgood.out (by rw [hdef,h2',Bool.and_false,Bool.false_and];rfl);clear hdef
     go_wp2
     go_quiet (fail)
     go_wp2
     go_roundw
     case rel=>exact ⟨u+1,by omega,by go_num,Ha,hx.below (show w.heap.size<wr.heap.size by omega) (below_drewN (Below.refl _ _) _),below_drewN hb _,hsw⟩
     case measure=>simp [intOf];omega
   ·have h1':decide (0<xi)=false:=decide_eq_false h1;have Ha:=Hgood.out (by rw [hdef,h1',Bool.false_and,Bool.false_and];rfl);clear hdef
    go_wp2
    go_quiet (fail)
    go_wp2
    go_roundw
    case rel=>exact ⟨u+1,by omega,by go_num,Ha,hx.below (show w.heap.size<wr.heap.size by omega) (below_drewN (Below.refl _ _) _),below_drewN hb _,hsw⟩
    case measure=>simp [intOf];omega
  ·obtain rfl:u=ng:=by omega
   go_wp2
   go_loopw [6] (fun i wr=>∃ q:Nat,q<=nr/\i=.int .i64 q/\Hid (allR (rpR s g) rs q)/\PBox wr w.heap.size s Ag u cg Ar nr cr/\Below w.heap.size w wr/\w.heap.size+1<=wr.heap.size) (fun i _=>nr-(intOf i).toNat)
   case atStart=>exact ⟨0,Nat.zero_le _,rfl,Lib.hid (fun j hj=>absurd hj (by omega)),hx,hb,hsw⟩
   case round=>
    clear hx hb hsw c0 c1 c2;obtain ⟨q,hq,rfl,hallq,hx,hb,hsw⟩:=hrel;obtain ⟨c0,c1,c2⟩:=id hx
    by_cases hlq:q<nr
    ·obtain ⟨b,off,hAr,hbB,hcc⟩:=(hr.below (hb.mono hBr)).2 (by omega);subst hAr;obtain ⟨A',c',r0,r1,r2,r3,r4⟩:=hcc q hlq;have hbw:b<wr.heap.size:=cell_lt r0;obtain ⟨rk,hrk⟩:∃ x,x=(rat rs q).k:=⟨_,rfl⟩;obtain ⟨rx,hrx⟩:∃ x,x=(rat rs q).xs:=⟨_,rfl⟩;obtain ⟨rvv,hrv⟩:∃ x,x=(rat rs q).v:=⟨_,rfl⟩;have hrr:rpR s g (rat rs q)=rpB rk rx rvv g s:=(by simp only [rpR,hrk,hrx,hrv]);rw [<- hrk] at r0;rw [<- hrx] at r1 r3 r4;rw [<- hrv] at r2
     have HS:Hid (∀ w',Below wr.heap.size wr w'->w'.cell? ⟨w.heap.size,0,none⟩=some (.int .i64 s)/\w'.cell? ⟨w.heap.size,2,none⟩=some (.slice (some ⟨b,off,none⟩) nr cr)/\w'.cell? ⟨b,off+q*3,none⟩=some (.int .i64 rk)/\w'.cell? ⟨b,off+q*3+1,none⟩=some (.slice A' rx.length c')/\w'.cell? ⟨b,off+q*3+2,none⟩=some (.int .i64 rvv)):=
      Lib.hid (fun w' hb=>⟨(hb.cell (p:=⟨w.heap.size,0,none⟩) (show w.heap.size<_ by omega)).trans c0,(hb.cell (p:=⟨w.heap.size,2,none⟩) (show w.heap.size<_ by omega)).trans c2,(hb.cell (p:=⟨b,off+q*3,none⟩) hbw).trans r0,(hb.cell (p:=⟨b,off+q*3+1,none⟩) hbw).trans r1,(hb.cell (p:=⟨b,off+q*3+2,none⟩) hbw).trans r2⟩)
     have HC:=Lib.hid (fun w' (hbb:Below wr.heap.size wr w')=>specRulePossible A' c' rx.length Br rx rk rvv s A c u B g w' (r3.below (hbb.mono (Nat.le_trans hBr hb.size))) (Nat.le_trans (Nat.le_trans hBr hb.size) hbb.size) r4 (h.below ((hb.trans (hbb.mono hb.size)).mono hB)) (Nat.le_trans (Nat.le_trans hB hb.size) hbb.size) (by omega) (by omega));clear hrk hrx hrv hcc;cases hv:rpB rk rx rvv g s
     ·have HL:=Lib.hid (fit_rule (gi:=gi) hlenr.out hlq (hrr.trans hv))
      go_wp2
      go_region_held3 (fun w'=>w'.cell? ⟨w.heap.size,0,none⟩=some (.int .i64 s)/\w'.cell? ⟨w.heap.size,2,none⟩=some (.slice (some ⟨b,off,none⟩) nr cr)/\w'.cell? ⟨b,off+q*3,none⟩=some (.int .i64 rk)/\w'.cell? ⟨b,off+q*3+1,none⟩=some (.slice A' rx.length c')/\w'.cell? ⟨b,off+q*3+2,none⟩=some (.int .i64 rvv))
       (first|go_keep|exact HS.out _ hb5)
       ((go_simp;go_at_call 177;refine (HC.out _ (Below.refl _ _).drew).mono ?_;rintro e w5 ⟨rfl,hb4⟩;rw [hv];have hb5:Below wr.heap.size wr w5:=((Below.refl _ _).drew).trans hb4))
      go_wp2
      go_ret
      exact ⟨by rw [HL.out];rfl,hb.trans (hb5.mono hb.size)⟩
     ·have hall2:=Lib.hid (show allR (rpR s g) rs (q+1) from fun i hi=>by
       by_cases e:i=q
       ·subst e;exact hrr.trans hv
       ·exact hallq.out i (by omega))
      go_wp2
      go_region_held3 (fun w'=>w'.cell? ⟨w.heap.size,0,none⟩=some (.int .i64 s)/\w'.cell? ⟨w.heap.size,2,none⟩=some (.slice (some ⟨b,off,none⟩) nr cr)/\w'.cell? ⟨b,off+q*3,none⟩=some (.int .i64 rk)/\w'.cell? ⟨b,off+q*3+1,none⟩=some (.slice A' rx.length c')/\w'.cell? ⟨b,off+q*3+2,none⟩=some (.int .i64 rvv))
       (first|go_keep|exact HS.out _ hb5)
       ((go_simp;go_at_call 177;refine (HC.out _ (Below.refl _ _).drew).mono ?_;rintro e w5 ⟨rfl,hb4⟩;rw [hv];have hb5:Below wr.heap.size wr w5:=((Below.refl _ _).drew).trans hb4))
      go_wp2
      go_roundw
      case rel=>exact ⟨q+1,by omega,by go_num,hall2,hx.below (by omega) hb5,hb.trans (hb5.mono hb.size),Nat.le_trans hsw hb5.size⟩
      case measure=>simp [intOf];omega
    ·obtain rfl:q=nr:=by omega
     have HL:=Lib.hid (fit_end (gi:=gi) hlen.out hall.out hlenr.out hallq.out);have hr2:=h.below (hb.mono hB)
     go_wp2_with (go_at_call 178;refine (specClash _ _ _ _ _ _ _ hr2 (Nat.le_trans hB hb.size) hs2 hs4 hn hok).mono ?_;rintro e w5 ⟨rfl,hb5⟩)
     go_ret
     exact ⟨by rw [HL.out];rfl,step hb hb5⟩
end Go.Proofs.YtkeoflnmbcdmfaaGreatDoor
