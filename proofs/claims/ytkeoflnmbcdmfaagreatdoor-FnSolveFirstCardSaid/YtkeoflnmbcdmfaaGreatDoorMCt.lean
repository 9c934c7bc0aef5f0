import Derived.Test.YtkeoflnmbcdmfaaGreatDoorMSe
import Derived.Test.YtkeoflnmbcdmfaaGreatDoorQ4S
import Derived.Deep.RegionHeld3
import Derived.Test.YtkeoflnmbcdmfaaGreatDoorMSol
import Derived.Test.YtkeoflnmbcdmfaaGreatDoorMSix
import Derived.RegionTactic
import Derived.Laws.Rows
import Derived.Laws.Tables
import Derived.Test.YtkeoflnmbcdmfaaGreatDoorBase
import Derived.Test.YtkeoflnmbcdmfaaGreatDoorPut
import Derived.Deep.RegionLaw
import Derived.Maps.AppendAt
set_option maxRecDepth 8000
namespace Go.Proofs.YtkeoflnmbcdmfaaGreatDoor
open Go.ChangeShapes Go.WideShapes Go.ChangeAt Go.RowKit
def sVal (G OB RB n:Nat):Value:=.agg #[.slice (some ⟨G,0,none⟩) n n,.slice (some ⟨OB,0,none⟩) n n,.slice (some ⟨RB,0,none⟩) n n]
def holdsR (ys:List Int) (r:RuleM):Bool:=holdsB r.k r.v (pks ys r.xs r.xs.length)
def holdsQ (ys:List Int) (q:List RuleM):Bool:=(List.range q.length).all fun i=>holdsR ys (rat q i)
def SBox (w:World) (g G OB RB n:Nat):Prop:=w.cell? ⟨g,0,none⟩=some (.slice (some ⟨G,0,none⟩) n n)/\w.cell? ⟨g,1,none⟩=some (.slice (some ⟨OB,0,none⟩) n n)/\w.cell? ⟨g,2,none⟩=some (.slice (some ⟨RB,0,none⟩) n n)
theorem SBox.below {w w':World} {g B G OB RB n:Nat} (h:SBox w g G OB RB n) (hg:g<B) (hb:Below B w w'):SBox w' g G OB RB n:=
 ⟨(hb.cell (p:=⟨g,0,none⟩) hg).trans h.1,(hb.cell (p:=⟨g,1,none⟩) hg).trans h.2.1,(hb.cell (p:=⟨g,2,none⟩) hg).trans h.2.2⟩
theorem SBox.lt {w:World} {g G OB RB n:Nat} (h:SBox w g G OB RB n):g<w.heap.size:=cell_lt h.1
theorem sbox_new (w:World) (G OB RB n:Nat) (t:TypeId):SBox (w.alloc (.cells #[.slice (some ⟨G,0,none⟩) n n,.slice (some ⟨OB,0,none⟩) n n,.slice (some ⟨RB,0,none⟩) n n] t)) w.heap.size G OB RB n:=
 ⟨cell_of_row _ _ 0 _ _ (0,0) (heap_alloc_new w _),cell_of_row _ _ 1 _ _ (0,0) (heap_alloc_new w _),cell_of_row _ _ 2 _ _ (0,0) (heap_alloc_new w _)⟩
theorem nHolds1 (k v:Int) (A:Option Addr) (n c:Nat) (w:World):(nilAhead 323 183 (.agg #[.int .i64 k,.slice A n c,.int .i64 v]) "loop.example/gridpuzzles/impl.holdsWith").run Tryz.prog w=.ok (some false) w:=by kernel_rfl
theorem nHolds2 (k v:Int) (A:Option Addr) (n c:Nat) (w:World):(nilAhead 323 184 (.agg #[.int .i64 k,.slice A n c,.int .i64 v]) "loop.example/gridpuzzles/impl.holdsWith").run Tryz.prog w=.ok (some false) w:=by kernel_rfl
theorem nHolds3 (k v:Int) (A:Option Addr) (n c:Nat) (w:World):(nilAhead 323 185 (.agg #[.int .i64 k,.slice A n c,.int .i64 v]) "loop.example/gridpuzzles/impl.holdsWith").run Tryz.prog w=.ok (some false) w:=by kernel_rfl
theorem nHolds4 (k v:Int) (A:Option Addr) (n c:Nat) (w:World):(nilAhead 323 186 (.agg #[.int .i64 k,.slice A n c,.int .i64 v]) "loop.example/gridpuzzles/impl.holdsWith").run Tryz.prog w=.ok (some false) w:=by kernel_rfl
theorem nHolds5 (k v:Int) (A:Option Addr) (n c:Nat) (w:World):(nilAhead 323 187 (.agg #[.int .i64 k,.slice A n c,.int .i64 v]) "loop.example/gridpuzzles/impl.holdsWith").run Tryz.prog w=.ok (some false) w:=by kernel_rfl
set_option maxHeartbeats 2000000 in
theorem rulesHold_any (W0:World) (B0 G OB RB n L p:Nat) (s:Int) (A:Option Addr) (cap:Nat) (q:List RuleM) (ys:List Int) (X:World)
 (hrow:X.cell? ⟨RB,p,none⟩=some (.slice A q.length cap)) (hq:RdW W0 B0 X L A q) (h0:Below B0 W0 X) (hB0:B0<=W0.heap.size) (hp:p<n) (hg:Rd X X.heap.size (some ⟨G,0,none⟩) n ys) (hql:q.length<=1099511627776)
 (hv:∀ i,i<q.length->rvR s (rat q i)=true) (hin:∀ i,i<q.length->∀ j,j<(rat q i).xs.length->0<=nth (rat q i).xs j/\nth (rat q i).xs j<n) (hsm:∀ i,i<q.length->small4 (pks ys (rat q i).xs (rat q i).xs.length) (rat q i).xs.length):
 Calls Tryz.prog 167 #[sVal G OB RB n,.int .i64 p] X fun e Y=>e=.returned (.bool (holdsQ ys q))/\Below X.heap.size X Y:=by
 unfold sVal;have hx0:=sbox_new X G OB RB n 133;have hb0:Below X.heap.size X (X.alloc (.cells #[.slice (some ⟨G,0,none⟩) n n,.slice (some ⟨OB,0,none⟩) n n,.slice (some ⟨RB,0,none⟩) n n] 133)):=(Below.refl _ _).alloc (Nat.le_refl _) _
 have hs0:X.heap.size+1<=(X.alloc (.cells #[.slice (some ⟨G,0,none⟩) n n,.slice (some ⟨OB,0,none⟩) n n,.slice (some ⟨RB,0,none⟩) n n] 133)).heap.size:=by simp
 obtain ⟨z0,z1,z2⟩:=id hx0;have hrw:=cell_lt hrow;have hrow0:=(hb0.cell (p:=⟨RB,p,none⟩) hrw).trans hrow
 have hpI:(p:Int)<(n:Int):=by omega
 have HQ:=Lib.hid hq;have HG:=Lib.hid hg;have H0:=Lib.hid h0;have HV:=Lib.hid hv;have HIN:=Lib.hid hin;have HSM:=Lib.hid hsm;obtain ⟨l,hl⟩:∃ l,l=q.length:=⟨_,rfl⟩;rw [<- hl] at hrow0 hql;have Hl:=Lib.hid hl;clear hl hrow hq hg h0 hv hin hsm
 go_enter Tryz.func167,Tryz.ntmps167
 go_wp2
 go_loopw [13] (fun i wr=>∃ u:Nat,u<=l/\i=.int .i64 u/\Hid (allR (holdsR ys) q u)/\SBox wr X.heap.size G OB RB n/\Below X.heap.size X wr/\X.heap.size+1<=wr.heap.size) (fun i _=>l-(intOf i).toNat)
 case atStart=>exact ⟨0,Nat.zero_le _,rfl,Lib.hid (fun j hj=>absurd hj (by omega)),hx0,hb0,hs0⟩
 case round=>
  obtain ⟨u,hu,rfl,hall,hx,hb,hsw⟩:=hrel;obtain ⟨c0,c1,c2⟩:=id hx
  by_cases hlt:u<l
  ·have hltq:u<q.length:=by rw [<- Hl.out];exact hlt
   obtain ⟨b,rfl,hbL,hcc⟩:=HQ.out (by omega);obtain ⟨A',c',r0,r1,r2,r3,r5⟩:=hcc u hltq;have hv0:=HV.out u hltq;have hxin0:=HIN.out u hltq;have hsm0:=HSM.out u hltq;have hHR:holdsR ys (rat q u)=holdsB (rat q u).k (rat q u).v (pks ys (rat q u).xs (rat q u).xs.length):=rfl;obtain ⟨rk,hrk⟩:∃ x,x=(rat q u).k:=⟨_,rfl⟩;obtain ⟨rx,hrx⟩:∃ x,x=(rat q u).xs:=⟨_,rfl⟩;obtain ⟨rvv,hrv⟩:∃ x,x=(rat q u).v:=⟨_,rfl⟩;have hv1:rv rk rx rvv s=true:=(by rw [hrk,hrx,hrv];exact hv0);rw [<- hrk,<-hrx,<-hrv] at hHR;rw [<- hrk] at r0;rw [<- hrx] at r1 r3 r5 hxin0 hsm0
   rw [<- hrv] at r2;obtain ⟨_,⟨hn1,hn4⟩,hk2,_⟩:=rv_facts rfl hv1;have hin':(u:Int)<(l:Int):=(by omega);have hbX:=cell_lt r0;have r0:=(hb.cell (p:=⟨b,u*3,none⟩) hbX).trans r0;have r1:=(hb.cell (p:=⟨b,u*3+1,none⟩) hbX).trans r1;have r2:=(hb.cell (p:=⟨b,u*3+2,none⟩) hbX).trans r2;have hy:=rbox_new wr rk A' rx.length c' rvv 88;have hb1:Below wr.heap.size wr (wr.alloc (.cells #[.int .i64 rk,.slice A' rx.length c',.int .i64 rvv] 88)):=(Below.refl _ _).alloc (Nat.le_refl _) _;obtain ⟨y0,y1,y2⟩:=id hy;have hx1:=hx.below (Nat.lt_of_lt_of_le (Nat.lt_succ_self _) hsw) hb1
   obtain ⟨d0,d1,d2⟩:=id hx1;have hbw:=hb.trans (hb1.mono hb.size);have hs1:X.heap.size<(wr.alloc (.cells #[.int .i64 rk,.slice A' rx.length c',.int .i64 rvv] 88)).heap.size:=(by simp;omega);have hs2:wr.heap.size<(wr.alloc (.cells #[.int .i64 rk,.slice A' rx.length c',.int .i64 rvv] 88)).heap.size:=(by simp);obtain ⟨W,hW⟩:∃ W,wr.alloc (.cells #[.int .i64 rk,.slice A' rx.length c',.int .i64 rvv] 88)=W:=⟨_,rfl⟩;rw [hW] at hy y0 y1 y2 hx1 d0 d1 d2 hbw hs1 hs2
   have HS:Hid (∀ w',Below W.heap.size W w'->w'.cell? ⟨wr.heap.size,0,none⟩=some (.int .i64 rk)/\w'.cell? ⟨wr.heap.size,1,none⟩=some (.slice A' rx.length c')/\w'.cell? ⟨wr.heap.size,2,none⟩=some (.int .i64 rvv)/\w'.cell? ⟨X.heap.size,0,none⟩=some (.slice (some ⟨G,0,none⟩) n n)):=
    Lib.hid (fun w' hb=>by
     obtain ⟨e0,e1,e2⟩:=hy.below hs2 hb
     exact ⟨e0,e1,e2,(hx1.below hs1 hb).1⟩)
   have HPK:=Lib.hid (fun w' (hb2:Below W.heap.size W w')=>implPick (some ⟨G,0,none⟩) n n X.heap.size ys A' c' rx.length B0 rx w' (HG.out.below (hbw.trans (hb2.mono hbw.size))) (r3.below (H0.out.trans ((hbw.trans (hb2.mono hbw.size)).mono (Nat.le_trans hB0 H0.out.size)))) (Nat.le_trans hbw.size hb2.size) (Nat.le_trans (Nat.le_trans (Nat.le_trans hB0 H0.out.size) hbw.size) hb2.size) (by omega) hxin0);have Hpl:=Lib.hid (pks_length ys rx rx.length);have Hsm:=Lib.hid hsm0;have Hk:=Lib.hid (rv_kind hv1);have Hk2:rk=1\/rk=2\/rk=3\/2<=rx.length:=hk2;obtain ⟨bb,hbb⟩:∃ bb,holdsB rk rvv (pks ys rx rx.length)=bb:=⟨_,rfl⟩
   have Hbb:=Lib.hid hbb;have Hbw:=Lib.hid hbw;have hx1':=Lib.hid hx1;have Hlt:=Lib.hid hlt;have HR:Hid (holdsR ys (rat q u)=bb):=Lib.hid (hHR.trans hbb)
   have HU:=Lib.hid (show ∀ b',bb=b'->(b'=false->holdsQ ys q=false)/\(b'=true->Hid (allR (holdsR ys) q (u+1))) from fun b' e=>⟨fun h=>not_all_rat rfl hltq (by rw [HR.out,e,h]),fun h=>Lib.hid (fun i hi=>by
    by_cases e2:i=u
    ·subst e2;rw [HR.out,e,h]
    ·exact hall.out i (by omega))⟩)
   have Hofk:=Lib.hid (fun w'=>ofKind_any A' c' rx.length rk rvv w');clear hrk hrx hrv hcc hsm0 hbb hv0 hv1 hx hb1 hHR hk2 hxin0 r3 hbX hltq hall hrow0
   rcases Hk.out with rfl|rfl|rfl|rfl|rfl
   ·have M:∀ w,(method 323 183 (.agg #[.int .i64 1,.slice A' rx.length c',.int .i64 rvv]) "loop.example/gridpuzzles/impl.holdsWith").run Tryz.prog w=.ok (220,.agg #[.int .i64 1,.slice A' rx.length c',.int .i64 rvv]) w:=fun w=>mHolds1 _ _ _ _ _ w
    have NA:∀ w,(nilAhead 323 183 (.agg #[.int .i64 1,.slice A' rx.length c',.int .i64 rvv]) "loop.example/gridpuzzles/impl.holdsWith").run Tryz.prog w=.ok (some false) w:=fun w=>nHolds1 _ _ _ _ _ w
    have h2:4<=1->2<=rx.length:=(by omega);have Hofi:ofk 1 (rval 1 A' rx.length c' rvv)=.iface 183 (.agg #[.int .i64 1,.slice A' rx.length c',.int .i64 rvv]):=rfl;rw [Hofi] at Hofk;clear Hofi
    go_wp2_with fail
    go_region_held3 (fun w'=>w'.cell? ⟨wr.heap.size,0,none⟩=some (.int .i64 1)/\w'.cell? ⟨wr.heap.size,1,none⟩=some (.slice A' rx.length c')/\w'.cell? ⟨wr.heap.size,2,none⟩=some (.int .i64 rvv)/\w'.cell? ⟨X.heap.size,0,none⟩=some (.slice (some ⟨G,0,none⟩) n n))
     (first|go_keep|exact HS.out _ h6|exact HS.out _ h3|exact HS.out _ h5)
     ((first
       |(go_simp;go_at_call 220;refine (hold1 _ _ _ _ _ _ _ _ _ _ (by first|exact ho3.rd|exact ho3.rd.below hb5') (by first|exact Nat.le_refl _|exact hb5'.size) hn4 ho3.le_cap Hsm h2).mono ?_;rw [Hbb.out];rintro e w6 ⟨rfl,hb6'⟩;have h6:Below W.heap.size W w6:=(by first|exact step h5 hb6'|exact step h3 hb6'|exact step h5.drew hb6'|exact step h3.drew hb6'))
       |(go_simp;go_at_call 181;refine (HPK.out _ (by first|exact (Below.refl _ _).drew|exact h5|exact h5.drew|exact Below.refl _ _)).mono ?_;rintro e w3 ⟨A3,c3,rfl,ho3,hb3'⟩;rw [Hpl.out] at ho3 ⊢;have h3:Below W.heap.size W w3:=(by first|exact ((Below.refl _ _).drew).trans hb3'|exact step h5 hb3'|exact step h5.drew hb3'|exact hb3'))
       |(go_simp;go_at_call 175;refine (Hofk.out _).mono ?_;rintro e w5 ⟨rfl,hb5'⟩;have h5:Below W.heap.size W w5:=(by first|exact ((Below.refl _ _).drew).trans hb5'|exact step h3 hb5'|exact step h3.drew hb5'|exact hb5'))))
    all_goals
     cases bb
     ·have HF:=Lib.hid ((HU.out false rfl).1 rfl)
      go_wp2
      go_ret
      exact ⟨by rw [HF.out];rfl,step Hbw.out h6⟩
     ·have HT:=(HU.out true rfl).2 rfl
      go_wp2
      go_roundw
      case rel=>exact ⟨u+1,Hlt.out,by go_num,HT,hx1'.out.below hs1 h6,step Hbw.out h6,Nat.le_trans hs1 h6.size⟩
      case measure=>have:=Hlt.out;simp [intOf];omega
   ·have M:∀ w,(method 323 184 (.agg #[.int .i64 2,.slice A' rx.length c',.int .i64 rvv]) "loop.example/gridpuzzles/impl.holdsWith").run Tryz.prog w=.ok (222,.agg #[.int .i64 2,.slice A' rx.length c',.int .i64 rvv]) w:=fun w=>mHolds2 _ _ _ _ _ w
    have NA:∀ w,(nilAhead 323 184 (.agg #[.int .i64 2,.slice A' rx.length c',.int .i64 rvv]) "loop.example/gridpuzzles/impl.holdsWith").run Tryz.prog w=.ok (some false) w:=fun w=>nHolds2 _ _ _ _ _ w
    have h2:4<=2->2<=rx.length:=(by omega);have Hofi:ofk 2 (rval 2 A' rx.length c' rvv)=.iface 184 (.agg #[.int .i64 2,.slice A' rx.length c',.int .i64 rvv]):=rfl;rw [Hofi] at Hofk;clear Hofi
    go_wp2_with fail
    go_region_held3 (fun w'=>w'.cell? ⟨wr.heap.size,0,none⟩=some (.int .i64 2)/\w'.cell? ⟨wr.heap.size,1,none⟩=some (.slice A' rx.length c')/\w'.cell? ⟨wr.heap.size,2,none⟩=some (.int .i64 rvv)/\w'.cell? ⟨X.heap.size,0,none⟩=some (.slice (some ⟨G,0,none⟩) n n))
     (first|go_keep|exact HS.out _ h6|exact HS.out _ h3|exact HS.out _ h5)
     ((first
       |(go_simp;go_at_call 222;refine (hold2 _ _ _ _ _ _ _ _ _ _ (by first|exact ho3.rd|exact ho3.rd.below hb5') (by first|exact Nat.le_refl _|exact hb5'.size) hn4 ho3.le_cap Hsm h2).mono ?_;rw [Hbb.out];rintro e w6 ⟨rfl,hb6'⟩;have h6:Below W.heap.size W w6:=(by first|exact step h5 hb6'|exact step h3 hb6'|exact step h5.drew hb6'|exact step h3.drew hb6'))
       |(go_simp;go_at_call 181;refine (HPK.out _ (by first|exact (Below.refl _ _).drew|exact h5|exact h5.drew|exact Below.refl _ _)).mono ?_;rintro e w3 ⟨A3,c3,rfl,ho3,hb3'⟩;rw [Hpl.out] at ho3 ⊢;have h3:Below W.heap.size W w3:=(by first|exact ((Below.refl _ _).drew).trans hb3'|exact step h5 hb3'|exact step h5.drew hb3'|exact hb3'))
       |(go_simp;go_at_call 175;refine (Hofk.out _).mono ?_;rintro e w5 ⟨rfl,hb5'⟩;have h5:Below W.heap.size W w5:=(by first|exact ((Below.refl _ _).drew).trans hb5'|exact step h3 hb5'|exact step h3.drew hb5'|exact hb5'))))
    all_goals
     cases bb
     ·have HF:=Lib.hid ((HU.out false rfl).1 rfl)
      go_wp2
      go_ret
      exact ⟨by rw [HF.out];rfl,step Hbw.out h6⟩
     ·have HT:=(HU.out true rfl).2 rfl
      go_wp2
      go_roundw
      case rel=>exact ⟨u+1,Hlt.out,by go_num,HT,hx1'.out.below hs1 h6,step Hbw.out h6,Nat.le_trans hs1 h6.size⟩
      case measure=>have:=Hlt.out;simp [intOf];omega
   ·have M:∀ w,(method 323 185 (.agg #[.int .i64 3,.slice A' rx.length c',.int .i64 rvv]) "loop.example/gridpuzzles/impl.holdsWith").run Tryz.prog w=.ok (225,.agg #[.int .i64 3,.slice A' rx.length c',.int .i64 rvv]) w:=fun w=>mHolds3 _ _ _ _ _ w
    have NA:∀ w,(nilAhead 323 185 (.agg #[.int .i64 3,.slice A' rx.length c',.int .i64 rvv]) "loop.example/gridpuzzles/impl.holdsWith").run Tryz.prog w=.ok (some false) w:=fun w=>nHolds3 _ _ _ _ _ w
    have h2:4<=3->2<=rx.length:=(by omega);have Hofi:ofk 3 (rval 3 A' rx.length c' rvv)=.iface 185 (.agg #[.int .i64 3,.slice A' rx.length c',.int .i64 rvv]):=rfl;rw [Hofi] at Hofk;clear Hofi
    go_wp2_with fail
    go_region_held3 (fun w'=>w'.cell? ⟨wr.heap.size,0,none⟩=some (.int .i64 3)/\w'.cell? ⟨wr.heap.size,1,none⟩=some (.slice A' rx.length c')/\w'.cell? ⟨wr.heap.size,2,none⟩=some (.int .i64 rvv)/\w'.cell? ⟨X.heap.size,0,none⟩=some (.slice (some ⟨G,0,none⟩) n n))
     (first|go_keep|exact HS.out _ h6|exact HS.out _ h3|exact HS.out _ h5)
     ((first
       |(go_simp;go_at_call 225;refine (hold3 _ _ _ _ _ _ _ _ _ _ (by first|exact ho3.rd|exact ho3.rd.below hb5') (by first|exact Nat.le_refl _|exact hb5'.size) hn4 ho3.le_cap Hsm h2).mono ?_;rw [Hbb.out];rintro e w6 ⟨rfl,hb6'⟩;have h6:Below W.heap.size W w6:=(by first|exact step h5 hb6'|exact step h3 hb6'|exact step h5.drew hb6'|exact step h3.drew hb6'))
       |(go_simp;go_at_call 181;refine (HPK.out _ (by first|exact (Below.refl _ _).drew|exact h5|exact h5.drew|exact Below.refl _ _)).mono ?_;rintro e w3 ⟨A3,c3,rfl,ho3,hb3'⟩;rw [Hpl.out] at ho3 ⊢;have h3:Below W.heap.size W w3:=(by first|exact ((Below.refl _ _).drew).trans hb3'|exact step h5 hb3'|exact step h5.drew hb3'|exact hb3'))
       |(go_simp;go_at_call 175;refine (Hofk.out _).mono ?_;rintro e w5 ⟨rfl,hb5'⟩;have h5:Below W.heap.size W w5:=(by first|exact ((Below.refl _ _).drew).trans hb5'|exact step h3 hb5'|exact step h3.drew hb5'|exact hb5'))))
    all_goals
     cases bb
     ·have HF:=Lib.hid ((HU.out false rfl).1 rfl)
      go_wp2
      go_ret
      exact ⟨by rw [HF.out];rfl,step Hbw.out h6⟩
     ·have HT:=(HU.out true rfl).2 rfl
      go_wp2
      go_roundw
      case rel=>exact ⟨u+1,Hlt.out,by go_num,HT,hx1'.out.below hs1 h6,step Hbw.out h6,Nat.le_trans hs1 h6.size⟩
      case measure=>have:=Hlt.out;simp [intOf];omega
   ·have M:∀ w,(method 323 186 (.agg #[.int .i64 4,.slice A' rx.length c',.int .i64 rvv]) "loop.example/gridpuzzles/impl.holdsWith").run Tryz.prog w=.ok (227,.agg #[.int .i64 4,.slice A' rx.length c',.int .i64 rvv]) w:=fun w=>mHolds4 _ _ _ _ _ w
    have NA:∀ w,(nilAhead 323 186 (.agg #[.int .i64 4,.slice A' rx.length c',.int .i64 rvv]) "loop.example/gridpuzzles/impl.holdsWith").run Tryz.prog w=.ok (some false) w:=fun w=>nHolds4 _ _ _ _ _ w
    have h2:4<=4->2<=rx.length:=(by omega);have Hofi:ofk 4 (rval 4 A' rx.length c' rvv)=.iface 186 (.agg #[.int .i64 4,.slice A' rx.length c',.int .i64 rvv]):=rfl;rw [Hofi] at Hofk;clear Hofi
    go_wp2_with fail
    go_region_held3 (fun w'=>w'.cell? ⟨wr.heap.size,0,none⟩=some (.int .i64 4)/\w'.cell? ⟨wr.heap.size,1,none⟩=some (.slice A' rx.length c')/\w'.cell? ⟨wr.heap.size,2,none⟩=some (.int .i64 rvv)/\w'.cell? ⟨X.heap.size,0,none⟩=some (.slice (some ⟨G,0,none⟩) n n))
     (first|go_keep|exact HS.out _ h6|exact HS.out _ h3|exact HS.out _ h5)
     ((first
       |(go_simp;go_at_call 227;refine (hold4 _ _ _ _ _ _ _ _ _ _ (by first|exact ho3.rd|exact ho3.rd.below hb5') (by first|exact Nat.le_refl _|exact hb5'.size) hn4 ho3.le_cap Hsm h2).mono ?_;rw [Hbb.out];rintro e w6 ⟨rfl,hb6'⟩;have h6:Below W.heap.size W w6:=(by first|exact step h5 hb6'|exact step h3 hb6'|exact step h5.drew hb6'|exact step h3.drew hb6'))
       |(go_simp;go_at_call 181;refine (HPK.out _ (by first|exact (Below.refl _ _).drew|exact h5|exact h5.drew|exact Below.refl _ _)).mono ?_;rintro e w3 ⟨A3,c3,rfl,ho3,hb3'⟩;rw [Hpl.out] at ho3 ⊢;have h3:Below W.heap.size W w3:=(by first|exact ((Below.refl _ _).drew).trans hb3'|exact step h5 hb3'|exact step h5.drew hb3'|exact hb3'))
       |(go_simp;go_at_call 175;refine (Hofk.out _).mono ?_;rintro e w5 ⟨rfl,hb5'⟩;have h5:Below W.heap.size W w5:=(by first|exact ((Below.refl _ _).drew).trans hb5'|exact step h3 hb5'|exact step h3.drew hb5'|exact hb5'))))
    all_goals
     cases bb
     ·have HF:=Lib.hid ((HU.out false rfl).1 rfl)
      go_wp2
      go_ret
      exact ⟨by rw [HF.out];rfl,step Hbw.out h6⟩
     ·have HT:=(HU.out true rfl).2 rfl
      go_wp2
      go_roundw
      case rel=>exact ⟨u+1,Hlt.out,by go_num,HT,hx1'.out.below hs1 h6,step Hbw.out h6,Nat.le_trans hs1 h6.size⟩
      case measure=>have:=Hlt.out;simp [intOf];omega
   ·have M:∀ w,(method 323 187 (.agg #[.int .i64 5,.slice A' rx.length c',.int .i64 rvv]) "loop.example/gridpuzzles/impl.holdsWith").run Tryz.prog w=.ok (229,.agg #[.int .i64 5,.slice A' rx.length c',.int .i64 rvv]) w:=fun w=>mHolds5 _ _ _ _ _ w
    have NA:∀ w,(nilAhead 323 187 (.agg #[.int .i64 5,.slice A' rx.length c',.int .i64 rvv]) "loop.example/gridpuzzles/impl.holdsWith").run Tryz.prog w=.ok (some false) w:=fun w=>nHolds5 _ _ _ _ _ w
    have h2:4<=5->2<=rx.length:=(by omega);have Hofi:ofk 5 (rval 5 A' rx.length c' rvv)=.iface 187 (.agg #[.int .i64 5,.slice A' rx.length c',.int .i64 rvv]):=rfl;rw [Hofi] at Hofk;clear Hofi
    go_wp2_with fail
    go_region_held3 (fun w'=>w'.cell? ⟨wr.heap.size,0,none⟩=some (.int .i64 5)/\w'.cell? ⟨wr.heap.size,1,none⟩=some (.slice A' rx.length c')/\w'.cell? ⟨wr.heap.size,2,none⟩=some (.int .i64 rvv)/\w'.cell? ⟨X.heap.size,0,none⟩=some (.slice (some ⟨G,0,none⟩) n n))
     (first|go_keep|exact HS.out _ h6|exact HS.out _ h3|exact HS.out _ h5)
     ((first
       |(go_simp;go_at_call 229;refine (hold5 _ _ _ _ _ _ _ _ _ _ (by first|exact ho3.rd|exact ho3.rd.below hb5') (by first|exact Nat.le_refl _|exact hb5'.size) hn4 ho3.le_cap Hsm h2).mono ?_;rw [Hbb.out];rintro e w6 ⟨rfl,hb6'⟩;have h6:Below W.heap.size W w6:=(by first|exact step h5 hb6'|exact step h3 hb6'|exact step h5.drew hb6'|exact step h3.drew hb6'))
       |(go_simp;go_at_call 181;refine (HPK.out _ (by first|exact (Below.refl _ _).drew|exact h5|exact h5.drew|exact Below.refl _ _)).mono ?_;rintro e w3 ⟨A3,c3,rfl,ho3,hb3'⟩;rw [Hpl.out] at ho3 ⊢;have h3:Below W.heap.size W w3:=(by first|exact ((Below.refl _ _).drew).trans hb3'|exact step h5 hb3'|exact step h5.drew hb3'|exact hb3'))
       |(go_simp;go_at_call 175;refine (Hofk.out _).mono ?_;rintro e w5 ⟨rfl,hb5'⟩;have h5:Below W.heap.size W w5:=(by first|exact ((Below.refl _ _).drew).trans hb5'|exact step h3 hb5'|exact step h3.drew hb5'|exact hb5'))))
    all_goals
     cases bb
     ·have HF:=Lib.hid ((HU.out false rfl).1 rfl)
      go_wp2
      go_ret
      exact ⟨by rw [HF.out];rfl,step Hbw.out h6⟩
     ·have HT:=(HU.out true rfl).2 rfl
      go_wp2
      go_roundw
      case rel=>exact ⟨u+1,Hlt.out,by go_num,HT,hx1'.out.below hs1 h6,step Hbw.out h6,Nat.le_trans hs1 h6.size⟩
      case measure=>have:=Hlt.out;simp [intOf];omega
  ·obtain rfl:u=l:=by omega
   have HL:=Lib.hid (show holdsQ ys q=true from all_rat Hl.out.symm hall.out)
   go_wp2
   go_ret
   exact ⟨by rw [HL.out];rfl,hb⟩
end Go.Proofs.YtkeoflnmbcdmfaaGreatDoor
namespace Go.Proofs.YtkeoflnmbcdmfaaGreatDoor
open Go.ChangeShapes Go.WideShapes Go.ChangeAt Go.RowKit
theorem wpList_load_row_w {P:Program} {ops:Array Oper} {rest:List Oper} {o:Oper} {a:Act} {w:World} {Q:Exit->Act->World->Prop} (hw:Region.wanted o (yielded ops a.tmps)=true) (ty:TypeId) (x:Operand) (ho:o.op=.load ty x)
 (g:Nat) (hx:a.eval x=.pointer (some ⟨g,0,none⟩)) (t:TypeId) (cs:Array Value) (fr:Nat×Nat) (d:TypeDesc) (hg:w.heap[g]? =some (.cells cs t fr))
 (hu:P.underlying ty=some d) (hd:(match d with|.struct _|.array _ _=>true|_=>false)=true) (hi:(P.info? ty).map (·.size)=some cs.size)
 (h:wpList P ops Q rest (a.put o.dst (.agg cs)) w):wpList P ops Q (o::rest) a w:=
 wpList_step fun K hK=>by simp only [hw,if_true];exact wp_load_row ty x ho g hx t cs fr d hg hu hd hi (hK _ _ h)
def mcells (M:Nat->Nat) (s:Int):Array Value:= #[.int .i64 (M 0),.int .i64 (M 1),.int .i64 (M 2),.int .i64 (M 3),.int .i64 (M 4),.int .i64 (M 5),.int .i64 (M 6),.int .i64 (M 7),.int .i64 s]
theorem mcells_size (M:Nat->Nat) (s:Int):(mcells M s).size=9:=rfl
theorem mcell_at (M:Nat->Nat) (s:Int) {l:Nat} (hl:l<8):(mcells M s)[l]? =some (.int .i64 (M l)):=by
 have:l=0\/l=1\/l=2\/l=3\/l=4\/l=5\/l=6\/l=7:=by omega
 rcases this with rfl|rfl|rfl|rfl|rfl|rfl|rfl|rfl<;>rfl
theorem mbox_cell (M:Nat->Nat) (s:Int) (w:World) {l:Nat} (hl:l<8):(w.alloc (.cells (mcells M s) 81)).cell? ⟨w.heap.size,l,none⟩=some (.int .i64 (M l)):=
 (cell_of_row _ _ l _ _ (0,0) (heap_alloc_new w _)).trans (mcell_at M s hl)
theorem mbox_size (M:Nat->Nat) (s:Int) (w:World):(w.alloc (.cells (mcells M s) 81)).cell? ⟨w.heap.size,8,none⟩=some (.int .i64 s):=
 (cell_of_row _ _ 8 _ _ (0,0) (heap_alloc_new w _)).trans rfl
theorem linesThrough_any (s cell:Int) (w:World) (h2:2<=s) (h4:s<=4) (c0:0<=cell) (c1:cell<16):
 Calls Tryz.prog 160 #[.int .i64 s,.int .i64 cell] w fun e w'=>e=.returned (.tuple #[.int .i64 (cell/s),.int .i64 (s+cell%s)])/\Below w.heap.size w w':=by
 have q0:0<=cell/s:=Int.ediv_nonneg c0 (by omega);have q1:cell/s<=cell:=Int.ediv_le_self _ c0;have r0:0<=cell%s:=Int.emod_nonneg _ (by omega);have r1:cell%s<s:=Int.emod_lt_of_pos _ (by omega);have e1:cell.tmod s=cell%s:=Int.tmod_eq_emod_of_nonneg c0;have e2:cell.tdiv s=cell/s:=Int.tdiv_eq_ediv_of_nonneg c0;have e3:IntKind.i64.wrap (cell/s)=cell/s:=IntWalk.i64_in _ (by omega);have e4:IntKind.i64.wrap (s+cell%s)=s+cell%s:=IntWalk.i64_in _ (by omega)
 have hz:(s==0)=false:=by simp;omega
 go_enter Tryz.func160,Tryz.ntmps160
 go_wp2
 go_quiet (fail)
 go_wp2
 go_ret2
 exact ⟨rfl,below_drewN (Below.refl _ _) _⟩
theorem or_pow (a v:Nat) (ha:a<32) (hv:v<=4):bits .or .i64 (a:Int) (wrap64 (2^v))=((a|||2^v:Nat):Int):=by
 have hlt:2^v<2^5:=Nat.pow_lt_pow_right (by omega) (by omega);rw [pow_int]
 generalize 2^v=p at*
 rw [IntWalk.wrap64_in _ ⟨by omega,by omega⟩,i64_or_nat _ _ (by omega) (by omega)]
theorem or_lt (a v:Nat) (ha:a<32) (hv:v<=4):a|||2^v<32:=
 Nat.or_lt_two_pow (n:=5) ha (Nat.pow_lt_pow_right (by omega) (by omega))
theorem has_any (M:Nat->Nat) (s:Int) (l v:Nat) (w:World) (hl:l<8) (v4:v<=4) (hm:M l<32):
 Calls Tryz.prog 161 #[.agg (mcells M s),.int .i64 l,.int .i64 v] w fun e w'=>e=.returned (.bool ((M l).testBit v))/\Below w.heap.size w w':=by
 have hc:=mbox_cell M s w hl
 have hl8:(l:Int)<8:=by omega
 have ha:=Lib.hid (and_pow (M l) v hm v4)
 go_enter Tryz.func161,Tryz.ntmps161
 go_wp2
 go_quiet (fail)
 go_wp2
 go_ret
 exact ⟨by rw [<- ha.out];rfl,below_drewN ((Below.refl _ _).alloc (Nat.le_refl _) _) _⟩
def mput (M:Nat->Nat) (l v:Nat):Nat->Nat:=fun j=>if j=l then M j|||2^v else M j
theorem mput_lt {M:Nat->Nat} {l v:Nat} (hm:∀ l,l<8->M l<32) (hv:v<=4):∀ j,j<8->mput M l v j<32:=fun j hj=>by
 unfold mput
 split
 ·exact or_lt _ _ (hm j hj) hv
 ·exact hm j hj
theorem mcells_set (M:Nat->Nat) (s:Int) {l v:Nat} (hl:l<8):(mcells M s).setIfInBounds l (.int .i64 ((M l|||2^v:Nat):Int))=mcells (mput M l v) s:=by
 have:l=0\/l=1\/l=2\/l=3\/l=4\/l=5\/l=6\/l=7:=by omega
 rcases this with rfl|rfl|rfl|rfl|rfl|rfl|rfl|rfl<;>rfl
def MBox (w:World) (g:Nat) (M:Nat->Nat) (s:Int):Prop:=w.heap[g]? =some (.cells (mcells M s) 81)
theorem MBox.cell {w:World} {g:Nat} {M:Nat->Nat} {s:Int} (h:MBox w g M s) {l:Nat} (hl:l<8):w.cell? ⟨g,l,none⟩=some (.int .i64 (M l)):=
 (cell_of_row _ _ l _ _ (0,0) h).trans (mcell_at M s hl)
theorem MBox.size_ {w:World} {g:Nat} {M:Nat->Nat} {s:Int} (h:MBox w g M s):w.cell? ⟨g,8,none⟩=some (.int .i64 s):=
 (cell_of_row _ _ 8 _ _ (0,0) h).trans rfl
theorem MBox.frozen {w:World} {g:Nat} {M:Nat->Nat} {s:Int} (h:MBox w g M s) (l:Nat):w.frozen? ⟨g,l,none⟩=false:=by
 unfold World.frozen?;rw [show w.heap[g]? =_ from h]
 simp
theorem MBox.set {w:World} {g:Nat} {M:Nat->Nat} {s:Int} (h:MBox w g M s) {l v:Nat} (hl:l<8):MBox (w.setCell ⟨g,l,none⟩ (.int .i64 ((M l|||2^v:Nat):Int))) g (mput M l v) s:=by
 unfold MBox;rw [heap_setCell_same w g l _ _ _ h,<-mcells_set M s hl]
theorem MBox.below {w w':World} {g B:Nat} {M:Nat->Nat} {s:Int} (h:MBox w g M s) (hg:g<B) (hb:Below B w w'):MBox w' g M s:=(hb.block g hg).trans h
theorem MBox.other {w:World} {g g' k:Nat} {v:Value} {M:Nat->Nat} {s:Int} (h:MBox w g M s) (hne:g≠g'):MBox (w.setCell ⟨g',k,none⟩ v) g M s:=(heap_setCell_other w _ g v hne).trans h
theorem MBox.stored {w:World} {g:Nat} {M M':Nat->Nat} {s s':Int} (h:MBox w g M s):MBox (w.setRow g (mcells M' s')) g M' s':=setRow_heap w g _ _ _ _ h
theorem setRow_below {B g:Nat} {w w':World} {cs:Array Value} (h:Below B w w') (hg:B<=g):Below B w (w'.setRow g cs):=
 h.trans ⟨rfl,rfl,rfl,by simp,fun k hk=>by unfold World.setRow;simp only [Array.getElem?_modify];rw [if_neg (by omega)]⟩
theorem mone (M:Nat->Nat) (s:Int):(mcells M s).all (·.oneCell')=true:=by simp [mcells,Value.oneCell']
theorem linesThrough_rc (s:Int) (cell r c:Nat) (w:World) (h2:2<=s) (h4:s<=4) (c1:cell<16) (hr:(cell:Int)/s=(r:Int)) (hc:s+(cell:Int)%s=(c:Int)):
 Calls Tryz.prog 160 #[.int .i64 s,.int .i64 cell] w fun e w'=>e=.returned (.tuple #[.int .i64 r,.int .i64 c])/\Below w.heap.size w w':=by
 rw [<- hr,<-hc];exact linesThrough_any s cell w h2 h4 (by omega) (by omega)
theorem with_any (M:Nat->Nat) (s:Int) (cell r c v:Nat) (w:World) (h2:2<=s) (h4:s<=4) (hr:(cell:Int)/s=(r:Int)) (hc:s+(cell:Int)%s=(c:Int)) (r8:r<8) (c8:c<8) (c2:cell<16) (v4:v<=4) (hm:∀ l,l<8->M l<32):
 Calls Tryz.prog 122 #[.agg (mcells M s),.int .i64 cell,.int .i64 v] w fun e w'=>e=.returned (.agg (mcells (mput (mput M r v) c v) s))/\Below w.heap.size w w':=by
 have hg0:∀ o,((w.alloc (.cells (mcells M s) 81)).alloc o).heap[w.heap.size]? =some (.cells (mcells M s) 81):=fun o=>by rw [heap_alloc_old _ _ (by simp)];exact heap_alloc_new w _
 have hz0:∀ u:World,MBox (u.alloc (.cells #[.int .i64 0,.int .i64 0,.int .i64 0,.int .i64 0,.int .i64 0,.int .i64 0,.int .i64 0,.int .i64 0,.int .i64 0] 81)) u.heap.size (fun _=>0) 0:=fun u=>heap_alloc_new u _
 have Hz0:=Lib.hid hz0;clear hz0
 have hi9:(Tryz.prog.info? 81).map (·.size)=some (mcells M s).size:=by rw [mcells_size];kernel_rfl
 have Hg0:=Lib.hid hg0;clear hg0;have Hi9:=Lib.hid hi9;clear hi9;have Hr:=Lib.hid hr;clear hr;have Hc:=Lib.hid hc;clear hc
 go_enter Tryz.func122,Tryz.ntmps122
 have hs8:∀ o,((w.alloc (.cells (mcells M s) 81)).alloc o).cell? ⟨w.heap.size,8,none⟩=some (.int .i64 s):=fun o=>MBox.size_ (Hg0.out o)
 go_wp2_with (go_at_call 160;refine (linesThrough_rc s cell r c _ h2 h4 c2 Hr.out Hc.out).mono ?_;rintro e w1 ⟨rfl,hb1⟩)
 have hx1:MBox w1 w.heap.size M s:=MBox.below (Hg0.out _) (by simp;omega) hb1;have hy1:MBox w1 (w.heap.size+1) (fun _=>0) 0:=MBox.below (by have:=Hz0.out (w.alloc (.cells (mcells M s) 81));rwa [World.size_alloc] at this) (by simp) hb1
 have hsz1:w.heap.size+2<=w1.heap.size:=by have:=hb1.size;simp at this;omega
 have hB1:Below w.heap.size w w1:=(((Below.refl _ _).alloc (Nat.le_refl _) _).alloc (by simp) _).trans (hb1.mono (by simp;omega));have hk1:=hx1.cell r8;have hf1:=hx1.frozen r
 have hr8:(r:Int)<8:=by omega
 have hc8:(c:Int)<8:=by omega
 have ho1:=or_pow (M r) v (hm r r8) v4
 go_region
 go_wp2
 obtain ⟨w2,hw2⟩:∃ w2,w2=(w1.setCell ⟨w.heap.size,r,none⟩ (.int .i64 ((M r|||2^v:Nat):Int))).drew:=⟨_,rfl⟩;rw [<- hw2]
 have hx2:MBox w2 w.heap.size (mput M r v) s:=by rw [hw2];exact hx1.set r8
 have hy2:MBox w2 (w.heap.size+1) (fun _=>0) 0:=by rw [hw2];exact hy1.other (by omega)
 have hsz2:w.heap.size+2<=w2.heap.size:=by rw [hw2];simp;omega
 have hB2:Below w.heap.size w w2:=by rw [hw2];exact below_drewN (hB1.setCell (Nat.le_refl _) _) 1
 clear hw2 hk1 hf1 ho1;have hk2:=hx2.cell c8;have hf2:=hx2.frozen c;have ho2:=or_pow (mput M r v c) v (mput_lt hm v4 c c8) v4;have hx3:=hx2.set (v:=v) c8
 have hsz3:w.heap.size+1<((w2.setCell ⟨w.heap.size,c,none⟩ (.int .i64 ((mput M r v c|||2^v:Nat):Int))).drew).heap.size:=by simp;omega
 have hB3:=below_drewN (Below.setCell (p:=(⟨w.heap.size,c,none⟩:Addr)) hB2 (Nat.le_refl _) (.int .i64 ((mput M r v c|||2^v:Nat):Int))) 1;have Hx3:=Lib.hid hx3;clear hx3;have hy3:=hy2.other (k:=c) (v:=(.int .i64 ((mput M r v c|||2^v:Nat):Int))) (show w.heap.size+1≠w.heap.size by omega);have Hy3:=Lib.hid hy3;clear hy3;have Hi9':Hid ((Tryz.prog.info? 81).map (·.size)=some (mcells (mput (mput M r v) c v) s).size):=Hi9
 go_region
 go_wp2_with (first|(refine wpList_load_row rfl 81 _ rfl w.heap.size rfl 81 (mcells (mput (mput M r v) c v) s) (0,0) _ Hx3.out Tryz.underlying81 rfl Hi9'.out ?_)|(refine wpList_store_row rfl 81 _ _ rfl (w.heap.size+1) (mcells (mput (mput M r v) c v) s) rfl rfl 81 (mcells (fun _=>0) 0) Hy3.out Hi9'.out rfl (mone _ _) ?_))
 refine bodyPost_ret (v:=.agg (mcells (mput (mput M r v) c v) s)) (results_cell_row (by rfl) _ _ (w.heap.size+1) 81 _ (0,0) _ rfl (MBox.stored Hy3.out) Tryz.underlying81 rfl Hi9'.out) rfl ⟨rfl,setRow_below hB3 (by omega)⟩
theorem meets_any (M:Nat->Nat) (s:Int) (cell r c v:Nat) (w:World) (h2:2<=s) (h4:s<=4) (hr:(cell:Int)/s=(r:Int)) (hc:s+(cell:Int)%s=(c:Int)) (r8:r<8) (c8:c<8) (c2:cell<16) (v4:v<=4) (hm:∀ l,l<8->M l<32):
 Calls Tryz.prog 121 #[.agg (mcells M s),.int .i64 cell,.int .i64 v] w fun e w'=>e=.returned (.bool ((M r).testBit v||(M c).testBit v))/\Below w.heap.size w w':=by
 have hi9:(Tryz.prog.info? 81).map (·.size)=some (mcells M s).size:=by rw [mcells_size];kernel_rfl
 have Hi9:=Lib.hid hi9;clear hi9;have Hr:=Lib.hid hr;clear hr;have Hc:=Lib.hid hc;clear hc;have Hm1:=Lib.hid (hm r r8);have Hm2:=Lib.hid (hm c c8);have Hg0:=Lib.hid (heap_alloc_new w (.cells (mcells M s) 81));have hB0:Below w.heap.size w (w.alloc (.cells (mcells M s) 81)):=(Below.refl _ _).alloc (Nat.le_refl _) _;have hs8:=MBox.size_ Hg0.out;cases hbr:(M r).testBit v
 all_goals
  go_enter Tryz.func121,Tryz.ntmps121
  go_wp2_with (first|(refine wpList_load_row rfl 81 _ rfl w.heap.size rfl 81 (mcells M s) (0,0) _ hx1.out Tryz.underlying81 rfl Hi9.out ?_)|(go_at_call 160;refine (linesThrough_rc s cell r c _ h2 h4 c2 Hr.out Hc.out).mono ?_;rintro e w1 ⟨rfl,hb1⟩;have hx1:=Lib.hid (MBox.below Hg0.out (by simp) hb1);have hB1:=step hB0 hb1;clear hb1))
  refine (has_any M s r v _ r8 v4 Hm1.out).mono ?_;rintro e w2 ⟨rfl,hb2⟩;have hx2:=Lib.hid (MBox.below hx1.out (by have:=hB1.size;have:=hx1.out;exact (Array.getElem?_eq_some_iff.1 this).1) hb2);have hB2:=step hB1 hb2;clear hb2
  go_wp2_with (first|(refine wpList_load_row_w rfl 81 _ rfl w.heap.size rfl 81 (mcells M s) (0,0) _ hx2.out Tryz.underlying81 rfl Hi9.out ?_)|(go_at_call 161;refine (has_any M s c v _ c8 v4 Hm2.out).mono ?_;rintro e w3 ⟨rfl,hb3⟩;have hB3:=step hB2 hb3;clear hb3))
  go_ret
  exact ⟨rfl,by assumption⟩
end Go.Proofs.YtkeoflnmbcdmfaaGreatDoor
set_option maxRecDepth 8000
namespace Go.Proofs.YtkeoflnmbcdmfaaGreatDoor
open Go.ChangeShapes Go.WideShapes Go.ChangeAt Go.RowKit
theorem low_idx:∀ p,p<16->IntKind.u64.wrap (((2^p:Nat):Int)*285870213051353865)/288230376151711744=((tzI.getD p 0:Nat):Int)/\tzI.getD p 0<64:=by decide +kernel
theorem tz64_any (L p:Nat) (w:World) (hL:L<2^64) (hb:L.testBit p=true) (h0:∀ j,j<p->L.testBit j=false) (hp:p<16) (hT:Tz w):
 Calls Tryz.prog 166 #[.int .u64 L] w fun e w'=>e=.returned (.int .i64 p)/\w=w':=by
 have hpos:0<L:=by
  rcases Nat.eq_zero_or_pos L with h|h
  ·rw [h,Nat.zero_testBit] at hb;cases hb
  ·exact h
 obtain ⟨k1,k2⟩:=low_idx p hp;refine tz64_core L p (tzI.getD p 0) w (by simp;omega) ?_ k2 (by omega) (hT p hp)
 have e:IntKind.u64.wrap (-(L:Int))=((2^64-L:Nat):Int):=by
  rw [IntKind.wrap_u64];omega
 rw [e,bits_and_u64_nat L (2^64-L) (by omega) (by omega),low_and hL hb h0 (by omega)];exact k1
theorem pow_u64 {a:Nat} (h:a<64):IntKind.u64.wrap ((2:Int)^a)=((2^a:Nat):Int):=by
 have:2^a<2^64:=Nat.pow_lt_pow_right (by omega) h;rw [IntKind.wrap_u64,pow_int]
 generalize 2^a=p at*
 omega
theorem items_core (S:Int) (r q c v a b:Nat) (w:World) (hS:S=2\/S=3\/S=4) (hr:(c:Int)/S=r) (hq:S+(c:Int)%S=q) (ha:(S+r)*S+v-1=a) (hb:(S+q)*S+v-1=b) (hc:c<16) (ha48:a<48) (hb48:b<48) (hr8:r<8) (hq8:q<8) (hv:v<=4):
 Calls Tryz.prog 164 #[.int .i64 S,.int .i64 c,.int .i64 v] w fun e w'=>e=.returned (.int .u64 ((2^c|||2^a|||2^b:Nat):Int))/\Below w.heap.size w w':=by
 have pc:2^c<2^64:=Nat.pow_lt_pow_right (by omega) (by omega);have pa:2^a<2^64:=Nat.pow_lt_pow_right (by omega) (by omega);have pb:2^b<2^64:=Nat.pow_lt_pow_right (by omega) (by omega);have o1:=Lib.hid (bits_or_u64_nat (2^c) (2^a) (by omega) (by omega));have o2:=Lib.hid (bits_or_u64_nat (2^c|||2^a) (2^b) (by have:=Nat.or_lt_two_pow pc pa;omega) (by omega));have Pc:=Lib.hid (pow_u64 (a:=c) (by omega));have Pa:=Lib.hid (pow_u64 (a:=a) (by omega));have Pb:=Lib.hid (pow_u64 (a:=b) (by omega));have HL:=Lib.hid (linesThrough_rc S c r q w (by omega) (by omega) hc hr hq)
 clear pc pa pb hr hq
 rcases hS with rfl|rfl|rfl
 all_goals
  have Ha:=Lib.hid ha;have Hb:=Lib.hid hb;have ea:IntKind.i64.wrap ((a:Int))=a:=IntWalk.i64_in _ (by omega);clear ha hb
  go_enter Tryz.func164,Tryz.ntmps164
  go_wp2_with (go_at_call 160;refine HL.out.mono ?_;rintro e w1 ⟨rfl,hb1⟩)
  rw [Ha.out,Hb.out]
  go_quiet (fail)
  go_wp2
  go_ret
  refine ⟨?_,below_drewN hb1 _⟩
  show Ending.returned (.int .u64 (bits .or .u64 (bits .or .u64 (IntKind.u64.wrap (2^c)) (IntKind.u64.wrap (2^a))) (IntKind.u64.wrap (2^b))))=_
  rw [Pc.out,Pa.out,Pb.out,o1.out,o2.out]
theorem itemsOf_any (s c v:Nat) (w:World) (hs:s∈[2,3,4]) (hc:c<s*s) (v1:1<=v) (v2:v<=s):
 Calls Tryz.prog 164 #[.int .i64 s,.int .i64 c,.int .i64 v] w fun e w'=>e=.returned (.int .u64 ((itN s c v:Nat):Int))/\Below w.heap.size w w':=by
 refine items_core s (c/s) (s+c%s) c v ((s+c/s)*s+v-1) ((s+(s+c%s))*s+v-1) w ?_ (by simp) (by simp) ?_ ?_ ?_ ?_ ?_ ?_ ?_ ?_
 all_goals
  simp only [List.mem_cons,List.not_mem_nil,or_false] at hs
  rcases hs with rfl|rfl|rfl<;>omega
theorem allItems_any (s:Nat) (w:World) (hs:s∈[2,3,4]):
 Calls Tryz.prog 126 #[.int .i64 s] w fun e w'=>e=.returned (.int .u64 ((2^(3*s*s)-1:Nat):Int))/\w=w':=by
 simp only [List.mem_cons,List.not_mem_nil,or_false] at hs
 rcases hs with rfl|rfl|rfl
 all_goals
  go_enter Tryz.func126,Tryz.ntmps126
  go_wp2
  go_ret
  exact ⟨by kernel_rfl,rfl⟩
theorem max_any (A:Option Addr) (n c B:Nat) (xs:List Int) (w:World) (h:Rd w B A n xs) (hn:0<n) (hm:n<=1099511627776) (hx:∀ i,i<n->0<=nth xs i/\nth xs i<16):
 Calls Tryz.prog 165 #[.slice A n c] w fun e w'=>e=.returned (.int .i64 ((lastN xs n:Nat):Int))/\w=w':=by
 obtain ⟨b,off,rfl,_,hc0⟩:=h.at_ hn
 have hnI:¬ (n:Int)<1:=by omega
 have HX:=Lib.hid hx
 have hlast:∀ u,u<=n->lastN xs u<16:=by
  intro u
  induction u with
  |zero=>intro _;simp [lastN]
  |succ u ih=>
   intro hu;have:=ih (by omega);have:=hx u (by omega);simp only [lastN];omega
 have HLt:=Lib.hid hlast
 have h1:nth xs 0=((lastN xs 1:Nat):Int):=by
  have:=hx 0 hn;simp only [lastN];omega
 rw [h1,Nat.add_zero] at hc0;clear hx h1 hlast
 go_enter Tryz.func165,Tryz.ntmps165
 go_wp2
 go_loopw [3,4] (fun m i wr=>∃ u:Nat,1<=u/\u<=n/\i=.int .i64 u/\m=.int .i64 (lastN xs u:Nat)/\wr=w) (fun _ i _=>n-(intOf i).toNat)
 case atStart=>exact ⟨1,Nat.le_refl _,hn,rfl,rfl,rfl⟩
 case round=>
  obtain ⟨u,hu1,hu,rfl,rfl,rfl⟩:=hrel
  by_cases hlt:u<n
  ·obtain ⟨b',off',e,_,hck⟩:=h.at_ hlt;cases e;have hltI:(u:Int)<(n:Int):=(by omega);obtain ⟨x0,x1⟩:=HX.out u hlt;have hl16:=HLt.out u hu;have Hst:=Lib.hid (show (if ((lastN xs u:Nat):Int)<nth xs u then nth xs u else ((lastN xs u:Nat):Int))=((lastN xs (u+1):Nat):Int) by simp only [lastN];split<;>omega)
   go_wp2
   go_roundw
   case rel=>exact ⟨u+1,by omega,by omega,by go_num,by rw [<- Hst.out],trivial⟩
   case measure=>simp [intOf];omega
  ·obtain rfl:u=n:=by omega
   go_wp2
   go_ret
   exact ⟨rfl,rfl⟩
end Go.Proofs.YtkeoflnmbcdmfaaGreatDoor
set_option maxRecDepth 8000
namespace Go.Proofs.YtkeoflnmbcdmfaaGreatDoor
open Go.ChangeShapes Go.WideShapes Go.ChangeAt Go.RowKit
theorem opt_in {s:Nat} {gi:List Int} {c:Nat} (hok:0<=nth gi c/\nth gi c<=(s:Int)) {v:Int} (h:v∈optL s gi c):∃ u:Nat,v=(u:Int)/\1<=u/\u<=s:=by
 obtain ⟨t,e,t1,t4,hb⟩:=bits_iff.1 h;refine ⟨t,e,t1,?_⟩;unfold candN at hb
 split at hb
 ·next h0=>
  rw [Nat.testBit_two_pow,decide_eq_true_eq] at hb;omega
 ·rw [Int.toNat_natCast] at hb;exact ((candTo_test gi s c t s).1 hb).2.1
theorem nth_mem {xs:List Int} {k:Nat} (h:k<xs.length):nth xs k∈xs:=by
 have:nth xs k=xs[k]:=by simp [nth,List.getD_eq_getElem?_getD,h]
 rw [this];exact List.getElem_mem h
theorem holdsQ_is {rs:List RuleM} {us:List Int} {p:Nat}:holdsQ us (rulesAt rs p)=rlOk rs us p:=by
 unfold holdsQ rlOk;rw [Bool.eq_iff_iff,List.all_eq_true,List.all_eq_true]
 constructor
 ·intro h r hr;obtain ⟨i,hi,rfl⟩:=rat_mem hr;exact h i (List.mem_range.2 hi)
 ·intro h i hi;rw [List.mem_range] at hi;refine h _ ?_
  have:rat (rulesAt rs p) i=(rulesAt rs p)[i]:=by simp [rat,List.getD_eq_getElem?_getD,hi]
  rw [this];exact List.getElem_mem hi
theorem at_ok {s:Nat} {rs:List RuleM} {p:Nat} (hr:∀ i,i<rs.length->rvR s (rat rs i)=true) {i:Nat} (hi:i<(rulesAt rs p).length):rvR s (rat (rulesAt rs p) i)=true/\∀ j,j<(rat (rulesAt rs p) i).xs.length->0<=nth (rat (rulesAt rs p) i).xs j/\(nth (rat (rulesAt rs p) i).xs j).toNat<=p:=by
 have hm:rat (rulesAt rs p) i∈rulesAt rs p:=by
  have:rat (rulesAt rs p) i=(rulesAt rs p)[i]:=by simp [rat,List.getD_eq_getElem?_getD,hi]
  rw [this];exact List.getElem_mem hi
 obtain ⟨h1,h2⟩:=List.mem_filter.1 hm;rw [beq_iff_eq] at h2;obtain ⟨k,hk,e⟩:=rat_mem h1;have hv:=hr k hk;rw [e] at hv;refine ⟨hv,fun j hj=>⟨((rv_cells hv).2 j hj).1,?_⟩⟩;have:=lastN_ge (xs:=(rat (rulesAt rs p) i).xs) hj;unfold lastR at h2;omega
theorem holdsQ_congr {q:List RuleM} {us ys:List Int} {p:Nat} (h:∀ i,i<=p->nth us i=nth ys i) (hq:∀ i,i<q.length->∀ j,j<(rat q i).xs.length->(nth (rat q i).xs j).toNat<=p):holdsQ us q=holdsQ ys q:=by
 unfold holdsQ;rw [Bool.eq_iff_iff,List.all_eq_true,List.all_eq_true]
 have key:∀ i,i<q.length->holdsR us (rat q i)=holdsR ys (rat q i):=fun i hi=>by
  unfold holdsR
  have:pks us (rat q i).xs (rat q i).xs.length=pks ys (rat q i).xs (rat q i).xs.length:=by
   apply ext_nth (by rw [pks_length,pks_length])
   intro k hk;rw [pks_length] at hk;rw [pks_nth hk,pks_nth hk];exact h _ (hq i hi k hk)
  rw [this]
 constructor
 ·intro H i hi;rw [<- key i (List.mem_range.1 hi)];exact H i hi
 ·intro H i hi;rw [key i (List.mem_range.1 hi)];exact H i hi
theorem take_flat {L:List Int} {F:Int->List (List Int)} {u:Nat} (h:u<L.length):(L.take (u+1)).flatMap F=(L.take u).flatMap F++F (nth L u):=by
 rw [List.take_add_one,List.getElem?_eq_getElem h,List.flatMap_append]
 simp [nth,List.getD_eq_getElem?_getD,h]
def CovPost (J:List (List Int)->World->Prop) (Jx:World->Prop) (M lo G n:Nat) (vs:List Int) (X:World) (ways:List (List Int)) (e:Ending) (Y:World):Prop:=
 (e=.returned (.bool true)/\J ways Y/\MidX M G X Y/\∃ ys,Ow Y lo (some ⟨G,0,none⟩) n n ys/\∀ i,i<vs.length->nth ys i=nth vs i)\/(e=.returned (.bool false)/\Jx Y)
theorem SBox.midx {w w':World} {M g G0 G OB RB n:Nat} (h:SBox w g G OB RB n) (hm:MidX M G0 w w') (h1:M<=g) (h2:g≠G0):SBox w' g G OB RB n:=
 ⟨hm.cell h.1 h1 h2,hm.cell h.2.1 h1 h2,hm.cell h.2.2 h1 h2⟩
end Go.Proofs.YtkeoflnmbcdmfaaGreatDoor
namespace Go.Proofs.YtkeoflnmbcdmfaaGreatDoor
section
variable {P : Program} {md : Region.Mode} {ops : Array Oper} {Q : Exit → Act → World → Prop} {Inv : Array Bool → Act → World → Prop}
def unl (l:Array Bool):Nat:=l.toList.countP (fun b=>b==false)
theorem unl_set {l:Array Bool} {i:Nat} (h:l.getD i true=false):unl (l.setIfInBounds i true)<unl l:=by
 have hi:i<l.size:=by
  rcases Nat.lt_or_ge i l.size with h'|h'
  ·exact h'
  ·simp [Array.getElem?_eq_none h'] at h
 have he:l.toList[i]'(by simpa using hi)=false:=by simpa [hi] using h
 unfold unl;rw [Array.toList_setIfInBounds,List.countP_set (by simpa using hi),he];have:0<l.toList.countP (fun b=>b==false):=List.countP_pos_iff.2 ⟨false,by rw [<- he];exact List.getElem_mem _,rfl⟩
 show List.countP (fun b=>b==false) l.toList-1+0<List.countP (fun b=>b==false) l.toList
 omega
theorem unl_zero {l:Array Bool} (h:unl l=0) (i:Nat):l.getD i true=true:=by
 unfold unl at h;rw [List.countP_eq_zero] at h
 rcases Nat.lt_or_ge i l.size with h'|h'
 ·have:=h (l.toList[i]'(by simpa using h')) (List.getElem_mem _)
  simpa [h'] using this
 ·simp [Array.getElem?_eq_none h']
theorem wpAny_inv (hback:∀ (i:Nat) (o:Oper),ops[i]? =some o->∀ e∈o.after,e.on<i) (hsz:∀ l a w,Inv l a w->l.size=ops.size)
 (hstep:∀ l a w (i:Nat) (o:Oper),Inv l a w->ops[i]? =some o->l.getD i true=false->(∀ e∈o.after,Region.binds md e=true->l.getD e.on false=true)->wpOp P ops Q i (Inv (l.setIfInBounds i true)) a w)
 (hdone:∀ l a w,Inv l a w->(∀ i,i<ops.size->l.getD i false=true)->Q .normal a w):
 ∀ fuel l a w,unl l<=fuel->Inv l a w->wpAny P md ops Q fuel l a w:=by
 have fin:∀ l a w,Inv l a w->Region.ready md ops l=[]->Q .normal a w:=by
  intro l a w hI hr;refine hdone l a w hI ?_;intro i
  induction i using Nat.strongRecOn with
  |ind i ih=>
   intro hi
   cases hb:l.getD i false with
   |true=>rfl
   |false=>
    exfalso
    have hil:i<l.size:=(by rw [hsz l a w hI];exact hi);have ho:ops[i]? =some ops[i]:=Array.getElem?_eq_getElem hi;have:i∈Region.ready md ops l:=mem_ready.2 ⟨by simpa [hil] using hb,ops[i],ho,fun e he _=>ih e.on (hback i _ ho e he) (Nat.lt_trans (hback i _ ho e he) hi)⟩;rw [hr] at this;cases this
 intro fuel
 induction fuel with
 |zero=>
  intro l a w hu hI
  have hr:Region.ready md ops l=[]:=by
   cases e:Region.ready md ops l with
   |nil=>rfl
   |cons j r=>
    have hj:j∈Region.ready md ops l:=(by rw [e];exact List.mem_cons_self ..);have h1:=(mem_ready.1 hj).1;rw [unl_zero (by omega) j] at h1;cases h1
  exact ⟨hr,fin l a w hI hr⟩
 |succ fuel ih=>
  intro l a w hu hI;refine ⟨fin l a w hI,fun i hi=>?_⟩;obtain ⟨h1,o,ho,hall⟩:=mem_ready.1 hi;refine wpOp_mono (fun a' w' h=>ih _ a' w' ?_ h) (hstep l a w i o hI ho h1 hall);have:=unl_set h1;omega
theorem wp_region_inv {id:Nat} {a:Act} {w:World} (hm:P.follows .mixedOrders=true) (hback:∀ (i:Nat) (o:Oper),ops[i]? =some o->∀ e∈o.after,e.on<i) (hsz:∀ l a w,Inv l a w->l.size=ops.size)
 (hstep:∀ l a w (i:Nat) (o:Oper),Inv l a w->ops[i]? =some o->l.getD i true=false->(∀ e∈o.after,Region.binds .any e=true->l.getD e.on false=true)->wpOp P ops Q i (Inv (l.setIfInBounds i true)) a w)
 (hdone:∀ l a w,Inv l a w->(∀ i,i<ops.size->l.getD i false=true)->Q .normal a w)
 (h0:Inv (Array.replicate ops.size false) a { w with drawn:=w.drawn+1 }):(Code.region id ops true).wp P Q a w:=
 wp_region_any hm (wpAny_inv hback hsz hstep hdone _ _ _ _ (by
  unfold unl
  exact Nat.le_trans (List.countP_le_length) (by simp)) h0)
end
theorem frame_of {a a0:Array Value} (ts:List Nat) (hs:a.size=a0.size) (h:∀ t,t∉ts->a[t]? =a0[t]?):a=ts.foldl (fun tm t=>tm.setIfInBounds t (a.getD t undef)) a0:=by
 have key:∀ (ts:List Nat) (b:Array Value),b.size=a.size->∀ t,(ts.foldl (fun tm t=>tm.setIfInBounds t (a.getD t undef)) b)[t]? =if t∈ts then a[t]? else b[t]? :=by
  intro ts
  induction ts with
  |nil=>intro b _ t;simp
  |cons u ts ih=>
   intro b hb t;rw [List.foldl_cons,ih _ (by simpa using hb)]
   by_cases e:t∈ts
   ·simp [e]
   ·simp only [e,if_false,List.mem_cons,or_false]
    by_cases hu:t=u
    ·subst hu;rw [if_pos rfl]
     rcases Nat.lt_or_ge t a.size with h'|h'
     ·simp [Array.getElem?_setIfInBounds_self_of_lt (hb▸h'),h']
     ·rw [Array.getElem?_eq_none h',Array.getElem?_eq_none (by simp;omega)]
    ·rw [if_neg hu,Array.getElem?_setIfInBounds_ne (fun e'=>hu e'.symm)]
 apply Array.ext_getElem?
 intro t;rw [key ts a0 hs.symm t]
 split
 ·rfl
 ·exact h t (by assumption)
end Go.Proofs.YtkeoflnmbcdmfaaGreatDoor
namespace Go.Proofs.YtkeoflnmbcdmfaaGreatDoor
open Go.ChangeShapes Go.WideShapes Go.ChangeAt Go.RowKit
def Off (d:Nat->Nat) (m:Nat) (a a0:Act):Prop:=a.tmps.size=a0.tmps.size/\a.defers=a0.defers/\∀ t,(∀ j,j<m->d j≠t)->a.tmps[t]? =a0.tmps[t]?
theorem Off.eval {d:Nat->Nat} {m:Nat} {a a0:Act} (h:Off d m a a0) {t:Nat} (ht:∀ j,j<m->d j≠t):a.eval (.tmp t)=a0.eval (.tmp t):=by
 simp [Act.eval,h.2.2 t ht]
theorem wp_region_made {P:Program} {ops:Array Oper} {Q:Exit->Act->World->Prop} {id:Nat} {a0:Act} {W:World} (m:Nat) (d:Nat->Nat) (G:Nat->Value->World->Prop)
 (hm:P.follows .mixedOrders=true) (hlen:ops.size=m+1) (hback:∀ (i:Nat) (o:Oper),ops[i]? =some o->∀ e∈o.after,e.on<i)
 (hd:∀ i o,i<m->ops[i]? =some o->o.dst=some (d i)/\o.guard=none) (hinj:∀ i j,i<m->j<m->d i=d j->i=j) (hlt:∀ i,i<m->d i<a0.tmps.size)
 (hl:∀ o,ops[m]? =some o->o.dst=none/\o.guard=none/\∀ j,j<m->∃ e∈o.after,e.on=j/\Region.binds .any e=true)
 (hG:∀ j v w w',Below w.heap.size w w'->G j v w->G j v w')
 (hstep:∀ i o a w,i<m->ops[i]? =some o->Below W.heap.size W w->Off d m a a0->(∀ e∈o.after,Region.binds .any e=true->G e.on (a.eval (.tmp (d e.on))) w)->∃ v w',(execOp a.eval o).run P w=.ok (.value v) w'/\Below w.heap.size w w'/\G i v w')
 (hlast:∀ o a w,ops[m]? =some o->Below W.heap.size W w->Off d m a a0->(∀ j,j<m->G j (a.eval (.tmp (d j))) w)->∃ w',(execOp a.eval o).run P w=.ok .skip w'/\Q .normal a w'):
 (Code.region id ops true).wp P Q a0 W:=by
 refine wp_region_inv (Inv:=fun l a w=>l.size=ops.size/\((l.getD m false=false/\Below W.heap.size W w/\Off d m a a0/\∀ j,j<m->l.getD j false=true->G j (a.eval (.tmp (d j))) w)\/((∀ j,j<ops.size->l.getD j false=true)/\Q .normal a w))) hm hback (fun l a w h=>h.1) ?step ?done ?h0
 case done=>
  rintro l a w ⟨hs,h⟩ hall
  rcases h with ⟨h1,_⟩|⟨_,h⟩
  ·rw [hall m (by omega)] at h1;cases h1
  ·exact h
 case h0=>
  refine ⟨by simp,.inl ⟨by rw [Array.getD_eq_getD_getElem?,Array.getElem?_replicate];split<;>rfl,(Below.refl W.heap.size W).drew,⟨rfl,rfl,fun _ _=>rfl⟩,fun j hj hlj=>?_⟩⟩
  simp at hlj
  have:j<ops.size:=by omega
  simp [this] at hlj
 case step=>
  rintro l a w i o ⟨hs,h⟩ ho hli hall;have hi:i<ops.size:=(Array.getElem?_eq_some_iff.1 ho).1
  have hil:i<l.size:=by omega
  rcases h with ⟨h1,hb,hoff,hg⟩|⟨h,_⟩
  ·refine wpOp_step ho (fun K hK=>?_);have hsz:(l.setIfInBounds i true).size=ops.size:=(by simpa using hs)
   by_cases him:i=m
   ·subst him;obtain ⟨q1,q2,q3⟩:=hl o ho
    have hallj:∀ j,j<i->l.getD j false=true:=fun j hj=>by
     obtain ⟨e,he,rfl,hbd⟩:=q3 j hj;exact hall e he hbd
    obtain ⟨w',hrun,hq⟩:=hlast o a w ho hb hoff (fun j hj=>hg j hj (hallj j hj));rw [if_pos (by simp [Region.wanted,q2])];unfold Oper.wp;rw [hrun];have hput:a.put o.dst undef=a:=(by rw [q1];rfl);refine hK _ _ ⟨hsz,.inr ⟨fun j hj=>?_,?_⟩⟩
    ·by_cases e:j=i
     ·subst e;simp [hil]
     ·have:=hallj j (by omega);have hjl:j<l.size:=(by omega);have hset:(l.setIfInBounds i true).getD j false=l.getD j false:=(by simp [Array.getElem?_setIfInBounds_ne (fun e'=>e (Eq.symm e'))]);rw [hset];exact this
    ·first|exact hq|(rw [hput];exact hq)
   ·have him':i<m:=(by omega);obtain ⟨q1,q2⟩:=hd i o him' ho
    have hpre:∀ e∈o.after,Region.binds .any e=true->G e.on (a.eval (.tmp (d e.on))) w:=fun e he hbd=>hg e.on (Nat.lt_trans (hback i o ho e he) him') (hall e he hbd)
    obtain ⟨v,w',hrun,hb',hgi⟩:=hstep i o a w him' ho hb hoff hpre;rw [if_pos (by simp [Region.wanted,q2])];unfold Oper.wp;rw [hrun];have hdlt:d i<a.tmps.size:=(by rw [hoff.1];exact hlt i him')
    have hset:∀ j,(l.setIfInBounds i true).getD j false=if j=i then true else l.getD j false:=fun j=>by
     by_cases e:j=i
     ·subst e;simp [hil]
     ·rw [if_neg e];simp [Array.getElem?_setIfInBounds_ne (fun e'=>e (Eq.symm e'))]
    refine hK _ _ ⟨hsz,.inl ⟨by rw [hset,if_neg (fun e=>him e.symm)];exact h1,step hb hb',?_,fun j hj hlj=>?_⟩⟩
    ·rw [q1];refine ⟨by rw [size_put];exact hoff.1,hoff.2.1,fun t ht=>?_⟩;rw [<- hoff.2.2 t ht]
     simp [Act.put,Array.getElem?_setIfInBounds_ne (ht i him')]
    ·rw [q1]
     by_cases e:j=i
     ·subst e;rw [eval_put_same hdlt];exact hgi
     ·rw [eval_put_ne (fun e'=>e (hinj _ _ hj him' e'.symm))];rw [hset,if_neg e] at hlj;exact hG _ _ _ _ hb' (hg j hj hlj)
  ·have:=h i hi
   simp [hil] at hli this
   rw [this] at hli;cases hli
def chkOps (ops:Array Oper) (ds:List Nat):Bool:=
 ops.size==ds.length+1&&((List.range ops.size).all fun i=>match ops[i]? with
  |some o=>o.after.all fun e=>decide (e.on<i)
  |none=>false)&&((List.range ds.length).all fun i=>match ops[i]? with
  |some o=>decide (o.dst=some (ds.getD i 0))&&o.guard.isNone
  |none=>false)&&(match ops[ds.length]? with
  |some o=>o.dst.isNone&&o.guard.isNone&&(List.range ds.length).all fun j=>o.after.any fun e=>e.on==j&&Region.binds .any e
  |none=>false)&&decide ds.Nodup
theorem wp_region_ds {P:Program} {ops:Array Oper} {Q:Exit->Act->World->Prop} {id:Nat} {a0:Act} {W:World} (ds:List Nat) (G:Nat->Value->World->Prop)
 (hm:P.follows .mixedOrders=true) (hc:chkOps ops ds=true) (hlt:∀ t∈ds,t<a0.tmps.size)
 (hG:∀ j v w w',Below w.heap.size w w'->G j v w->G j v w')
 (hstep:∀ (i:Nat) (o:Oper) (a:Act) (w:World),i<ds.length->ops[i]? =some o->Below W.heap.size W w->(∀ t,t∉ds->a.eval (.tmp t)=a0.eval (.tmp t))->(∀ e∈o.after,Region.binds .any e=true->G e.on (a.eval (.tmp (ds.getD e.on 0))) w)->∃ v w',(execOp a.eval o).run P w=.ok (.value v) w'/\Below w.heap.size w w'/\G i v w')
 (hlast:∀ (o:Oper) (a:Act) (w:World),ops[ds.length]? =some o->Below W.heap.size W w->a.defers=a0.defers->a.tmps=ds.foldl (fun tm t=>tm.setIfInBounds t (a.tmps.getD t undef)) a0.tmps->(∀ t,t∉ds->a.eval (.tmp t)=a0.eval (.tmp t))->(∀ j,j<ds.length->G j (a.eval (.tmp (ds.getD j 0))) w)->∃ w',(execOp a.eval o).run P w=.ok .skip w'/\Q .normal a w'):
 (Code.region id ops true).wp P Q a0 W:=by
 simp only [chkOps,Bool.and_eq_true,beq_iff_eq,List.all_eq_true,List.mem_range,decide_eq_true_eq] at hc;obtain ⟨⟨⟨⟨c1,c2⟩,c3⟩,c4⟩,c5⟩:=hc
 have hout:∀ t,t∉ds->∀ j,j<ds.length->ds.getD j 0≠t:=fun t ht j hj e=>ht (by
  rw [<- e,List.getD_eq_getElem?_getD,List.getElem?_eq_getElem hj];exact List.getElem_mem _)
 have hmem:∀ j,j<ds.length->ds.getD j 0∈ds:=fun j hj=>by
  rw [List.getD_eq_getElem?_getD,List.getElem?_eq_getElem hj];exact List.getElem_mem _
 refine wp_region_made ds.length (fun j=>ds.getD j 0) G hm c1 ?back ?hd ?inj (fun i hi=>hlt _ (hmem i hi)) ?hl hG ?step ?last
 case back=>
  intro i o ho e he;have hi:i<ops.size:=(Array.getElem?_eq_some_iff.1 ho).1;have:=c2 i hi;rw [ho] at this;simp only [Array.all_eq_true_iff_forall_mem,decide_eq_true_eq] at this;exact this e he
 case hd=>
  intro i o hi ho;have:=c3 i hi;rw [ho] at this;simp only [Bool.and_eq_true,decide_eq_true_eq,Option.isNone_iff_eq_none] at this;exact this
 case inj=>
  intro i j hi hj e;simp only [List.getD_eq_getElem?_getD,List.getElem?_eq_getElem hi,List.getElem?_eq_getElem hj,Option.getD_some] at e;exact (List.getElem_inj c5).1 e
 case hl=>
  intro o ho;rw [ho] at c4;simp only [Bool.and_eq_true,Option.isNone_iff_eq_none,List.all_eq_true,List.mem_range] at c4;refine ⟨c4.1.1,c4.1.2,fun j hj=>?_⟩;obtain ⟨e,he,h⟩:=Array.any_eq_true'.1 (c4.2 j hj);rw [Bool.and_eq_true,beq_iff_eq] at h;exact ⟨e,he,h.1,h.2⟩
 case step=>
  intro i o a w hi ho hb hoff hpre;exact hstep i o a w hi ho hb (fun t ht=>hoff.eval (hout t ht)) hpre
 case last=>
  intro o a w ho hb hoff hpre;refine hlast o a w ho hb hoff.2.1 (frame_of ds hoff.1 (fun t ht=>hoff.2.2 t (hout t ht))) (fun t ht=>hoff.eval (hout t ht)) hpre
end Go.Proofs.YtkeoflnmbcdmfaaGreatDoor
set_option maxRecDepth 8000
namespace Go.Proofs.YtkeoflnmbcdmfaaGreatDoor
open Go.ChangeShapes Go.WideShapes Go.ChangeAt Go.RowKit
theorem own_cells {w:World} {lo sz k cap:Nat} {t:TypeId} {A:Option Addr} {vs:List Value} (h:w.ownsRow lo t sz (.slice A k cap) k vs) (hk:0<k):∃ g,A=some ⟨g,0,none⟩/\lo<=g/\g<w.heap.size/\∀ j u,vs[j]? =some u->w.cell? ⟨g,j,none⟩=some u:=by
 obtain ⟨hvl,hcase⟩:=id h
 rcases hcase with ⟨_,h0⟩|⟨g,cap',cur,hv,hlog,hrow,h1,h2,h3,h4⟩
 ·omega
 ·injection hv with hA _ _
  subst hA;refine ⟨g,rfl,hlog,(Array.getElem?_eq_some_iff.1 hrow).1,fun j u hj=>?_⟩;rw [cell_of_row w g j cur _ _ hrow];rw [<- h4,List.getElem?_take] at hj
  split at hj
  ·simpa using hj
  ·cases hj
theorem own_kept {w w':World} {lo sz k:Nat} {t:TypeId} {v:Value} {vs:List Value} {row:Option Nat} (h:w.ownsRow lo t sz v k vs) (hg:w.grownBy w' row) (hne:∀ g,v.ownBlock=some g->row≠some g):w'.ownsRow lo t sz v k vs:=by
 refine World.ownsRow.kept h hg ?_
 cases e:v.ownBlock with
 |none=>exact .inl rfl
 |some g=>exact .inr (fun he=>hne g e he.symm)
theorem own_below {w w':World} {lo sz k:Nat} {t:TypeId} {v:Value} {vs:List Value} (h:w.ownsRow lo t sz v k vs) (hb:Below w.heap.size w w'):w'.ownsRow lo t sz v k vs:=
 own_kept (row:=none) h ⟨hb.os,hb.tape,hb.output,hb.size,fun k hk _=>hb.block k hk⟩ (fun g _ e=>by cases e)
def PsG (SB f OB c n:Nat) (A:Option Addr) (t cap:Nat) (cells:Array Value) (elT:TypeId) (sz lo:Nat) (vs:List Value) (B:Nat):Nat->Value->World->Prop
 |0,v,_=>v=.pointer (some ⟨SB,f,none⟩)
 |1,v,_=>v=.slice (some ⟨OB,0,none⟩) n n
 |2,v,_=>v=.int .i64 (c:Nat)
 |3,v,_=>v=.pointer (some ⟨SB,f,none⟩)
 |4,v,_=>v=.slice (some ⟨OB,0,none⟩) n n
 |5,v,_=>v=.int .i64 (c:Nat)
 |6,v,_=>v=.pointer (some ⟨OB,c,none⟩)
 |7,v,_=>v=.slice A t cap
 |8,v,_=>v=.agg cells
 |9,v,w=>∃ g,v=.slice (some ⟨g,0,none⟩) 1 1/\w.heap[g]? =some (.cells cells elT)/\(Value.slice A t cap).ownBlock≠some g
 |10,v,w=>∃ g' cap',v=.slice (some ⟨g',0,none⟩) (t+1) cap'/\w.ownsRow lo elT sz (.slice (some ⟨g',0,none⟩) (t+1) cap') (t+1) (vs++cells.toList)/\((Value.slice A t cap).ownBlock=some g'\/B<=g')
 |11,v,_=>v=.pointer (some ⟨OB,c,none⟩)
 |_,_,_=>True
theorem psG_eff {SB f OB c n:Nat} {A:Option Addr} {t cap:Nat} {cells:Array Value} {elT:TypeId} {sz lo:Nat} {vs:List Value} {B:Nat} (j i:Nat) (v:Value) (w1 w2:World) (hji:j≠i) (he:(i=10->w1.grownBy w2 (Value.slice A t cap).ownBlock)/\(i≠10->Below w1.heap.size w1 w2)) (h:PsG SB f OB c n A t cap cells elT sz lo vs B j v w1):PsG SB f OB c n A t cap cells elT sz lo vs B j v w2:=by
 unfold PsG at h ⊢
 split at h
 all_goals first
  |exact h
  |(obtain ⟨g,e,h1,h2⟩:=h
    refine ⟨g,e,?_,h2⟩
    by_cases hi:i=10
    ·exact ((he.1 hi).block g (Array.getElem?_eq_some_iff.1 h1).1 (fun e2=>h2 e2.symm)).trans h1
    ·exact ((he.2 hi).block g (Array.getElem?_eq_some_iff.1 h1).1).trans h1)
  |(obtain ⟨g',cap',e,h1,h2⟩:=h
    exact ⟨g',cap',e,own_below h1 (he.2 (fun e2=>hji e2.symm)),h2⟩)
theorem flat2_get {α β:Type} (f:α->β×β):∀ (L:List α) (i:Nat) (hi:i<L.length),(L.flatMap fun x=>[(f x).1,(f x).2])[i*2]? =some (f L[i]).1/\(L.flatMap fun x=>[(f x).1,(f x).2])[i*2+1]? =some (f L[i]).2:=by
 intro L
 induction L with
 |nil=>intro i hi;cases hi
 |cons a L ih=>
  intro i hi
  match i,hi with
  |0,_=>simp
  |i+1,hi=>
   have:=ih i (by simpa using hi);simp only [List.flatMap_cons,List.cons_append,List.nil_append,show (i+1)*2=i*2+2 by omega,show i*2+2+1=(i*2+1)+2 by omega,List.getElem?_cons_succ,List.getElem_cons_succ];exact this
theorem flat3_get {α β:Type} (f:α->β×β×β):∀ (L:List α) (i:Nat) (hi:i<L.length),(L.flatMap fun x=>[(f x).1,(f x).2.1,(f x).2.2])[i*3]? =some (f L[i]).1/\(L.flatMap fun x=>[(f x).1,(f x).2.1,(f x).2.2])[i*3+1]? =some (f L[i]).2.1/\(L.flatMap fun x=>[(f x).1,(f x).2.1,(f x).2.2])[i*3+2]? =some (f L[i]).2.2:=by
 intro L
 induction L with
 |nil=>intro i hi;cases hi
 |cons a L ih=>
  intro i hi
  match i,hi with
  |0,_=>simp
  |i+1,hi=>
   have:=ih i (by simpa using hi);simp only [List.flatMap_cons,List.cons_append,List.nil_append,show (i+1)*3=i*3+3 by omega,show i*3+3+1=(i*3+1)+3 by omega,show i*3+3+2=(i*3+2)+3 by omega,List.getElem?_cons_succ,List.getElem_cons_succ];exact this
def optP (s c:Nat) (x:Int):Value×Value:=(.int .i64 x,.int .u64 ((itN s c x.toNat:Nat):Int))
def optV (s c:Nat) (vs:List Int):List Value:=vs.flatMap fun x=>[(optP s c x).1,(optP s c x).2]
theorem optV_push (s c:Nat) (vs:List Int) (x:Int):optV s c (vs++[x])=optV s c vs++[.int .i64 x,.int .u64 ((itN s c x.toNat:Nat):Int)]:=by
 simp [optV,optP]
def rulP (RA:Nat->Option Addr) (RC:Nat->Nat) (rs:List RuleM) (i:Nat):Value×Value×Value:=(.int .i64 (rat rs i).k,.slice (RA i) (rat rs i).xs.length (RC i),.int .i64 (rat rs i).v)
def rulV (RA:Nat->Option Addr) (RC:Nat->Nat) (rs:List RuleM) (L:List Nat):List Value:=L.flatMap fun i=>[(rulP RA RC rs i).1,(rulP RA RC rs i).2.1,(rulP RA RC rs i).2.2]
theorem rulV_push (RA:Nat->Option Addr) (RC:Nat->Nat) (rs:List RuleM) (L:List Nat) (i:Nat):rulV RA RC rs (L++[i])=rulV RA RC rs L++[.int .i64 (rat rs i).k,.slice (RA i) (rat rs i).xs.length (RC i),.int .i64 (rat rs i).v]:=by
 simp [rulV,rulP]
def ixR (rs:List RuleM) (c r:Nat):List Nat:=(List.range r).filter fun i=>lastR (rat rs i)==c
theorem ixR_succ (rs:List RuleM) (c r:Nat):ixR rs c (r+1)=ixR rs c r++(if lastR (rat rs r)=c then [r] else []):=by
 unfold ixR;rw [List.range_succ,List.filter_append]
 congr 1
 by_cases h:lastR (rat rs r)=c
 ·rw [if_pos h];simp [h]
 ·rw [if_neg h];simp [h]
theorem rulesAt_ix (rs:List RuleM) (c:Nat):rulesAt rs c=(ixR rs c rs.length).map (rat rs):=by
 unfold rulesAt ixR
 have key:rs=(List.range rs.length).map (rat rs):=by
  apply List.ext_getElem
  ·simp
  ·intro i h1 h2
   simp [rat,List.getD_eq_getElem?_getD,h1]
 conv=>lhs;rw [key]
 rw [List.filter_map];rfl
def rowsArr (R:Nat->Value) (n:Nat):Array Value:=((List.range n).map R).toArray
theorem rowsArr_size (R:Nat->Value) (n:Nat):(rowsArr R n).size=n:=by simp [rowsArr]
theorem rowsArr_get {R:Nat->Value} {n c:Nat} (h:c<n):(rowsArr R n)[c]? =some (R c):=by simp [rowsArr,h]
def updR (R:Nat->Value) (c:Nat) (v:Value):Nat->Value:=fun j=>if j=c then v else R j
theorem rowsArr_set (R:Nat->Value) (n c:Nat) (v:Value):(rowsArr R n).setIfInBounds c v=rowsArr (updR R c v) n:=by
 apply Array.ext_getElem?
 intro i;rw [Array.getElem?_setIfInBounds]
 by_cases hi:i<n
 ·rw [rowsArr_get hi,rowsArr_get hi,rowsArr_size];unfold updR
  by_cases e:c=i
  ·subst e;rw [if_pos rfl,if_pos hi,if_pos rfl]
  ·rw [if_neg e,if_neg (fun e'=>e e'.symm)]
 ·rw [Array.getElem?_eq_none (by rw [rowsArr_size];omega),Array.getElem?_eq_none (by rw [rowsArr_size];omega)]
  split
  ·rename_i e;rw [rowsArr_size,if_neg (by omega)]
  ·rfl
def Arr (w:World) (g:Nat) (t:TypeId) (R:Nat->Value) (n:Nat):Prop:=w.heap[g]? =some (.cells (rowsArr R n) t)
theorem Arr.lt {w:World} {g n:Nat} {t:TypeId} {R:Nat->Value} (h:Arr w g t R n):g<w.heap.size:=(Array.getElem?_eq_some_iff.1 h).1
theorem Arr.cell {w:World} {g n c:Nat} {t:TypeId} {R:Nat->Value} (h:Arr w g t R n) (hc:c<n):w.cell? ⟨g,c,none⟩=some (R c):=(cell_of_row w g c _ _ _ h).trans (rowsArr_get hc)
theorem Arr.free {w:World} {g n:Nat} {t:TypeId} {R:Nat->Value} (h:Arr w g t R n) (c:Nat):w.frozen? ⟨g,c,none⟩=false:=frozen_of_row w g c _ _ h
theorem Arr.set {w:World} {g n:Nat} {t:TypeId} {R:Nat->Value} (h:Arr w g t R n) (c:Nat) (v:Value):Arr (w.setCell ⟨g,c,none⟩ v) g t (updR R c v) n:=by
 unfold Arr;rw [heap_setCell_same w g c _ _ _ h,rowsArr_set]
theorem Arr.kept {w w':World} {g n:Nat} {t:TypeId} {R:Nat->Value} (h:Arr w g t R n) (e:w'.heap[g]? =w.heap[g]?):Arr w' g t R n:=e.trans h
theorem nils_arr (n:Nat):madeCells #[Value.slice none 0 0] n=rowsArr (fun _=>.slice none 0 0) n:=by
 apply Array.toList_inj.1
 rw [toList_madeCells_one]
 simp [rowsArr]
 apply List.ext_getElem<;>simp
theorem rdo_own {w:World} {lo L s c cap:Nat} {A:Option Addr} {vs:List Int} (h:w.ownsRow lo 166 2 (.slice A vs.length cap) vs.length (optV s c vs)) (hL:L<=lo):RdO w L A s c vs:=fun hn=>by
 obtain ⟨g,rfl,hg,_,hc⟩:=own_cells h hn;refine ⟨g,rfl,by omega,fun i hi=>?_⟩;obtain ⟨f1,f2⟩:=flat2_get (optP s c) vs i hi
 have e:nth vs i=vs[i]:=by simp [nth,List.getD_eq_getElem?_getD,hi]
 rw [e];exact ⟨hc _ _ f1,hc _ _ f2⟩
theorem rdw_own {W0 w:World} {B0 lo L k cap c:Nat} {A:Option Addr} {RA:Nat->Option Addr} {RC:Nat->Nat} {rs:List RuleM} (h:w.ownsRow lo 88 3 (.slice A k cap) k (rulV RA RC rs (ixR rs c rs.length))) (hk:k=(ixR rs c rs.length).length) (hL:L<=lo)
 (hR:∀ i,i<rs.length->Rd W0 B0 (RA i) (rat rs i).xs.length (rat rs i).xs/\(rat rs i).xs.length<=RC i):RdW W0 B0 w L A (rulesAt rs c):=fun hn=>by
 have hlen:(rulesAt rs c).length=(ixR rs c rs.length).length:=by rw [rulesAt_ix,List.length_map]
 obtain ⟨g,rfl,hg,_,hc⟩:=own_cells h (by omega);refine ⟨g,rfl,by omega,fun i hi=>?_⟩
 have hi':i<(ixR rs c rs.length).length:=by omega
 obtain ⟨f1,f2,f3⟩:=flat3_get (rulP RA RC rs) (ixR rs c rs.length) i hi'
 have e:rat (rulesAt rs c) i=rat rs (ixR rs c rs.length)[i]:=by
  rw [rulesAt_ix]
  show ((ixR rs c rs.length).map (rat rs)).getD i rnone=_
  rw [List.getD_eq_getElem?_getD,List.getElem?_map,List.getElem?_eq_getElem hi'];rfl
 have hm:(ixR rs c rs.length)[i]<rs.length:=by
  have:=List.getElem_mem hi';exact List.mem_range.1 (List.mem_filter.1 this).1
 rw [e];obtain ⟨r1,r2⟩:=hR _ hm;exact ⟨_,_,hc _ _ f1,hc _ _ f2,hc _ _ f3,r1,r2⟩
theorem ow_row {w:World} {lo g n:Nat} (h:w.heap[g]? =some (.cells (zeroArr n) 3)) (hlo:lo<=g) (hn:n<=1099511627776):Ow w lo (some ⟨g,0,none⟩) n n (zeros n):=by
 have hz:(zeroArr n).toList=vals (zeros n):=by
  rw [zeroArr,toList_madeCells_one]
  simp [vals,zeros]
 have hsz:(zeroArr n).size=n:=by simp [zeroArr,madeCells]
 refine ⟨by simp [vals,zeros],.inr ⟨g,n,zeroArr n,rfl,hlo,h,?_,?_,?_,?_⟩⟩
 all_goals first|(simp only [maxLen];omega)|(rw [hsz];omega)|(rw [hz,Nat.mul_one,List.take_of_length_le (by simp [vals,zeros])])|omega
theorem rdrc_fun {W:World} {B n:Nat} {A:Option Addr} {rs:List RuleM} (h:RdRc W B A n rs):∃ (b off:Nat) (RA:Nat->Option Addr) (RC:Nat->Nat),(0<n->A=some ⟨b,off,none⟩/\b<B)/\∀ i,i<n->W.cell? ⟨b,off+i*3,none⟩=some (.int .i64 (rat rs i).k)/\W.cell? ⟨b,off+i*3+1,none⟩=some (.slice (RA i) (rat rs i).xs.length (RC i))/\W.cell? ⟨b,off+i*3+2,none⟩=some (.int .i64 (rat rs i).v)/\Rd W B (RA i) (rat rs i).xs.length (rat rs i).xs/\(rat rs i).xs.length<=RC i:=by
 by_cases h0:0<n
 ·obtain ⟨b,off,e,hlt,hc⟩:=h.2 h0
  have key:∀ i,∃ q:Option Addr×Nat,i<n->W.cell? ⟨b,off+i*3,none⟩=some (.int .i64 (rat rs i).k)/\W.cell? ⟨b,off+i*3+1,none⟩=some (.slice q.1 (rat rs i).xs.length q.2)/\W.cell? ⟨b,off+i*3+2,none⟩=some (.int .i64 (rat rs i).v)/\Rd W B q.1 (rat rs i).xs.length (rat rs i).xs/\(rat rs i).xs.length<=q.2:=fun i=>by
   by_cases hi:i<n
   ·obtain ⟨A',c',a0,a1,a2,a3,_,a5⟩:=hc i hi;exact ⟨(A',c'),fun _=>⟨a0,a1,a2,a3,a5⟩⟩
   ·exact ⟨(none,0),fun h=>absurd h hi⟩
  obtain ⟨f,hf⟩:=Classical.axiomOfChoice key;exact ⟨b,off,fun i=>(f i).1,fun i=>(f i).2,fun _=>⟨e,hlt⟩,hf⟩
 ·exact ⟨0,0,fun _=>none,fun _=>0,fun h=>absurd h h0,fun i hi=>absurd hi (by omega)⟩
end Go.Proofs.YtkeoflnmbcdmfaaGreatDoor
namespace Go.Proofs.YtkeoflnmbcdmfaaGreatDoor
open Go.ChangeShapes Go.WideShapes Go.ChangeAt Go.RowKit
theorem push_int_at {w:World} {ops:Array Oper} {rest:List Oper} {o:Oper} {a:Act} {Q:Exit->Act->World->Prop} (hgd:o.guard=none) (s x:Operand)
 (ho:o.op=.call { callee:=.builtin .append,args:= #[s,x],argTypes:= #[23,23] })
 (lo:Nat) (A:Option Addr) (n c:Nat) (xs:List Int) (v:Int) (hs:a.eval s=.slice A n c) (hx:a.eval x=.slice (some ⟨w.heap.size,0,none⟩) 1 1) (hown:Ow w lo A n c xs) (hn:n<=1099511627776) (hlo:lo<=w.heap.size)
 (h:∀ A' c' w',Ow w' lo A' (n+1) c' (xs++[v])->(w.alloc (.cells #[.int .i64 v] 3)).grownBy w' (Value.slice A n c).ownBlock->(∀ g,(Value.slice A' (n+1) c').ownBlock=some g->(Value.slice A n c).ownBlock=some g\/w.heap.size<g)->wpList Tryz.prog ops Q rest (a.put o.dst (.slice A' (n+1) c')) w'):
 wpList Tryz.prog ops Q (o::rest) a (w.alloc (.cells #[.int .i64 v] 3)):=by
 obtain ⟨i0,hi,hz0,hz1,hz2⟩:=info_parts int_info;refine Go.wpList_append_own_at (P:=Tryz.prog) _ hgd s x 23 ho lo 3 i0 (.int .i64 0) 1 8 Tryz.underlying23 hi hz0 hz1 hz2 rfl (by decide) _ n (vals xs) hs (World.ownsRow.alloc hown _) ⟨w.heap.size,0,none⟩ 1 1 [.int .i64 v] hx rfl ?_ ?_ (by simp only [maxLen];omega) (by omega) (by simp;omega) ?_
 ·intro j u hj
  match j,hj with
  |0,hj=>
   simp at hj
   subst hj
   simp [Addr.add]
 ·intro u hu
  simp at hu
  subst hu;rfl
 ·intro v' w' h2 h3 _ h5;obtain ⟨g,cap,hv,_,_⟩:=World.ownsRow.form h2 (by omega);subst hv;refine h _ _ _ (by unfold Ow;rw [vals_append];exact h2) h3 (fun g' hg'=>?_)
  rcases h5 with h5|h5
  ·left;rw [<- h5];exact hg'
  ·right
   rw [h5] at hg'
   simp at hg'
   omega
theorem Ow.kept_ne {w w':World} {lo:Nat} {A A':Option Addr} {n c n' c':Nat} {xs:List Int} (h:Ow w lo A n c xs) (hg:w.grownBy w' (Value.slice A' n' c').ownBlock) (hne:∀ g,(Value.slice A n c).ownBlock=some g->(Value.slice A' n' c').ownBlock≠some g):Ow w' lo A n c xs:=by
 refine World.ownsRow.kept h hg ?_
 cases e:(Value.slice A n c).ownBlock with
 |none=>exact .inl rfl
 |some g=>exact .inr (fun he=>hne g e he.symm)
end Go.Proofs.YtkeoflnmbcdmfaaGreatDoor
namespace Go.Proofs.YtkeoflnmbcdmfaaGreatDoor
open Go.ChangeShapes Go.WideShapes Go.ChangeAt Go.RowKit
theorem gv_okAll {xs:List Int} {size:Int} {n:Nat} (hg:gv xs size=true) (hl:xs.length=n):okAll xs size n:=fun k hk=>gv_nth hg (by rw [hl];exact hk)
def sqOfG (size:Int) (k:Nat):Int:=((k:Int)/size+(k:Int))%size+1
def sqOfL (size:Int):List Int:=if inr size 2 4=true then mapTo (sqOfG size) (size*size).toNat else []
def missTo (has:Int->Bool):Nat->List Int
 |0=>[]
 |v+1=>missTo has v++(if has ((v:Int)+1)=true then [] else [(v:Int)+1])
def missL (xs:List Int) (size line:Int):List Int:=if (gv xs size&&lineOk size line)=true then missTo (hasTo (lineV xs size line) size.toNat) size.toNat else []
theorem missTo_length (has:Int->Bool) (v:Nat):(missTo has v).length<=v:=by
 induction v with
 |zero=>simp [missTo]
 |succ v ih=>simp only [missTo,List.length_append];split<;>simp<;>omega
theorem missL_length (xs:List Int) (size line:Int):(missL xs size line).length<=4:=by
 unfold missL
 split
 ·next h=>
  simp only [Bool.and_eq_true] at h;have:=gv_size h.1;have:=missTo_length (hasTo (lineV xs size line) size.toNat) size.toNat;omega
 ·simp
end Go.Proofs.YtkeoflnmbcdmfaaGreatDoor
namespace Go.Proofs.YtkeoflnmbcdmfaaGreatDoor
open Go.ChangeShapes Go.WideShapes Go.ChangeAt Go.RowKit
def lmask (xs:List Int) (s:Nat):Nat->(Nat->Nat)
 |0=>fun _=>0
 |k+1=>if nth xs k=0 then lmask xs s k else mput (mput (lmask xs s k) (k/s) (nth xs k).toNat) (s+k%s) (nth xs k).toNat
def twice (xs:List Int) (s:Nat):Nat->Bool
 |0=>false
 |k+1=>if nth xs k=0 then twice xs s k else twice xs s k||((lmask xs s k (k/s)).testBit (nth xs k).toNat||(lmask xs s k (s+k%s)).testBit (nth xs k).toNat)
def onL (s l i:Nat):Bool:=i/s==l||s+i%s==l
theorem lmask_lt {xs:List Int} {s n:Nat} (hs:(s:Int)<=4) (hok:okAll xs s n):∀ k,k<=n->∀ l,l<8->lmask xs s k l<32:=by
 intro k
 induction k with
 |zero=>intro _ l _;simp [lmask]
 |succ k ih=>
  intro hk l hl;have hv:=hok k (by omega);simp only [lmask]
  split
  ·exact ih (by omega) l hl
  ·exact mput_lt (mput_lt (ih (by omega)) (by omega)) (by omega) l hl
theorem mput_test (M:Nat->Nat) (l u j v:Nat):(mput M l u j).testBit v=((M j).testBit v||(j==l&&u==v)):=by
 unfold mput
 by_cases h:j=l
 ·rw [if_pos h,Nat.testBit_or,Nat.testBit_two_pow];subst h;rw [Bool.eq_iff_iff]
  simp
 ·rw [if_neg h]
  simp [h]
theorem lmask_test {xs:List Int} {s n:Nat} (hok:okAll xs s n) (l v:Nat):∀ k,k<=n->((lmask xs s k l).testBit v=true↔0<v/\∃ i,i<k/\onL s l i=true/\nth xs i=(v:Int)):=by
 intro k
 induction k with
 |zero=>intro _;simp [lmask]
 |succ k ih=>
  intro hk;have hv:=hok k (by omega);have ih:=ih (by omega);simp only [lmask]
  by_cases hz:nth xs k=0
  ·rw [if_pos hz,ih]
   constructor
   ·rintro ⟨h0,i,hi,h1,h2⟩;exact ⟨h0,i,by omega,h1,h2⟩
   ·rintro ⟨h0,i,hi,h1,h2⟩;have:i≠k:=(by rintro rfl;omega);exact ⟨h0,i,by omega,h1,h2⟩
  ·rw [if_neg hz,mput_test,mput_test,Bool.or_eq_true,Bool.or_eq_true,ih];simp only [Bool.and_eq_true,beq_iff_eq]
   constructor
   ·rintro ((⟨h0,i,hi,h1,h2⟩|⟨h1,h2⟩)|⟨h1,h2⟩)
    ·exact ⟨h0,i,by omega,h1,h2⟩
    ·exact ⟨by omega,k,by omega,by simp [onL,h1],by omega⟩
    ·exact ⟨by omega,k,by omega,by simp [onL,h1],by omega⟩
   ·rintro ⟨h0,i,hi,h1,h2⟩
    by_cases e:i=k
    ·subst e;simp only [onL,Bool.or_eq_true,beq_iff_eq] at h1
     rcases h1 with h1|h1
     ·exact .inl (.inr ⟨h1.symm,by omega⟩)
     ·exact .inr ⟨h1.symm,by omega⟩
    ·exact .inl (.inl ⟨h0,i,by omega,h1,h2⟩)
theorem onL_adj:∀ s∈[2,3,4],∀ i,i<s*s->∀ j,j<s*s->adj s i j=(i != j&&(onL s (j/s) i||onL s (s+j%s) i)):=by decide +kernel
theorem twice_iff {xs:List Int} {s n:Nat} (hs:s∈[2,3,4]) (hn:n=s*s) (hok:okAll xs s n):∀ k,k<=n->(twice xs s k=true↔∃ i j,i<j/\j<k/\adj s i j=true/\nth xs i=nth xs j/\0<nth xs j):=by
 intro k
 induction k with
 |zero=>intro _;simp [twice]
 |succ k ih=>
  intro hk;have hv:=hok k (by omega);have ih:=ih (by omega);simp only [twice]
  by_cases hz:nth xs k=0
  ·rw [if_pos hz,ih]
   constructor
   ·rintro ⟨i,j,h1,h2,h3,h4,h5⟩;exact ⟨i,j,h1,by omega,h3,h4,h5⟩
   ·rintro ⟨i,j,h1,h2,h3,h4,h5⟩;have:j≠k:=(by rintro rfl;omega);exact ⟨i,j,h1,by omega,h3,h4,h5⟩
  ·rw [if_neg hz,Bool.or_eq_true,Bool.or_eq_true,ih,lmask_test hok _ _ k (by omega),lmask_test hok _ _ k (by omega)]
   constructor
   ·rintro (⟨i,j,h1,h2,h3⟩|(⟨h0,i,hi,h1,h2⟩|⟨h0,i,hi,h1,h2⟩))
    ·exact ⟨i,j,h1,by omega,h3⟩
    ·refine ⟨i,k,hi,by omega,?_,by omega,by omega⟩;rw [onL_adj s hs i (by omega) k (by omega),h1]
     simp;omega
    ·refine ⟨i,k,hi,by omega,?_,by omega,by omega⟩;rw [onL_adj s hs i (by omega) k (by omega),h1]
     simp;omega
   ·rintro ⟨i,j,h1,h2,h3,h4,h5⟩
    by_cases e:j=k
    ·subst e;rw [onL_adj s hs i (by omega) j (by omega)] at h3;simp only [Bool.and_eq_true,Bool.or_eq_true] at h3
     rcases h3.2 with h|h
     ·exact .inr (.inl ⟨by omega,i,h1,h,by omega⟩)
     ·exact .inr (.inr ⟨by omega,i,h1,h,by omega⟩)
    ·exact .inl ⟨i,j,h1,by omega,h3,h4,h5⟩
theorem adj_symm:∀ s∈[2,3,4],∀ i,i<s*s->∀ j,j<s*s->adj s i j=adj s j i/\(adj s i j=true->i≠j):=by decide +kernel
theorem twice_clash {xs:List Int} {s n:Nat} (hs:s∈[2,3,4]) (hn:n=s*s) (hok:okAll xs s n):twice xs s n=clash xs s:=by
 rw [Bool.eq_iff_iff,clash_iff hs,twice_iff hs hn hok n (Nat.le_refl _)]
 constructor
 ·rintro ⟨i,j,h1,h2,h3,h4,h5⟩;exact ⟨i,j,by omega,by omega,h3,h4,h5⟩
 ·rintro ⟨i,j,h1,h2,h3,h4,h5⟩;have hne:=(adj_symm s hs i h1 j h2).2 h3
  rcases Nat.lt_or_ge i j with h|h
  ·exact ⟨i,j,h,by omega,h3,h4,h5⟩
  ·exact ⟨j,i,by omega,by omega,by rw [<- (adj_symm s hs i h1 j h2).1];exact h3,h4.symm,by omega⟩
def onLine (s l i:Nat):Bool:=(List.range s).any fun a=>(lineAt (s:Nat) (l:Nat) a).toNat==i
theorem onL_line:∀ s∈[2,3,4],∀ l,l<2*s->∀ i,i<s*s->onL s l i=onLine s l i:=by decide +kernel
theorem line_lt:∀ s∈[2,3,4],∀ l,l<2*s->∀ a,a<s->(lineAt (s:Nat) (l:Nat) a).toNat<s*s:=by decide +kernel
theorem lmask_has {xs:List Int} {s n:Nat} (hs:s∈[2,3,4]) (hn:n=s*s) (hok:okAll xs s n) {l v:Nat} (hl:l<2*s) (hv:0<v):(lmask xs s n l).testBit v=hasTo (lineV xs s l) s (v:Int):=by
 rw [Bool.eq_iff_iff,lmask_test hok l v n (Nat.le_refl _),hasTo_iff]
 constructor
 ·rintro ⟨_,i,hi,h1,h2⟩;rw [onL_line s hs l hl i (by omega)] at h1;simp only [onLine,List.any_eq_true,List.mem_range,beq_iff_eq] at h1;obtain ⟨a,ha,e⟩:=h1;exact ⟨a,ha,by unfold lineV;rw [e];exact h2⟩
 ·rintro ⟨a,ha,h⟩;have hlt:=line_lt s hs l hl a ha;refine ⟨hv,_,by omega,?_,h⟩;rw [onL_line s hs l hl _ hlt];simp only [onLine,List.any_eq_true,List.mem_range,beq_iff_eq];exact ⟨a,ha,rfl⟩
theorem full_bits:∀ M,M<32->∀ s∈[2,3,4],(M=2^(s+1)-2↔∀ v,v<5->M.testBit v=(Nat.blt 0 v&&Nat.ble v s)):=by decide +kernel
theorem lmask_zero {xs:List Int} {s n:Nat} (hok:okAll xs s n) (l:Nat) {v:Nat} (hv:v=0\/s<v):(lmask xs s n l).testBit v=false:=by
 cases h:(lmask xs s n l).testBit v
 ·rfl
 ·rw [lmask_test hok l v n (Nat.le_refl _)] at h;obtain ⟨h0,i,hi,_,h2⟩:=h;have:=hok i hi;omega
theorem lmask_full {xs:List Int} {s n:Nat} (hs:s∈[2,3,4]) (hn:n=s*s) (hok:okAll xs s n) {l:Nat} (hl:l<2*s):lmask xs s n l=2^(s+1)-2↔∀ v,1<=v->v<=s->hasTo (lineV xs s l) s (v:Int)=true:=by
 have hs4:s<=4:=by simp at hs;omega
 rw [full_bits _ (lmask_lt (by omega) hok n (Nat.le_refl _) l (by omega)) s hs]
 constructor
 ·intro h v h1 h2;rw [<- lmask_has hs hn hok hl (by omega),h v (by omega)]
  simp [Nat.blt_eq];omega
 ·intro h v h5
  by_cases hv:v=0\/s<v
  ·rw [lmask_zero hok l hv]
   rcases hv with rfl|hv
   ·rfl
   ·have:Nat.ble v s=false:=by
     cases e:Nat.ble v s
     ·rfl
     ·have:=Nat.le_of_ble_eq_true e;omega
    rw [this,Bool.and_false]
  ·rw [lmask_has hs hn hok hl (by omega),h v (by omega) (by omega)];have h1:Nat.blt 0 v=true:=(by rw [Nat.blt_eq];omega);have h2:Nat.ble v s=true:=Nat.ble_eq_true_of_le (by omega);rw [h1,h2];rfl
def hasN (L:List Nat) (v:Nat):Bool:=L.contains v
def revB (L:List Nat) (s:Nat):Bool:=(List.range s).any (fun v=> !L.contains (v+1))||(L.all (fun a=>a != 0)&&decide L.Nodup)
theorem rev2:∀ a,a<3->∀ b,b<3->revB [a,b] 2=true:=by decide +kernel
theorem rev3:∀ a,a<4->∀ b,b<4->∀ c,c<4->revB [a,b,c] 3=true:=by decide +kernel
theorem rev4:∀ a,a<5->∀ b,b<5->∀ c,c<5->∀ d,d<5->revB [a,b,c,d] 4=true:=by decide +kernel
theorem rev_all {f:Nat->Int} {s:Nat} (hs:s∈[2,3,4]) (hf:∀ i,i<s->0<=f i/\f i<=s):revB ((List.range s).map fun i=>(f i).toNat) s=true:=by
 simp at hs
 rcases hs with rfl|rfl|rfl
 ·exact rev2 _ (by have:=hf 0 (by omega);show (f 0).toNat<3;omega) _ (by have:=hf 1 (by omega);show (f 1).toNat<3;omega)
 ·exact rev3 _ (by have:=hf 0 (by omega);show (f 0).toNat<4;omega) _ (by have:=hf 1 (by omega);show (f 1).toNat<4;omega) _ (by have:=hf 2 (by omega);show (f 2).toNat<4;omega)
 ·exact rev4 _ (by have:=hf 0 (by omega);show (f 0).toNat<5;omega) _ (by have:=hf 1 (by omega);show (f 1).toNat<5;omega) _ (by have:=hf 2 (by omega);show (f 2).toNat<5;omega) _ (by have:=hf 3 (by omega);show (f 3).toNat<5;omega)
theorem rev {f:Nat->Int} {s:Nat} (hs:s∈[2,3,4]) (hf:∀ i,i<s->0<=f i/\f i<=s) (hall:∀ v:Nat,1<=v->v<=s->hasTo f s (v:Int)=true):dupTo f s=false/\∀ i,i<s->f i≠0:=by
 have h:=rev_all hs hf;simp only [revB,Bool.or_eq_true,Bool.and_eq_true,List.any_eq_true,List.mem_range,List.all_eq_true,decide_eq_true_eq] at h
 rcases h with ⟨v,hv,h⟩|⟨h0,hd⟩
 ·exfalso
  have:=hall (v+1) (by omega) (by omega);rw [hasTo_iff] at this;obtain ⟨i,hi,e⟩:=this
  have hm:(v+1)∈(List.range s).map fun i=>(f i).toNat:=List.mem_map.2 ⟨i,List.mem_range.2 hi,by omega⟩
  have:=List.contains_iff_mem.2 hm;rw [this] at h
  simp at h
 ·refine ⟨?_,fun i hi e=>?_⟩
  ·cases hc:dupTo f s
   ·rfl
   ·rw [dupTo_iff] at hc;obtain ⟨i,j,hij,hj,he,_⟩:=hc;have:=List.pairwise_map.1 hd;rw [List.pairwise_iff_getElem] at this;have h9:=this i j (by simp;omega) (by simp;omega) hij;simp only [List.getElem_range] at h9;omega
  ·have:=h0 (f i).toNat (List.mem_map.2 ⟨i,List.mem_range.2 hi,rfl⟩);rw [e] at this
   simp at this
theorem row_of:∀ s∈[2,3,4],∀ k,k<s*s->k/s<2*s/\k%s<s/\(lineAt (s:Nat) ((k/s:Nat):Int) (k%s)).toNat=k:=by decide +kernel
theorem solved_masks {xs:List Int} {s n:Nat} (hs:s∈[2,3,4]) (hn:n=s*s) (hl:xs.length=n) (hg:gv xs s=true) (hok:okAll xs s n):sqSolved xs s=true↔∀ l,l<2*s->lmask xs s n l=2^(s+1)-2:=by
 have hf:∀ l,l<2*s->∀ i,i<s->0<=lineV xs s l i/\lineV xs s l i<=s:=fun l hl' i hi=>hok _ (by rw [hn];exact line_lt s hs l hl' i hi)
 rw [solved_iff hl]
 constructor
 ·rintro ⟨_,hc,hz⟩ l hl';rw [lmask_full hs hn hok hl'];intro v v1 v2;refine pig hs (fun i hi=>?_) ?_ (by omega) (by omega)
  ·have h1:=hf l hl' i hi;have h2:=hz (lineAt (s:Nat) (l:Nat) i).toNat (by rw [hn];exact line_lt s hs l hl' i hi);unfold lineV at *;omega
  ·cases hd:dupTo (lineV xs s l) s
   ·rfl
   ·have:clash xs s=true:=clash_at (l:=l) (by omega) (by rw [Int.toNat_natCast];exact hd);rw [hc] at this;cases this
 ·intro h
  have key:∀ l,l<2*s->dupTo (lineV xs s l) s=false/\∀ i,i<s->lineV xs s l i≠0:=fun l hl'=>rev hs (hf l hl') (fun v v1 v2=>(lmask_full hs hn hok hl').1 (h l hl') v v1 v2)
  refine ⟨hg,?_,fun k hk=>?_⟩
  ·cases hc:clash xs s
   ·rfl
   ·rw [clash,clashTo_iff] at hc;obtain ⟨l,hl',hd⟩:=hc;rw [Int.toNat_natCast,(key l (by omega)).1] at hd;cases hd
  ·obtain ⟨h1,h2,h3⟩:=row_of s hs k (by omega);have:=(key _ h1).2 _ h2;unfold lineV at this;rw [h3] at this;exact this
end Go.Proofs.YtkeoflnmbcdmfaaGreatDoor
namespace Go.Proofs.YtkeoflnmbcdmfaaGreatDoor
open Go.ChangeShapes Go.WideShapes Go.ChangeAt Go.RowKit
def bump (C:Nat->Nat) (j:Nat):Nat->Nat:=fun i=>if i=j then C i+1 else C i
def cnt (xs:List Int) (s:Nat):Nat->(Nat->Nat)
 |0=>fun _=>0
 |k+1=>bump (bump (cnt xs s k) (k/s*5+(nth xs k).toNat)) ((s+k%s)*5+(nth xs k).toNat)
theorem bump_zero (C:Nat->Nat) (a b j:Nat):bump (bump C a) b j=0↔C j=0/\j≠a/\j≠b:=by
 show (if j=b then (if j=a then C j+1 else C j)+1 else (if j=a then C j+1 else C j))=0↔_
 split<;>split<;>omega
theorem bump_le (C:Nat->Nat) (a j:Nat):bump C a j<=C j+1:=by
 unfold bump
 split<;>omega
theorem cnt_le (xs:List Int) (s k j:Nat):cnt xs s k j<=2*k:=by
 induction k with
 |zero=>simp [cnt]
 |succ k ih=>
  simp only [cnt];have h1:=bump_le (bump (cnt xs s k) (k/s*5+(nth xs k).toNat)) ((s+k%s)*5+(nth xs k).toNat) j;have h2:=bump_le (cnt xs s k) (k/s*5+(nth xs k).toNat) j;omega
theorem cnt_zero {xs:List Int} {s n:Nat} (hs4:s<=4) (hok:okAll xs s n) (l v:Nat) (hv:v<5):∀ k,k<=n->(cnt xs s k (l*5+v)=0↔∀ i,i<k->onL s l i=true->nth xs i≠(v:Int)):=by
 intro k
 induction k with
 |zero=>intro _;simp [cnt]
 |succ k ih=>
  intro hk;obtain ⟨x0,x4⟩:=hok k (by omega);simp only [cnt];rw [bump_zero,ih (by omega)]
  have hon:onL s l k=true↔(k/s=l\/s+k%s=l):=by simp [onL]
  constructor
  ·rintro ⟨h0,h1,h2⟩ i hi ho he
   by_cases e:i=k
   ·subst e
    rcases hon.1 ho with h|h
    ·exact h1 (by rw [h];omega)
    ·exact h2 (by rw [h];omega)
   ·exact h0 i (by omega) ho he
  ·intro h;refine ⟨fun i hi=>h i (by omega),fun e=>?_,fun e=>?_⟩
   ·exact h k (by omega) (hon.2 (.inl (by omega))) (by omega)
   ·exact h k (by omega) (hon.2 (.inr (by omega))) (by omega)
def freeTo (C:Nat->Nat) (r c:Nat):Nat->Nat
 |0=>0
 |v+1=>if C (r*5+(v+1))+C (c*5+(v+1))=0 then freeTo C r c v|||2^(v+1) else freeTo C r c v
theorem freeTo_lt (C:Nat->Nat) (r c v:Nat) (hv:v<=4):freeTo C r c v<32:=by
 induction v with
 |zero=>simp [freeTo]
 |succ v ih=>
  simp only [freeTo]
  split
  ·exact Nat.or_lt_two_pow (n:=5) (ih (by omega)) (Nat.pow_lt_pow_right (by omega) (by omega))
  ·exact ih (by omega)
theorem free_cand {xs:List Int} {s n k:Nat} (hs:s∈[2,3,4]) (hn:n=s*s) (hok:okAll xs s n) (hk:k<n) (hz:nth xs k=0):∀ v,v<=s->freeTo (cnt xs s n) (k/s) (s+k%s) v=candTo xs s k v:=by
 have hs4:s<=4:=by simp at hs;omega
 intro v
 induction v with
 |zero=>intro _;rfl
 |succ v ih=>
  intro hv;simp only [freeTo,candTo,Int.toNat_natCast]
  have hc:((v:Int)+1)=((v+1:Nat):Int):=by omega
  have key:cnt xs s n (k/s*5+(v+1))+cnt xs s n ((s+k%s)*5+(v+1))=0↔okTo3 xs s k ((v:Int)+1) s=true:=by
   rw [hc,ok3_adj hs (by omega),Nat.add_eq_zero_iff,cnt_zero hs4 hok _ _ (by omega) n (Nat.le_refl _),cnt_zero hs4 hok _ _ (by omega) n (Nat.le_refl _)]
   constructor
   ·rintro ⟨h1,h2⟩ i hi ha;rw [onL_adj s hs i hi k (by omega)] at ha;simp only [Bool.and_eq_true,Bool.or_eq_true] at ha
    rcases ha.2 with h|h
    ·exact h1 i (by omega) h
    ·exact h2 i (by omega) h
   ·intro h
    have side:∀ l,(l=k/s\/l=s+k%s)->∀ i,i<n->onL s l i=true->nth xs i≠((v+1:Nat):Int):=by
     intro l hl i hi ho
     by_cases e:i=k
     ·subst e;rw [hz];omega
     ·refine h i (by omega) ?_;rw [onL_adj s hs i (by omega) k (by omega)]
      rcases hl with rfl|rfl
      ·simp [ho,e]
      ·simp [ho,e]
    exact ⟨side _ (.inl rfl),side _ (.inr rfl)⟩
  rw [ih (by omega)]
  by_cases h:cnt xs s n (k/s*5+(v+1))+cnt xs s n ((s+k%s)*5+(v+1))=0
  ·rw [if_pos h,if_pos (key.1 h)]
  ·rw [if_neg h,if_neg (fun h'=>h (key.2 h'))]
end Go.Proofs.YtkeoflnmbcdmfaaGreatDoor
