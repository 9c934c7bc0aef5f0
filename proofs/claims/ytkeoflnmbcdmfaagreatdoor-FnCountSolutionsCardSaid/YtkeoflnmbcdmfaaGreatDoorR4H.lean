import Derived.Test.YtkeoflnmbcdmfaaGreatDoorR4
namespace Go.Proofs.YtkeoflnmbcdmfaaGreatDoor
open Go.ChangeShapes Go.WideShapes Go.ChangeAt Go.RowKit
def sumN (vs:List Int):Nat->Nat
 |0=>0
 |k+1=>sumN vs k+(nth vs k).toNat
def prodN (vs:List Int):Nat->Nat
 |0=>1
 |k+1=>prodN vs k*(nth vs k).toNat
def newTo (vs:List Int) (k:Nat):Nat->Bool
 |0=>true
 |q+1=>newTo vs k q&&(nth vs q != nth vs k)
def diffTo (vs:List Int):Nat->Bool
 |0=>true
 |k+1=>diffTo vs k&&newTo vs k k
def gap (vs:List Int):Int:=max (nth vs 0-nth vs 1) (-(nth vs 0-nth vs 1))
def holdsB (k v:Int) (vs:List Int):Bool:=
 if k=1 then diffTo vs vs.length else if k=2 then ((sumN vs vs.length:Int)==v) else if k=3 then ((prodN vs vs.length:Int)==v) else if k=4 then decide (nth vs 0<nth vs 1) else (gap vs==v)
def small4 (vs:List Int) (n:Nat):Prop:=∀ i,i<n->0<=nth vs i/\nth vs i<=4
theorem sumN_le {vs:List Int} {n:Nat} (h:small4 vs n):∀ k,k<=n->sumN vs k<=4*k:=by
 intro k
 induction k with
 |zero=>intro _;simp [sumN]
 |succ k ih=>
  intro hk;have:=h k (by omega);have:=ih (by omega);simp only [sumN];omega
theorem prodN_le {vs:List Int} {n:Nat} (h:small4 vs n):∀ k,k<=n->prodN vs k<=4^k:=by
 intro k
 induction k with
 |zero=>intro _;simp [prodN]
 |succ k ih=>
  intro hk;have h1:=h k (by omega);have h2:=ih (by omega);simp only [prodN];rw [Nat.pow_succ];exact Nat.mul_le_mul h2 (by omega)
set_option maxHeartbeats 1000000 in
theorem specHolds (A:Option Addr) (c n:Nat) (A2:Option Addr) (c2 n2 B:Nat) (vs:List Int) (k v:Int) (w:World) (h:Rd w B A2 n2 vs) (hB:B<=w.heap.size) (h4:n2<=4) (hv:Hid (small4 vs n2)) (h2:k=1\/k=2\/k=3\/2<=n2):
 Calls Tryz.prog 200 #[.agg #[.int .i64 k,.slice A n c,.int .i64 v],.slice A2 n2 c2] w fun e w'=>e=.returned (.bool (holdsB k v vs))/\Below w.heap.size w w':=by
 have hlen:=Lib.hid h.1;have hx0:=rbox_new w k A n c v 88;have hb0:Below w.heap.size w (w.alloc (.cells #[.int .i64 k,.slice A n c,.int .i64 v] 88)):=(Below.refl _ _).alloc (Nat.le_refl _) _
 go_enter Tryz.func200,Tryz.ntmps200
 go_wp2
 go_loopw [5,6,7,8] (fun s p d i wr=>∃ u:Nat,u<=n2/\i=.int .i64 u/\s=.int .i64 (sumN vs u:Int)/\p=.int .i64 (prodN vs u:Int)/\d=.bool (diffTo vs u)/\RBox wr w.heap.size k A n c v/\Below w.heap.size w wr) (fun _ _ _ i _=>n2-(intOf i).toNat)
 case atStart=>exact ⟨0,Nat.zero_le _,rfl,rfl,rfl,rfl,hx0,hb0⟩
 case round=>
  obtain ⟨u,hu,rfl,rfl,rfl,rfl,hx,hb⟩:=hrel;obtain ⟨hk0,hk1,hk2⟩:=id hx
  by_cases hlt:u<n2
  ·obtain ⟨b,off,rfl,hbB,hck⟩:=(h.below (hb.mono hB)).at_ hlt;obtain ⟨x0,x4⟩:=hv.out u hlt;obtain ⟨x,hxv⟩:=Int.eq_ofNat_of_zero_le x0;rw [hxv] at hck;have hs1:=sumN_le hv.out u hu;have hp1:=prodN_le hv.out u hu;have hp2:(4:Nat)^u<=4^3:=Nat.pow_le_pow_right (by omega) (by omega);have hS:=Lib.hid (show sumN vs (u+1)=sumN vs u+x by simp only [sumN,hxv,Int.toNat_natCast]);have hP:=Lib.hid (show prodN vs (u+1)=prodN vs u*x by simp only [prodN,hxv,Int.toNat_natCast]);have hm1:prodN vs u*x<=64*4:=Nat.mul_le_mul (by omega) (by omega)
   have e1:wrap64 ((prodN vs u:Int)*(x:Int))=((prodN vs u*x:Nat):Int):=by
    rw [<- Int.natCast_mul];exact IntWalk.wrap64_in _ ⟨by omega,by omega⟩
   clear hp1 hp2
   go_wp2
   go_loopw [7,9] (fun d i wr=>∃ q:Nat,q<=u/\i=.int .i64 q/\d=.bool (diffTo vs u&&newTo vs u q)/\RBox wr w.heap.size k A n c v/\Below w.heap.size w wr) (fun _ i _=>u-(intOf i).toNat)
   case atStart=>exact ⟨0,Nat.zero_le _,rfl,by simp [newTo],hx,hb⟩
   case round=>
    obtain ⟨q,hq,rfl,rfl,hx2,hb2⟩:=hrel;have hsz2:w.heap.size<wr.heap.size:=cell_lt hx2.1
    by_cases hlq:q<u
    ·obtain ⟨b',off',e2,_,hcu⟩:=(h.below (hb2.mono hB)).at_ hlt;cases e2;obtain ⟨b',off',e2,_,hcq⟩:=(h.below (hb2.mono hB)).at_ (show q<n2 by omega);cases e2;have hstep:newTo vs u (q+1)=(newTo vs u q&&(nth vs q != nth vs u)):=rfl;cases hd:(diffTo vs u&&newTo vs u q)
     ·have Hst:=Lib.hid (show (diffTo vs u&&newTo vs u (q+1))=false by rw [hstep,<-Bool.and_assoc,hd,Bool.false_and]);clear hstep
      go_wp2
      go_quiet (fail)
      go_wp2
      go_roundw
      case rel=>exact ⟨q+1,by omega,by go_num,by rw [Hst.out],hx2.below hsz2 (below_drewN (Below.refl _ _) _),below_drewN hb2 _⟩
      case measure=>simp [intOf];omega
     ·have Hst:=Lib.hid (show (diffTo vs u&&newTo vs u (q+1))=(nth vs q != (x:Int)) by rw [hstep,<-Bool.and_assoc,hd,Bool.true_and,hxv]);clear hstep
      go_wp2
      go_quiet (fail)
      go_wp2
      go_roundw
      case rel=>exact ⟨q+1,by omega,by go_num,by rw [Hst.out],hx2.below hsz2 (below_drewN (Below.refl _ _) _),below_drewN hb2 _⟩
      case measure=>simp [intOf];omega
    ·obtain rfl:q=u:=by omega
     have Hst:=Lib.hid (show diffTo vs (q+1)=(diffTo vs q&&newTo vs q q) from rfl)
     go_wp2
     go_roundw
     case rel=>exact ⟨q+1,by omega,by go_num,by rw [hS.out];rfl,by rw [hP.out];rfl,by rw [Hst.out],hx2,hb2⟩
     case measure=>simp [intOf];omega
  ·obtain rfl:u=n2:=by omega
   have hcase:k=1\/k=2\/k=3\/k=4\/((k==1)=false/\(k==2)=false/\(k==3)=false/\(k==4)=false):=(by simp only [beq_eq_false_iff_ne];omega)
   rcases hcase with rfl|rfl|rfl|rfl|⟨c1,c2,c3,c4⟩
   ·have HL:=Lib.hid (show holdsB 1 v vs=diffTo vs u by rw [<- hlen.out];rfl)
    go_wp2
    go_ret
    exact ⟨by rw [HL.out];rfl,hb⟩
   ·have HL:=Lib.hid (show holdsB 2 v vs=((sumN vs u:Int)==v) by rw [<- hlen.out];rfl)
    go_wp2
    go_ret
    exact ⟨by rw [HL.out];rfl,hb⟩
   ·have HL:=Lib.hid (show holdsB 3 v vs=((prodN vs u:Int)==v) by rw [<- hlen.out];rfl)
    go_wp2
    go_ret
    exact ⟨by rw [HL.out];rfl,hb⟩
   ·have HL:=Lib.hid (show holdsB 4 v vs=decide (nth vs 0<nth vs 1) from rfl);have hn2:2<=u:=(by omega);obtain ⟨b,off,rfl,hbB,hc0⟩:=(h.below (hb.mono hB)).at_ (show 0<u by omega);obtain ⟨b',off',e2,_,hc1⟩:=(h.below (hb.mono hB)).at_ (show 1<u by omega);cases e2;rw [Nat.add_zero] at hc0;have i0:0<u:=(by omega);have i1:1<u:=(by omega);have i2:(0:Int)<(u:Int):=(by omega);have i3:(1:Int)<(u:Int):=(by omega)
    go_wp2
    go_quiet (fail)
    go_wp2
    go_ret
    exact ⟨by rw [HL.out];rfl,below_drewN hb _⟩
   ·have HL:=Lib.hid (show holdsB k v vs=(gap vs==v) by
     unfold holdsB
     rw [if_neg (by simpa using c1),if_neg (by simpa using c2),if_neg (by simpa using c3),if_neg (by simpa using c4)])
    have hn2:2<=u:=(by simp only [beq_eq_false_iff_ne] at c1 c2 c3;omega);obtain ⟨b,off,rfl,hbB,hc0⟩:=(h.below (hb.mono hB)).at_ (show 0<u by omega);obtain ⟨b',off',e2,_,hc1⟩:=(h.below (hb.mono hB)).at_ (show 1<u by omega);cases e2;rw [Nat.add_zero] at hc0;have i0:0<u:=(by omega);have i1:1<u:=(by omega);have i2:(0:Int)<(u:Int):=(by omega);have i3:(1:Int)<(u:Int):=(by omega);obtain ⟨y0,y4⟩:=hv.out 0 (by omega);obtain ⟨z0,z4⟩:=hv.out 1 (by omega);have e3:IntKind.i64.wrap (nth vs 0-nth vs 1)=nth vs 0-nth vs 1:=IntWalk.i64_in _ (by omega)
    go_wp2
    go_quiet (fail)
    go_wp2
    ·go_ret
     exact ⟨by rw [HL.out,show gap vs= -(nth vs 0-nth vs 1) by unfold gap;omega];rfl,below_drewN hb _⟩
    ·go_ret
     exact ⟨by rw [HL.out,show gap vs=nth vs 0-nth vs 1 by unfold gap;omega];rfl,below_drewN hb _⟩
end Go.Proofs.YtkeoflnmbcdmfaaGreatDoor
