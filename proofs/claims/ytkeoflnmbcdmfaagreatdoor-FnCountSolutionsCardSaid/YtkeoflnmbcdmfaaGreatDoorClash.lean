import Derived.Test.YtkeoflnmbcdmfaaGreatDoorSq
import Derived.Test.YtkeoflnmbcdmfaaGreatDoorC1L
import Derived.Test.YtkeoflnmbcdmfaaGreatDoorDraw
namespace Go.Proofs.YtkeoflnmbcdmfaaGreatDoor
open Go.ChangeShapes Go.WideShapes Go.ChangeAt Go.RowKit
def okAll (xs:List Int) (size:Int) (n:Nat):Prop:=∀ k,k<n->0<=nth xs k/\nth xs k<=size
theorem line_ix {size line:Int} {n k:Nat} (h2:2<=size) (h4:size<=4) (hn:(n:Int)=size*size) (l0:0<=line) (l1:line<2*size) (hk:(k:Int)<size):
 0<=lineAt size line k/\lineAt size line k<n:=by
 unfold lineAt
 have:size=2\/size=3\/size=4:=by omega
 rcases this with rfl|rfl|rfl<;>split<;>omega
theorem lineL_ok {size:Int} {l:Nat} (h2:2<=size) (h4:size<=4) (hl:(l:Int)<2*size):lineL size l=lineTo size l size.toNat:=by
 have h1:inr size 2 4=true:=by simp [inr,h2,h4]
 have h3:inr (l:Int) 0 (2*size-1)=true:=by simp [inr];omega
 simp [lineL,lineOk,h1,h3]
theorem shr_test (f:Nat->Int) (k:Nat) (v:Int) (hf:∀ i,i<k->0<=f i) (h0:0<=v):((((seenN f k:Nat):Int)/2^v.toNat).tmod 2==1)=hasTo f k v:=by
 obtain ⟨u,rfl⟩:=Int.eq_ofNat_of_zero_le h0;rw [<- seenN_test f k u hf,Nat.testBit_eq_decide_div_mod_eq,Int.toNat_natCast]
 have e:(((seenN f k:Nat):Int)/2^u)=((seenN f k/2^u:Nat):Int):=by simp
 rw [e,Int.tmod_eq_emod_of_nonneg (Int.natCast_nonneg _)];rw [Bool.eq_iff_iff]
 simp
 omega
theorem i64_or_nat (a b:Nat) (ha:a<9223372036854775808) (hb:b<9223372036854775808):bits .or .i64 (a:Int) (b:Int)=((a|||b:Nat):Int):=by
 have hx:a|||b<2^63:=Nat.or_lt_two_pow (by omega) (by omega)
 show IntKind.i64.wrap ((BitVec.ofInt 64 (a:Int)|||BitVec.ofInt 64 (b:Int)).toNat:Int)=_
 rw [BitVec.toNat_or,ofInt_i64 a ha,ofInt_i64 b hb,IntKind.wrap_i64];omega
theorem or_step (f:Nat->Int) (k:Nat) (v:Int) (hv:f k=v) (h0:0<=v) (h4:v<=4) (hs:seenN f k<32):bits .or .i64 ((seenN f k:Nat):Int) (wrap64 (2^v.toNat))=((seenN f (k+1):Nat):Int):=by
 have e:(2:Int)^v.toNat=((1<<<v.toNat:Nat):Int):=by rw [Nat.one_shiftLeft];simp
 have hlt:1<<<v.toNat<2^5:=by rw [Nat.one_shiftLeft];exact Nat.pow_lt_pow_right (by omega) (by omega)
 rw [seenN,hv,e]
 generalize 1<<<v.toNat=N at*
 rw [IntWalk.wrap64_in _ ⟨by omega,by omega⟩,i64_or_nat _ _ (by omega) (by omega)]
theorem dup_mono (f:Nat->Int) {k n:Nat} (h:dupTo f k=true) (hk:k<=n):dupTo f n=true:=by
 induction n with
 |zero=>
  have:k=0:=by omega
  subst this;exact h
 |succ n ih=>
  by_cases e:k=n+1
  ·subst e;exact h
  ·rw [dupTo,ih (by omega)];rfl
theorem clashTo_mono (xs:List Int) (size:Int) {k n:Nat} (h:clashTo xs size k=true) (hk:k<=n):clashTo xs size n=true:=by
 induction n with
 |zero=>
  have:k=0:=by omega
  subst this;exact h
 |succ n ih=>
  by_cases e:k=n+1
  ·subst e;exact h
  ·rw [clashTo,ih (by omega)];rfl
theorem clash_at {xs:List Int} {size:Int} {l:Nat} (hl:(l:Int)<2*size) (hd:dupTo (lineV xs size l) size.toNat=true):clash xs size=true:=
 clashTo_mono xs size (k:=l+1) (by rw [clashTo,hd,Bool.or_true]) (by omega)
theorem specClash (A:Option Addr) (c n B:Nat) (xs:List Int) (size:Int) (w:World) (h:Rd w B A n xs) (hB:B<=w.heap.size) (h2:2<=size) (h4:size<=4) (hn:Hid ((n:Int)=size*size)) (hok:Hid (okAll xs size n)):
 Calls Tryz.prog 178 #[.slice A n c,.int .i64 size] w fun e w'=>e=.returned (.bool (clash xs size))/\Below w.heap.size w w':=by
 go_enter Tryz.func178,Tryz.ntmps178
 go_wp2
 go_loopw [5] (fun i wr=>∃ l:Nat,(l:Int)<=2*size/\i=.int .i64 l/\clashTo xs size l=false/\Below w.heap.size w wr) (fun i _=>(2*size-intOf i).toNat)
 case atStart=>exact ⟨0,by omega,rfl,rfl,Below.refl _ _⟩
 case round=>
  obtain ⟨l,hl,rfl,hcl,hb⟩:=hrel;have Hcl:=Lib.hid hcl;clear hcl
  by_cases hlt:(l:Int)<2*size
  ·have hL:=Lib.hid (lineL_ok h2 h4 hlt);have hlenL:(lineL size l).length=size.toNat:=(by rw [hL.out,lineTo_length]);have HlenL:=Lib.hid hlenL;clear hlenL
   go_wp2_with fail
   refine (specLineCells _ _ _ (by omega)).mono ?_;rintro e w1 ⟨A1,c1,rfl,ho1,hb1⟩;have hr1:=ho1.rd;have hbb:=step hb hb1
   go_wp2
   obtain ⟨wo,rfl⟩:∃ wo:World,wo=w1:=⟨_,rfl⟩
   go_loop [7,8] (fun s i=>∃ k:Nat,k<=(lineL size l).length/\i=.int .i64 k/\s=.int .i64 (seenN (lineV xs size l) k)/\dupTo (lineV xs size l) k=false) (fun _ i=>(lineL size l).length-(intOf i).toNat)
   case atStart=>exact ⟨0,by omega,rfl,rfl,rfl⟩
   case round=>
    obtain ⟨k,hk,rfl,rfl,hd⟩:=hrel;have Hd:=Lib.hid hd;clear hd
    by_cases hkl:k<(lineL size l).length
    ·have hks:(k:Int)<size:=(by have:=HlenL.out;omega);obtain ⟨g1,o1,rfl,hg1,hk1⟩:=hr1.at_ hkl;have hval:nth (lineL size l) k=lineAt size l k:=(by rw [hL.out,lineTo_nth (by omega)]);rw [hval] at hk1;obtain ⟨x0,x1⟩:=line_ix h2 h4 hn.out (by omega:(0:Int)<=(l:Int)) hlt hks;obtain ⟨q,hq⟩:=Int.eq_ofNat_of_zero_le x0;have hqn:q<n:=(by omega);obtain ⟨g0,o0,rfl,hg0,hk0⟩:=(h.below (hbb.mono hB)).at_ hqn;obtain ⟨v0,v1⟩:=hok.out q hqn;have hv:lineV xs size l k=nth xs q:=(by unfold lineV;rw [hq];rfl);rw [hq] at hk1
     have hf:∀ i,i<(lineL size l).length->0<=lineV xs size l i/\lineV xs size l i<=4:=by
      intro i hi;have his:(i:Int)<size:=(by have:=HlenL.out;omega);obtain ⟨y0,y1⟩:=line_ix h2 h4 hn.out (by omega:(0:Int)<=(l:Int)) hlt his;have:=hok.out (lineAt size l i).toNat (by omega);unfold lineV;omega
     have Hf:=Lib.hid hf;clear hf;have hsl:=seenN_lt (lineV xs size l) k (fun i hi=>Hf.out i (by omega));have ht:=shr_test (lineV xs size l) k (nth xs q) (fun i hi=>(Hf.out i (by omega)).1) v0;clear hq hval;have hor:=Lib.hid (or_step (lineV xs size l) k (nth xs q) hv v0 (by omega) hsl)
     by_cases hp:0<nth xs q
     ·cases hh:hasTo (lineV xs size l) k (nth xs q)
      ·rw [hh] at ht;have hdn:=Lib.hid (show dupTo (lineV xs size l) (k+1)=false by simp [dupTo,Hd.out,hv,hh]);clear hh hv
       go_wp2
       go_round
       case rel=>exact ⟨k+1,by omega,by go_num,by rw [hor.out],hdn.out⟩
       case measure=>simp [intOf];omega
      ·rw [hh] at ht;have hdn:=dup_mono (lineV xs size l) (show dupTo (lineV xs size l) (k+1)=true by simp [dupTo,hv,hh,hp]) (n:=size.toNat) (by omega);have hcc:=Lib.hid (clash_at hlt hdn);clear hh hv hdn
       go_wp2
       go_ret
       exact ⟨by rw [hcc.out];rfl,hbb⟩
     ·have hdn:=Lib.hid (show dupTo (lineV xs size l) (k+1)=false by simp [dupTo,Hd.out,hv];omega);clear ht hv
      go_wp2
      go_round
      case rel=>exact ⟨k+1,by omega,by go_num,by rw [hor.out],hdn.out⟩
      case measure=>simp [intOf];omega
    ·have hke:k=size.toNat:=(by have:=HlenL.out;omega);have hcn:=Lib.hid (show clashTo xs size (l+1)=false by rw [clashTo,Hcl.out,<-hke,Hd.out];rfl);clear hke
     go_wp2
     go_roundw
     case rel=>exact ⟨l+1,by omega,by go_num,hcn.out,hbb⟩
     case measure=>simp [intOf];omega
  ·have he:clash xs size=false:=by
    have:(2*size).toNat=l:=(by omega);rw [clash,this];exact Hcl.out
   have He:=Lib.hid he;clear he
   go_wp2
   go_ret
   exact ⟨by rw [He.out];rfl,hb⟩
end Go.Proofs.YtkeoflnmbcdmfaaGreatDoor
