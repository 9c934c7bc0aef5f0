import Derived.Test.YtkeoflnmbcdmfaaGreatDoorClash
import Derived.Deep.QuietTactic
import Derived.BigQuiet
namespace Go.Proofs.YtkeoflnmbcdmfaaGreatDoor
open Go.ChangeShapes Go.WideShapes Go.ChangeAt Go.RowKit
def bitsTo (M:Nat):Nat->List Int
 |0=>[]
 |v+1=>bitsTo M v++(if M.testBit (v+1)=true then [(v:Int)+1] else [])
def mvOk (m:Int):Bool:=inr m 0 30&&(m.tmod 2==0)
def maskVals (m:Int):List Int:=if mvOk m=true then bitsTo m.toNat 4 else []
theorem bitsTo_length (M v:Nat):(bitsTo M v).length<=v:=by
 induction v with
 |zero=>simp [bitsTo]
 |succ v ih=>simp only [bitsTo,List.length_append];split<;>simp<;>omega
theorem maskVals_length (m:Int):(maskVals m).length<=4:=by
 unfold maskVals
 split
 ·exact bitsTo_length _ 4
 ·simp
theorem shr_bit (M v:Nat):((((M:Nat):Int)/2^v).tmod 2==1)=M.testBit v:=by
 rw [Nat.testBit_eq_decide_div_mod_eq]
 have e:(((M:Nat):Int)/2^v)=((M/2^v:Nat):Int):=by simp
 rw [e,Int.tmod_eq_emod_of_nonneg (Int.natCast_nonneg _)];rw [Bool.eq_iff_iff]
 simp
 omega
theorem specMaskValues (m:Int) (w:World) (hm: -9223372036854775808<=m/\m<=9223372036854775807):Calls Tryz.prog 129 #[.int .i64 m] w (RetSl w (maskVals m)):=by
 cases hok:mvOk m
 ·have HL:=Lib.hid (show maskVals m=[] by simp [maskVals,hok])
  have hor:inr m 0 30=false\/(m.tmod 2==0)=false:=by
   simp only [mvOk,Bool.and_eq_false_iff] at hok;exact hok
  go_enter Tryz.func129,Tryz.ntmps129
  go_wp2
  go_loopw [3,4] (fun v i wr=>i=.int .i64 1/\v=.slice (some ⟨w.heap.size,0,none⟩) 0 0/\wr=w.alloc (.cells #[] 3)) (fun _ _ _=>0)
  case atStart=>exact ⟨rfl,rfl,rfl⟩
  case round=>
   obtain ⟨rfl,rfl,rfl⟩:=hrel;cases hi:inr m 0 30
   ·go_wp2_with (go_at_call 62;refine (l1In_any _ _ _ _).mono ?_;rintro e w' ⟨rfl,rfl⟩)
    go_ret
    rw [HL.out];exact ⟨_,_,rfl,Ow.made0 _ _ (Nat.le_refl _),(Below.refl _ _).alloc (Nat.le_refl _) _⟩
   ·have hmod:(m.tmod 2==0)=false:=by
     rcases hor with h|h
     ·rw [hi] at h;cases h
     ·exact h
    obtain ⟨m0,m1⟩:=inr_t hi;have hmod2:(m%2==0)=false:=(by rw [<- Int.tmod_eq_emod_of_nonneg m0];exact hmod);clear hor
    go_wp2_with (go_at_call 62;refine (l1In_any _ _ _ _).mono ?_;rintro e w' ⟨rfl,rfl⟩)
    go_ret
    rw [HL.out];exact ⟨_,_,rfl,Ow.made0 _ _ (Nat.le_refl _),(Below.refl _ _).alloc (Nat.le_refl _) _⟩
 ·have hok':=hok;simp only [mvOk,Bool.and_eq_true] at hok';obtain ⟨hi,hmod⟩:=hok';obtain ⟨m0,m1⟩:=inr_t hi;obtain ⟨M,rfl⟩:=Int.eq_ofNat_of_zero_le m0;have HL:=Lib.hid (show maskVals M=bitsTo M 4 by simp [maskVals,hok])
  have hmod2:((M:Int)%2==0)=true:=by rw [<- Int.tmod_eq_emod_of_nonneg m0];exact hmod
  clear hmod hok
  go_enter Tryz.func129,Tryz.ntmps129
  go_wp2
  go_loopw [3,4] (fun v i wr=>∃ u:Nat,u<=4/\i=.int .i64 ((u:Int)+1)/\OwV wr w.heap.size v (bitsTo M u)/\Below w.heap.size w wr) (fun _ i _=>(5-intOf i).toNat)
  case atStart=>exact ⟨0,by omega,rfl,⟨_,_,rfl,Ow.made0 _ _ (Nat.le_refl _)⟩,(Below.refl _ _).alloc (Nat.le_refl _) _⟩
  case round=>
   obtain ⟨u,hu,rfl,⟨A',c',rfl,ho⟩,hb⟩:=hrel;have hmb:=bitsTo_length M u;have hkb:(bitsTo M u).length<=1099511627776:=(by omega)
   by_cases hlt:u<4
   ·have hstep:bitsTo M (u+1)=bitsTo M u++(if M.testBit (u+1)=true then [(u:Int)+1] else []):=rfl;have hsh:=shr_bit M (u+1);cases hh:M.testBit (u+1)
    ·rw [hh] at hstep hsh;have Hst:=Lib.hid (show bitsTo M (u+1)=bitsTo M u by rw [hstep];simp);clear hh hstep
     go_wp2_with (go_at_call 62;refine (l1In_any _ _ _ _).mono ?_;rintro e w' ⟨rfl,rfl⟩)
     go_roundw
     case rel=>exact ⟨u+1,by omega,by go_num,⟨A',c',by rw [Hst.out],by rw [Hst.out];exact ho⟩,hb⟩
     case measure=>simp [intOf];omega
    ·rw [hh] at hstep hsh;have Hst:=Lib.hid (show bitsTo M (u+1)=bitsTo M u++[(u:Int)+1] from hstep);clear hh hstep
     go_wp2_with (first
      |(go_at_call 62;refine (l1In_any _ _ _ _).mono ?_;rintro e w' ⟨rfl,rfl⟩)
      |(at_builtin;refine push_int rfl (.tmp 24) (.tmp 26) rfl w.heap.size A' _ c' (bitsTo M u) _ rfl rfl ho hkb hb.size ?_;intro A'' c'' w1 ho1 hg1))
     have ho2:OwV w1 w.heap.size (.slice A'' ((bitsTo M u).length+1) c'') (bitsTo M (u+1)):=by
      refine ⟨A'',c'',by rw [Hst.out,List.length_append];rfl,?_⟩;rw [Hst.out,List.length_append];exact ho1
     have hb2:=push_below hb ho (Nat.le_refl _) hb.size hg1;clear ho1 hg1
     go_roundw
     case rel=>exact ⟨u+1,by omega,by go_num,ho2,hb2⟩
     case measure=>simp [intOf];omega
   ·obtain rfl:u=4:=by omega
    go_wp2_with (go_at_call 62;refine (l1In_any _ _ _ _).mono ?_;rintro e w' ⟨rfl,rfl⟩)
    go_ret
    rw [HL.out];exact retSl_mk ho hb
theorem and7 (a:Int) (ha: -9223372036854775808<=a/\a<=9223372036854775807):∃ n:Nat,bits .and .i64 a 7=(n:Int)/\n<=7/\(0<=a->a<=7->(n:Int)=a):=by
 have h7:(BitVec.ofInt 64 7).toNat=7:=by decide
 have hx:((BitVec.ofInt 64 a).toNat&&&7)<=7:=Nat.and_le_right
 have e:bits .and .i64 a 7=(((BitVec.ofInt 64 a).toNat&&&7:Nat):Int):=by
  show IntKind.i64.wrap ((BitVec.ofInt 64 a&&&BitVec.ofInt 64 7).toNat:Int)=_
  rw [BitVec.toNat_and,h7,IntKind.wrap_i64];omega
 refine ⟨_,e,hx,fun h0 h1=>?_⟩;obtain ⟨k,rfl⟩:=Int.eq_ofNat_of_zero_le h0;rw [ofInt_i64 k (by omega)]
 have key:∀ k,k<8->k&&&7=k:=by decide
 rw [key k (by omega)]
def mkOk (T:Int) (x:Int):Bool:=inr x 0 T&&(x.tmod 2==0)
def mvd (xs:List Int) (size:Int):Bool:=inr size 2 4&&((xs.length:Int)==size*size)&&xs.all (mkOk (2^(size.toNat+1)-2))
def allTo (p:Int->Bool) (xs:List Int) (k:Nat):Prop:=∀ j,j<k->p (nth xs j)=true
theorem allTo_succ {p:Int->Bool} {xs:List Int} {k:Nat} (h:allTo p xs k) (hv:p (nth xs k)=true):allTo p xs (k+1):=fun j hj=>by
 by_cases e:j=k
 ·subst e;exact hv
 ·exact h j (by omega)
theorem allTo_all {p:Int->Bool} {xs:List Int} {n:Nat} (h:allTo p xs n) (hn:xs.length=n):xs.all p=true:=by
 subst hn;rw [List.all_eq_true];intro x hx;obtain ⟨j,hj,rfl⟩:=List.getElem_of_mem hx;have:=h j hj
 simpa [nth,List.getD_eq_getElem?_getD,hj] using this
theorem all_not {p:Int->Bool} {xs:List Int} {n k:Nat} (hn:xs.length=n) (hk:k<n) (h:p (nth xs k)=false):xs.all p=false:=by
 subst hn;rw [List.all_eq_false];exact ⟨xs[k],List.getElem_mem hk,by simpa [nth,List.getD_eq_getElem?_getD,hk] using h⟩
theorem two_pow_int (a:Nat) (h:a<=7):wrap64 (wrap64 (2^(a+1))-2)=(2:Int)^(a+1)-2/\0<=(2:Int)^(a+1)-2/\(2:Int)^(a+1)-2<=254:=by
 have:a=0\/a=1\/a=2\/a=3\/a=4\/a=5\/a=6\/a=7:=by omega
 have hb:0<=(2:Int)^(a+1)-2/\(2:Int)^(a+1)-2<=254:=by
  rcases this with rfl|rfl|rfl|rfl|rfl|rfl|rfl|rfl<;>decide
 refine ⟨?_,hb⟩;rw [IntWalk.wrap64_in (2^(a+1)) ⟨by omega,by omega⟩];exact IntWalk.wrap64_in _ ⟨by omega,by omega⟩
theorem l1In_q (n lo hi:Int) (w:World):Calls Tryz.prog 62 #[.int .i64 n,.int .i64 lo,.int .i64 hi] w fun e w'=>e=.returned (.bool (inr n lo hi))/\w'=w:=
 (l1In_any n lo hi w).mono fun _ _ h=>⟨h.1,h.2.symm⟩
theorem specMasksValid (A:Option Addr) (c n B:Nat) (xs:List Int) (size:Int) (w:World) (h:Rd w B A n xs) (hB:B<=w.heap.size) (hm:n<=1099511627776) (hs: -9223372036854775808<=size/\size<=9223372036854775807):
 Calls Tryz.prog 127 #[.slice A n c,.int .i64 size] w fun e w'=>e=.returned (.bool (mvd xs size))/\Below w.heap.size w w':=by
 obtain ⟨a,ha,a7,has⟩:=and7 size hs;obtain ⟨e1,t0,t1⟩:=two_pow_int a a7;have hlen:=Lib.hid h.1;have Has:=Lib.hid has;clear has
 have hpw:(2:Int)^(a+1)<=256:=by omega
 have hpw0:(2:Int)<=(2:Int)^(a+1):=by omega
 go_enter Tryz.func127,Tryz.ntmps127
 go_wp2
 go_loopw [5] (fun i wr=>∃ k:Nat,k<=n/\i=.int .i64 k/\Hid (allTo (mkOk (2^(a+1)-2)) xs k)/\Below w.heap.size w wr) (fun i _=>n-(intOf i).toNat)
 case atStart=>exact ⟨0,Nat.zero_le _,rfl,Lib.hid (fun j hj=>absurd hj (by omega)),Below.refl _ _⟩
 case round=>
  obtain ⟨k,hk,rfl,hall,hb⟩:=hrel
  by_cases hlt:k<n
  ·obtain ⟨b,off,rfl,hbB,hck⟩:=(h.below (hb.mono hB)).at_ hlt;have hltI:(k:Int)<(n:Int):=(by omega);have w1:IntKind.i64.wrap ((a:Int)+1)=(a:Int)+1:=IntWalk.i64_in _ (by omega);have w2:((a:Int)+1).toNat=a+1:=(by omega);have w5:IntKind.i64.wrap (2^(a+1))=(2:Int)^(a+1):=IntWalk.i64_in _ (by omega);have w3:IntKind.i64.wrap ((2:Int)^(a+1)-2)=(2:Int)^(a+1)-2:=IntWalk.i64_in _ (by omega);have w4:(0:Int)<=(a:Int)+1:=(by omega)
   have hbad:mkOk (2^(a+1)-2) (nth xs k)=false->mvd xs size=false:=fun hf=>by
    unfold mvd;cases hi:inr size 2 4
    ·rfl
    ·obtain ⟨s2,s4⟩:=inr_t hi;have:size.toNat=a:=(by have:=Has.out (by omega) (by omega);omega);rw [this,all_not hlen.out hlt hf,Bool.and_false]
   have Hbad:=Lib.hid hbad;clear hbad;cases hi:inr (nth xs k) 0 (2^(a+1)-2)
   ·have Hf:=Lib.hid (Hbad.out (by simp [mkOk,hi]))
    go_wp2
    go_quiet ((go_at_call 62;exact Calls.quiet_of_same (l1In_q _ _ _ _)))
    go_wp2
    go_ret
    exact ⟨by rw [Hf.out];rfl,below_drewN hb _⟩
   ·obtain ⟨x0,x1⟩:=inr_t hi;have e2:(nth xs k).tmod 2=nth xs k%2:=Int.tmod_eq_emod_of_nonneg x0;cases hmod:(nth xs k%2==0)
    ·have Hf:=Lib.hid (Hbad.out (by simp only [mkOk,hi,e2,hmod];rfl));have hmod':(nth xs k%2 != 0)=true:=(by simp [bne,hmod])
     go_wp2
     go_quiet ((go_at_call 62;exact Calls.quiet_of_same (l1In_q _ _ _ _)))
     go_wp2
     go_ret
     exact ⟨by rw [Hf.out];rfl,below_drewN hb _⟩
    ·have hn2:=Lib.hid (allTo_succ hall.out (by simp only [mkOk,hi,e2,hmod];rfl));have hmod':(nth xs k%2 != 0)=false:=(by simp [bne,hmod]);clear e2 hmod
     go_wp2
     go_quiet ((go_at_call 62;exact Calls.quiet_of_same (l1In_q _ _ _ _)))
     go_wp2
     go_roundw
     case rel=>exact ⟨k+1,by omega,by go_num,hn2,below_drewN hb _⟩
     case measure=>simp [intOf];omega
  ·obtain rfl:k=n:=by omega
   have hall2:=Lib.hid (allTo_all hall.out hlen.out);cases hi:inr size 2 4
   ·have Hf:=Lib.hid (show mvd xs size=false by simp [mvd,hi])
    go_wp2_with (go_at_call 62;refine (l1In_any _ _ _ _).mono ?_;rintro e w' ⟨rfl,rfl⟩)
    go_ret
    exact ⟨by rw [Hf.out];rfl,hb⟩
   ·obtain ⟨h2,h4⟩:=inr_t hi;have hw:=sq_wrap h2 h4
    have Hf:=Lib.hid (show mvd xs size=((k:Int)==size*size) by
     have:size.toNat=a:=(by have:=Has.out (by omega) (by omega);omega);simp only [mvd,hi,this,hall2.out,hlen.out]
     simp)
    go_wp2_with (go_at_call 62;refine (l1In_any _ _ _ _).mono ?_;rintro e w' ⟨rfl,rfl⟩)
    go_ret
    exact ⟨by rw [Hf.out];rfl,hb⟩
end Go.Proofs.YtkeoflnmbcdmfaaGreatDoor
